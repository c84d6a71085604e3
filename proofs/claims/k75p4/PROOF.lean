import PyProof.Rows.All
import Wide.All
import OpenK.AllK
import Wide.FinOn
import Lean
import PyProof.EqAt
import PyProof.EqKinds
import PyProof.TupleCall
import PyProof.NeKinds
import PyProof.ListMulRoad
import PyProof.WalkInts
import PyProof.ListRange
import KE.KRevIter
import KE.KSortTup
import KE.KDictSum
import PyProof.Rows.SortWalk
import PyProof.ExcInit
import PyProof.InstStoreFacts
import OpenK.KMake
import OpenK.KCls
import PyProof.FString2
import PyProof.TupleOfSeq
import KE.KUnpack
import KE.KMinKey
import PySem.Challenge.RW_purseweb_k75_whole_as_many_as_trees
open Option renaming none → aA,bind_some → aZ,isSome_iff_exists → cK,map_some → cS,isSome_map → iO,map_eq_some_iff → jN,getD_none → lC,bind → lW,none → mU,some → ax
open Bool renaming false → aB,true → aC,and_eq_true → ao,false_ne_true → bN,and_eq_true_iff → cF,false_eq_true → eV,or_eq_true → j8,not_eq_true' → kq,eq_false_iff → ku,false_or → mK
open List renaming range → aD,getD_eq_getElem?_getD → aG,getElem?_eq_getElem → aH,length_map → aK,mem_singleton → aN,getElem?_eq_some_iff → aO,mem_cons_of_mem → aQ,size_toArray → aS,replicate → aT,getElem?_map → aW,mem_range → aY,mem_cons → aa,map_cons → af,mem_cons_self → ag,getElem?_append_left → ah,length_append → aj,mem_append → ak,mem_append_right → aq,map_congr_left → ar,all_eq_true → au,nodup_cons → av,getElem?_append_right → bA,mem_append_left → bC,mem_of_getElem? → bK,length_cons → bM,map_append → bP,getElem?_set → bQ,mem_map → bR,length_take → bT,getElem?_replicate → bU,length_drop → bX,lookup_cons → bY,sum_cons → bZ,take_of_length_le → b9,map_map → bh,length_eq_zero_iff → bj,getElem?_range → br,nodup_nil → bu,length_range → bw,not_mem_nil → cC,getElem_mem → cD,length_set → cH,zip_cons_cons → cQ,length_singleton → cY,getElem?_eq_none → cZ,find?_cons → cf,nodup_append → dB,replicate_succ → dD,getElem_of_mem → dE,append_nil → dG,mem_of_find?_eq_some → dJ,length_replicate → dO,mem_filter → dW,mem_flatMap → dZ,getElem?_take_of_lt → eD,map_nil → eR,getElem?_drop → eU,toArray → eY,find?_eq_none → eZ,sum_append → e9,range_succ → ee,flatten_cons → fC,append_assoc → fD,ext_getElem → fK,length_pos_iff → fR,length_flatMap → fT,set_eq_of_length_le → fW,of_mem_zip → fX,mem_filterMap → fZ,drop_eq_nil_of_le → gF,ext_getElem? → gG,sum_nil → gH,getElem_inj → gK,any_eq_true → gM,all_cons → gU,mem_iff_getElem → gX,mem_of_mem_take → gY,take_append_of_le_length → g0,count_cons → gg,find?_some → gh,filterMap_cons → gk,pairwise_cons → iA,getElem?_zip_eq_some → iH,pairwise_iff_getElem → iJ,exists_mem_of_ne_nil → iM,length → iN,length_erase_of_mem → i5,pairwise_mergeSort → iu,getElem?_set_self → jF,range_succ_eq_map → jQ,all_map → jR,map_set → jU,filter_eq_nil_iff → jV,nil_append → jZ,length_nil → j3,getElem?_set_ne → jf,mem_of_mem_drop → jr,mem_erase_of_ne → ju,mergeSort_perm → kE,filter_eq_self → kF,any_cons → kJ,map_drop → kK,foldl → kT,ne_nil_of_mem → k4,take_sublist → ka,flatMap_cons → ko,take_length → lG,getElem_map → lI,cons_append → lJ,map_flatMap → lK,filter → lV,take_zero → mE,drop_zero → mI,take_nil → mM,drop_nil → mN,map_take → mO
open PySem renaming wpAny_bind → aE,Value → aI,Addr → aL,Shared → aM,starEach → aR,wpAny_pure → aU,wpAny → aw,Str → ay,Program → bB,Expr → bH,Heap → bW,World → b8,Around → ba,Stmt → bp,foldedSetIterable → bt,wpAny_mono → cB,mainGlobals → cE,behindInMarks → cJ,wpAny_callSpecial?_slot → cP,wpAny_call_entry → cT,mem_of_lookup → cU,wpAny_field → cW,wpAny_newObj_type → cX,bootBuiltins → c9,sizeLine_eq → cj,Obj → dI,binaryOp → dN,wpAny_typeNameOfWhole_keyiter → dQ,wpAny_truthy_bool → dS,sysModules → dU,backTo → dX,compareOp → dY,cLine → dc,wpAny_Call_Name_kw → df,wpAny_seqItems → dh,wpAny_setField_rec → di,wpAny_passesOwn → dm,Pos → dz,wpAny_holding → eB,wpAny_typeNameOf_keyiter → eG,FuncData → eJ,NameKind → eK,Scope → e7,rawInt → fA,call_meets → fF,IsPair → fG,wpAny_ite_false → fY,tupleKind_room_in1 → fg,swapsWith → fu,sliceBounds → gC,wpAny_updateSeq_pair → gW,wpAny_execs_nil → g7,wpAny_loadPart' → g8,codeAny_mono → gm,Builtin → gn,codeAmong → gv,DictEntry → gx,assignEach → gz,bindArgs → hU,wpAny_setField → hW,wpAny_binaryOp_repeat_ref → iD,wpAny_dictEntries → iP,wpAny_comprehension_free → iU,wpAny_onRaise → iV,wpAny_attempt → iW,wpAny_newList → iY,noFill_tuple_add → ik,builtinsNs → jD,codeAny → jG,concat_meets → jI,getItem → jJ,typeIs_int → jM,closureFor → jO,letOwnedTupleGo → jY,IsZip → j4,wpAny_dictEpoch → j5,wpAny_isTrue_Compare1 → ja,wpAny_isOneOf_keyiter → jd,wpAny_loadName_local → jg,pyNext → jh,compEnvC → jk,wpAny_newFunctionEnv → jm,firstArgMember → jo,tupleKind → jy,PassesOwn → jz,Arguments → kA,notedBy → kB,wpAny_loadName_cell → kC,wpAny_standAt → kG,seq_tuple_add → kH,Env → kM,isTrue → kO,wpAny_pyIter_tuple → kP,IsPart → kS,BindsTo → k9,seqIndex_neg → kb,valueAt → kd,callerA → kn,keywordEach → lM,seqIndex_of → lO,wpAny_letGo → lT,standAt → lZ,Keyword → l3,wpAny_Name → l8,CmpOp → l9,Operator → la,wpAny_call → lu,bindL → ly,bindC → lz,atKey → mC,wpAny_rule → mD,defaultsOf → mG,Within → mQ,pyIter → mS
open PySem.W renaming Frag → aF,kia_one → cR,codeIn → cq,kitOne → cu,fnOf → cw,kla_fn → fH,tabObj → fI,keepIn → gD,tabIn → gV,nsIn → gp,cellsFrom_some → jH,envX → jS,mem_of_lookupK → jT,instObj → jX,CodeHd → je,lookIn → ji,callWith_K → kR,kitx_list → k6,kitx_dict → k7,plainGet → ky,kas_place → lH,findIn → ll,noTabs → mH,mg_of → mL
open PySem.Heap renaming get?_push_of_some → aJ,lt_size → aV,get?_push_size → a9,SameBut → cO,size_push → cz,get?_update_self → gJ,size_update → jB,get?_update_other → jL,ExtBut → jn,get?_push_ne → kj
open Nat renaming le_refl → aX,lt_of_lt_of_le → az,ne_of_lt → bG,le_trans → bg,le_of_lt → bz,lt_irrefl → cI,lt_succ_of_lt → dA,zero_le → dH,min_eq_left → dq,lt_succ_self → eM,le_add_right → eO,lt_of_le_of_lt → eT,ne_of_gt → fJ,mod_eq_of_lt → fL,mul_le_mul_right → g6,mul_le_mul → iB,lt_succ_iff_lt_or_eq → ij,min_eq_right → ip,mod_lt → jW,zero_lt_one → j9,le_succ → jq,add_left_cancel → kD,mod_eq_sub_mod → k5,mul_comm → kc,lt_trans → ke,le_succ_of_le → kg
open Option.some renaming inj → bJ
open Ne renaming symm → bO
open True renaming intro → bS
open PySem.F renaming plainAttrs_list → bV,slot_list_append → cM,type_list_append → cN,args_tuple_add_2 → fU,entry_tuple_add → gA,slot_tuple_add → gE,slot_list_insert → i6,type_list_insert → i7,slot_list_extend → i8,type_list_extend → i9
open PySem.Value renaming ref → b7,none → dP,int → gu,type → l4,isStrOf → mJ
open Int renaming toNat_natCast → bc,mul_comm → cG,mul_assoc → cL,neg_mul → ck,le_refl → dR,fdiv_eq_ediv_of_nonneg → da,mul_nonneg → dj,mul_zero → du,zero_mul → dw,mul_le_mul_of_nonneg_left → eQ,mul_left_comm → fE,toNat_of_nonneg → fQ,mul_le_mul_of_nonneg_right → gO,mul_add → gZ,add_zero → gs,eq_of_mul_eq_mul_left → iK,add_mul → iQ,mul_sub → iR,one_mul → iS,mul_fdiv_cancel_left → ie,lt_mul_ediv_self_add → ig,natAbs_mul → jw,mul_ediv_self_le → jx,ofNat_inj → kL,lt_or_gt_of_ne → kY,emod_lt_of_pos → kZ,sub_zero → kl,lt_trichotomy → km,emod_nonneg → lX,toNat → mP,fdiv → mX
open PySem.NameKind renaming free → bq,cell → el
open PyProof.Rows renaming callWith_type1 → bx,seqObj → dC,slot_tuple_getitem → eI,envOfC → gL,IntsAre → gS,listUpdate_at → iZ,AllBare → jE,subscriptTail_builtinR → jK,listItems_at → kh,seqEpoch_at → lU,IsTup → l6,boot_range → lg,Subscript_ → mB,size_push' → mF
open Array renaming length_toList → cA,toList_append → fM,getElem?_eq_getElem → iG,getElem?_eq_none → jC,toArray_toList → js,getElem_toList → jv,toList_inj → kz,toList → mR
open PySem.Obj renaming mapSeq → cV,data_mapFields → fj,isFreed_of_fields → jb,cls_mapFields → kf
open False renaming elim → cg
open Classical renaming byContradiction → dM
open PySem.Builtin.Slice renaming slicePlaces → dk,sliceAdjust → iC
open PySem.PassesOwn renaming never → dt
open ForInStep renaming yield → e8
open PySem.Heap.SameBut renaming update → fO
open PySem.Builtin.Int renaming intBits → fS
open PySem.Builtin.List renaming listTooLong → fV
open Sum renaming inl → gR,inr → lY
open PySem.Builtin.Dict_items renaming ownsTuple → g9
open PySem.Challenge renaming pw_purseweb_k75_whole_as_many_as_trees → gi,rw_purseweb_k75_whole_as_many_as_trees → gj
open PySem.Calls renaming Name_function_global → gy,call_function_entry → iI,spliced_cons → kQ,spliced_nil → k8
open PySem.Builtin.SmallTypes renaming nextOf → iE
open Or renaming inl → iT,inr → kU
open List.Perm renaming eq_of_pairwise → iX
open PySem.W.WData renaming weightAll → jA,int → lE
open PySem.SeqAt renaming EqAt → jP
open List.cons renaming injEq → j6
open PySem.SeqAt.EqAt renaming same → j7,int_int → kW,of_refs → kX
open PySem.Builtin.Dict renaming showsAll → jc
open PySem.Around renaming frames_deeper → jj
open PyProof.Rows.IsTup renaming new → lA
open PySem.Builtin renaming bitAnd → lj
open PySem.IsRange renaming new → mT
open PySem.Shared renaming heap → mV
open PySem.W.KasT renaming ret → mY
theorem m7.{u}{c:Prop}{h:Decidable c}(b:c){a:Sort u}{t e:a}:ite c t e=t:=if_pos b
theorem m9.{u}{c:Prop}{h:Decidable c}(b:Not c){a:Sort u}{t e:a}:ite c t e=e:=if_neg b
noncomputable section
set_option Elab.async false
set_option linter.all false
set_option maxRecDepth 100000
namespace L2
open PySem PySem.Spec PyProof.Rows
abbrev Yp:=Sum Int ay
noncomputable def Na:Yp->aI->Bool
 | .inl k,v=>aI.isInt k v
 | .inr x,v=>mJ x v
noncomputable def Zh0(w:b8):Yp->Int
 | .inl k=>hashInt k
 | .inr x=>hashStr w x
theorem Yc:∀{k:Yp}{v:aI},Na k v=aC->(∃i t,k=gR i/\v=gu i t)\/(∃x t,k=lY x/\v=aI.str x t)
 | .inl i,v,h=>by obtain⟨t,e⟩:=aI.isInt_shape h;exact .inl ⟨i,t,rfl,e⟩
 | .inr x,v,h=>by obtain⟨t,e⟩:=aI.isStrOf_shape h;exact .inr ⟨x,t,rfl,e⟩
theorem GQ(i:Int)(t:Tok):Na (.inl i) (.int i t)=aC:=by simp[Na,aI.isInt]
theorem GR(x:ay)(t:Tok):Na (.inr x) (.str x t)=aC:=by simp[Na,mJ]
theorem Zb1(a b:Int):decide ((gR a:Yp)=gR b)=(a==b):=by grind
theorem Zb2(a b:ay):decide ((lY a:Yp)=lY b)=decide (a=b):=by simp
theorem Zb3(a:Int)(b:ay):decide ((gR a:Yp)=lY b)=aB:=decide_eq_false (λq=>nomatch q)
theorem Zb4(a:ay)(b:Int):decide ((lY a:Yp)=gR b)=aB:=decide_eq_false (λq=>nomatch q)
noncomputable def Yr(prog:bB)(w:b8):PySem.KeyKind prog w Yp where
 is:=Na
 hash:=Zh0 w
 inj:=λv a b ha hb=>by
  rcases Yc ha with⟨i,t,rfl,rfl⟩ | ⟨x,t,rfl,rfl⟩
  ·rcases Yc hb with⟨j,u,rfl,e⟩ | ⟨y,u,rfl,e⟩
   ·injection e with e1 _;rw[e1]
   ·exact nomatch e
  ·rcases Yc hb with⟨j,u,rfl,e⟩ | ⟨y,u,rfl,e⟩
   ·exact nomatch e
   ·injection e with e1 _;rw[e1]
 byValue:=λk v h=>by rcases Yc h with⟨i,t,rfl,rfl⟩ | ⟨x,t,rfl,rfl⟩<;>rfl
 pyHash:=λhv h=>by
  rcases Yc hv with⟨i,t,rfl,rfl⟩ | ⟨x,t,rfl,rfl⟩
  ·exact wpAny_pyHash_int h
  ·exact wpAny_pyHash_str h
 eqBool:=λhu hv h=>by
  rcases Yc hu with⟨i,t,rfl,rfl⟩ | ⟨x,t,rfl,rfl⟩
  ·rcases Yc hv with⟨j,u,rfl,rfl⟩ | ⟨y,u,rfl,rfl⟩
   ·rw[Zb1] at h;exact wpAny_eqBool_int h
   ·rw[Zb3] at h;exact jP.int_str i t y u _ _ _ _ h
  ·rcases Yc hv with⟨j,u,rfl,rfl⟩ | ⟨y,u,rfl,rfl⟩
   ·rw[Zb4] at h;exact jP.str_int x t j u _ _ _ _ h
   ·rw[Zb2] at h;exact wpAny_eqBool_str h
 «strs»:=λk x t v h=>by
  rcases Yc h with⟨i,u,rfl,e⟩ | ⟨y,u,rfl,e⟩
  ·exact nomatch e
  ·injection e with e1 _;subst e1;cases v<;>rfl
theorem LM(prog:bB)(w:b8)(i:Int)(t:Tok):(Yr prog w).is (.inl i) (.int i t)=aC:=GQ i t
theorem LN(prog:bB)(w:b8)(x:ay)(t:Tok):(Yr prog w).is (.inr x) (.str x t)=aC:=GR x t
inductive V where
 | non | bl (b:Bool) | int (i:Int) | str (x:ay) | byt (b:Array UInt8) | flt (b:UInt64) | ref (a:aL) | ty (n:String)
 deriving DecidableEq
noncomputable def RelV:V->aI->Prop
 | .non,u=>u=dP
 | .bl b,u=>u=aI.bool b
 | .int i,u=>∃t,u=gu i t
 | .str x,u=>∃t,u=aI.str x t
 | .byt b,u=>∃t,u=aI.bytes b t
 | .flt b,u=>∃t,u=aI.float b t
 | .ref a,u=>u=b7 a
 | .ty n,u=>u=l4 n
abbrev Vals:List V->List aI->Prop:=Paired RelV
theorem Vals.length{xs:List V}{a:List aI}(r:Vals xs a):xs.length=a.length:=Paired.length r
theorem Vals.get:∀{xs:List V}{us:List aI}{i:Nat}{x:V},Vals xs us->xs[i]?=ax x->∃u,us[i]?=ax u/\RelV x u
 | _,_,_,_,.nil,e=>by simp at e
 | _,_,0,_,.cons r _,e=>by simp at e;subst e;exact⟨_,rfl,r⟩
 | _,_,i+1,x,.cons _ t,e=>by obtain⟨u,b,a⟩:=Vals.get (i:=i) (x:=x) t (by simpa using e);exact⟨u,by simpa using b,a⟩
theorem Vals.set{x:V}{u:aI}(r:RelV x u):∀{xs:List V}{us:List aI}(i:Nat),Vals xs us->Vals (xs.set i x) (us.set i u)
 | _,_,_,.nil=>.nil
 | _,_,0,.cons _ t=>.cons r t
 | _,_,i+1,.cons q t=>.cons q (Vals.set r i t)
theorem Vals.append:∀{xs ys:List V}{us ws:List aI},Vals xs us->Vals ys ws->Vals (xs++ys) (us++ws)
 | _,_,_,_,.nil,s=>s
 | _,_,_,_,.cons r t,s=>.cons r (Vals.append t s)
theorem Vals.take:∀{xs:List V}{us:List aI}(n:Nat),Vals xs us->Vals (xs.take n) (us.take n)
 | _,_,0,_=>.nil
 | _,_,_+1,.nil=>.nil
 | _,_,n+1,.cons r t=>.cons r (Vals.take n t)
theorem Vals.drop:∀{xs:List V}{us:List aI}(n:Nat),Vals xs us->Vals (xs.drop n) (us.drop n)
 | _,_,0,r=>r
 | _,_,_+1,.nil=>.nil
 | _,_,n+1,.cons _ t=>Vals.drop n t
noncomputable def RelO:Option V->Option aI->Prop
 | some v,ax u=>RelV v u
 | none,aA=>True
 | _,_=>False
noncomputable def KV{κ:Type}:List (κ×V)->List (κ×aI)->Prop:=Paired λ(p:κ×V) (q:κ×aI)=>p.1=q.1/\RelV p.2 q.2
noncomputable def kV:Yp->V
 | .inl i=>.int i
 | .inr x=>.str x
inductive HO where
 /-- a list -/
 | lst (xs:List V)
 /-- a tuple (never changes) -/
 | tup (xs:List V)
 /-- a dict whose keys are ints and texts;one whose keys are tuples of ints and texts (the empty one is Ze1) -/
 | dK (m4:List (Yp×V)) | dT (m4:List (List Yp×V))
 /-- a set of ints: m6 members,m6 size -/
 | set (S:Int->Bool) (n:Nat)
 /-- an instance of the class at C,m6 dict at dx,m6 attributes -/
 | ins (C dx:aL) (fs:List (ay×V))
 /-- the dict of the instance at x -/
 | own (x:aL)
 /-- the dict of an exception -/
 | xd (fs:List (ay×V))
 /-- a bound method,f of x -/
 | met (f x:aL)
 /-- a range object lo,lo+1,.. below hi -/
 | rng (lo hi:Int)
 /-- a thing that is known to the object (the script;a dict while a loop walks it): read,never written while it is so -/
 | frz (o:dI) (u:HO)
 /-- a code object's table -/
 | tbl (ps:Array aI)
 /-- any other thing,by what is aC of m6 one object (a def of one's own: SetO a S n:=HO.ext λh=>..) -/
 | ext (φ:bW->Prop)
abbrev Hp:=aL->Option HO
noncomputable def upd(H:Hp)(a:aL)(o:HO):Hp:=λb=>if b=a then ax o else H b
theorem Zi{H:Hp}{a:aL}{o:HO}:upd H a o a=ax o:=by unfold upd;rw[m7 rfl]
theorem upd_ne{H:Hp}{a b:aL}{o:HO}(h:b≠a):upd H a o b=H b:=by unfold upd;rw[m9 h]
theorem Zfh{H:Hp}{a b:aL}{o u:HO}(h:H a=ax o)(h':H b=ax u)(d:o≠u):a≠b:=by grind
theorem Zm{H:Hp}{a b:aL}{o:HO}(h:H a=ax o)(h':H b=aA):a≠b:=by grind
noncomputable def RV(x:ay):Bool:=x=="tree_of" || x=="still_by" || x=="made_of"
noncomputable def QK(x:ay):ay:=x++".<locals>."++"<lambda>"
noncomputable def Jq(o:dI)(q:ay):Prop:=∃vs t,o.data = .fields vs/\vs[1]?=ax (.str q t)
noncomputable def Zfi(q:ay)(H:Hp)(ps:List aI):Prop:=TriplesOk ps/\∀pos v,gv pos ps=ax v->∃c o,v = .ref c/\H c=ax (.frz o (.own 0))/\Jq o q
theorem QL{h:bW}{T:aI}{xs:Array aI}{n:Nat}{o:dI}(e:(h.push { cls:=T,data:=.seq xs n }).get? h.objs.size=ax o):o.dict=aA:=by rw[a9 _ rfl] at e;cases e;rfl
section
variable (P:bB) (w:b8)
noncomputable def ObjOk(H:Hp)(h:bW)(a:aL):HO->Prop
 | .lst xs=>xs.length<=sizeLine/\∃(m6:List aI) (n:Nat),Vals xs m6/\h.get? a=ax { cls:=.type "list",data:=.seq m6.toArray n }
 | .tup xs=>(xs.length<=sizeLine/\∀o,h.get? a=ax o->o.dict=aA)/\∃m6:List aI,Vals xs m6/\l6 h a m6.toArray
 | .dK m4=>m4.length<=sizeLine/\(a==dU)=aB/\∃vs,KV m4 vs/\h.DictOf (Yr P w) a vs
 | .dT m4=>m4.length<=sizeLine/\(a==dU)=aB/\∃xs:List (List Yp×aL×aI),
   Paired (λ(p:List Yp×V) (q:List Yp×aL×aI)=>p.1=q.1/\H q.2.1=ax (.tup (p.1.map kV))/\RelV p.2 q.2.2) m4 xs/\
   ∃o es ep,h.get? a=ax o/\o.ExactDict/\o.data = .dict es ep/\es.toList=xs.map (entryOfKey (jy (Yr P w)))/\(xs.map (·.1)).Nodup
 | .set S n=>h.SetOf (intKind P w) a S n
 | .ins C dx fs=>H dx=ax (.own a)/\fs.length<=1000/\dx≠a/\h.get? a=ax (jX C dx)/\
   ∃mA,h.Ns1 dx mA/\(∀f,RelO (fs.lookup f) (mA f))/\mQ mA (fs.map (·.1))
 | .own _=>∃o,h.get? a=ax o
 | .xd fs=>∃mA,h.Ns1 a mA/\∀f,RelO (fs.lookup f) (mA f)
 | .rng lo hi=>∃t u v,h.get? a=ax { cls:=.type "range",data:=.fields #[.int lo t,.int hi u,.int 1 v] }
 | .frz o u=>h.get? a=ax o/\ObjOk H h a u
 | .tbl ps=>∃(q:ay) (t:Tok) (ps':Array aI),ps[0]?=ax (.str q t)/\h.get? a=ax { cls:=.none,data:=.fields ps' }/\Zfi q H ps'.toList
 | .met f x=>h.get? a=ax (PySem.W.methodObj (.ref f) (.ref x))
 | .ext φ=>φ h/\(∃o,h.get? a=ax o)/\∀h1 h2:bW,φ h1->(∀o,h1.get? a=ax o->h2.get? a=ax o)->φ h2
noncomputable def HOk(H:Hp)(h:bW):Prop:=∀a o,H a=ax o->ObjOk P w H h a o
end
section
variable {P:bB} {w:b8} {H H':Hp} {h h':bW} {a:aL} {o:HO}
theorem ObjOk.lt(x:ObjOk P w H h a o):a<h.objs.size:=by
 cases o with
 | lst xs=>obtain⟨_,_,_,_,e⟩:=x;exact aV e
 | tup xs=>obtain⟨_,_,_,p⟩:=x;exact p.lt
 | dK m4=>obtain⟨_,_,_,_,o,_,_,e,_⟩:=x;exact aV e
 | dT m4=>obtain⟨_,_,_,_,o,_,_,e,_⟩:=x;exact aV e
 | set S n=>obtain⟨o,_,_,_,e,_⟩:=x;exact aV e
 | ins C dx fs=>obtain⟨_,_,_,e,_⟩:=x;exact aV e
 | own y=>obtain⟨_,e⟩:=x;exact aV e
 | xd fs=>obtain⟨_,⟨_,_,_,e,_⟩,_⟩:=x;exact aV e
 | rng lo hi=>obtain⟨_,_,_,e⟩:=x;exact aV e
 | frz ob u=>obtain⟨e,_⟩:=x;exact aV e
 | tbl ps=>obtain⟨_,_,_,_,e,_⟩:=x;exact aV e
 | met f y=>exact aV (show h.get? a=ax _ from x)
 | ext φ=>obtain⟨_,⟨_,e⟩,_⟩:=x;exact aV e
theorem Paired.mapP{d c:Type}{F G:d->c->Prop}:∀{l₁:List d}{l₂:List c},Paired F l₁ l₂->(∀a b,F a b->G a b)->Paired G l₁ l₂
 | _,_,.nil,_=>.nil
 | _,_,.cons r t,f=>.cons (f _ _ r) (Paired.mapP t f)
theorem ObjOk.stay(x:ObjOk P w H h a o)(k:∀b u,(b=a\/H b=ax (.own a))->h.get? b=ax u->h'.get? b=ax u)
  (M:∀b,H b=ax (.own a)->H' b=ax (.own a)) (F:∀b xs,H b=ax (.tup xs)->H' b=ax (.tup xs)) (B:∀b u,H b=ax (.frz u (.own 0))->H' b=ax (.frz u (.own 0))):ObjOk P w H' h' a o:=by
 induction o with
 | lst xs=>obtain⟨z,A,n,r,e⟩:=x;exact⟨z,A,n,r,k _ _ (.inl rfl) e⟩
 | tup xs=>obtain⟨z,A,r,g,e,c⟩:=x;exact⟨⟨z.1,λo q=>by rw[k _ _ (.inl rfl) e] at q;cases q;exact z.2 _ e⟩,A,r,g,k _ _ (.inl rfl) e,c⟩
 | dK m4=>obtain⟨z,y,vs,r,g,i,ep,e,c⟩:=x;exact⟨z,y,vs,r,g,i,ep,k _ _ (.inl rfl) e,c⟩
 | dT m4=>
  obtain⟨z,y,xs,r,g,i,ep,e,c⟩:=x;exact⟨z,y,xs,Paired.mapP r λp q z=>⟨z.1,F _ _ z.2.1,z.2.2⟩,g,i,ep,k _ _ (.inl rfl) e,c⟩
 | set S n=>obtain⟨g,i,ep,t,e,c⟩:=x;exact⟨g,i,ep,t,k _ _ (.inl rfl) e,c⟩
 | ins C dx fs=>
  obtain⟨d,z,ne,e,l,⟨j,i,ep,m,c⟩,r⟩:=x;exact⟨M _ d,z,ne,k _ _ (.inl rfl) e,l,⟨j,i,ep,k _ _ (.inr d) m,c⟩,r⟩
 | own y=>obtain⟨g,e⟩:=x;exact⟨g,k _ _ (.inl rfl) e⟩
 | xd fs=>obtain⟨l,⟨j,i,ep,e,c⟩,r⟩:=x;exact⟨l,⟨j,i,ep,k _ _ (.inl rfl) e,c⟩,r⟩
 | rng lo hi=>obtain⟨t,u,v,e⟩:=x;exact⟨t,u,v,k _ _ (.inl rfl) e⟩
 | frz g u ih=>obtain⟨e,q⟩:=x;exact⟨k _ _ (.inl rfl) e,ih q⟩
 | tbl ps=>
  obtain⟨q,t,s,L,e,I,J⟩:=x;refine⟨q,t,s,L,k a _ (.inl rfl) e,I,λpos v E=>?_⟩;obtain⟨c,o,D,m,G⟩:=J pos v E;exact⟨c,o,D,B c o m,G⟩
 | met f y=>
  have e:=x;exact k a _ (.inl rfl) e
 | ext φ=>obtain⟨p,⟨o,e⟩,st⟩:=x;exact⟨st _ _ p λo q=>k _ _ (.inl rfl) q,⟨o,k _ _ (.inl rfl) e⟩,st⟩
theorem HOk.lt(x:HOk P w H h)(e:H a=ax o):a<h.objs.size:=(x a o e).lt
theorem HOk.fresh(x:HOk P w H h)(e:h.objs.size<=a):H a=aA:=by
 cases q:H a with
 | none=>rfl
 | some u=>exact absurd (az (x.lt q) e) (cI _)
theorem HOk.kept(x:HOk P w H h)(k:∀b u,h.get? b=ax u->h'.get? b=ax u):HOk P w H h':=λa o e=>
 (x a o e).stay (λb u _ q=>k b u q) (λ_ q=>q) (λ_ _ q=>q) λ_ _ q=>q
theorem HOk.laid(x:HOk P w H h)(k:∀b u,h.get? b=ax u->h'.get? b=ax u)(g:h.objs.size<=a)(new:ObjOk P w (upd H a o) h' a o):HOk P w (upd H a o) h':=λb u e=>by
 have d:=x.fresh g;by_cases f:b=a
 ·subst f;rw[Zi] at e;cases e;exact new
 ·rw[upd_ne f] at e;exact(x b u e).stay (λc v _ q=>k c v q) (λc q=>by rw[upd_ne (Zm q d)];exact q) (λc xs q=>by rw[upd_ne (Zm q d)];exact q) λc u q=>by rw[upd_ne (Zm q d)];exact q
end
noncomputable def Rd(H:Hp)(a:aL)(u:HO):Prop:=H a=ax u\/∃o,H a=ax (.frz o u)
theorem Rd.ok{P:bB}{w:b8}{H:Hp}{h:bW}{a:aL}{u:HO}(r:Rd H a u)(x:HOk P w H h):ObjOk P w H h a u:=by
 rcases r with r | ⟨o,r⟩
 ·exact x a u r
 ·obtain⟨_,q⟩:=x a _ r;exact q
noncomputable def VZ:Option HO->Prop
 | some (.lst _)=>True
 | some (.dK _)=>True
 | some (.dT _)=>True
 | some (.set _ _)=>True
 | some (.ins _ _ _)=>True
 | some (.ext _)=>True
 | _=>False
section
variable {P:bB} {w:b8} {H:Hp} {h h':bW} {x e:aL} {o':HO}
theorem HOk.write(ok:HOk P w H h)(f:VZ (H x))(m:e=x\/H e=ax (.own x))(k:∀b u,b≠e->h.get? b=ax u->h'.get? b=ax u)(l:∃u,h'.get? e=ax u)
  (new:ObjOk P w (upd H x o') h' x o'):HOk P w (upd H x o') h':=λb u q=>by
 have d:∀c y,H c=ax (.own y)->c≠x:=λc y r z=>by subst z;rw[r] at f;exact f
 have g:∀c xs,H c=ax (.tup xs)->c≠x:=λc xs r z=>by subst z;rw[r] at f;exact f
 by_cases i:b=x
 ·subst i;rw[Zi] at q;cases q;exact new
 ·rw[upd_ne i] at q;by_cases a:b=e
  ·have n:H b=ax (.own x):=by
    rcases m with z | z
    ·exact absurd (a.trans z) i
    ·rw[a];exact z
   rw[q] at n;cases n;obtain⟨v,o⟩:=l;exact⟨v,by rw[a];exact o⟩
  ·refine(ok b u q).stay (λc v j r=>k c v ?_ r) (λc r=>by rw[upd_ne (d c b r)];exact r) (λc xs r=>by rw[upd_ne (g c xs r)];exact r) λc v r=>by rw[upd_ne (λz=>by subst z;rw[r] at f;exact f)];exact r
   rcases j with rfl | j
   ·exact a
   ·rintro rfl;rcases m with z | z
    ·exact d c b j z
    ·rw[j] at z;cases z;exact i rfl
end
structure Un(fs ex:List aL)(H H':Hp)(h h':bW):Prop where
 keep:∀b o,h.get? b=ax o->H b=aA->b∉fs->b∉ex->h'.get? b=ax o
 slot:∀b o,h.get? b=ax o->H b=aA->b∈fs->b∉ex->∃sl,h'.get? b=ax { o with slots:=sl }
 free:∀b o,h.get? b=ax o->H b=aA->b∉ex->H' b=aA
 there:∀b o,h.get? b=ax o->b∉ex->∃o',h'.get? b=ax o'
 tups:∀b xs,H b=ax (.tup xs)->H' b=ax (.tup xs)
 frzs:∀b o u,H b=ax (.frz o u)->H' b=ax (.frz o u)
 tbls:∀b ps,H b=ax (.tbl ps)->∃more,H' b=ax (.tbl (ps++more))
section
variable {fs fs' ex ex':List aL} {H H1 H2:Hp} {h h1 h2 h':bW} {a x e:aL} {o:HO}
theorem Un.any(u:Un fs ex H H1 h h1){b:aL}{a:dI}(q:h.get? b=ax a)(n:H b=aA)(c:b∉ex):∃sl,h1.get? b=ax { a with slots:=sl }:=by
 by_cases d:b∈fs
 ·exact u.slot b a q n d c
 ·exact⟨a.slots,u.keep b a q n d c⟩
theorem Un.kept(k:∀b u,h.get? b=ax u->h'.get? b=ax u):Un fs ex H H h h':=
 ⟨λb a q _ _ _=>k b a q,λb a q _ _ _=>⟨a.slots,k b a q⟩,λ_ _ _ n _=>n,λb a q _=>⟨a,k b a q⟩,λ_ _ q=>q,λ_ _ _ q=>q,λ_ ps q=>⟨#[],by rw[q];simp⟩⟩
theorem Un.refl:Un fs ex H H h h:=Un.kept λ_ _ q=>q
theorem Un.laid(k:∀b u,h.get? b=ax u->h'.get? b=ax u)(d:h.objs.size<=a)(c:H a=aA):Un fs ex H (upd H a o) h h' where
 keep:=λb u q _ _ _=>k b u q
 slot:=λb u q _ _ _=>⟨u.slots,k b u q⟩
 free:=λb u q n _=>by rw[upd_ne (bG (az (aV q) d))];exact n
 there:=λb u q _=>⟨u,k b u q⟩
 tups:=λb xs q=>by rw[upd_ne (Zm q c)];exact q
 frzs:=λb u xs q=>by rw[upd_ne (Zm q c)];exact q
 tbls:=λb ps q=>⟨#[],by rw[upd_ne (Zm q c),q];simp⟩
theorem Un.write(c:VZ (H x))(l:e=x\/H e=ax (.own x))(k:∀b u,b≠e->h.get? b=ax u->h'.get? b=ax u)(f:∃u,h'.get? e=ax u):Un fs ex H (upd H x o) h h':=by
 have g:∀b,H b=aA->b≠x:=λb n z=>by subst z;rw[n] at c;exact c
 have i:∀b,H b=aA->b≠e:=λb n z=>by
  subst z;rcases l with r | r
  ·exact g b n r
  ·rw[n] at r;cases r
 have d:∀b u,H b=ax u->¬VZ (ax u)->b≠x:=λb u q j z=>by subst z;rw[q] at c;exact j c
 refine⟨λb u q n _ _=>k b u (i b n) q,λb u q n _ _=>⟨u.slots,k b u (i b n) q⟩,λb u q n _=>by rw[upd_ne (g b n)];exact n,λb u q _=>?_,
  λb xs q=>by rw[upd_ne (d b _ q λz=>z)];exact q,λb u xs q=>by rw[upd_ne (d b _ q λz=>z)];exact q,λb ps q=>⟨#[],by rw[upd_ne (d b _ q λz=>z),q];simp⟩⟩
 by_cases a:b=e
 ·subst a;exact f
 ·exact⟨u,k b u a q⟩
end
noncomputable def TabsH(K:aF)(mg:ay->Option aI)(base:bW)(H:Hp):Prop:=∀(q:ay)(c:aL),RV q=aC->cq K (.ref c) q=aC->
 ∃Pt ps t,je base c Pt/\H Pt=ax (.tbl ps)/\ps[0]?=ax (.str (QK q) t)/\base.BuiltinsAt mg Pt
theorem TabsH.un{K:aF}{mg:ay->Option aI}{a:bW}{fs l:List aL}{H e:Hp}{h h':bW}(t:TabsH K mg a H)(u:Un fs l H e h h'):TabsH K mg a e:=λq c m i=>by
 obtain⟨Pt,ps,tk,f,k,b,j⟩:=t q c m i;obtain⟨more,g⟩:=u.tbls Pt ps k
 have d:0<ps.size:=by
  cases z:ps.size with
  | zero=>rw[jC (by omega)] at b;cases b
  | succ n=>omega
 exact⟨Pt,_,tk,f,g,by rw[Array.getElem?_append_left d];exact b,j⟩
noncomputable def trk(h:bW)(H:Hp):List aL:=(aD h.objs.size).filter λa=>(H a).isSome
noncomputable def N2(h:bW)(H:Hp):bW:=PySem.W.hideAll h (trk h H)
theorem GS(h:bW)(H:Hp):(N2 h H).objs.size=h.objs.size:=PySem.W.hideAll_size _ _
theorem Eu{h:bW}{H:Hp}{b:aL}{o:dI}(e:h.get? b=ax o)(n:H b=aA):(N2 h H).get? b=ax o:=
 PySem.W.hideAll_get _ e λa=>by have q:=(dW.mp a).2;rw[n] at q;simp at q
theorem Bz{h:bW}{H:Hp}{b:aL}{o:dI}(e:(N2 h H).get? b=ax o):h.get? b=ax o/\H b=aA:=by
 have a:=PySem.W.of_hideAll (trk h H) e;refine⟨a,?_⟩
 cases q:H b with
 | none=>rfl
 | some x=>
  have c:b∈trk h H:=dW.mpr ⟨aY.mpr (aV a),by simp[q]⟩;have z:(N2 h H).get? b=aA:=PySem.W.hideAll_none (trk h H) c;rw[z] at e;cases e
noncomputable def BA(g h:bW)(L:aL):List (aL×dI):=(aD h.objs.size).filterMap λa=>if a=L\/(g.get? a).isSome=aC then aA else(h.get? a).map λo=>(a,o)
noncomputable def Yj(g h:bW)(L d:aL):List (aL×dI):=(BA g h L).filter λp=>decide (p.1≠d)
structure Mod(K:aF)(mg:ay->Option aI)(base:bW):Prop where
 kin:K.In base
 glob:base.Ns cE mg
 blt:∃mb,base.Ns jD mb/\∀x:ay,x≠"__name__"->mb x=c9 x
 nolimit:base.NoLimit
structure Cx where
 prog:bB
 w:b8
 K:aF
 mg:ay->Option aI
 base:bW
 A:ba
 N:List ay
 s₀:aM
 H₀:Hp
 env:kM
 outer:List kM
 stack:List kM
 ex:List aL
 fn:ay->Bool
 calm:Bool
 pn:List (aL×dI)
 xe:aI->aM->Prop
noncomputable def N3(l:List kM):List aL:=l.filterMap (·.frame)
abbrev Cx.fs(X:Cx):List aL:=N3 X.outer
noncomputable def Vis(sc:e7)(x:ay):Prop:=sc.names.lookup x=ax .local\/sc.names.lookup x=ax .cell\/sc.names.lookup x=ax .free
noncomputable def Ew(sc:e7)(x:ay):Prop:=sc.names.lookup x=ax .local\/sc.names.lookup x=ax .cell
noncomputable def Zh1(env:kM)(h:bW)(m:ay->Option aI)(x:ay)(u:aI):Prop:=
 (env.kindOf x=ax .local/\m x=ax u)\/((env.kindOf x=ax .cell\/env.kindOf x=ax .free)/\∃c,env.cells.lookup x=ax c/\h.IsCell c (ax u))
structure Cx.Ok(X:Cx):Prop where
 mod:Mod X.K X.mg X.base
 kind:X.env.scope.kind = .function
 glob:X.env.globals=cE
 blt:X.env.builtins=jD
 above:X.s₀.heap.objs.size<=X.env.locals
 inj:∀x y c,X.env.cells.lookup x=ax c->X.env.cells.lookup y=ax c->x=y
 has:∀x,(X.env.kindOf x=ax .cell\/X.env.kindOf x=ax .free)->∃c,X.env.cells.lookup x=ax c
 cab:∀x c,X.fn x=aC->X.env.cells.lookup x=ax c->X.s₀.heap.objs.size<=c
 hd:X.calm=aC->X.A.handled=aA
 frames:X.A.frames=ax X.stack
 stk:X.stack=X.outer\/(X.stack=X.env::X.outer/\X.env.frame=ax X.env.locals)
 exf:∀b∈X.ex,b≠X.env.locals/\∀x c,X.env.cells.lookup x=ax c->c≠b
 bs:∀b o,X.base.get? b=ax o->X.s₀.heap.get? b=ax o/\X.H₀ b=aA
 bsz:X.base.objs.size<=X.s₀.heap.objs.size
 noex:∀b o,X.base.get? b=ax o->b∉X.ex
 exfs:∀b∈X.ex,b∉X.fs
 funs:X.s₀.heap.FunFrames X.base X.outer
 frf:∀b∈X.fs,X.H₀ b=aA
 tab:TabsH X.K X.mg X.base X.H₀
 cod:∀q:ay,X.env.func≠aA->X.env.qual=q++".<locals>."->RV q=aC->cq X.K X.env.code q=aC
structure Inv(X:Cx)(m3:List (aL×dI))(σ:List (Option V))(H:Hp)(s:aM):Prop where
 ok:X.Ok
 os:s.os=X.s₀.os
 bare:jE s.gens
 base:Un X.fs X.ex X.H₀ H X.s₀.heap s.heap
 loc:∃m,s.heap.Ns X.env.locals m/\∀(i:Nat)(x:ay)(v:V),X.N[i]?=ax x->σ[i]?=ax (ax v)->Vis X.env.scope x->∃u,RelV v u/\Zh1 X.env s.heap m x u
 cell:∀x c,X.env.cells.lookup x=ax c->∃v,s.heap.IsCell c v
 free:H X.env.locals=aA
 freeC:∀x c,X.env.cells.lookup x=ax c->H c=aA
 pin:∀p∈X.pn++m3,s.heap.get? p.1=ax p.2/\H p.1=aA/\p.1≠X.env.locals/\p.1∉X.fs/\∀v,p.2.data≠.cell v
 hok:HOk X.prog X.w H s.heap
 len:σ.length=X.N.length
section
variable {X:Cx} {m3:List (aL×dI)} {σ:List (Option V)} {H H':Hp} {s:aM} {h':bW}
theorem Cx.Ok.nofr(ok:X.Ok){b:aL}{o:dI}(e:X.base.get? b=ax o):b∉X.fs:=λa=>by have:=(ok.funs.mem a).1;rw[e] at this;cases this
theorem Inv.bs(I:Inv X m3 σ H s):∀b o,X.base.get? b=ax o->s.heap.get? b=ax o/\H b=aA:=λb o e=>
 ⟨I.base.keep b o (I.ok.bs b o e).1 (I.ok.bs b o e).2 (I.ok.nofr e) (I.ok.noex b o e),I.base.free b o (I.ok.bs b o e).1 (I.ok.bs b o e).2 (I.ok.noex b o e)⟩
theorem Inv.bk(I:Inv X m3 σ H s):∀b o,X.base.get? b=ax o->s.heap.get? b=ax o:=λb o e=>(I.bs b o e).1
theorem Inv.mod(I:Inv X m3 σ H s):Mod X.K X.mg X.base:=I.ok.mod
theorem Inv.kIn(I:Inv X m3 σ H s):X.K.In s.heap:=I.ok.mod.kin.keeps I.bk
theorem Inv.fr(I:Inv X m3 σ H s):∃m,Fr X.base X.env.locals s.heap m:=
 let⟨m,a,_⟩:=I.loc
 ⟨m,a,I.bk,bg I.ok.bsz I.ok.above⟩
theorem Inv.lt(I:Inv X m3 σ H s):X.env.locals<s.heap.objs.size:=let⟨_,a,_⟩:=I.loc;a.lt
theorem Inv.sz(I:Inv X m3 σ H s):X.s₀.heap.objs.size<=s.heap.objs.size:=bg I.ok.above (bz I.lt)
theorem Inv.nofs(I:Inv X m3 σ H s){a:aL}(h:s.heap.objs.size<=a):a∉X.fs:=λc=>by obtain⟨_,o,b,_⟩:=I.ok.funs.mem c;exact absurd (az (aV b) (bg I.sz h)) (cI _)
theorem Inv.cne(I:Inv X m3 σ H s):∀x c,X.env.cells.lookup x=ax c->c≠X.env.locals:=λx c e z=>by obtain⟨v,o,d,hd⟩:=I.cell x c e;obtain⟨m,⟨f,g,ep,b,a,_⟩,_⟩:=I.loc;rw[z,b] at d;cases d;rw[a] at hd;cases hd
theorem Inv.funs(I:Inv X m3 σ H s):s.heap.FunFrames X.base X.outer:=by
 have all:∀(l:List kM),(∀b∈N3 l,b∈X.fs)->X.s₀.heap.FunFrames X.base l->s.heap.FunFrames X.base l:=by
  intro l
  induction l with
  | nil=>intro _ _;trivial
  | cons env r ih=>
   intro f h;obtain⟨i,⟨L,o,a,j,k,hd⟩,g⟩:=h;have c:L∈X.fs:=f L (by unfold N3;rw[gk,a];exact ag);obtain⟨m,e⟩:=I.base.slot L o k (I.ok.frf L c) c λz=>I.ok.exfs L z c;exact⟨i,⟨L,_,a,j,e,hd⟩,ih (λb d=>f b (by unfold N3;rw[gk,a];exact aQ _ d)) g⟩
 exact all X.outer (λ_ d=>d) I.ok.funs
theorem Inv.stack(I:Inv X m3 σ H s):s.heap.FunFrames X.base X.stack:=by
 rcases I.ok.stk with e | ⟨e,a⟩
 ·rw[e];exact I.funs
 ·rw[e];obtain⟨m,b,_⟩:=I.loc;refine .cons (by rw[I.ok.kind];decide) a b ?_ I.funs;exact bW.get?_none_of_le (bg I.ok.bsz I.ok.above)
theorem Inv.stkSub(I:Inv X m3 σ H s):∀b∈N3 X.stack,b∈X.env.locals::X.fs:=λb a=>by
 rcases I.ok.stk with e | ⟨e,c⟩
 ·rw[e] at a;exact aQ _ a
 ·rw[e] at a;unfold N3 at a;rw[gk,c] at a;exact a
theorem Inv.stkFree(I:Inv X m3 σ H s):∀b∈N3 X.stack,H b=aA:=λb a=>by
 rcases aa.mp (I.stkSub b a) with e | a
 ·rw[e];exact I.free
 ·obtain⟨_,o,c,_⟩:=I.ok.funs.mem a;exact I.base.free b o c (I.ok.frf b a) λz=>I.ok.exfs b z a
theorem Inv.step{O:Array GenState}{t':Nat}{T:Drawn}{ch:List aL}(I:Inv X m3 σ H s)
  (h:∀b∈ch,(b∈X.ex\/X.s₀.heap.objs.size<=b)/\b≠X.env.locals/\(∀x c,X.env.cells.lookup x=ax c->c≠b)/\∀p∈X.pn++m3,p.1≠b)
  (keep:∀b o,b≠X.env.locals->b∉X.fs->b∉ch->s.heap.get? b=ax o->H b=aA->h'.get? b=ax o)
  (w:∀b o,b≠X.env.locals->b∈X.fs->b∉ch->s.heap.get? b=ax o->H b=aA->∃L,h'.get? b=ax { o with slots:=L }) (free:∀b o,b∉ch->s.heap.get? b=ax o->H b=aA->H' b=aA)
  (y:∀b o,b∉ch->s.heap.get? b=ax o->∃J,h'.get? b=ax J)
  (C:∀b xs,H b=ax (.tup xs)->H' b=ax (.tup xs)) (F:∀b o u,H b=ax (.frz o u)->H' b=ax (.frz o u)) (D:∀b ps,H b=ax (.tbl ps)->∃more,H' b=ax (.tbl (ps++more)))
  (ns:∀m,s.heap.Ns X.env.locals m->h'.Ns X.env.locals m) (M:HOk X.prog X.w H' h') (hg:jE O) :
  Inv X m3 σ H' { s with heap:=h',gens:=O,drawn:=T,toks:=t' }:=by
 have E:∀b o,X.s₀.heap.get? b=ax o->b≠X.env.locals:=λb o e=>bG (az (aV e) I.ok.above)
 have t:∀b o,X.s₀.heap.get? b=ax o->b∉X.ex->b∉ch:=λb o e a A=>by
  rcases(h b A).1 with z | z
  ·exact a z
  ·exact absurd (az (aV e) z) (cI _)
 have f:∀x c,X.env.cells.lookup x=ax c->∀v,s.heap.IsCell c v->h'.IsCell c v:=λx c e v ⟨o,B,hd⟩=>by
  have g:=λz=>(h c z).2.2.1 x c e rfl;by_cases R:c∈X.fs
  ·obtain⟨L,q⟩:=w c o (I.cne x c e) R g B (I.freeC x c e);exact⟨_,q,hd⟩
  ·exact⟨o,keep c o (I.cne x c e) R g B (I.freeC x c e),hd⟩
 refine⟨I.ok,I.os,hg,⟨λb o e n A a=>?_,λb o e n A a=>?_,λb o e n a=>?_,λb o e a=>?_,λb xs e=>C b xs (I.base.tups b xs e),λb o xs e=>F b o xs (I.base.frzs b o xs e),λb ps e=>?_⟩,?_,λx c e=>?_,?_,λx c e=>?_,λp P=>?_,M,I.len⟩
 ·exact keep b o (E b o e) A (t b o e a) (I.base.keep b o e n A a) (I.base.free b o e n a)
 ·obtain⟨L,j⟩:=I.base.slot b o e n A a;obtain⟨N,G⟩:=w b _ (E b o e) A (t b o e a) j (I.base.free b o e n a);exact⟨N,G⟩
 ·obtain⟨J,j⟩:=I.base.there b o e a;exact free b J (t b o e a) j (I.base.free b o e n a)
 ·obtain⟨J,j⟩:=I.base.there b o e a;exact y b J (t b o e a) j
 ·obtain⟨Y,j⟩:=I.base.tbls b ps e;obtain⟨S,G⟩:=D b _ j;exact⟨Y++S,by rw[G,Array.append_assoc]⟩
 ·obtain⟨m,Z,W⟩:=I.loc;refine⟨m,ns m Z,λi x v j G U=>?_⟩;obtain⟨u,r,l⟩:=W i x v j G U;refine⟨u,r,?_⟩;rcases l with l | ⟨k,c,e,z⟩
  ·exact .inl l
  ·exact .inr ⟨k,c,e,f x c e _ z⟩
 ·obtain⟨v,z⟩:=I.cell x c e;exact⟨v,f x c e v z⟩
 ·obtain⟨m,⟨o,_,_,B,_⟩,_⟩:=I.loc;exact free _ o (λz=>(h _ z).2.1 rfl) B I.free
 ·obtain⟨v,o,B,hd⟩:=I.cell x c e;exact free c o (λz=>(h c z).2.2.1 x c e rfl) B (I.freeC x c e)
 ·obtain⟨e,n,ne,Q,d⟩:=I.pin p P;have g:=λz=>(h p.1 z).2.2.2 p P rfl;exact⟨keep p.1 p.2 ne Q g e n,free p.1 p.2 g e n,ne,Q,d⟩
theorem Inv.un{t':Nat}(I:Inv X m3 σ H s)(u:Un X.fs [] H H' s.heap h')(f:HOk X.prog X.w H' h'):Inv X m3 σ H' { s with heap:=h',toks:=t' }:=by
 obtain⟨m,⟨o,p,ep,h,r⟩,_⟩:=id I.loc;obtain⟨l,i⟩:=u.any h I.free (by simp)
 exact I.step (ch:=[]) (λ_ z=>nomatch z) (λb o _ d _ e n=>u.keep b o e n d (by simp)) (λb o _ d _ e n=>u.slot b o e n d (by simp)) (λb o _ e n=>u.free b o e n (by simp)) (λb o _ e=>u.there b o e (by simp)) u.tups u.frzs u.tbls (λq k=>by
  obtain⟨t,g,c,a,j⟩:=k;rw[h] at a;cases a;exact⟨_,g,c,i,j⟩) f I.bare
theorem Inv.call{k:Array GenState}{t':Nat}{t:Drawn}{ch:List aL}(I:Inv X m3 σ H s)(u:Un (N3 X.stack) ch H H' s.heap h')(i:HOk X.prog X.w H' h')(y:jE k)
  (d:∀b∈ch,(b∈X.ex\/X.s₀.heap.objs.size<=b)/\b≠X.env.locals/\(∀x c,X.env.cells.lookup x=ax c->c≠b)/\∀p∈X.pn++m3,p.1≠b) :
  Inv X m3 σ H' { s with heap:=h',gens:=k,drawn:=t,toks:=t' }:=by
 obtain⟨m,⟨o,B,ep,l,r⟩,_⟩:=id I.loc;obtain⟨A,g⟩:=u.any l I.free λz=>(d _ z).2.1 rfl
 exact I.step d (λb o g q a e n=>u.keep b o e n (λz=>(aa.mp (I.stkSub b z)).elim g q) a) (λb o _ _ a e n=>u.any e n a) (λb o a e n=>u.free b o e n a) (λb o a e=>u.there b o e a) u.tups u.frzs u.tbls (λC w=>by
  obtain⟨D,j,h,f,v⟩:=w;rw[l] at f;cases f;exact⟨_,j,h,g,v⟩) i y
theorem Inv.turned{t':Nat}{a:aL}(I:Inv X m3 σ H s)(k:∀b o,b≠a->s.heap.get? b=ax o->h'.get? b=ax o)(l:H a=aA)(g:a≠X.env.locals)
  (A:a∈X.ex\/X.s₀.heap.objs.size<=a) (j:∀x c,X.env.cells.lookup x=ax c->c≠a) (t:∀p∈X.pn++m3,p.1≠a):Inv X m3 σ H { s with heap:=h',toks:=t' }:=by
 have f:∀b u,H b=ax u->b≠a:=λb u e z=>by rw[z,l] at e;cases e
 refine I.step (ch:=[a]) (λb i=>?_) (λb o _ _ d e _=>k b o (λz=>d (by simp[z])) e) (λb o _ _ d e _=>⟨o.slots,k b o (λz=>d (by simp[z])) e⟩) (λ_ _ _ _ n=>n)
  (λb o d e=>⟨o,k b o (λz=>d (by simp[z])) e⟩) (λ_ _ e=>e) (λ_ _ _ e=>e) (λb ps e=>⟨#[],by rw[e];simp⟩) (λm y=>?_) (λb u e=>?_) I.bare
 ·have e:b=a:=by simpa using i
  subst e;exact⟨A,g,j,t⟩
 ·obtain⟨o,h,ep,w,r⟩:=y;exact⟨o,h,ep,k _ o (bO g) w,r⟩
 ·refine(I.hok b u e).stay (λc v d q=>k c v ?_ q) (λ_ q=>q) (λ_ _ q=>q) λ_ _ q=>q;rcases d with z | z
  ·rw[z];exact f b u e
  ·exact f c _ z
theorem Inv.tok(I:Inv X m3 σ H s)(t:Nat):Inv X m3 σ H { s with toks:=t }:=I.un Un.refl I.hok
theorem Inv.kept{t':Nat}(I:Inv X m3 σ H s)(k:∀b u,s.heap.get? b=ax u->h'.get? b=ax u):Inv X m3 σ H { s with heap:=h',toks:=t' }:=I.un (Un.kept k) (I.hok.kept k)
theorem Inv.laid{a:aL}{o:HO}{t':Nat}(I:Inv X m3 σ H s)(k:∀b u,s.heap.get? b=ax u->h'.get? b=ax u)(c:s.heap.objs.size<=a)(new:ObjOk X.prog X.w (upd H a o) h' a o) :
  Inv X m3 σ (upd H a o) { s with heap:=h',toks:=t' }:=I.un (Un.laid k c (I.hok.fresh c)) (I.hok.laid k c new)
theorem Inv.write{x e:aL}{o:HO}{t':Nat}(I:Inv X m3 σ H s)(c:VZ (H x))(d:e=x\/H e=ax (.own x))(k:∀b u,b≠e->s.heap.get? b=ax u->h'.get? b=ax u)(a:∃u,h'.get? e=ax u)
  (new:ObjOk X.prog X.w (upd H x o) h' x o):Inv X m3 σ (upd H x o) { s with heap:=h',toks:=t' }:=I.un (Un.write c d k a) (I.hok.write c d k a new)
theorem Inv.weak{a:List (Option V)}(I:Inv X m3 σ H s)(g:a.length=σ.length)(w:∀(i:Nat) v,a[i]?=ax (ax v)->σ[i]?=ax (ax v)):Inv X m3 a H s:=
 ⟨I.ok,I.os,I.bare,I.base,let⟨m,e,b⟩:=I.loc;⟨m,e,λi x v f c d=>b i x v f (w i v c) d⟩,I.cell,I.free,I.freeC,I.pin,I.hok,g.trans I.len⟩
theorem Inv.pins_of{a:List (aL×dI)}(I:Inv X m3 σ H s)(h:∀p∈a,s.heap.get? p.1=ax p.2/\H p.1=aA/\p.1≠X.env.locals/\p.1∉X.fs/\∀v,p.2.data≠.cell v):Inv X a σ H s:=
 ⟨I.ok,I.os,I.bare,I.base,I.loc,I.cell,I.free,I.freeC,λp b=>(ak.mp b).elim (λz=>I.pin p (bC _ z)) (h p),I.hok,I.len⟩
theorem LO{N:List ay}(e:N.Nodup){i j:Nat}{x:ay}(a:N[i]?=ax x)(b:N[j]?=ax x):i=j:=by obtain⟨f,d⟩:=aO.mp a;obtain⟨g,c⟩:=aO.mp b;exact(gK e).mp (d.trans c.symm)
theorem GU{M:Model}{A:ba}{E:aI->aM->Prop}{i:Nat}{x:ay}{v:V}{u:aI}{Q:Unit->aM->Prop}(I:Inv X m3 σ H s)(hN:X.N.Nodup)(T:X.N[i]?=ax x)(w:Ew X.env.scope x)(r:RelV v u)
  (h:∀s',Inv X m3 (σ.set i (ax v)) H s'->(∃a,cO a s.heap s'.heap/\(a=X.env.locals\/X.env.cells.lookup x=ax a))->Q () s') (hf:X.fn x=aC\/X.env.scope.names.lookup x=ax .local:=by first | exact .inl rfl | exact .inr rfl | assumption):aw M A (storeName X.env x u) Q E s:=by
 obtain⟨m,hn,hl⟩:=id I.loc;have R:(X.env.scope.kind==.class || (X.env.scope.kind==.module&&X.env.locals != X.env.globals))=aB:=by rw[I.ok.kind];rfl
 have D:i<σ.length:=by rw[I.len];exact(aO.mp T).1
 have cne:=I.cne
 have l:∀{a:aL}{h':bW},(∃o,s.heap.get? a=ax o/\H a=aA)->cO a s.heap h'->HOk X.prog X.w H h':=λ{a h'} ha f b ob e=>by
  obtain⟨_,_,B⟩:=ha;refine(I.hok b ob e).stay (λc U t q=>(f.2 c ?_).trans q) (λ_ q=>q) (λ_ _ q=>q) λ_ _ q=>q;rintro rfl;rcases t with rfl | t
  ·rw[B] at e;cases e
  ·rw[B] at t;cases t
 rcases w with F | F
 ·refine wpAny_storeName_local F hn (λh' Y f=>?_) R;obtain⟨oL,_,_,hoL,_⟩:=id hn;refine h _ ⟨I.ok,I.os,I.bare,⟨λb o e n G w=>?_,λb o e n G w=>?_,I.base.free,λb o e w=>?_,I.base.tups,I.base.frzs,I.base.tbls⟩,⟨_,Y,λj y v' g C e3=>?_⟩,λy c e=>?_,I.free,I.freeC,λp Z=>?_,l ⟨oL,hoL,I.free⟩ f,by simpa using I.len⟩ ⟨_,f,.inl rfl⟩
  ·exact(f.2 b (bG (az (aV e) I.ok.above))).trans (I.base.keep b o e n G w)
  ·obtain⟨sl,g⟩:=I.base.slot b o e n G w;exact⟨sl,(f.2 b (bG (az (aV e) I.ok.above))).trans g⟩
  ·obtain⟨o',g⟩:=I.base.there b o e w;exact⟨o',(f.2 b (bG (az (aV e) I.ok.above))).trans g⟩
  ·by_cases J:j=i
   ·subst J;rw[T] at g;cases g;rw[jF D] at C;cases C;exact⟨u,r,.inl ⟨F,by simp⟩⟩
   ·rw[jf (bO J)] at C;obtain⟨u',r',q⟩:=hl j y v' g C e3;refine⟨u',r',?_⟩;rcases q with⟨k,e⟩ | ⟨k,c,e,z⟩
    ·refine .inl ⟨k,?_⟩;have:y≠x:=λe=>J (LO hN g (e▸T));simp[this,e]
    ·exact .inr ⟨k,c,e,z.sameBut f (cne y c e)⟩
  ·obtain⟨U,z⟩:=I.cell y c e;exact⟨U,z.sameBut f (cne y c e)⟩
  ·obtain⟨e,n,ne,nf,d⟩:=I.pin p Z;exact⟨(f.2 p.1 ne).trans e,n,ne,nf,d⟩
 ·have L:X.fn x=aC:=by
   rcases hf with z | z
   ·exact z
   ·rw[z] at F;cases F
  obtain⟨c,t⟩:=I.ok.has x (.inl F);obtain⟨U,z⟩:=I.cell x c t;refine wpAny_storeName_cell I.ok.kind F t z (λh' S f=>?_);obtain⟨oc,N,O⟩:=id z;refine h { s with heap:=h' } ⟨I.ok,I.os,I.bare,⟨λb o e n G w=>?_,λb o e n G w=>?_,I.base.free,λb o e w=>?_,I.base.tups,I.base.frzs,I.base.tbls⟩,⟨m,hn.sameBut f (bO (cne x c t)),λj y v' g C e3=>?_⟩,λy W e=>?_,I.free,I.freeC,λp Z=>?_,l ⟨oc,N,I.freeC x c t⟩ f,by simpa using I.len⟩ ⟨c,f,.inr t⟩
  ·exact(f.2 b (bG (az (aV e) (I.ok.cab x c L t)))).trans (I.base.keep b o e n G w)
  ·obtain⟨sl,g⟩:=I.base.slot b o e n G w;exact⟨sl,(f.2 b (bG (az (aV e) (I.ok.cab x c L t)))).trans g⟩
  ·obtain⟨o',g⟩:=I.base.there b o e w;exact⟨o',(f.2 b (bG (az (aV e) (I.ok.cab x c L t)))).trans g⟩
  ·by_cases J:j=i
   ·subst J;rw[T] at g;cases g;rw[jF D] at C;cases C;exact⟨u,r,.inr ⟨.inl F,c,t,S⟩⟩
   ·rw[jf (bO J)] at C;obtain⟨u',r',q⟩:=hl j y v' g C e3;refine⟨u',r',?_⟩;rcases q with q | ⟨k,W,e,z'⟩
    ·exact .inl q
    ·refine .inr ⟨k,W,e,z'.sameBut f ?_⟩;rintro rfl;exact J (LO hN g (I.ok.inj _ _ _ e t▸T))
  ·by_cases P:W=c
   ·subst P;exact⟨_,S⟩
   ·obtain⟨w2,z2⟩:=I.cell y W e;exact⟨w2,z2.sameBut f P⟩
  ·obtain⟨e,n,ne,nf,d⟩:=I.pin p Z;refine⟨(f.2 p.1 ?_).trans e,n,ne,nf,d⟩;intro q;rw[q,N] at e;have q':oc=p.2:=bJ e;exact d U (by rw[<-q'];exact O)
theorem Tz{M:Model}{A:ba}{E:aI->aM->Prop}{i:Nat}{x:ay}{v:V}{u:aI}{Q:Unit->aM->Prop}(I:Inv X m3 σ H s)(c:X.N.Nodup)(e:X.N[i]?=ax x)(f:Ew X.env.scope x)(r:RelV v u)
  (h:∀a,Inv X m3 (σ.set i (ax v)) H a->Q () a) (b:X.fn x=aC\/X.env.scope.names.lookup x=ax .local:=by first | exact .inl rfl | exact .inr rfl | assumption):aw M A (storeName X.env x u) Q E s:=
 GU I c e f r (λa d _=>h a d) b
theorem Inv.call'{a:aM}{ch:List aL}(I:Inv X m3 σ H s)(g:a.os=s.os)(u:Un (N3 X.stack) ch H H' s.heap a.heap)(f:HOk X.prog X.w H' a.heap)(h:jE a.gens)
  (d:∀b∈ch,(b∈X.ex\/X.s₀.heap.objs.size<=b)/\b≠X.env.locals/\(∀x c,X.env.cells.lookup x=ax c->c≠b)/\∀p∈X.pn++m3,p.1≠b):Inv X m3 σ H' a:=by
 obtain⟨h',j,i,t',k⟩:=a;have e:=g;subst e;exact I.call u f h d
end
abbrev XK:=aI->Option aL->Hp->Prop
abbrev St:=List (Option V)
abbrev VK:=V->Hp->Prop
abbrev TE:=St->Hp->VK->Prop
abbrev TT:=St->Hp->(Bool->Hp->Prop)->Prop
abbrev TA:=St->Hp->(List V->Hp->Prop)->Prop
structure YW where
 nx:St->Hp->Prop
 rt:VK
 bk:St->Hp->Prop:=λ_ _=>False
 ct:St->Hp->Prop:=λ_ _=>False
abbrev TS:=YW->St->Hp->Prop
noncomputable def EP(X:Cx)(m3:List (aL×dI))(σ:St)(Q:VK)(u:aI)(s':aM):Prop:=∃v H',Inv X m3 σ H' s'/\RelV v u/\Q v H'
noncomputable def TP(X:Cx)(m3:List (aL×dI))(σ:St)(Q:Bool->Hp->Prop)(b:Bool)(s':aM):Prop:=∃H',Inv X m3 σ H' s'/\Q b H'
noncomputable def AP(X:Cx)(m3:List (aL×dI))(σ:St)(Q:List V->Hp->Prop)(us:List aI)(s':aM):Prop:=∃vs H',Inv X m3 σ H' s'/\Vals vs us/\Q vs H'
noncomputable def SP(X:Cx)(m3:List (aL×dI))(D:YW)(f:Flow)(s':aM):Prop:=
 match f with
 | .next=>∃σ' H',Inv X m3 σ' H' s'/\D.nx σ' H'
 | .brk=>∃σ' H',Inv X m3 σ' H' s'/\D.bk σ' H'
 | .cont=>∃σ' H',Inv X m3 σ' H' s'/\D.ct σ' H'
 | .ret u=>∃v σ' H',Inv X m3 σ' H' s'/\RelV v u/\D.rt v H'
noncomputable def PE(X:Cx)(e:bH)(t:TE):Prop:=
 ∀(m3:List (aL×dI))(s:aM)(σ:St)(H:Hp)(Q:VK),Inv X m3 σ H s->t σ H Q->aw (model X.prog X.w) X.A (eval e X.env) (EP X m3 σ Q) X.xe s
noncomputable def PT(X:Cx)(e:bH)(t:TT):Prop:=
 ∀(m3:List (aL×dI))(s:aM)(σ:St)(H:Hp)(Q:Bool->Hp->Prop),Inv X m3 σ H s->t σ H Q->aw (model X.prog X.w) X.A (kO e X.env (eval e X.env)) (TP X m3 σ Q) X.xe s
noncomputable def PW(X:Cx)(e:bH)(t:TT):Prop:=
 ∀(whole:Sem aI)(m3:List (aL×dI))(s:aM)(σ:St)(H:Hp)(Q:Bool->Hp->Prop),Inv X m3 σ H s->t σ H Q->aw (model X.prog X.w) X.A (kO e X.env whole) (TP X m3 σ Q) X.xe s
theorem PW.pt{X:Cx}{e:bH}{t:TT}(h:PW X e t):PT X e t:=h _
noncomputable def PA(X:Cx)(es:List bH)(t:TA):Prop:=
 ∀(pos:dz)(m3:List (aL×dI))(s:aM)(σ:St)(H:Hp)(Q:List V->Hp->Prop),Inv X m3 σ H s->t σ H Q->aw (model X.prog X.w) X.A (spliced (dX pos (aR es X.env))) (AP X m3 σ Q) X.xe s
noncomputable def PS(X:Cx)(st:bp)(t:TS):Prop:=
 ∀(m3:List (aL×dI))(s:aM)(σ:St)(H:Hp)(D:YW),Inv X m3 σ H s->t D σ H->aw (model X.prog X.w) X.A (exec st X.env) (SP X m3 D) X.xe s
noncomputable def PSs(X:Cx)(st:List bp)(t:TS):Prop:=
 ∀(m3:List (aL×dI))(s:aM)(σ:St)(H:Hp)(D:YW),Inv X m3 σ H s->t D σ H->aw (model X.prog X.w) X.A (execs st X.env) (SP X m3 D) X.xe s
theorem Yl{c:Type}{t:Sem c}{Q b:c->aM->Prop}{M:Model}{A:ba}{E:aI->aM->Prop}{s:aM}(h:aw M A t Q E s)(d:∀a s,Q a s->b a s):aw M A t b E s:=cB h d λ_ _ x=>x
section
variable {X:Cx}
theorem bin{a b:bH}{l m:TE}(z:PE X a l)(t:PE X b m){i:List (aL×dI)}{s:aM}{c:St}{H:Hp}{R:V->V->Hp->Prop}(I:Inv X i c H s)(h:l c H λx j=>m c j λy d=>R x y d)
  {k:Type} {Q:k->aM->Prop} {f:aI->aI->Sem k}
  (n:∀v u s2 x y d,Inv X i c d s2->RelV x v->RelV y u->R x y d->aw (model X.prog X.w) X.A (f v u) Q X.xe s2) :
  aw (model X.prog X.w) X.A (eval a X.env) (λv e=>aw (model X.prog X.w) X.A (eval b X.env) (λu g=>aw (model X.prog X.w) X.A (f v u) Q X.xe g) X.xe e) X.xe s:=by
 refine Yl (z i s c H _ I h) λv s1 ⟨x,j,A,o,p⟩=>?_;refine Yl (t i s1 c j _ A p) λu s2 ⟨y,d,q,B,w⟩=>?_;exact n v u s2 x y d q o B w
noncomputable def QM(i:Nat):TE:=λσ H Q=>∃v,σ[i]?=ax (ax v)/\Q v H
noncomputable def tC(v:V):TE:=λ_ H Q=>Q v H
theorem Ex{i:Nat}{x:ay}{pos:dz}(k:X.N[i]?=ax x)(j:Vis X.env.scope x)(hd:(x==("__debug__" : ay))=aB:=by decide)(f:(x==("__classdict__" : ay))=aB:=by decide):PE X (.Name x pos) (QM i):=by
 intro n s o H Q I h;obtain⟨v,e,h⟩:=h;obtain⟨m,q,p⟩:=I.loc;obtain⟨u,r,l⟩:=p i x v k e j;have b:EP X n o Q u s:=⟨v,H,I,r,h⟩;rcases l with⟨d,t⟩ | ⟨d,c,g,a⟩
 ·exact l8 (jg I.ok.kind d q t b) hd
 ·rcases d with d | d
  ·exact l8 (kC I.ok.kind d g a b) hd
  ·exact l8 (wpAny_loadName_free I.ok.kind d g a b f) hd
theorem Zb5{i j pos}:PE X (.Constant (.int i) j pos) (tC (.int i)):=λ_ _ _ H _ I h=>wpAny_Constant_int ⟨.int i,H,I.tok _,⟨_,rfl⟩,h⟩
theorem Zfj{b j pos}:PE X (.Constant (.bool b) j pos) (tC (.bl b)):=λ_ _ _ H _ I h=>Constant_bool ⟨.bl b,H,I,rfl,h⟩
theorem Zb6{j pos}:PE X (.Constant .none j pos) (tC .non):=λ_ _ _ H _ I h=>Constant_none ⟨.non,H,I,rfl,h⟩
noncomputable def Gl(X:Cx)(x:ay):Prop:=X.env.kindOf x=ax .globalImplicit
theorem N4{E:aI->aM->Prop}{a:List (aL×dI)}{s:aM}{d:St}{H:Hp}{x:ay}{u:aI}{pos:dz}{Q:aI->aM->Prop}(I:Inv X a d H s)(b:Gl X x)(c:X.mg x=ax u)(h:Q u s)
  (hd:(x==("__debug__" : ay))=aB:=by decide):aw (model X.prog X.w) X.A (eval (.Name x pos) X.env) Q E s:=
 gy I.ok.kind b (Calls.loadGlobal_global (by rw[I.ok.glob];exact I.mod.glob.keeps I.bk) c h) hd
theorem Vj{E:aI->aM->Prop}{b:List (aL×dI)}{s:aM}{c:St}{H:Hp}{x:ay}{u:aI}{pos:dz}{Q:aI->aM->Prop}(I:Inv X b c H s)(g:Gl X x)(f:X.mg x=aA)(a:c9 x=ax u)(h:Q u s)
  (e:x≠"__name__":=by decide) (hd:(x==("__debug__" : ay))=aB:=by decide):aw (model X.prog X.w) X.A (eval (.Name x pos) X.env) Q E s:=by
 obtain⟨j,i,d⟩:=I.mod.blt;exact gy I.ok.kind g (Calls.loadGlobal_builtin (by rw[I.ok.glob];exact I.mod.glob.keeps I.bk) f (by rw[I.ok.blt];exact i.keeps I.bk) ((d x e).trans a) h) hd
theorem BB{x:ay}{v:V}{u:aI}{pos:dz}(b:Gl X x)(a:X.mg x=ax u)(r:RelV v u)(hd:(x==("__debug__" : ay))=aB:=by decide):PE X (.Name x pos) (tC v):=
 λ_ _ _ H _ I h=>N4 I b a ⟨v,H,I,r,h⟩ hd
theorem BC{x:ay}{v:V}{u:aI}{pos:dz}(d:Gl X x)(c:X.mg x=aA)(b:c9 x=ax u)(r:RelV v u)(a:x≠"__name__":=by decide)(hd:(x==("__debug__" : ay))=aB:=by decide):PE X (.Name x pos) (tC v):=
 λ_ _ _ H _ I h=>Vj I d c b ⟨v,H,I,r,h⟩ a hd
variable {a b:bH} {ta tb:TE} {pos:dz}
noncomputable def PC(X:Cx)(op:l9)(a b:bH)(t:TE):Prop:=
 ∀(m3:List (aL×dI))(s:aM)(σ:St)(H:Hp)(Q:VK),Inv X m3 σ H s->t σ H Q->
  aw (model X.prog X.w) X.A (eval a X.env) (λv s₁=>aw (model X.prog X.w) X.A (eval b X.env) (λu s₂=>aw (model X.prog X.w) X.A (dY op v u) (EP X m3 σ Q) X.xe s₂) X.xe s₁) X.xe s
theorem Ey(b:bH){op:l9}(h:op≠.In)(d:op≠.NotIn):cJ op b=aB:=by
 have c:(op==l9.In)=aB:=by cases op<;>first | rfl | exact absurd rfl h
 have a:(op==l9.NotIn)=aB:=by cases op<;>first | rfl | exact absurd rfl d
 cases b<;>simp[cJ,c,a]
noncomputable def Za1(ta:TE):TE:=λσ H Q=>ta σ H λx H1=>Q (.bl (!decide (x = .non))) H1
theorem RelV.none_iff{x:V}{v:aI}(r:RelV x v):(v==dP)=decide (x = .non):=by
 cases x with
 | non=>cases r;rfl
 | bl _=>cases r;rfl
 | int _=>obtain⟨t,rfl⟩:=r;rfl
 | str _=>obtain⟨t,rfl⟩:=r;rfl
 | byt _=>obtain⟨t,rfl⟩:=r;rfl
 | flt _=>obtain⟨t,rfl⟩:=r;rfl
 | ref _=>cases r;rfl
 | ty _=>cases r;rfl
theorem BD{j pos'}(g:PE X a ta):PC X .IsNot a (.Constant .none j pos') (Za1 ta):=by intro b s d H Q I h;refine Yl (g b s d H _ I h) λv s1 ⟨x,f,c,e,i⟩=>?_;exact Constant_none (isnot_none_gen ⟨.bl _,f,c,by rw[e.none_iff];rfl,i⟩)
noncomputable def tB(t:TE):TT:=λσ H Q=>t σ H λx H1=>∃c,x = .bl c/\Q c H1
theorem Jr{op:l9}{t:TE}(h:PC X op a b t)(e:cJ op b=aB:=by first | exact Ey _ (by decide) (by decide) | rfl):PT X (.Compare a [op] [b] pos) (tB t):=by intro j s k H Q I m;refine ja (Yl (h j s k H _ I m) λv s1 e=>Yl e λu s2 l=>Yl l λc o ⟨x,g,n,f,i⟩=>?_) e;obtain⟨d,rfl,q⟩:=i;cases f;exact dS ⟨g,n,q⟩
theorem Zb7{e:bH}{t:TE}(h:PE X e t)(i:∀whole,kO e X.env whole=(do let v <-whole;lZ e.pos;holding [v] (truthy v)):=by intro _;rfl):PT X e (tB t):=by intro f s g H Q I j;refine isTrue_plain (Yl (h f s g H _ I j) λv s1 ⟨x,b,k,a,c⟩=>?_) (i _);obtain⟨d,rfl,q⟩:=c;cases a;exact dS ⟨b,k,q⟩
variable {tA tB':TT} {Yj:List bH}
noncomputable def Zfk(t u:TT):TT:=λσ H Q=>t σ H λc H1=>if c=aC then u σ H1 Q else Q aB H1
noncomputable def tOr(t u:TT):TT:=λσ H Q=>t σ H λc H1=>if c=aC then Q aC H1 else u σ H1 Q
noncomputable def Zh2(t:TT):TT:=λσ H Q=>t σ H λc H1=>Q (!c) H1
theorem BE(f:PT X a tA):PW X (.BoolOp .And [a] pos) tA:=by
 intro g b s d H Q I h;refine isTrue_and (Yl (f b s d H Q I h) λc s1 e=>?_)
 cases c with
 | true=>exact isTrue_and_nil e
 | false=>exact e
theorem Zb8(f:PT X a tA):PW X (.BoolOp .Or [a] pos) tA:=by
 intro g b s d H Q I h;refine isTrue_or (Yl (f b s d H Q I h) λc s1 e=>?_)
 cases c with
 | false=>exact isTrue_or_nil e
 | true=>exact e
theorem Zb9(k:PT X a tA)(l:PW X (.BoolOp .And (b::Yj) pos) tB'):PW X (.BoolOp .And (a::b::Yj) pos) (Zfk tA tB'):=by
 intro j d s f H Q I h;refine isTrue_and (Yl (k d s f H _ I h) λc s1 ⟨g,e,i⟩=>?_)
 cases c with
 | true=>exact l j d s1 f g Q e i
 | false=>exact⟨g,e,i⟩
theorem Zfl(k:PT X a tA)(l:PW X (.BoolOp .Or (b::Yj) pos) tB'):PW X (.BoolOp .Or (a::b::Yj) pos) (tOr tA tB'):=by
 intro j d s f H Q I h;refine isTrue_or (Yl (k d s f H _ I h) λc s1 ⟨g,e,i⟩=>?_)
 cases c with
 | true=>exact⟨g,e,i⟩
 | false=>exact l j d s1 f g Q e i
theorem Zca(f:PT X a tA):PT X (.UnaryOp .Not a pos) (Zh2 tA):=by intro b s d H Q I h;exact isTrue_not (f b s d H (λc e=>Q (!c) e) I h)
noncomputable def Zfm(ta tb:TE):TE:=λσ H Q=>ta σ H λx H1=>∃c,x = .bl c/\if c=aC then tb σ H1 Q else Q (.bl aB) H1
noncomputable def Zfn(ta:TE):TE:=λσ H Q=>ta σ H λx H1=>∃c,x = .bl c/\Q (.bl (!c)) H1
theorem Zcb{op}{t:TE}(h:PE X a t):PE X (.BoolOp op [a] pos) t:=λb s c H Q I d=>BoolOp_one (h b s c H Q I d)
theorem Zcc(k:PE X a ta)(l:PE X (.BoolOp .And (b::Yj) pos) tb):PE X (.BoolOp .And (a::b::Yj) pos) (Zfm ta tb):=by
 intro e s g H Q I h;refine BoolOp_and (Yl (k e s g H _ I h) λv s1 ⟨x,i,f,j,d⟩=>?_);obtain⟨c,rfl,d⟩:=d;cases j;refine dS ?_
 cases c with
 | true=>exact l e s1 g i Q f d
 | false=>exact⟨.bl aB,i,f,rfl,d⟩
theorem Zcd(j:PE X a ta):PE X (.UnaryOp .Not a pos) (Zfn ta):=by intro d s f H Q I h;refine UnaryOp_ (Yl (j d s f H _ I h) λv s1 ⟨x,i,e,g,b⟩=>?_);obtain⟨c,rfl,b⟩:=b;cases g;exact not_of (dS ⟨.bl (!c),i,e,rfl,b⟩)
noncomputable def tIf(t:TT)(ta tb:TE):TE:=λσ H Q=>t σ H λc H1=>if c=aC then ta σ H1 Q else tb σ H1 Q
theorem Ez{c:bH}(l:PT X c tA)(k:PE X a ta)(m:PE X b tb):PE X (.IfExp c a b pos) (tIf tA ta tb):=by
 intro e s f H Q I h;refine wpAny_IfExp (Yl (l e s f H _ I h) λd s1 ⟨i,g,j⟩=>?_)
 cases d with
 | true=>exact k e s1 f i Q g j
 | false=>exact m e s1 f i Q g j
end
noncomputable def SqL(K:aF)(H:Hp)(a:aL)(xs:List V):Prop:=
 Rd H a (.lst xs)\/
  ∃(o:dI) (m6:Array aI) (n:Nat),K.lookup a=ax o/\o.cls = .type "list"/\o.dict=aA/\o.data = .seq m6 n/\m6.size<=sizeLine/\Vals xs m6.toList
noncomputable def SqT(K:aF)(H:Hp)(a:aL)(xs:List V):Prop:=
 Rd H a (.tup xs)\/
  ∃(o:dI) (m6:Array aI) (n:Nat),K.lookup a=ax o/\o.cls = .type "tuple"/\o.data = .seq m6 n/\m6.size<=sizeLine/\Vals xs m6.toList
noncomputable def Zh3:aI->Option V
 | .none=>ax .non
 | .bool b=>ax (.bl b)
 | .int i _=>ax (.int i)
 | .str x _=>ax (.str x)
 | .bytes b _=>ax (.byt b)
 | .float b _=>ax (.flt b)
 | .ref a=>ax (.ref a)
 | .type n=>ax (.ty n)
 | _=>aA
theorem RelV.abs{x:V}{u:aI}(r:RelV x u):Zh3 u=ax x:=by
 cases x with
 | non=>cases r;rfl
 | bl _=>cases r;rfl
 | int _=>obtain⟨t,rfl⟩:=r;rfl
 | str _=>obtain⟨t,rfl⟩:=r;rfl
 | byt _=>obtain⟨t,rfl⟩:=r;rfl
 | flt _=>obtain⟨t,rfl⟩:=r;rfl
 | ref _=>cases r;rfl
 | ty _=>cases r;rfl
theorem RelV.inj{x y:V}{u:aI}(r:RelV x u)(q:RelV y u):x=y:=bJ (r.abs.symm.trans q.abs)
theorem Vals.inj:∀{xs ys:List V}{us:List aI},Vals xs us->Vals ys us->xs=ys
 | _,_,_,.nil,.nil=>rfl
 | _,_,_,.cons r t,.cons r' t'=>by rw[r.inj r',Vals.inj t t']
section
variable {X:Cx} {m3:List (aL×dI)} {σ:St} {H:Hp} {s:aM} {a:aL} {xs ys:List V}
theorem SqL.of{K:aF}(h:H a=ax (.lst xs)):SqL K H a xs:=.inl (.inl h)
theorem SqT.of{K:aF}(h:H a=ax (.tup xs)):SqT K H a xs:=.inl (.inl h)
theorem Inv.list(I:Inv X m3 σ H s)(h:SqL X.K H a xs):∃b:List aI,Vals xs b/\PlainL s.heap a b.toArray/\xs.length<=sizeLine:=by
 rcases h with h | ⟨o,b,n,c,d,hd,f,g,r⟩
 ·obtain⟨z,b,n,r,e⟩:=h.ok I.hok;exact⟨b,r,⟨_,n,e,rfl,rfl,rfl⟩,z⟩
 ·refine⟨b.toList,r,⟨o,n,I.kIn a o c,d,hd,by simpa using f⟩,?_⟩;have e:=r.length;simp only[cA] at e;omega
theorem Inv.tuple(I:Inv X m3 σ H s)(h:SqT X.K H a xs):∃b:List aI,Vals xs b/\l6 s.heap a b.toArray/\xs.length<=sizeLine:=by
 rcases h with h | ⟨o,b,n,c,d,f,g,r⟩
 ·obtain⟨z,b,r,p⟩:=h.ok I.hok;exact⟨b,r,p,z.1⟩
 ·refine⟨b.toList,r,⟨o,I.kIn a o c,d,n,by simpa using f⟩,?_⟩;have e:=r.length;simp only[cA] at e;omega
theorem Inv.list_inj(I:Inv X m3 σ H s)(h:SqL X.K H a xs)(h':SqL X.K H a ys):xs=ys:=by
 obtain⟨i,r,⟨o,n,e,_,_,d⟩,_⟩:=I.list h;obtain⟨b,g,⟨j,k,f,_,_,c⟩,_⟩:=I.list h';rw[e] at f;cases f;rw[d] at c;injection c with d1 _
 have:i=b:=by simpa using congrArg mR d1
 subst this;exact r.inj g
theorem Inv.tuple_inj(I:Inv X m3 σ H s)(h:SqT X.K H a xs)(h':SqT X.K H a ys):xs=ys:=by
 obtain⟨i,r,⟨o,e,_,n,d⟩,_⟩:=I.tuple h;obtain⟨b,g,⟨j,f,_,k,c⟩,_⟩:=I.tuple h';rw[e] at f;cases f;rw[d] at c;injection c with d1 _
 have:i=b:=by simpa using congrArg mR d1
 subst this;exact r.inj g
end
abbrev Cx.wish(X:Cx)(E:aI->aM->Prop):Cx:={ X with xe:=E }
abbrev Cx.nox(X:Cx):Cx:=X.wish λ_ _=>False
theorem Cx.Ok.wish{X:Cx}(ok:X.Ok)(E:aI->aM->Prop):(X.wish E).Ok:=
 ⟨ok.mod,ok.kind,ok.glob,ok.blt,ok.above,ok.inj,ok.has,ok.cab,ok.hd,ok.frames,ok.stk,ok.exf,ok.bs,ok.bsz,ok.noex,ok.exfs,ok.funs,ok.frf,ok.tab,ok.cod⟩
theorem Cx.Ok.unwish{X:Cx}{E:aI->aM->Prop}(ok:(X.wish E).Ok):X.Ok:=
 ⟨ok.mod,ok.kind,ok.glob,ok.blt,ok.above,ok.inj,ok.has,ok.cab,ok.hd,ok.frames,ok.stk,ok.exf,ok.bs,ok.bsz,ok.noex,ok.exfs,ok.funs,ok.frf,ok.tab,ok.cod⟩
section
variable {X:Cx} {m3:List (aL×dI)} {σ:St} {H:Hp} {s:aM} {E:aI->aM->Prop}
theorem Inv.wish(I:Inv X m3 σ H s)(E:aI->aM->Prop):Inv (X.wish E) m3 σ H s:=⟨I.ok.wish E,I.os,I.bare,I.base,I.loc,I.cell,I.free,I.freeC,I.pin,I.hok,I.len⟩
theorem Inv.unwish(I:Inv (X.wish E) m3 σ H s):Inv X m3 σ H s:=⟨I.ok.unwish,I.os,I.bare,I.base,I.loc,I.cell,I.free,I.freeC,I.pin,I.hok,I.len⟩
theorem SP.unwish{D:YW}{f:Flow}{c:aM}(h:SP (X.wish E) m3 D f c):SP X m3 D f c:=by
 cases f with
 | next=>obtain⟨a,b,I,q⟩:=h;exact⟨a,b,I.unwish,q⟩
 | brk=>obtain⟨a,b,I,q⟩:=h;exact⟨a,b,I.unwish,q⟩
 | cont=>obtain⟨a,b,I,q⟩:=h;exact⟨a,b,I.unwish,q⟩
 | ret u=>obtain⟨v,a,b,I,r,q⟩:=h;exact⟨v,a,b,I.unwish,r,q⟩
theorem PSs.nox{st:List bp}{t:TS}(h:PSs X.nox st t):PSs X st t:=λa s b H D I c=>
 cB (h a s b H D (I.wish _) c) (λ_ _ q=>q.unwish) λ_ _ z=>cg z
end
section
variable {X:Cx} {st:bp} {Yj:List bp} {t u:TS} {e:bH} {te:TE} {pos:dz}
noncomputable def Za2:TS:=λD σ H=>D.nx σ H
noncomputable def Zh4(t u:TS):TS:=λD σ H=>t { D with nx:=u D } σ H
theorem BF:PSs X [] Za2:=λ_ _ a H _ I h=>g7 ⟨a,H,I,h⟩
theorem LP(i:PS X st t)(e:PSs X Yj u):PSs X (st::Yj) (Zh4 t u):=by
 intro b s c H D I h;refine wpAny_execs_cons (Yl (i b s c H { D with nx:=u D } I h) λf s1 q=>?_)
 cases f with
 | next=>
  obtain⟨a,g,d,q⟩:=q;exact e b s1 a g D d q
 | ret v=>exact q
 | brk=>exact q
 | cont=>exact q
theorem BG(c:PS X st t):PSs X [st] t:=by
 intro a s b H D I h;refine wpAny_execs_cons (Yl (c a s b H D I h) λf s1 q=>?_)
 cases f with
 | next=>exact g7 q
 | ret v=>exact q
 | brk=>exact q
 | cont=>exact q
theorem Inv.quiet{a:List (aL×dI)}{b:St}{H:Hp}{s:aM}(I:Inv X a b H s):interactive X.env=aB:=by simp[interactive,I.ok.kind]
noncomputable def Hh(te:TE):TS:=λD σ H=>te σ H λ_ H1=>D.nx σ H1
theorem Y0(g:PE X e te)(f:fu e aA pos.line X.env=pure aB:=by rfl):PS X (.Expr e pos) (Hh te):=by intro b s a H D I h;exact wpAny_Expr_any (Yl (g b s a H _ I h) λv s1 ⟨x,d,c,j,i⟩=>⟨a,d,c,i⟩) I.quiet f
noncomputable def Zh5(te:TE):TS:=λD σ H=>te σ H D.rt
theorem Js(g:PE X e te):PS X (.Return (ax e) pos) (Zh5 te):=by intro b s a H D I h;exact wpAny_Return_some (Yl (g b s a H _ I h) λv s1 ⟨x,f,c,d,i⟩=>⟨x,a,f,c,d,i⟩)
noncomputable def Zh6(c:TT)(t u:TS):TS:=λD σ H=>c σ H λb H1=>if b=aC then t D σ H1 else u D σ H1
theorem Zfo{c:bH}{a b:List bp}{g:TT}(m:PT X c g)(n:PSs X a t)(l:PSs X b u):PS X (.If c a b pos) (Zh6 g t u):=by
 intro e s f H D I h;refine wpAny_If (Yl (m e s f H _ I h) λd s1 ⟨i,k,j⟩=>?_)
 cases d with
 | true=>exact n e s1 f i D k j
 | false=>exact l e s1 f i D k j
end
abbrev TG:=V->St->Hp->(St->Hp->Prop)->Prop
abbrev TGs:=List V->St->Hp->(St->Hp->Prop)->Prop
noncomputable def PG(X:Cx)(target:bH)(t:TG):Prop:=
 ∀(m3:List (aL×dI))(s:aM)(σ:St)(H:Hp)(v:V)(u:aI)(Q:St->Hp->Prop),Inv X m3 σ H s->RelV v u->t v σ H Q->
  aw (model X.prog X.w) X.A (assign target X.env u) (λ_ s'=>∃σ' H',Inv X m3 σ' H' s'/\Q σ' H') X.xe s
noncomputable def PGs(X:Cx)(ts:List bH)(t:TGs):Prop:=
 ∀(m3:List (aL×dI))(s:aM)(σ:St)(H:Hp)(vs:List V)(us:List aI)(Q:St->Hp->Prop),Inv X m3 σ H s->Vals vs us->t vs σ H Q->
  aw (model X.prog X.w) X.A (assignInOrder ((gz ts X.env).map (·.2)) us) (λ_ s'=>∃σ' H',Inv X m3 σ' H' s'/\Q σ' H') X.xe s
abbrev Zce:=V->V->V->Hp->(Hp->Prop)->Prop
noncomputable def Zfp(X:Cx)(t:Zce):Prop:=
 ∀(m3:List (aL×dI))(s:aM)(σ:St)(H:Hp)(o i v:V)(ov iv u:aI)(Q:Hp->Prop),Inv X m3 σ H s->RelV o ov->RelV i iv->RelV v u->t o i v H Q->
  aw (model X.prog X.w) X.A (setItem ov iv u) (λ_ s'=>∃H',Inv X m3 σ H' s'/\Q H') X.xe s
abbrev TIp:=V->V->Hp->VK->Prop
noncomputable def PIp(X:Cx)(op:la)(t:TIp):Prop:=
 ∀(m3:List (aL×dI))(s:aM)(σ:St)(H:Hp)(x y:V)(v u:aI)(Q:VK),Inv X m3 σ H s->RelV x v->RelV y u->t x y H Q->
  aw (model X.prog X.w) X.A (inplaceOp op v u) (EP X m3 σ Q) X.xe s
section
variable {X:Cx} {pos:dz}
noncomputable def TB(i:Nat):TG:=λv σ H Q=>Q (σ.set i (ax v)) H
theorem Qk{i:Nat}{x:ay}(b:X.N.Nodup)(e:X.N[i]?=ax x)(d:Ew X.env.scope x)(a:X.fn x=aC\/X.env.scope.names.lookup x=ax .local:=by first | exact .inl rfl | exact .inr rfl | assumption):PG X (.Name x pos) (TB i):=by intro f s g H v u Q I r h;exact wpAny_assign_Name (Tz I b e d r (λj c=>⟨_,H,c,h⟩) a)
noncomputable def Zfq:TGs:=λvs σ H Q=>vs=[]/\Q σ H
noncomputable def Za4(t:TG)(u:TGs):TGs:=λvs σ H Q=>∃v r,vs=v::r/\t v σ H λσ' H'=>u r σ' H' Q
theorem Z3:PGs X [] Zfq:=by intro b s a H vs c Q I r h;obtain⟨e,h⟩:=h;subst e;cases r;exact assignInOrder_nil ⟨a,H,I,h⟩
theorem Zt{e:bH}{a:List bH}{t:TG}{u:TGs}(m:PG X e t)(j:PGs X a u)
  (k:(gz (e::a) X.env).map (·.2)=assign e X.env::(gz a X.env).map (·.2):=by rfl):PGs X (e::a) (Za4 t u):=by
 intro c s i H vs o Q I r h;obtain⟨v,n,f,h⟩:=h;subst f
 cases r with
 | cons r rr=>
  rw[k];refine assignInOrder_cons (Yl (m c s i H _ _ _ I r h) λ_ s1 ⟨b,d,l,g⟩=>?_);exact j c s1 b d _ _ Q l rr g
noncomputable def Zfr(K:aF)(n:Nat)(t:TGs):TG:=λv σ H Q=>∃a xs,v = .ref a/\SqT K H a xs/\xs.length=n/\t xs σ H Q
theorem Ys{c:List bH}{k:Nat}{t:TGs}{n:Nat}(q:X.calm=aC)(h:PGs X c t)
  (w:(gz c X.env).length=n:=by rfl) (d:(gz c X.env).findIdx? (·.1)=aA:=by rfl):PG X (.Tuple c k pos) (Zfr X.K n t):=by
 intro j s m H v u Q I r f;obtain⟨a,xs,i,z,p,f⟩:=f;subst i;cases r;obtain⟨B,g,l,A⟩:=I.tuple z;refine assign_Tuple_tuple (I.ok.hd q) l (by simp[w,<-p,g.length]) d λh' x=>?_;have y:=I.kept (t':=s.toks) λb o e=>x b o (bG (aV e)) e;exact h j _ m H xs _ Q y (by simpa using g) f
noncomputable def Zcf(to ti:TE)(t:Zce):TG:=λv σ H Q=>to σ H λo H1=>ti σ H1 λi H2=>t o i v H2 λH3=>Q σ H3
theorem Sx{o i:bH}{e f:TE}{t:Zce}(C:PE X o e)(q:PE X i f)(w:Zfp X t)
  (F:∀v,assign (.Subscript o i pos) X.env v=(do
   let a <-holding [v] (eval o X.env);let b <-holding [v,a] (eval i X.env)
   lZ pos
   holding [v,a,b] (setItem a b v)
   release [v,a,b] []):=by intro _;rfl):PG X (.Subscript o i pos) (Zcf e f t):=by
 intro d s c H v u Q I r h;refine aE (eB (Yl (C d s c H _ I h) λa s1 ⟨x,j,B,g,k⟩=>?_));refine aE (eB (Yl (q d s1 c j _ B k) λb s2 ⟨y,z,l,D,m⟩=>?_));refine aE (kG (aE (eB (Yl (w d s2 c z x y v a b u _ l g D r m) λ_ E ⟨n,A,p⟩=>?_))));exact wpAny_release ⟨c,n,A,p⟩
noncomputable def Jt(te:TE)(g:TG):TS:=λD σ H=>te σ H λx H1=>g x σ H1 D.nx
theorem Sy{a e:bH}{d:TE}{g:TG}(m:PE X e d)(j:PG X a g)(l:swapsWithSole [a] e pos.line X.env=pure aB:=by rfl)(n:swappedStores [a] e X.env=pure aA:=by rfl)
  (p:(gz [a] X.env).map (·.2)=[assign a X.env]:=by rfl):PS X (.Assign [a] e pos) (Jt d g):=by
 intro b s c H D I h;refine wpAny_Assign_stores (Yl (m b s c H _ I h) λv s1 ⟨x,i,o,f,k⟩=>?_) l n;rw[p];exact Yl (j b s1 c i x v _ o f k) λ_ s2 q=>q
theorem Zcg{i:Nat}{x:ay}{e:bH}{a:TE}{pos':dz}(f:X.N.Nodup)(m:X.N[i]?=ax x)(n:Ew X.env.scope x)(p:PE X e a)(o:fu e (ax (.Name x pos')) pos.line X.env=pure aB:=by rfl)(b:X.fn x=aC\/X.env.scope.names.lookup x=ax .local:=by first | exact .inl rfl | exact .inr rfl | assumption) :
  PS X (.Assign [.Name x pos'] e pos) (Jt a (TB i)):=by
 intro k s l H D I h;refine wpAny_Assign_Name (Yl (p k s l H _ I h) λv s1 ⟨y,d,q,c,g⟩=>?_) o;exact Tz q f m n c (λs2 j=>⟨_,d,j,g⟩) b
noncomputable def Zfs(i:Nat)(te:TE)(ti:TIp):TS:=λD σ H=>∃x,σ[i]?=ax (ax x)/\te σ H λy H1=>ti x y H1 λz H2=>D.nx (σ.set i (ax z)) H2
theorem Zch{i:Nat}{x:ay}{e:bH}{q:TE}{op:la}{A:TIp}{pos':dz}(G:X.N.Nodup)(t:X.N[i]?=ax x)(n:Ew X.env.scope x)(R:PE X e q)(U:PIp X op A)(B:X.fn x=aC\/X.env.scope.names.lookup x=ax .local:=by first | exact .inl rfl | exact .inr rfl | assumption) :
  PS X (.AugAssign (.Name x pos') op e pos) (Zfs i q A):=by
 intro g s p H D I h;obtain⟨v,F,h⟩:=h;obtain⟨m,P,N⟩:=I.loc;have j:Vis X.env.scope x:=by rcases n with k | k;exact .inl k;exact .inr (.inl k)
 obtain⟨u,r,l⟩:=N i x v t F j;refine wpAny_AugAssign_Name ?_;have o:aw (model X.prog X.w) X.A (eval e X.env) (λw f=>aw (model X.prog X.w) X.A (inplaceOp op u w) (λr d=>aw (model X.prog X.w) X.A (storeName X.env x r) (λ_=>SP X g D .next) X.xe d) X.xe f) X.xe s:=by refine Yl (R g s p H _ I h) λw s1 ⟨y,E,T,C,J⟩=>?_;refine Yl (U g s1 p E v y u w _ T r C J) λz s2 ⟨Z,Q,L,W,M⟩=>?_;exact Tz L G t n W (λs3 S=>⟨_,Q,S,M⟩) B
 rcases l with⟨a,Y⟩ | ⟨a,c,O,b⟩
 ·exact jg I.ok.kind a P Y o
 ·rcases a with a | a
  ·exact kC I.ok.kind a O b o
  ·rcases n with k | k
   ·have:X.env.scope.names.lookup x=ax .free:=a;rw[k] at this;cases this
   ·have:X.env.scope.names.lookup x=ax .free:=a;rw[k] at this;cases this
noncomputable def ipI(f:Int->Int->Int):TIp:=λx y H Q=>∃i j,x = .int i/\y = .int j/\Q (.int (f i j)) H
theorem Zci:PIp X .Add (ipI λi j=>i+j):=by intro e s f H x y v u Q I a d h;obtain⟨i,j,b,c,q⟩:=h;subst b;subst c;obtain⟨t,rfl⟩:=a;obtain⟨t',rfl⟩:=d;exact iadd_int ⟨.int _,H,I.tok _,⟨_,rfl⟩,q⟩
end
section
variable {X:Cx} {pos:dz}
noncomputable def Zcj(c:TT)(tb:TS):TS:=λD σ H=>∃W:Nat->St->Hp->Prop,(∃m,W m σ H)/\∀m σ H,W m σ H->
 c σ H λb H1=>if b=aC then ∃N:St->Hp->Prop,(∀σ' H',N σ' H'->∃m',m'<m/\W m' σ' H')/\tb { D with nx:=N,ct:=N,bk:=D.nx } σ H1 else D.nx σ H1
theorem EA{c:bH}{e:List bp}{t:TT}{z:TS}(w:jz (model X.prog X.w) X.A X.env X.xe)(E:PT X c t)(B:PSs X e z):PS X (.While c e [] pos) (Zcj t z):=by
 intro l s C H D I h;obtain⟨W,⟨M,L⟩,turn⟩:=h;refine wpAny_While (codeAny_whileLoop (λn F=>∃σ' H',Inv X l σ' H' F/\W n σ' H') ?_ M ⟨C,H,I,L⟩);rintro n s1 ⟨d,u,J,G⟩;refine dm w (Yl (E l s1 d u _ J (turn n d u G)) λb s2 ⟨A,y,i⟩=>?_)
 cases b with
 | true=>
  obtain⟨N,x,i⟩:=i;refine dm w (Yl (B l s2 d A _ y i) λf O j=>?_)
  cases f with
  | next=>
   obtain⟨a,g,p,o⟩:=j;obtain⟨k,q,m⟩:=x a g o;exact⟨k,q,a,g,p,m⟩
  | cont=>
   obtain⟨a,g,p,o⟩:=j;obtain⟨k,q,m⟩:=x a g o;exact⟨k,q,a,g,p,m⟩
  | brk=>exact j
  | ret v=>exact j
 | false=>
  exact g7 ⟨d,A,y,i⟩
end
structure It where
 go:Nat->Hp->Prop
 yld:Nat->Hp->V->Hp->Prop
 stop:Nat->Hp->Prop
noncomputable def U2(X:Cx)(m3:List (aL×dI))(H:Hp)(b:aL):Prop:=
 H b=aA/\b≠X.env.locals/\b∉X.fs/\(b∈X.ex\/X.s₀.heap.objs.size<=b)/\(∀x c,X.env.cells.lookup x=ax c->c≠b)/\∀p∈X.pn++m3,p.1≠b
theorem Inv.fpOk{X:Cx}{d:List (aL×dI)}{g:St}{H f:Hp}{s:aM}{b:aL}(I:Inv X d g H s)(a:s.heap.objs.size<=b)(h:f b=aA):U2 X d f b:=by
 refine⟨h,fJ (az I.lt a),I.nofs a,.inr (bg I.sz a),λx c e z=>?_,λp i z=>?_⟩
 ·obtain⟨v,q⟩:=I.cell x c e;exact absurd (az q.lt (by rw[z];exact a)) (cI _)
 ·exact absurd (az (aV (I.pin p i).1) (by rw[z];exact a)) (cI _)
structure LQ(P:bB)(w:b8)(K:aF)(tg:bH)(J:It)(fp:List aL)(it:aL)(tn:Nat->bW->Prop):Prop where
 mem:it∈fp
 obj:∀i h,tn i h->∀b∈fp,∃o,h.get? b=ax o/\∀v,o.data≠.cell v
 keep:∀i h h',tn i h->(∀b∈fp,∀o,h.get? b=ax o->h'.get? b=ax o)->tn i h'
 item:∀(X:Cx),X.prog=P->X.w=w->X.K=K->X.calm=aC->∀(i:Nat)(m3:List (aL×dI))(s:aM)(σ:St)(H:Hp)(E:aI->aM->Prop),Inv X m3 σ H s->(∀b∈fp,U2 X m3 H b)->tn i s.heap->J.go i H->
  aw (model P w) X.A (jh (.ref it)) (λr s1=>∃u,r=ax u/\
   aw (model P w) X.A (jY tg (.ref it) u) (λ_ s2=>∃x H',Inv X m3 σ H' s2/\RelV x u/\J.yld i H x H'/\tn (i+1) s2.heap/\∀b∈fp,H' b=aA) E s1) E s
 done:∀(X:Cx),X.prog=P->X.w=w->X.K=K->X.calm=aC->∀(i:Nat)(m3:List (aL×dI))(s:aM)(σ:St)(H:Hp)(E:aI->aM->Prop),Inv X m3 σ H s->(∀b∈fp,U2 X m3 H b)->tn i s.heap->J.stop i H->
  aw (model P w) X.A (jh (.ref it)) (λr s1=>r=aA/\Inv X m3 σ H s1) E s
 self:∀(A:ba)(i:Nat)(s:aM)(Q:aI->aM->Prop)(E:aI->aM->Prop),tn i s.heap->Q (.ref it) s->aw (model P w) A (mS (.ref it)) Q E s
abbrev TI:=St->Hp->(It->Hp->Prop)->Prop
noncomputable def PIE(X:Cx)(m3:List (aL×dI))(σ:St)(tg:bH)(R:It->Hp->Prop)(itv:aI)(s2:aM):Prop:=
 ∃(it:aL) (fp:List aL) (tn:Nat->bW->Prop) (J:It) (H':Hp),itv = .ref it/\Inv X m3 σ H' s2/\LQ X.prog X.w X.K tg J fp it tn/\tn 0 s2.heap/\(∀b∈fp,U2 X m3 H' b)/\R J H'
noncomputable def PI(X:Cx)(tg iter:bH)(wi:TI):Prop:=
 ∀(m3:List (aL×dI))(s:aM)(σ:St)(H:Hp)(R:It->Hp->Prop),Inv X m3 σ H s->wi σ H R->
  aw (model X.prog X.w) X.A (eval iter X.env) (λv s1=>aw (model X.prog X.w) X.A (mS v) (PIE X m3 σ tg R) X.xe s1) X.xe s
theorem EB{M:Model}{A:ba}{E:aI->aM->Prop}{s:aM}{b:bH}{c:aL}{u:aI}{o:dI}{n:String}{vs:Array aI}{Q:Unit->aM->Prop}(d:s.heap.get? c=ax o)(f:o.cls = .type n)(hd:o.data = .fields vs)
    (e:["enumerate","zip","dict_itemiterator","dict_reverseitemiterator","odict_iterator","itertools.zip_longest","itertools.pairwise"].contains n=aB) (a:Q () s):aw M A (jY b (.ref c) u) Q E s:=by
  cases b<;>first
    | exact aU a
    | (cases u<;>first
        | exact aU a
        | (refine aE (wpAny_load d ?_)
           rw[f,hd];show aw M A (if(["enumerate","zip","dict_itemiterator","dict_reverseitemiterator","odict_iterator","itertools.zip_longest","itertools.pairwise"].contains n&&vs[0]?==ax (fA _))=aC then _ else _) Q E s;rw[m9 (by intro h;rw[e] at h;cases h)];exact aU a))
noncomputable def Itl(K:aF)(a:aL):It:=
 ⟨λi H=>∃xs x,SqL K H a xs/\xs[i]?=ax x,λi H x H'=>H'=H/\∀xs,SqL K H a xs->xs[i]?=ax x,λi H=>∃xs,SqL K H a xs/\xs.length<=i⟩
noncomputable def Itt(K:aF)(a:aL):It:=
 ⟨λi H=>∃xs x,SqT K H a xs/\xs[i]?=ax x,λi H x H'=>H'=H/\∀xs,SqT K H a xs->xs[i]?=ax x,λi H=>∃xs,SqT K H a xs/\xs.length<=i⟩
noncomputable def Itr(lo:Int)(n:Nat):It:=⟨λi _=>i<n,λi H x H'=>H'=H/\x = .int (lo+i),λi _=>n<=i⟩
theorem GV{P:bB}{w:b8}{K:aF}{Q:bH}(a f:aL):LQ P w K Q (Itl K a) [f] f (λi h=>h.IsListIter f a i) where
 mem:=by simp
 obj:=λi h st b g=>by
  have e:b=f:=by simpa using g
  subst e;obtain⟨o,e,c,d⟩:=st;exact⟨o,e,λv z=>by rw[d] at z;cases z⟩
 keep:=λi h h' st k=>st.at λo e=>k f (by simp) o e
 item:=by intro X y F A J i M s N H E I l st n;subst y F A;obtain⟨xs,x,m,D⟩:=n;obtain⟨Z,q,p,U⟩:=I.list m;obtain⟨u,O,L⟩:=q.get D;obtain⟨B,f1,R,t,C,G⟩:=l f (by simp);refine wpAny_pyNext_list_item st p.isList (by simpa using O) λh' j Y=>?_;have W:=I.turned (t':=s.toks) (λb o g e=>(Y.2 b g).trans e) B f1 t C G;obtain⟨o,e,c,d⟩:=id j;exact⟨u,rfl,EB e c d rfl ⟨x,H,W,L,⟨rfl,λys S=>by rw[I.list_inj S m];exact D⟩,j,λb g=>(l b g).1⟩⟩
 done:=by intro X y F A J i M s N H E I l st n;subst y F A;obtain⟨xs,m,D⟩:=n;obtain⟨Z,q,p,U⟩:=I.list m;obtain⟨B,f1,R,t,C,G⟩:=l f (by simp);have hl:=q.length;exact wpAny_pyNext_list_end (I.ok.hd J) st p.isList (by simp;omega) λh' T=>⟨rfl,I.turned (λb o g e=>T b o g e) B f1 t C G⟩
 self:=λ_ _ _ _ _ st h=>wpAny_pyIter_listiter st h
theorem Ju{P:bB}{w:b8}{K:aF}{Q:bH}(a f:aL):LQ P w K Q (Itt K a) [f] f (λi h=>h.IsTupleIter f a i) where
 mem:=by simp
 obj:=λi h st b g=>by
  have e:b=f:=by simpa using g
  subst e;obtain⟨o,e,c,d⟩:=st;exact⟨o,e,λv z=>by rw[d] at z;cases z⟩
 keep:=λi h h' st k=>st.at λo e=>k f (by simp) o e
 item:=by intro X y F A J i M s N H E I l st n;subst y F A;obtain⟨xs,x,m,D⟩:=n;obtain⟨Z,q,p,U⟩:=I.tuple m;obtain⟨u,O,L⟩:=q.get D;obtain⟨B,f1,R,t,C,G⟩:=l f (by simp);refine wpAny_pyNext_tuple_item st (p) (by simpa using O) λh' j Y=>?_;have W:=I.turned (t':=s.toks) (λb o g e=>(Y.2 b g).trans e) B f1 t C G;obtain⟨o,e,c,d⟩:=id j;exact⟨u,rfl,EB e c d rfl ⟨x,H,W,L,⟨rfl,λys S=>by rw[I.tuple_inj S m];exact D⟩,j,λb g=>(l b g).1⟩⟩
 done:=by intro X y F A J i M s N H E I l st n;subst y F A;obtain⟨xs,m,D⟩:=n;obtain⟨Z,q,p,U⟩:=I.tuple m;obtain⟨B,f1,R,t,C,G⟩:=l f (by simp);have hl:=q.length;exact wpAny_pyNext_tuple_end (I.ok.hd J) st (p) (by simp;omega) λh' T=>⟨rfl,I.turned (λb o g e=>T b o g e) B f1 t C G⟩
 self:=λ_ _ _ _ _ st h=>wpAny_pyIter_tupleiter st h
theorem Jw{P:bB}{w:b8}{K:aF}{F:bH}(a:aL)(lo:Int)(n:Nat):LQ P w K F (Itr lo n) [a] a (λi h=>IsRangeIter h a (lo+(i:Nat)*1) ((n:Int)-(i:Nat)) 1) where
 mem:=by simp
 obj:=λi h st b c=>by
  have e:b=a:=by simpa using c
  subst e
  exact⟨_,st,λv z=>by
   have J:=z;cases J⟩
 keep:=λi h h' st k=>k a (by simp) _ st
 item:=by intro X y B A l i u s x H E I f st g;subst y B A;obtain⟨m,f1,G,j,p,q⟩:=f a (by simp);have W:=Walks.range (prog:=X.prog) (w:=X.w) (I.ok.hd l) a lo 1 n;refine W.item i s _ _ g st λv h' tk D d C=>?_;obtain⟨t,rfl⟩:=D;have M:Inv X u x H { s with heap:=h',toks:=tk }:=I.turned (λb o c e=>C b o (by simpa using c) e) m f1 j p q;refine⟨_,rfl,EB d rfl rfl rfl ⟨.int (lo+i),H,M,⟨t,?_⟩,⟨rfl,rfl⟩,d,λb c=>(f b c).1⟩⟩;rw[Int.mul_one]
 done:=by intro X y B A l i u s x H E I f st g;obtain⟨m,f1,G,j,p,q⟩:=f a (by simp);exact wpAny_pyNext_range_end (I.ok.hd l) st (by have:n<=i:=g;omega) λh' L=>⟨rfl,I.turned (λb o c e=>L b o c e) m f1 j p q⟩
 self:=λ_ _ _ _ _ st h=>wpAny_pyIter_rangeiter st h
section
variable {X:Cx} {tg:bH}
noncomputable def Zfu(K:aF)(tl:TE):TI:=λσ H R=>tl σ H λx H1=>∃a,x = .ref a/\(∃xs,SqL K H1 a xs)/\R (Itl K a) H1
noncomputable def Zh8(K:aF)(tl:TE):TI:=λσ H R=>tl σ H λx H1=>∃a,x = .ref a/\(∃xs,SqT K H1 a xs)/\R (Itt K a) H1
theorem BH{l:bH}{d:TE}(n:PE X l d):PI X tg l (Zfu X.K d):=by
 intro k s m H R I h;refine Yl (n k s m H _ I h) λv s1 ⟨x,g,c,f,i⟩=>?_;obtain⟨a,e,⟨xs,t⟩,q⟩:=i;subst e;cases f;obtain⟨y,u,p,w⟩:=c.list t;refine wpAny_pyIter_list p.isList ?_;refine⟨s1.heap.objs.size,[s1.heap.objs.size],_,_,g,rfl,c.kept λb o e=>aJ _ e,GV a _,⟨_,a9 _ rfl,rfl,rfl⟩,λb j=>?_,q⟩;have e:b=s1.heap.objs.size:=by simpa using j
 subst e;exact c.fpOk (aX _) (c.hok.fresh (aX _))
theorem Zck{l:bH}{d:TE}(n:PE X l d):PI X tg l (Zh8 X.K d):=by
 intro k s m H R I h;refine Yl (n k s m H _ I h) λv s1 ⟨x,g,c,f,i⟩=>?_;obtain⟨a,e,⟨xs,t⟩,q⟩:=i;subst e;cases f;obtain⟨y,u,p,w⟩:=c.tuple t;refine kP (p) ?_;refine⟨s1.heap.objs.size,[s1.heap.objs.size],_,_,g,rfl,c.kept λb o e=>aJ _ e,Ju a _,⟨_,a9 _ rfl,rfl,rfl⟩,λb j=>?_,q⟩;have e:b=s1.heap.objs.size:=by simpa using j
 subst e;exact c.fpOk (aX _) (c.hok.fresh (aX _))
theorem LR{c:List (aL×dI)}{d:St}{H:Hp}{s:aM}{R:It->Hp->Prop}{E:aI->aM->Prop}{lo a:Int}{t u v:Tok}{tk:Nat}(I:Inv X c d H s)(m : -(2^62)<=lo)(i:lo<2^62)(k : -(2^62)<=a)(j:a<2^62)
  (q:R (Itr lo (a-lo).toNat) H):aw (model X.prog X.w) X.A (mS (.ref s.heap.objs.size)) (PIE X c d tg R) E { s with heap:=s.heap.push { cls:=.type "range",data:=.fields #[.int lo t,.int a u,.int 1 v] },toks:=tk }:=by
 refine wpAny_pyIter_range (mT ..) (small_one m i k j) ?_;have f:Inv X c d H { s with heap:=s.heap.push { cls:=.type "range",data:=.fields #[.int lo t,.int a u,.int 1 v] },toks:=tk }:=I.kept λb o e=>aJ _ e
 refine⟨(s.heap.push { cls:=.type "range",data:=.fields #[.int lo t,.int a u,.int 1 v] }).objs.size,[(s.heap.push { cls:=.type "range",data:=.fields #[.int lo t,.int a u,.int 1 v] }).objs.size],_,_,H,rfl,
  f.kept λb o e=>aJ _ e,Jw _ lo (a-lo).toNat,?_,λb h=>?_,q⟩
 ·have g:lo+((0:Nat):Int)*1=lo:=by simp
  have l:(((a-lo).toNat:Nat):Int)-((0:Nat):Int)=gn.Range.rangeSize lo a 1:=by rw[rangeSize_one];split<;>omega
  rw[g,l];exact a9 _ rfl
 ·have e:b=(s.heap.push { cls:=.type "range",data:=.fields #[.int lo t,.int a u,.int 1 v] }).objs.size:=by simpa using h
  subst e;exact f.fpOk (aX _) (f.hok.fresh (aX _))
noncomputable def Zfv(ta:TA):TI:=λσ H R=>ta σ H λvs H1=>∃j:Int,vs=[.int j]/\-(2^62)<=j/\j<2^62/\R (Itr 0 j.toNat) H1
noncomputable def Zfw(ta:TA):TI:=λσ H R=>ta σ H λvs H1=>∃i j:Int,vs=[.int i,.int j]/\(-(2^62)<=i/\i<2^62/\-(2^62)<=j/\j<2^62)/\R (Itr i (j-i).toNat) H1
theorem GW{a:bH}{c:TA}{p pos:dz}(f:Gl X "range")(o:X.mg "range" = aA)(m:PA X [a] c)(l:aR [a] X.env=[(aB,eval a X.env)]:=by rfl):PI X tg (.Call (.Name "range" p) [a] [] pos) (Zfv c):=by
 intro g s k H R I h;refine Call_ (Vj I f o lg (bx (Yl (m pos g s k H _ I h) λv s1 ⟨vs,u,n,d,b⟩=>?_) l rfl));obtain⟨j,e,b,i,q⟩:=b;subst e
 cases d with
 | cons r rr=>
  cases rr;obtain⟨t,rfl⟩:=r;exact call_range_1 (LR n (by omega) (by omega) b i (by simpa using q))
theorem GX{a b:bH}{f:TA}{p pos:dz}(k:Gl X "range")(y:X.mg "range" = aA)(v:PA X [a,b] f)(u:aR [a,b] X.env=[(aB,eval a X.env),(aB,eval b X.env)]:=by rfl)(c:aR [b] X.env=[(aB,eval b X.env)]:=by rfl) :
  PI X tg (.Call (.Name "range" p) [a,b] [] pos) (Zfw f):=by
 intro l s n H R I h;refine Call_ (Vj I k y lg (bx (Yl (v pos l s n H _ I h) λA s1 ⟨vs,z,w,g,d⟩=>?_) (by rw[u,c]) (by rw[c];rfl)));obtain⟨i,j,e,⟨d,m,o,x⟩,q⟩:=d;subst e
 cases g with
 | cons r rr=>
  cases rr with
  | cons r' rr=>
   cases rr;obtain⟨t,rfl⟩:=r;obtain⟨t',rfl⟩:=r';exact call_range_2 (LR w d m o x q)
noncomputable def Zh9(wi:TI)(g:TG)(tb:TS):TS:=λD σ H=>wi σ H λJ H1=>∃W:Nat->Nat->St->Hp->Prop,(∃m,W 0 m σ H1)/\∀i m σ H,W i m σ H->
 (J.stop i H/\D.nx σ H)\/(J.go i H/\∃N:St->Hp->Prop,(∀σ' H',N σ' H'->∃m',m'<m/\W (i+1) m' σ' H')/\∀x H',J.yld i H x H'->g x σ H' λσ2 H2=>tb { D with nx:=N,ct:=N,bk:=D.nx } σ2 H2)
noncomputable def Sz(fp:List aL)(h:bW):List (aL×dI):=fp.filterMap λb=>(h.get? b).map λo=>(b,o)
theorem Vk{a:List aL}{h:bW}{b:aL}{o:dI}(c:b∈a)(e:h.get? b=ax o):(b,o)∈Sz a h:=fZ.mpr ⟨b,c,by rw[e];rfl⟩
theorem GY{a:List aL}{h:bW}{p:aL×dI}(d:p∈Sz a h):p.1∈a/\h.get? p.1=ax p.2:=by
 obtain⟨b,f,e⟩:=fZ.mp d
 cases q:h.get? b with
 | none=>rw[q] at e;cases e
 | some o=>
  rw[q] at e;have c:=bJ e;subst c;exact⟨f,q⟩
theorem Inv.pinned{a:List (aL×dI)}{g:St}{H:Hp}{s:aM}{c:List aL}(I:Inv X a g H s)(i:∀b∈c,U2 X a H b)(l:∀b∈c,∃o,s.heap.get? b=ax o/\∀v,o.data≠.cell v):Inv X (a++Sz c s.heap) g H s:=
 I.pins_of λp j=>(ak.mp j).elim (λz=>I.pin p (aq _ z)) λz=>by obtain⟨f,e⟩:=GY z;obtain⟨k,f1,m,_⟩:=i p.1 f;obtain⟨o,h,d⟩:=l p.1 f;rw[e] at h;cases h;exact⟨e,k,f1,m,d⟩
theorem Inv.unpinned{a d:List (aL×dI)}{b:St}{H:Hp}{s:aM}(I:Inv X (a++d) b H s):Inv X a b H s:=I.pins_of λp c=>I.pin p (aq _ (bC _ c))
theorem Zcl{l:bH}{w:List bp}{Y:TI}{g:TG}{U:TS}{pos:dz}(F:jz (model X.prog X.w) X.A X.env X.xe)(hc:X.calm=aC)(hi:PI X tg l Y)(hg:PG X tg g)(q:PSs X w U)
  (hs:∀x,bt l X.env x=pure x:=by intro _;rfl):PS X (.For tg l w [] pos) (Zh9 Y g U):=by
 intro z s σ H D I h;refine wpAny_For (Yl (hi z s σ H _ I h) λv s1 h1=>Yl h1 λitv s2 h2=>?_) hs;obtain⟨it,B,tn,J,H2,e,I2,T,Q,f2,W,⟨m0,w0⟩,turn⟩:=h2;subst e
 -- what stays aC of the iterator's objects through the loop
 have c:∀{H':Hp},(∀b∈B,H' b=aA)->∀b∈B,U2 X z H' b:=λhn b q=>⟨hn b q,(f2 b q).2⟩;refine codeAny_forLoop_any (λn s'=>∃i σ' H',Inv X z σ' H' s'/\tn i s'.heap/\(∀b∈B,H' b=aA)/\W i n σ' H') ?_ m0 ⟨0,σ,H2,I2,Q,λb q=>(f2 b q).1,w0⟩;rintro n s3 ⟨i,p,L,I3,C,E,w3⟩;rcases turn i n p L w3 with⟨A,qn⟩ | ⟨go,N,hN,step⟩
 ·refine dm F (Yl (T.done X rfl rfl rfl hc i z s3 p L X.xe I3 (c E) C A) λr s4 ⟨M,I4⟩=>?_);subst M;exact g7 ⟨p,L,I4,qn⟩
 ·refine dm F (Yl (T.item X rfl rfl rfl hc i z s3 p L X.xe I3 (c E) C go) λr s4 ⟨u,M,h4⟩=>?_);subst M;refine dm F (Yl h4 λ_ s5 ⟨x,Z,I5,r5,y5,y,P⟩=>?_);have S:=I5.pinned (c P) (T.obj _ _ y);refine dm F (Yl (hg _ s5 p Z x u _ S r5 (step x Z y5)) λ_ s6 ⟨O,H6,I6,q6⟩=>?_);refine dm F (Yl (q _ s6 O H6 _ I6 q6) λf R t=>?_);have again:∀{a:St}{j:Hp},Inv X (z++Sz B s5.heap) a j R->N a j->∃m,m<n/\∃i σ' H',Inv X z σ' H' R/\tn i R.heap/\(∀b∈B,H' b=aA)/\W i m σ' H':=λ{a j} k G=>by obtain⟨m',hm,w7⟩:=hN a j G;refine⟨m',hm,i+1,a,j,k.unpinned,T.keep _ _ _ y λb q o e=>(k.pin (b,o) (aq _ (aq _ (Vk q e)))).1,λb q=>?_,w7⟩;obtain⟨o,e,d⟩:=T.obj _ _ y b q;exact(k.pin (b,o) (aq _ (aq _ (Vk q e)))).2.1
  cases f with
  | next=>obtain⟨a,j,k,G⟩:=t;exact again k G
  | cont=>obtain⟨a,j,k,G⟩:=t;exact again k G
  | brk=>obtain⟨a,j,k,t⟩:=t;exact⟨a,j,k.unpinned,t⟩
  | ret v=>obtain⟨x7,a,j,k,r7,t⟩:=t;exact⟨x7,a,j,k.unpinned,r7,t⟩
end
abbrev R2:=V->V->Hp->VK->Prop
noncomputable def U6(X:Cx)(f:aI->aI->Sem aI)(r:R2):Prop:=
 ∀(m3:List (aL×dI))(s:aM)(σ:St)(H:Hp)(x y:V)(v u:aI)(Q:VK),Inv X m3 σ H s->RelV x v->RelV y u->r x y H Q->
  aw (model X.prog X.w) X.A (f v u) (EP X m3 σ Q) X.xe s
noncomputable def UnR(X:Cx)(f:aI->Sem aI)(r:V->Hp->VK->Prop):Prop:=
 ∀(m3:List (aL×dI))(s:aM)(σ:St)(H:Hp)(x:V)(v:aI)(Q:VK),Inv X m3 σ H s->RelV x v->r x H Q->
  aw (model X.prog X.w) X.A (f v) (EP X m3 σ Q) X.xe s
noncomputable def Xb(X:Cx)(f:aI)(r:List V->Hp->VK->Prop):Prop:=
 ∀(m3:List (aL×dI))(s:aM)(σ:St)(H:Hp)(xs:List V)(us:List aI)(Q:VK),Inv X m3 σ H s->Vals xs us->r xs H Q->
  aw (model X.prog X.w) X.A (call f us) (EP X m3 σ Q) X.xe s
noncomputable def Zib(X:Cx)(r:V->Hp->(Bool->Hp->Prop)->Prop):Prop:=
 ∀(m3:List (aL×dI))(s:aM)(σ:St)(H:Hp)(x:V)(v:aI)(Q:Bool->Hp->Prop),Inv X m3 σ H s->RelV x v->r x H Q->
  aw (model X.prog X.w) X.A (truthy v) (TP X m3 σ Q) X.xe s
noncomputable def tOp(r:R2)(ta tb:TE):TE:=λσ H Q=>ta σ H λx H1=>tb σ H1 λy H2=>r x y H2 Q
noncomputable def tUn(r:V->Hp->VK->Prop)(ta:TE):TE:=λσ H Q=>ta σ H λx H1=>r x H1 Q
noncomputable def rI(C:Int->Int->Prop)(g:Int->Int->V):R2:=λx y H Q=>∃i j,x = .int i/\y = .int j/\C i j/\Q (g i j) H
noncomputable def By(g:Int->Int->V):R2:=λx y H Q=>∃i j,x = .int i/\y = .int j/\Q (g i j) H
noncomputable def rU(g:Int->V):V->Hp->VK->Prop:=λx H Q=>∃i,x = .int i/\Q (g i) H
section
variable {X:Cx} {a b c:bH} {ta tb tc:TE} {pos:dz}
theorem Zcm(q:PE X a ta)(o:PE X b tb){i:List (aL×dI)}{s:aM}{c:St}{H:Hp}{R:V->V->Hp->Prop}(I:Inv X i c H s)
  (h:ta c H λx j=>tb c j λy d=>R x y d) {Q:aI->aM->Prop} {f:aI->aI->Sem aI}
  (k:∀v u s2 x y d,Inv X i c d s2->RelV x v->RelV y u->R x y d->aw (model X.prog X.w) X.A (f v u) Q X.xe s2) :
  aw (model X.prog X.w) X.A (eval a X.env) (λv e=>aw (model X.prog X.w) X.A (eval b X.env) (λu g=>aw (model X.prog X.w) X.A (f v u) Q X.xe g) X.xe e) X.xe s:=by
 refine Yl (q i s c H _ I h) λv s1 ⟨x,j,t,l,m⟩=>?_;refine Yl (o i s1 c j _ t m) λu s2 ⟨y,d,n,w,p⟩=>?_;exact k v u s2 x y d n l w p
theorem Hi{op:la}{r:R2}(l:U6 X (dN op) r)(k:PE X a ta)(e:PE X b tb):PE X (.BinOp a op b pos) (tOp r ta tb):=by intro f s g H Q I h;exact wpAny_BinOp (Zcm k e I h λv u s2 x y j d i c q=>l f s2 g j x y v u Q d i c q)
theorem Zfx{op:UnaryOp}{r:V->Hp->VK->Prop}(e:UnR X (unaryOp op) r)(i:PE X a ta):PE X (.UnaryOp op a pos) (tUn r ta):=by intro b s c H Q I h;exact UnaryOp_ (Yl (i b s c H _ I h) λv s1 ⟨x,g,d,f,j⟩=>e b s1 c g x v Q d f j)
theorem opI{f:aI->aI->Sem aI}{C:Int->Int->Prop}{g:Int->Int->Int}
  (rule:∀(i j:Int)(t u:Tok)(s:aM)(Q:aI->aM->Prop)(E:aI->aM->Prop),C i j->Q (.int (g i j) s.toks) { s with toks:=s.toks+1 }->aw (model X.prog X.w) X.A (f (.int i t) (.int j u)) Q E s) :
  U6 X f (rI C λi j=>.int (g i j)):=by
 intro d s e H x y v u Q I c a h;obtain⟨i,j,rfl,rfl,b,q⟩:=h;obtain⟨t,rfl⟩:=c;obtain⟨t',rfl⟩:=a;exact rule i j t t' s _ _ b ⟨.int (g i j),H,I.tok _,⟨_,rfl⟩,q⟩
theorem Zco{f:aI->aI->Sem aI}{g:Int->Int->Int}
  (rule:∀(i j:Int)(t u:Tok)(s:aM)(Q:aI->aM->Prop)(E:aI->aM->Prop),Q (.int (g i j) s.toks) { s with toks:=s.toks+1 }->aw (model X.prog X.w) X.A (f (.int i t) (.int j u)) Q E s) :
  U6 X f (By λi j=>.int (g i j)):=by
 intro c s d H x y v u Q I b a h;obtain⟨i,j,rfl,rfl,q⟩:=h;obtain⟨t,rfl⟩:=b;obtain⟨t',rfl⟩:=a;exact rule i j t t' s _ _ ⟨.int (g i j),H,I.tok _,⟨_,rfl⟩,q⟩
theorem Zcp{f:aI->aI->Sem aI}{g:Int->Int->Bool}
  (rule:∀(i j:Int)(t u:Tok)(s:aM)(Q:aI->aM->Prop)(E:aI->aM->Prop),Q (.bool (g i j)) s->aw (model X.prog X.w) X.A (f (.int i t) (.int j u)) Q E s) :
  U6 X f (By λi j=>.bl (g i j)):=by
 intro c s d H x y v u Q I b a h;obtain⟨i,j,rfl,rfl,q⟩:=h;obtain⟨t,rfl⟩:=b;obtain⟨t',rfl⟩:=a;exact rule i j t t' s _ _ ⟨.bl (g i j),H,I,rfl,q⟩
noncomputable def EC(i j:Int):Prop:=0<j/\j<1073741824
noncomputable def Za5(i j:Int):Prop:=j≠0/\j.natAbs<1073741824
noncomputable def BI(i j:Int):Prop:=0<=j/\j<=1000000/\i.natAbs<2^64
noncomputable def CMul(i j:Int):Prop:=(-(2^64)<i/\i<2^64)\/(-(2^64)<j/\j<2^64)
theorem CMul.ok{i j:Int}(h:CMul i j):IntMulOk i j:=by
 rcases h with⟨b,a⟩ | ⟨b,a⟩
 ·exact .of_left (intBits_le_64 b a)
 ·exact .of_right (intBits_le_64 b a)
theorem Jx(k:Nat):(0:Int)<=2^k:=by rw[two_pow_cast];exact Int.natCast_nonneg _
theorem Zcq:U6 X (dN .Add) (By λi j=>.int (i+j)):=Zco λ_ _ _ _ _ _ _ q=>add_int q
theorem Zcr:U6 X (dN .Sub) (By λi j=>.int (i-j)):=Zco λ_ _ _ _ _ _ _ q=>sub_int q
theorem Zcs:U6 X (dN .Mult) (rI CMul λi j=>.int (i*j)):=opI λ_ _ _ _ _ _ _ a q=>mul_int q a.ok
theorem BJ:U6 X (dN .FloorDiv) (rI EC λi j=>.int (i/j)):=opI λi j _ _ _ _ _ a q=>by have c:=a.1;have b:=a.2;exact floordiv_int (by omega) (by rw[da i (by omega)];exact q) (.inl (PyProof.noPylong_small (by omega)))
theorem Zct:U6 X (dN .Mod) (rI (λ_ j=>0<j) λi j=>.int (i%j)):=opI λi j _ _ _ _ _ a q=>by exact mod_int' (by omega) (by rw[Int.fmod_eq_emod_of_nonneg i (by omega)];exact q)
theorem Zcu:U6 X (dN .LShift) (rI BI λi j=>.int (i*2^j.toNat)):=opI λ_ _ _ _ _ _ _ a q=>lshift_int_small a.1 a.2.1 a.2.2 q
theorem Zcv:U6 X (dN .RShift) (rI (λ_ j=>0<=j) λi j=>.int (i/2^j.toNat)):=opI λi j _ _ _ _ _ a q=>
 rshift_int a (by rw[da i (Jx _)];exact q)
theorem Zcw:U6 X (dN .BitAnd) (By λi j=>.int (lj i j)):=Zco λ_ _ _ _ _ _ _ q=>and_int q
theorem unI{f:aI->Sem aI}{g:Int->Int}
  (rule:∀(i:Int)(t:Tok)(s:aM)(Q:aI->aM->Prop)(E:aI->aM->Prop),Q (.int (g i) s.toks) { s with toks:=s.toks+1 }->aw (model X.prog X.w) X.A (f (.int i t)) Q E s) :
  UnR X f (rU λi=>.int (g i)):=by
 intro b s c H x v Q I a h;obtain⟨i,rfl,q⟩:=h;obtain⟨t,rfl⟩:=a;exact rule i t s _ _ ⟨.int (g i),H,I.tok _,⟨_,rfl⟩,q⟩
theorem Zcx:UnR X (unaryOp .USub) (rU λi=>.int (-i)):=unI λ_ _ _ _ _ q=>neg_int q
end
section
variable {X:Cx} {a b c:bH} {ta tb tc:TE} {pos:dz}
theorem Za6:U6 X (dY .Lt) (By λi j=>.bl (decide (i<j))):=Zcp λ_ _ _ _ _ _ _ q=>lt_int q
theorem Za7:U6 X (dY .Gt) (By λi j=>.bl (decide (j<i))):=Zcp λ_ _ _ _ _ _ _ q=>gt_int q
theorem Zfy:U6 X (dY .GtE) (By λi j=>.bl (decide (j<=i))):=Zcp λ_ _ _ _ _ _ _ q=>ge_int q
theorem V0(b:bH){op:l9}(h:op≠.In:=by decide)(d:op≠.NotIn:=by decide):cJ op b=aB:=by
 have c:(op==l9.In)=aB:=by cases op<;>first | rfl | exact absurd rfl h
 have a:(op==l9.NotIn)=aB:=by cases op<;>first | rfl | exact absurd rfl d
 cases b<;>simp[cJ,c,a]
theorem BK{op:l9}{r:R2}(l:U6 X (dY op) r)(k:PE X a ta)(e:PE X b tb)(m:cJ op b=aB):PE X (.Compare a [op] [b] pos) (tOp r ta tb):=by intro f s g H Q I h;exact wpAny_Compare1 (Zcm k e I h λv u s2 x y j d i c q=>l f s2 g j x y v u Q d i c q) m
noncomputable def Hj(t:TE):TT:=λσ H Q=>t σ H λx H'=>∃k,x = .bl k/\Q k H'
theorem BL{op:l9}{r:R2}(C:U6 X (dY op) r)(w:PE X a ta)(m:PE X b tb)(E:cJ op b=aB):PT X (.Compare a [op] [b] pos) (Hj (tOp r ta tb)):=by
 intro d s f H Q I h
 refine ja (Yl (w d s f H _ I h) λv s1 ⟨x,i,B,g,j⟩=>Yl (m d s1 f i _ B j) λu s2 ⟨y,t,l,D,n⟩=>
  Yl (C d s2 f t x y v u _ l g D n) λc F ⟨z,p,A,o,k,e,q⟩=>?_) E
 subst e;cases o;exact dS ⟨p,A,q⟩
noncomputable def Zfz(K:aF)(x:V)(H:Hp)(k:Bool):Prop:=
 match x with
 | .non=>k=aB
 | .bl b=>k=b
 | .int i=>k=(i != 0)
 | .str y=>y.length<=sizeLine/\k=((y.length:Int) != 0)
 | .byt y=>y.size<=sizeLine/\k=((y.size:Int) != 0)
 | .ref p=>(∃xs,SqL K H p xs/\k = !xs.isEmpty)\/(∃xs,SqT K H p xs/\k = !xs.isEmpty)\/∃m4,H p=ax (.dK m4)/\k = !m4.isEmpty
 | _=>False
theorem Jy{κ:Type}{a:List (κ×V)}{vs:List (κ×aI)}(r:KV a vs):(!vs.isEmpty) = !a.isEmpty:=by cases r<;>rfl
theorem QN{xs:List V}{a:List aI}(r:Vals xs a):(!a.toArray.isEmpty) = !xs.isEmpty:=by cases r<;>simp
theorem N5:(sizeLine:Nat)<2^63:=by rw[cj];decide
theorem Zcy:Zib X (λx H Q=>∃k,Zfz X.K x H k/\Q k H):=by
 intro u s w H x v Q I d h;obtain⟨k,e,q⟩:=h;have A:=cj
 cases x with
 | non=>
  cases d;have a:=e;subst a;exact truthy_none ⟨H,I,q⟩
 | bl b=>
  cases d;have a:=e;subst a;exact dS ⟨H,I,q⟩
 | int i=>
  obtain⟨t,rfl⟩:=d;have a:=e;subst a;exact PySem.P.truthy_int ⟨H,I,q⟩
 | str y=>
  obtain⟨t,rfl⟩:=d;obtain⟨n,a⟩:=e;subst a;exact PySem.P.truthy_str (by omega) ⟨H,I.tok _,q⟩
 | byt y=>
  obtain⟨t,rfl⟩:=d;obtain⟨n,a⟩:=e;subst a;exact PySem.W.truthy_bytes (by omega) ⟨H,I.tok _,q⟩
 | ref p=>
  cases d;have a:=e;rcases a with⟨xs,f,a⟩ | ⟨xs,f,a⟩ | ⟨z,f,a⟩
  ·subst a;obtain⟨o,r,g,j⟩:=I.list f;have c:=r.length;exact wpAny_truthy_list g.isList (by simp only[aS];omega) ⟨H,I.tok _,by rw[QN r];exact q⟩
  ·subst a;obtain⟨o,r,g,j⟩:=I.tuple f;have c:=r.length;exact truthy_tuple g (by simp only[aS];omega) ⟨H,I.tok _,by rw[QN r];exact q⟩
  ·subst a;obtain⟨j,l,vs,r,m⟩:=I.hok p _ f;have c:=Paired.length r;exact wpAny_truthy_dict l m (by omega) ⟨H,I.tok _,by rw[Jy r];exact q⟩
 | _=>exact(e).elim
theorem ED(j:PE X a ta)(l:∀whole,kO a X.env whole=(do let v <-whole;lZ a.pos;holding [v] (truthy v))) :
  PT X a (λb H Q=>ta b H λx d=>∃k,Zfz X.K x d k/\Q k d):=by
 intro c s b H Q I h;exact isTrue_plain (Yl (j c s b H _ I h) λv s1 ⟨x,g,e,f,i⟩=>Zcy c s1 b g x v Q e f i) (l _)
theorem V1{x:V}{a:List aI}(r:Vals [x] a):∃u,a=[u]/\RelV x u:=by
 cases r with
 | cons r1 r2=>cases r2;exact⟨_,rfl,r1⟩
theorem Za8{x y:V}{a:List aI}(r:Vals [x,y] a):∃u w',a=[u,w']/\RelV x u/\RelV y w':=by
 cases r with
 | cons r1 r2=>
  cases r2 with
  | cons r3 r4=>cases r4;exact⟨_,_,rfl,r1,r3⟩
theorem GZ(b:X.calm=aC):Xb X (.builtin "max") (λxs H Q=>∃i j,xs=[.int i,.int j]/\Q (.int (if j>i then j else i)) H):=by
 intro d s e H xs f Q I r h;obtain⟨i,j,rfl,q⟩:=h;obtain⟨u,c,rfl,⟨t,rfl⟩,⟨t',rfl⟩⟩:=Za8 r;refine max_two_ints (I.ok.hd b) λh' tk k=>⟨_,H,I.kept k,?_,q⟩;by_cases a:j>i
 ·rw[m7 a,m7 a];exact⟨_,rfl⟩
 ·rw[m9 a,m9 a];exact⟨_,rfl⟩
theorem G0:Xb X (.type "int") (λxs H Q=>(∃i,xs=[.int i]/\Q (.int i) H)\/∃k,xs=[.bl k]/\Q (.int (if k then 1 else 0)) H):=by
 intro b s d H xs c Q I r h;rcases h with⟨i,rfl,q⟩ | ⟨k,rfl,q⟩
 ·obtain⟨u,rfl,t,rfl⟩:=V1 r;exact call_int_int ⟨.int i,H,I,⟨_,rfl⟩,q⟩
 ·obtain⟨u,rfl,a⟩:=V1 r;cases a;exact call_int_bool ⟨.int (if k then 1 else 0),H,I.tok _,⟨_,rfl⟩,q⟩
noncomputable def Zf0(K:aF)(x:V)(H:Hp)(n:Nat):Prop:=
 match x with
 | .str y=>y.length<=sizeLine/\n=y.length
 | .byt y=>y.size<=sizeLine/\n=y.size
 | .ref p=>(∃xs,SqL K H p xs/\n=xs.length)\/∃xs,SqT K H p xs/\n=xs.length
 | _=>False
theorem EE:Xb X (.builtin "len") (λxs H Q=>∃x n,xs=[x]/\Zf0 X.K x H n/\Q (.int n) H):=by
 intro l s m H xs o Q I r h;obtain⟨x,n,rfl,e,q⟩:=h;obtain⟨u,rfl,d⟩:=V1 r;have v:=cj
 cases x with
 | str y=>
  obtain⟨t,rfl⟩:=d;obtain⟨i,b⟩:=e;subst b;exact len_str (by omega) ⟨.int _,H,I.tok _,⟨_,rfl⟩,q⟩
 | byt y=>
  obtain⟨t,rfl⟩:=d;obtain⟨i,b⟩:=e;subst b;exact PySem.W.len_bytes (by omega) ⟨.int _,H,I.tok _,⟨_,rfl⟩,q⟩
 | ref p=>
  cases d;have b:=e;rcases b with⟨xs,g,b⟩ | ⟨xs,g,b⟩
  ·subst b;obtain⟨k,f,c,j⟩:=I.list g;have a:=f.length;exact Calls.call_len_list c.isList (by simp only[aS];omega) ⟨.int xs.length,H,I.tok _,⟨_,by simp only[aS];rw[a]⟩,q⟩
  ·subst b;obtain⟨k,f,c,j⟩:=I.tuple g;have a:=f.length;exact len_tuple c (by simp only[aS];omega) ⟨.int xs.length,H,I.tok _,⟨_,by simp only[aS];rw[a]⟩,q⟩
 | _=>exact(e).elim
end
structure ObjM(h:bW)(x dx C:aL)(mA:ay->Option aI):Prop where
 obj:h.get? x=ax (jX C dx)
 ns:h.Ns1 dx mA
 ne:dx≠x
theorem G1{h:bW}{f:aL}{d:ay->Option aI}(n:h.Ns1 f d):∃od,h.get? f=ax od/\∀name,ji name od=ax (d name):=by
 obtain⟨o,c,ep,j,hd,g,_,l⟩:=n;refine⟨o,j,λname=>?_⟩;have e:=l name;unfold nsFind findBy at e;rw[<-Array.find?_toList] at e;unfold ji;rw[hd]
 dsimp only
 split
 ·rename_i y q;rw[q] at e;exact congrArg ax e
 ·rename_i q;rw[q] at e;have a:c.toList.any (·.refKey)=aB:=by rw[List.any_eq_false];intro y i;obtain⟨z,t,b⟩:=g y (Array.mem_toList_iff.mp i);simp[gx.refKey,b]
  have k:¬c.toList.any (·.refKey)=aC:=by rw[a];exact bN
  rw[m9 k];exact congrArg ax e
theorem ObjM.look{h:bW}{x c C:aL}{b:ay->Option aI}(I:ObjM h x c C b):∃a,PySem.W.InstAt h x (jX C c) C (ax a)/\∀name,ji name a=ax (b name):=
 let⟨a,d,e⟩:=G1 I.ns
 ⟨a,⟨I.obj,rfl,rfl,d⟩,e⟩
theorem RelO.some_of{v:V}{o:Option aI}(r:RelO (ax v) o):∃u,o=ax u/\RelV v u:=by
 cases o with
 | none=>exact(r).elim
 | some u=>exact⟨u,rfl,r⟩
section
variable {P:bB} {w:b8} {H H':Hp} {h h':bW} {a C dx:aL} {fs fs':List (ay×V)}
theorem BM(c:HOk P w H h)(e:H a=ax (.ins C dx fs)):∃b,ObjM h a dx C b/\(∀f,RelO (fs.lookup f) (b f))/\mQ b (fs.map (·.1))/\fs.length<=1000/\H dx=ax (.own a):=by obtain⟨d,z,ne,g,b,n,r,q⟩:=(c a _ e);exact⟨b,⟨g,n,ne⟩,r,q,z,d⟩
end
structure Cls(K:aF)(C:aL):Prop where
 pg:ky K C ay.empty=aC
 hd:PySem.W.hasDictIn K C=aC
 po:PySem.W.plainOver K C=aC
 sa:ll K (.ref C) "__setattr__" = ax (ax (.builtin "object.__setattr__"))
theorem Cls.get{K:aF}{C:aL}(c:Cls K C)(f:ay):ky K C f=aC:=c.pg
section
variable {X:Cx} {m3:List (aL×dI)} {σ:St} {H:Hp} {s:aM} {A:ba} {E:aI->aM->Prop} {Q:aI->aM->Prop} {c:aI} {b:Bool}
inductive TyOf(K:aF)(H:Hp):V->aI->Prop where
 | non:TyOf K H .non (.type "NoneType")
 | bl (x:Bool):TyOf K H (.bl x) (.type "bool")
 | int (i:Int):TyOf K H (.int i) (.type "int")
 | str (x:ay):TyOf K H (.str x) (.type "str")
 | flt (x:UInt64):TyOf K H (.flt x) (.type "float")
 | lst {a:aL} {xs:List V} (e:H a=ax (.lst xs)):TyOf K H (.ref a) (.type "list")
 | frz {a:aL} {o:dI} {xs:List V} (e:H a=ax (.frz o (.lst xs))):TyOf K H (.ref a) (.type "list")
 | tup {a:aL} {xs:List V} (e:H a=ax (.tup xs)):TyOf K H (.ref a) (.type "tuple")
 | dK {a:aL} {m4:List (Yp×V)} (e:H a=ax (.dK m4)):TyOf K H (.ref a) (.type "dict")
 | dT {a:aL} {m4:List (List Yp×V)} (e:H a=ax (.dT m4)):TyOf K H (.ref a) (.type "dict")
 | ins {a C dx:aL} {fs:List (ay×V)} (e:H a=ax (.ins C dx fs)) (cl:Cls K C) (ha:ll K (.ref C) "__class__" = ax (ax (.builtin "object.__class__")))
   (hn:PySem.W.specialIn K (.builtin "object.__class__") "__get__" = ax (ax (.builtin "getset_descriptor.__get__"))) (htk:PySem.W.takesIn K (.builtin "object.__class__")=ax aC)
   (hm:PySem.W.mroIn K C (.type "object")=ax aC):TyOf K H (.ref a) (.ref C)
theorem G3{x:V}{u t:aI}(I:Inv X m3 σ H s)(d:RelV x u)(ty:TyOf X.K H x t)(e:cu X.K t c=ax b)(h:∀tk,Q (.bool b) { s with toks:=tk }) :
  aw (model X.prog X.w) A (call (.builtin "isinstance") [u,c]) Q E s:=by
 cases ty with
 | non=>cases (d);exact cR PySem.W.kitx_none I.kIn bS e (λz=>nomatch z) h
 | bl y=>cases (d);exact cR PySem.W.kitx_bool I.kIn bS e (λz=>nomatch z) h
 | int i=>obtain⟨t,q⟩:=(d);cases q;exact cR PySem.W.kitx_int I.kIn bS e (λz=>nomatch z) h
 | str y=>obtain⟨t,q⟩:=(d);cases q;exact cR PySem.W.kitx_str I.kIn bS e (λz=>nomatch z) h
 | flt y=>obtain⟨t,q⟩:=(d);cases q;exact cR PySem.W.kitx_float I.kIn bS e (λz=>nomatch z) h
 | @lst a xs ea=>
  cases (d);obtain⟨_,_,n,_,f⟩:=(I.hok a _ ea);exact cR k6 I.kIn ⟨_,f,rfl⟩ e (λz=>nomatch z) h
 | @frz a ob xs ea=>
  cases (d);obtain⟨_,_,_,n,_,f⟩:=(I.hok a _ ea);exact cR k6 I.kIn ⟨_,f,rfl⟩ e (λz=>nomatch z) h
 | @tup a xs ea=>
  cases (d);obtain⟨_,_,_,p⟩:=(I.hok a _ ea);obtain⟨o,f,g,_⟩:=p;exact cR PySem.W.kitx_tuple I.kIn ⟨o,f,g⟩ e (λz=>nomatch z) h
 | @dK a m4 ea=>
  cases (d);obtain⟨_,_,vs,_,p⟩:=(I.hok a _ ea);obtain⟨o,j,ep,f,g,_⟩:=p;exact cR k7 I.kIn ⟨o,f,g.1⟩ e (λz=>nomatch z) h
 | @dT a m4 ea=>
  cases (d);obtain⟨_,_,xs,_,o,j,ep,f,g,_⟩:=(I.hok a _ ea);exact cR k7 I.kIn ⟨o,f,g.1⟩ e (λz=>nomatch z) h
 | @ins a C dx fs ea cl ha hn htk hm=>
  cases (d);obtain⟨l,O,_⟩:=BM I.hok ea;obtain⟨k,J,_⟩:=O.look;exact cR (PySem.W.kitx_own (cl.get _) cl.hd ha hn htk hm) I.kIn J e (λz=>nomatch z) h
end
structure Room(k:Nat)(A:ba):Prop where
 hd:A.handled=aA
 dp:A.depth+3*k+5<recursionLimit
 un:A.units+16*k+200<dc
 gd:A.guards=ax []
theorem Room.mono{j k:Nat}{A:ba}(r:Room k A)(h:j<=k):Room j A:=⟨r.hd,by have:=r.dp;omega,by have:=r.un;omega,r.gd⟩
theorem Room.deeper{k:Nat}{A:ba}(r:Room (k+1) A)(env:kM):Room k (A.deeper env):=
 ⟨r.hd,by have:=r.dp;show A.depth+1+3*k+5<_;omega,by have:=r.un;show A.units+3+16*k+200<_;omega,r.gd⟩
theorem Room.depth{k:Nat}{A:ba}(r:Room k A):A.depth<recursionLimit:=by have:=r.dp;omega
theorem Room.units{k:Nat}{A:ba}(r:Room k A):A.units+64<dc:=by have:=r.un;omega
noncomputable def EF:TA:=λ_ H Q=>Q [] H
noncomputable def QO(ta:TE)(tr:TA):TA:=λσ H Q=>ta σ H λx H1=>tr σ H1 λxs H2=>Q (x::xs) H2
section
variable {X:Cx} {e:bH} {es:List bH} {te:TE} {t:TA} {pos:dz}
theorem Y3:PA X [] EF:=λ_ _ _ _ H Q I h=>k8 ⟨[],H,I,.nil,h⟩
theorem ZZ(m:PE X e te)(f:PA X es t)(k:aR (e::es) X.env=(aB,eval e X.env)::aR es X.env:=by rfl):PA X (e::es) (QO te t):=by intro pos a s b H Q I h;rw[k];refine kQ (Yl (m a s b H _ I h) λu s1 ⟨x,d,n,c,g⟩=>?_);exact Yl (f pos a s1 b d _ n g) λp s2 ⟨xs,l,i,o,j⟩=>⟨x::xs,l,i,.cons c o,j⟩
noncomputable def Zf1(t:TA):TE:=λσ H Q=>t σ H λxs H1=>xs.length<=sizeLine/\∀p,H1 p=aA->Q (.ref p) (upd H1 p (.tup xs))
noncomputable def Zic(t:TA):TE:=λσ H Q=>t σ H λxs H1=>xs.length<=sizeLine/\∀p,H1 p=aA->Q (.ref p) (upd H1 p (.lst xs))
theorem Jz{x1}(h:PA X es t):PE X (.Tuple es x1 pos) (Zf1 t):=by intro f s g H Q I j;refine wpAny_Tuple_spliced (Yl (h pos f s g H _ I j) λi s1 ⟨xs,d,a,r,z,q⟩=>⟨by rw[<-r.length];exact z,?_⟩);have c:=a.hok.fresh (aX _);refine⟨.ref s1.heap.objs.size,upd d s1.heap.objs.size (.tup xs),a.laid (λb u e=>aJ _ e) (aX _) ?_,rfl,q _ c⟩;exact⟨⟨z,λo e=>QL e⟩,i,r,⟨_,a9 _ rfl,rfl,_,rfl⟩⟩
theorem EG(h:PA X es t):PE X (.List es pos) (Zic t):=by intro f s g H Q I j;refine wpAny_List_spliced (Yl (h pos f s g H _ I j) λi s1 ⟨xs,d,a,r,z,q⟩=>⟨by rw[<-r.length];exact z,?_⟩);have c:=a.hok.fresh (aX _);refine⟨.ref s1.heap.objs.size,upd d s1.heap.objs.size (.lst xs),a.laid (λb u e=>aJ _ e) (aX _) ?_,rfl,q _ c⟩;exact⟨z,i,0,r,a9 _ rfl⟩
end
abbrev Sp:=List V->Hp->VK->XK->Prop
abbrev CXT:=List kM->Hp->aM->XK->aI->aM->Prop
structure Env0(P:bB)(w:b8)(K:aF)(mg:ay->Option aI)(base:bW)(A:ba)(outer:List kM)(s:aM)(H:Hp):Prop where
 frames:A.frames=ax outer
 mod:Mod K mg base
 bs:∀b o,base.get? b=ax o->s.heap.get? b=ax o/\H b=aA
 bsz:base.objs.size<=s.heap.objs.size
 funs:s.heap.FunFrames base outer
 frf:∀b∈N3 outer,H b=aA
 tab:TabsH K mg base H
 hok:HOk P w H s.heap
 bare:jE s.gens
noncomputable def CE(outer:List kM)(P:bB)(w:b8)(H:Hp)(s:aM)(Q:VK)(u:aI)(s':aM):Prop:=
 ∃v H',s'.os=s.os/\jE s'.gens/\Un (N3 outer) [] H H' s.heap s'.heap/\HOk P w H' s'.heap/\RelV v u/\Q v H'
noncomputable def CR(CX:CXT)(outer:List kM)(P:bB)(w:b8)(H:Hp)(s:aM)(Q:VK)(E:XK)(r:Result)(s':aM):Prop:=
 match r with
 | .ok (.ret u)=>CE outer P w H s Q u s'
 | .ok _=>False
 | .error e=>CX outer H s E e s'
structure RW(P:bB)(w:b8)(K:aF)(mg:ay->Option aI)(base:bW)(CX:CXT)(k:Nat)(f:aL)(fd:eJ)(ps:List ay)(sp:Sp):Prop where
 len:∀vs H Q E,sp vs H Q E->vs.length=ps.length
 run:∀(A:ba)(outer:List kM)(s:aM)(H:Hp)(args:Args)(us:List aI)(vs:List V)(Q:VK)(E:XK),Room k A->Env0 P w K mg base A outer s H->k9 s fd args (ps.zip us)->Vals vs us->sp vs H Q E->
  jG (model P w) A (.call (.ref f) args) (CR CX outer P w H s Q E) s
section
variable {X:Cx} {m3:List (aL×dI)} {σ:St} {H:Hp} {s s':aM}
theorem Inv.env0(I:Inv X m3 σ H s):Env0 X.prog X.w X.K X.mg X.base X.A X.stack s H:=
 ⟨I.ok.frames,I.ok.mod,I.bs,bg I.ok.bsz I.sz,I.stack,I.stkFree,I.ok.tab.un I.base,I.hok,I.bare⟩
theorem Inv.after{Q:VK}{u:aI}(I:Inv X m3 σ H s)(h:CE X.stack X.prog X.w H s Q u s'):EP X m3 σ Q u s':=by obtain⟨v,f,os,a,un,c,r,q⟩:=h;obtain⟨i,g,d,t,e⟩:=s';obtain rfl:=os;exact⟨v,f,I.call un c a (λb z=>absurd z (by simp)),r,q⟩
end
noncomputable def Zba(sp:Sp)(dvs:List V)(E:XK)(t:TA):TE:=λσ H Q=>t σ H λvs H1=>sp (vs++dvs) H1 Q E
noncomputable def Binds(K:aF)(fd:eJ)(ps:List ay)(ds:List aI):Prop:=
 ∀(s:aM)(us:List aI),K.In s.heap->(us++ds).length=ps.length->k9 s fd ⟨us,[]⟩ (ps.zip (us++ds))
theorem Binds.all{K:aF}{c:eJ}{ps:List ay}(h:∀a:List aI,a.length=ps.length->hU c ⟨a,[]⟩=pure (ps.zip a)):Binds K c ps []:=λs a _ b=>by rw[dG] at b ⊢;exact .of_eq (h a b)
noncomputable def JA(CX:CXT)(X:Cx)(E:XK):Prop:=∀(m3:List (aL×dI))(σ:St)(H:Hp)(s:aM)(e:aI)(s':aM),Inv X m3 σ H s->CX X.stack H s E e s'->X.xe e s'
section
variable {X:Cx} {CX:CXT} {k:Nat} {f C:aL} {fd:eJ} {ps:List ay} {sp:Sp} {dvs:List V} {ds:List aI} {E:XK} {x m:ay} {p pos apos:dz} {e o:bH} {es:List bH} {ta:TE} {t:TA}
theorem Zcz{c:List (aL×dI)}{d:St}{H:Hp}{s:aM}{Q:VK}{a:List aI}{vs:List V}(F:RW X.prog X.w X.K X.mg X.base CX k f fd ps sp)(i:Room k X.A)(j:Binds X.K fd ps ds)(hd:Vals dvs ds)(n:JA CX X E)
  (I:Inv X c d H s) (r:Vals vs a) (h:sp (vs++dvs) H Q E):aw (model X.prog X.w) X.A (call (.ref f) a) (EP X c d Q) X.xe s:=by
 have g:=r.append hd;have l:(a++ds).length=ps.length:=by rw[<-g.length];exact F.len _ _ _ _ h
 refine lu (gm (F.run X.A X.stack s H ⟨a,[]⟩ (a++ds) (vs++dvs) Q E i I.env0 (j s a I.kIn l) g h) λr m b=>?_)
 cases r with
 | error e=>exact n c d H s e m I b
 | ok fl=>
  cases fl with
  | ret u=>exact I.after b
  | next=>exact cg b
  | brk=>exact cg b
  | cont=>exact cg b
theorem BN(F:RW X.prog X.w X.K X.mg X.base CX k f fd ps sp)(d:Room k X.A)(g:Gl X x)(v:X.mg x=ax (.ref f))(m:gD X.K (.ref f)=aC)(i:Binds X.K fd ps ds)(hd:Vals dvs ds)(n:JA CX X E)
  (o:PA X (e::es) t) (b:(x==("__debug__" : ay))=aB:=by decide) (u:aR (e::es) X.env=(aB,eval e X.env)::aR es X.env:=by rfl) (a:(dX pos (aR es X.env)).any (·.1)=aB:=by rfl) :
  PE X (.Call (.Name x p) (e::es) [] pos) (Zba sp dvs E t):=by
 intro j s l H Q I h;refine df (N4 I g v ?_ b);refine kR I.ok.mod.kin m (Yl (o pos j s l H _ I h) λy s1 ⟨vs,w,c,r,q⟩=>⟨c.kIn,?_⟩) u a;exact Zcz F d i hd n c r q
end
noncomputable def PK(X:Cx)(kws:List l3)(t:TA):Prop:=
 ∀(pos:dz)(m3:List (aL×dI))(s:aM)(σ:St)(H:Hp)(Q:List V->Hp->Prop),Inv X m3 σ H s->t σ H Q->aw (model X.prog X.w) X.A (evalAll ((backToKw pos (lM kws X.env)).map (·.2))) (AP X m3 σ Q) X.xe s
structure Zp(N P:List ay)(sc:e7):Prop where
 kind:sc.kind = .function
 co:sc.isCoroutine=aB
 gen:sc.isGenerator=aB
 nd:N.Nodup
 pre:N.take P.length=P
 par:∀x∈P,sc.names.lookup x=ax .local\/sc.names.lookup x=ax .cell
 nofree:∀y∈sc.names,y.2≠.free
theorem Nc{kindOf:ay->Option eK}{x:ay}:∀{binds:List (ay×aI)}{m:ay->Option aI},(∀v,(x,v)∉binds)->ly kindOf binds m x=m x
 | [],_,_=>rfl
 | (n,v)::r,m,h=>by
  unfold ly;rw[Nc λw a=>h w (aQ _ a)];split
  ·have:x≠n:=by rintro rfl;exact h v ag
   simp[this]
  ·rfl
theorem Nd{kindOf:ay->Option eK}{x:ay}:∀{binds:List (ay×aI)}{m:ay->Option aI},(∀v,(x,v)∉binds)->lz kindOf binds m x=m x
 | [],_,_=>rfl
 | (n,v)::r,m,h=>by
  unfold lz;rw[Nd λw a=>h w (aQ _ a)];split
  ·rfl
  ·have:x≠n:=by rintro rfl;exact h v ag
   simp[this]
theorem Nf{kindOf:ay->Option eK}{x:ay}{v:aI}:∀{P:List ay}{vs:List aI}{i:Nat}{m:ay->Option aI},P.Nodup->P[i]?=ax x->vs[i]?=ax v->kindOf x=ax .local->
  ly kindOf (P.zip vs) m x=ax v
 | [],_,_,_,_,h,_,_=>by simp at h
 | _::_,[],_,_,_,_,h,_=>by simp at h
 | p::P,w::vs,0,m,nd,h1,h2,hk=>by simp at h1 h2;subst h1;subst h2;show ly kindOf ((p,w)::P.zip vs) m p=_;unfold ly;rw[Nc λv a=>(av.mp nd).1 (fX a).1,m7 hk];simp
 | p::P,w::vs,i+1,m,nd,h1,h2,hk=>by show ly kindOf ((p,w)::P.zip vs) m x=_;unfold ly;exact Nf (i:=i) (av.mp nd).2 (by simpa using h1) (by simpa using h2) hk
theorem Ng{kindOf:ay->Option eK}{x:ay}{v:aI}:∀{P:List ay}{vs:List aI}{i:Nat}{m:ay->Option aI},P.Nodup->P[i]?=ax x->vs[i]?=ax v->kindOf x≠ax .local->
  lz kindOf (P.zip vs) m x=ax v
 | [],_,_,_,_,h,_,_=>by simp at h
 | _::_,[],_,_,_,_,h,_=>by simp at h
 | p::P,w::vs,0,m,nd,h1,h2,hk=>by simp at h1 h2;subst h1;subst h2;show lz kindOf ((p,w)::P.zip vs) m p=_;unfold lz;rw[Nd λv a=>(av.mp nd).1 (fX a).1,m9 hk];simp
 | p::P,w::vs,i+1,m,nd,h1,h2,hk=>by show lz kindOf ((p,w)::P.zip vs) m x=_;unfold lz;exact Ng (i:=i) (av.mp nd).2 (by simpa using h1) (by simpa using h2) hk
noncomputable def start(N:List ay)(vs:List V):St:=vs.map ax++aT (N.length-vs.length) aA
noncomputable def QP(CX:CXT)(P:bB)(w:b8)(K:aF)(mg:ay->Option aI)(base:bW)(N:List ay)(qual:ay)(scope:e7)(f:aL)(cd:aI)(A:ba)(outer:List kM)(s:aM)(H:Hp)(E:XK):Cx where
 prog:=P
 w:=w
 K:=K
 mg:=mg
 base:=base
 A:=A.deeper (gL qual scope s.heap.objs.size f cd)
 N:=N
 s₀:=s
 H₀:=H
 env:=gL qual scope s.heap.objs.size f cd
 outer:=outer
 stack:=gL qual scope s.heap.objs.size f cd::outer
 ex:=[]
 calm:=aC
 fn:=λ_=>aC
 pn:=[]
 xe:=λe s'=>aw (model P w) (A.deeper (gL qual scope s.heap.objs.size f cd)) (leaving (gL qual scope s.heap.objs.size f cd) e) (λ_ s''=>CX outer H s E e s'') (λe' s''=>CX outer H s E e' s'') s'
theorem LS{a:e7}{n:Nat}{x:ay}(h:a.names.lookup x=ax .cell):∃c,(cellsFrom n a.names []).lookup x=ax c:=by have q:=jH a.names n [] (.inl h);exact cK.mp q
theorem Hk{a b c:ay}(h:a++c=b++c):a=b:=by
 obtain⟨a⟩:=a;obtain⟨b⟩:=b;have e:a++c.cps=b++c.cps:=congrArg ay.cps h;have d:a.toList++c.cps.toList=b.toList++c.cps.toList:=by rw[<-fM,<-fM,e]
 have f:=kz.mp (List.append_cancel_right d);rw[f]
theorem G4{O:CXT}{P:bB}{w:b8}{K:aF}{mg:ay->Option aI}{m:bW}{N ps:List ay}{g:ay}{d:e7}{f:aL}{D:aI}{A:ba}{j:List kM}{s s1:aM}{H:Hp}{E:XK}{I:List aI}{vs:List V}
  (J:cq K D g=aC) (S:Zp N ps d) (hd:A.handled=aA) (n:Env0 P w K mg m A j s H) (W:vs.length=ps.length) (r:Vals vs I)
  (x:InCallC s s.heap.objs.size (ly (gL g d s.heap.objs.size f D).kindOf (ps.zip I) λ_=>aA) (cellsFrom (s.heap.objs.size+1) d.names []) (lz (gL g d s.heap.objs.size f D).kindOf (ps.zip I) λ_=>aA) s1) :
  Inv (QP O P w K mg m N g d f D A j s H E) [] (start N vs) H s1:=by
 have R:ps.length<=N.length:=by have:=congrArg iN S.pre;rw[bT] at this;omega
 obtain⟨F,tk,rfl,M⟩:=x.done;have o:∀b:aL,b∉(QP O P w K mg m N g d f D A j s H E).ex:=λb z=>absurd (show b∈([]:List aL) from z) (by simp)
 refine⟨⟨n.mod,S.kind,rfl,rfl,aX _,λy z c F l=>?_,λy t=>?_,λy c _ h=>?_,λ_=>hd,jj n.frames,.inr ⟨rfl,rfl⟩,λb z=>absurd z (o b),n.bs,n.bsz,λb _ _=>o b,λb z=>absurd z (o b),n.funs,n.frf,n.tab,λq _ U _=>by rw[<-Hk U];exact J⟩,
  rfl,n.bare,Un.kept M,⟨_,x.toInCall.ns,λi y v F l X=>?_⟩,λy c h=>⟨_,x.cell y c h⟩,n.hok.fresh (aX _),λy c h=>?_,λp C=>absurd (show p∈([]:List (aL×dI)) from C) (by simp),n.hok.kept M,?_⟩
 ·exact name_of_addr x.apart (cU F) (cU l)
 ·have t:=t;rcases t with t | t
  ·exact LS t
  ·exact absurd rfl (S.nofree _ (cU t))
 ·exact bz (x.above y c (cU h))
 ·have G:i<vs.length:=by
   unfold start at l;by_cases G:i<vs.length
   ·exact G
   ·rw[bA (by simpa using G)] at l;rw[bU] at l;split at l<;>cases l
  have T:vs[i]?=ax v:=by
   unfold start at l;rw[ah (by simpa using G),aW] at l
   cases e:vs[i]? with
   | none=>rw[e] at l;cases l
   | some a=>rw[e] at l;cases l;rfl
  obtain⟨u,L,Q⟩:=r.get T;have C:ps[i]?=ax y:=by rw[<-S.pre,eD (by omega)];exact F
  have B:ps.Nodup:=by rw[<-S.pre];exact S.nd.sublist (ka _ _)
  refine⟨u,Q,?_⟩;rcases S.par y (bK C) with k | k
  ·exact .inl ⟨k,Nf B C L k⟩
  ·obtain⟨c,e⟩:=LS k;refine .inr ⟨.inl k,c,e,?_⟩;have q:=x.cell y c e;rw[Ng B C L (by show d.names.lookup y≠_;rw[k];decide)] at q;exact q
 ·exact n.hok.fresh (bz (x.above y c (cU h)))
 ·unfold start;show _=N.length;rw[aj,aK,dO];omega
theorem WW{M:CXT}{P:bB}{w:b8}{K:aF}{mg:ay->Option aI}{h:bW}{k:Nat}{f:aL}{name d:ay}{i:kA}{j:List bp}{a:e7}{Z kV C Y g ct oc:aI}{an od:Option aL}
  {T:Array (Option aI)} {N ps:List ay} {O:Sp} (lk:K.lookup f=ax ⟨oc,od,.func (cw name d i j a Z kV C Y an g ct),T⟩) (G:cq K g d=aC) (S:Zp N ps a)
  (len:∀vs H Q E,O vs H Q E->vs.length=ps.length)
  (p:∀(A:ba)(c:List kM)(s:aM)(H:Hp)(vs:List V)(Q:VK)(E:XK),Room k (A.deeper (gL d a s.heap.objs.size f g))->O vs H Q E->
   ∃t,PSs (QP M P w K mg h N d a f g A c s H E) j t/\t { nx:=λ_ m=>Q .non m,rt:=Q } (start N vs) H) :
  RW P w K mg h M (k+1) f (cw name d i j a Z kV C Y an g ct) ps O:=by
 refine⟨len,λA c s H args us vs Q E U F hb r L=>?_⟩;have hl:=len _ _ _ _ L;have KX:=F.mod.kin.keeps λb o e=>(F.bs b o e).1;have R:=F.mod.nolimit.keeps λb o e=>(F.bs b o e).1
 have z:∀y∈ps.zip us,a.names.lookup y.1=ax .local\/(a.names.lookup y.1=ax .cell/\((cellsFrom (s.heap.objs.size+1) a.names []).lookup y.1).isSome=aC):=λ⟨n,v⟩ hy=>by
  rcases S.par n (fX hy).1 with q | q
  ·exact .inl q
  ·exact .inr ⟨q,jH _ _ _ (.inl q)⟩
 refine codeAny_call_function U.depth (KX _ _ lk) rfl S.co S.gen rfl (PySem.W.codeRec_of KX G) (hb _ _ _ _ ?_);refine wpAny_newFunctionEnv_cells S.kind z λenv he s1 x=>?_;subst he;refine⟨R.keeps x.toInCall.keep,codeAny_func ?_⟩;obtain⟨t,ht,hq⟩:=p A c s H vs Q E (U.deeper _) L;have I:Inv (QP M P w K mg h N d a f g A c s H E) [] (start N vs) H s1:=G4 G S U.hd F hl r x;refine cB (ht [] s1 (start N vs) H _ I hq) (λfl X B=>?_) λe X B=>B
 have D:∀{l:St}{m:Hp}{v:V}{u:aI},Inv (QP M P w K mg h N d a f g A c s H E) [] l m X->RelV v u->Q v m->CE c P w H s Q u X:=
  λ{l m v u} J W q=>⟨v,m,J.os,J.bare,J.base,J.hok,W,q⟩
 cases fl with
 | ret u=>
  obtain⟨v,l,m,J,W,q⟩:=B;exact D J W q
 | next=>
  obtain⟨l,m,J,q⟩:=B;exact D (v:=V.non) J rfl q
 | brk=>
  obtain⟨_,_,_,q⟩:=B;exact cg q
 | cont=>
  obtain⟨_,_,_,q⟩:=B;exact cg q
section
variable {X:Cx} {x:ay} {p pos:dz} {e:bH} {es:List bH} {t:TA} {id T:String} {r:List V->Hp->VK->Prop}
noncomputable def tCB(r:List V->Hp->VK->Prop)(t:TA):TE:=λσ H Q=>t σ H λvs H1=>r vs H1 Q
theorem LU(l:Xb X (.builtin id) r)(j:Gl X x)(v:X.mg x=aA)(i:c9 x=ax (.builtin id))(o:PA X (e::es) t)(n:x≠"__name__":=by decide)(b:(x==("__debug__" : ay))=aB:=by decide)
  (q:aR (e::es) X.env=(aB,eval e X.env)::aR es X.env:=by rfl) (a:(dX pos (aR es X.env)).any (·.1)=aB:=by rfl):PE X (.Call (.Name x p) (e::es) [] pos) (tCB r t):=by
 intro c s d H Q I h;refine df (Vj I j v i ?_ n b);exact PyProof.Rows.callWith_builtin1 (Yl (o pos c s d H _ I h) λm s1 ⟨vs,g,u,f,k⟩=>l c s1 d g vs m Q u f k) q a
theorem Nh(l:Xb X (.type T) r)(j:Gl X x)(v:X.mg x=aA)(i:c9 x=ax (.type T))(o:PA X (e::es) t)(n:x≠"__name__":=by decide)(b:(x==("__debug__" : ay))=aB:=by decide)
  (q:aR (e::es) X.env=(aB,eval e X.env)::aR es X.env:=by rfl) (a:(dX pos (aR es X.env)).any (·.1)=aB:=by rfl):PE X (.Call (.Name x p) (e::es) [] pos) (tCB r t):=by
 intro c s d H Q I h;refine df (Vj I j v i ?_ n b);exact bx (Yl (o pos c s d H _ I h) λm s1 ⟨vs,g,u,f,k⟩=>l c s1 d g vs m Q u f k) q a
end
end L2
namespace HT
open PySem PyProof.Rows
section
variable {prog:bB} {w:b8} {A:ba} {E:aI->aM->Prop} {s:aM}
theorem cat_tup{t b:aL}{vs a:List aI}{Q:aI->aM->Prop}(y:l6 s.heap t vs.toArray)(x:l6 s.heap b a.toArray)(p:vs≠[])
  (C:a=[]->Q (.ref t) s) (z:a≠[]->Q (.ref s.heap.objs.size) { s with heap:=s.heap.push { cls:=.type "tuple",data:=.seq (vs++a).toArray } })
  (j:vs.length+a.length<=sizeLine):aw (model prog w) A (dN .Add (.ref t) (.ref b)) Q E s:=by
 obtain⟨⟨l,u,f,o⟩,i,B,n,hd⟩:=id y;obtain⟨⟨v,d,data2,g⟩,c,k,q,m⟩:=id x;subst B hd k m;have e:vs.toArray++a.toArray=(vs++a).toArray:=by simp
 by_cases h:a=[]
 ·exact jI ⟨_,i,rfl⟩ ⟨_,c,rfl⟩ ik kH gE gA (fU _ _)
   (tuple_addW1 t b vs.toArray a.toArray n q u d o g (by simpa using p) (by simp[h])) ⟨i,c,C h⟩
 ·refine jI ⟨_,i,rfl⟩ ⟨_,c,rfl⟩ ik kH gE gA (fU _ _)
   (tuple_addW2 t b vs.toArray a.toArray n q u d o g (by simpa using p) (by simpa using h) (by rw[aS];exact j)) ⟨i,c,?_⟩
  rw[e];exact z h
noncomputable def sIx(n d:Nat):Option Int->Nat
 | none=>d
 | some v=>if v<0 then(v+(n:Int)).toNat else min v.toNat n
theorem sIx_none(n d:Nat):sIx n d aA=d:=rfl
theorem sIx_nat(n d k:Nat):sIx n d (ax (k:Int))=min k n:=rfl
theorem Hl(v:Int)(n d:Nat):(if v<0 then max (v+(n:Int)) 0 else min v (n:Int))=((sIx n d (ax v):Nat):Int):=by
 show(if v<0 then max (v+(n:Int)) 0 else min v (n:Int))=(((if v<0 then(v+(n:Int)).toNat else min v.toNat n):Nat):Int);by_cases a:v<0
 ·simp only[m7 a];omega
 ·simp only[m9 a];omega
theorem JB(lo a:Option Int)(n:Nat):iC lo a 1 (n:Int)=(((sIx n 0 lo:Nat):Int),((sIx n n a:Nat):Int)):=by
 refine Prod.ext ?_ ?_
 ·cases lo with
  | none=>rfl
  | some v=>exact Hl v n 0
 ·cases a with
  | none=>rfl
  | some v=>exact Hl v n n
theorem JC(i j:Nat):dk (i:Int) (j:Int) 1=j-i:=by
 unfold dk;split<;>omega
theorem QQ{v:aI}{o:Option Int}{Q:Option Int->aM->Prop}(p:kS v o)(h:Q o s):aw (model prog w) A (gn.Slice.slicePartIndex v) Q E s:=by
 cases p with
 | none=>exact slicePart_none h
 | int i t=>exact slicePart_int h
theorem SA{f:aL}{d e:aI}{lo c:Option Int}{n:Nat}{Q:Int×Int×Nat->aM->Prop}(g:s.heap.IsSliceOf f d e .none)(i:kS d lo)(k:kS e c)
  (h:Q (((sIx n 0 lo:Nat):Int),1,sIx n n c-sIx n 0 lo) s):aw (model prog w) A (gn.Slice.sliceApplied (.ref f) (pure (n:Int))) Q E s:=by
 obtain⟨os,a,j,b⟩:=id g;refine aE (aE (cW a b rfl (aE (cW a b rfl (aE (cW a b rfl (aU ?_)))))));refine aE (slicePart_none ?_);refine aE (QQ i (aE (QQ k (aE (aU ?_)))));show aw _ _ (match iC lo c 1 (n:Int) with | (lo,c)=>pure (lo,(1:Int),dk lo c 1)) _ _ s;rw[JB lo c n];show aw _ _ (pure (((sIx n 0 lo:Nat):Int),(1:Int),dk ((sIx n 0 lo:Nat):Int) ((sIx n n c:Nat):Int) 1)) _ _ s;rw[JC];exact aU h
theorem EH(xs:Array aI)(i k:Nat):((aD k).filterMap λ(m:Nat)=>xs[((i:Int)+(m:Int)*1).toNat]?).toArray=((xs.toList.drop i).take k).toArray:=by
 have e:(λ(m:Nat)=>xs[((i:Int)+(m:Int)*1).toNat]?)=λm=>xs[i+m]?:=by
  funext m;have:((i:Int)+(m:Int)*1).toNat=i+m:=by omega
  rw[this]
 rw[e];have:=pick_run xs i k;rw[List.filterMap_map] at this;have a:((λx=>xs[x]?) ∘ λx=>i+x)=λm=>xs[i+m]?:=rfl;rw[a] at this;rw[this]
theorem getItem_tuple_cut{t e:aL}{a:Array aI}{k l:aI}{lo c:Option Int}{Q:aI->aM->Prop}(d:l6 s.heap t a)(m:s.heap.IsSliceOf e k l .none)(p:kS k lo)(v:kS l c)
  (u:¬(sIx a.size 0 lo=0/\sIx a.size a.size c=a.size))
  (h:Q (.ref s.heap.objs.size) { s with heap:=s.heap.push { cls:=.type "tuple",data:=.seq ((a.toList.drop (sIx a.size 0 lo)).take (sIx a.size a.size c-sIx a.size 0 lo)).toArray } })
  (n:a.size<=sizeLine):aw (model prog w) A (jJ (.ref t) (.ref e)) Q E s:=by
 have b:sizeOk (.seq ((a.toList.drop (sIx a.size 0 lo)).take (sIx a.size a.size c-sIx a.size 0 lo)).toArray):=by show((a.toList.drop (sIx a.size 0 lo)).take (sIx a.size a.size c-sIx a.size 0 lo)).toArray.size<=sizeLine;rw[aS,bT,bX,cA];omega
 obtain⟨os,g,j,o⟩:=id m;have i:s.TypeIs (.ref e) "slice":=⟨os,g,j⟩;unfold jJ
 try with_reducible refine eB ?_
 first | refine aE (aU ?_) | skip
 refine aE (wpAny_sequenceKey d.typeIs rfl ?_)
 refine aE (cP d.typeIs eI
  (cT eI d.typeIs entry_tuple_getitem ?_ (args_tuple_getitem _ _)))
 show aw _ _ (gn.Tuple.tupleItemsOf (.ref t) >>= _) _ _ s;refine aE (tupleItemsOf_ d ?_);refine aE (wpAny_typeOf i ?_);refine aE (SA m p v ?_);have f:¬((((sIx a.size 0 lo:Nat):Int)==0&&(1:Int)==1&&(sIx a.size a.size c-sIx a.size 0 lo)==a.size)=aC):=by intro q;rw[ao,ao] at q;have x:=eq_of_beq q.1.1;have y:=eq_of_beq q.2;exact u ⟨by omega,by omega⟩
 show aw _ _ (if(((sIx a.size 0 lo:Nat):Int)==0&&(1:Int)==1&&(sIx a.size a.size c-sIx a.size 0 lo)==a.size)=aC then _ else _) _ _ s;rw[m9 f,EH]
 first
  | exact aE (cX (aU ⟨_,rfl,aU h⟩) b)
  | exact aE (cX (aE (aU (aU ⟨_,rfl,aU h⟩))) b)
  | exact aE (aE (cX (aU (aU ⟨_,rfl,aU h⟩)) b))
  | exact aE (aE (cX (aU ⟨_,rfl,aU h⟩) b))
end
end HT
namespace L2
open PySem PySem.Spec PyProof.Rows
abbrev TO:=St->Hp->(Option Int->Hp->Prop)->Prop
noncomputable def PO(X:Cx)(e:Option bH)(t:TO):Prop:=
 ∀(m3:List (aL×dI))(s:aM)(σ:St)(H:Hp)(Q:Option Int->Hp->Prop),Inv X m3 σ H s->t σ H Q->
  aw (model X.prog X.w) X.A (evalPart e X.env) (λu s'=>∃o H',Inv X m3 σ H' s'/\kS u o/\Q o H') X.xe s
noncomputable def BO:TO:=λ_ H Q=>Q aA H
noncomputable def Zf2(t:TE):TO:=λσ H Q=>t σ H λx H1=>∃i,x = .int i/\Q (ax i) H1
theorem QR{ns:List Int}:∀{a:List aI},Vals (ns.map V.int) a->gS a ns:=by
 induction ns with
 | nil=>intro a r;rw[eR] at r;cases r;exact .nil
 | cons n ns ih=>
  intro a r
  cases r with
  | cons r1 r2=>
   obtain⟨t,e⟩:=r1;subst e;exact .cons n t (ih r2)
section
variable {X:Cx} {e:bH} {te:TE} {lo hi:Option bH} {tl th:TO} {pos p2:dz}
theorem BP:PO X aA BO:=by intro a s b H Q I h;exact aU ⟨aA,H,I,.none,h⟩
theorem BQ(h:PE X e te):PO X (ax e) (Zf2 te):=by intro a s d H Q I j;refine Yl (h a s d H _ I j) λu s1 ⟨x,f,b,c,g⟩=>?_;obtain⟨i,rfl,q⟩:=g;obtain⟨t,rfl⟩:=c;exact⟨ax i,f,b,.int i t,q⟩
noncomputable def SlR(X:Cx)(r:V->Option Int->Option Int->Hp->VK->Prop):Prop:=
 ∀(m3:List (aL×dI))(s:aM)(σ:St)(H:Hp)(x:V)(v vl vu:aI)(lo hi:Option Int)(sl:aL)(Q:VK),Inv X m3 σ H s->RelV x v->s.heap.IsSliceOf sl vl vu .none->kS vl lo->kS vu hi->r x lo hi H Q->
  ∃T id,typeLookup (.type T) "__getitem__" = pure (ax (.builtin id))/\s.TypeIs v T/\aw (model X.prog X.w) X.A (jJ v (.ref sl)) (EP X m3 σ Q) X.xe s
noncomputable def tSl(r:V->Option Int->Option Int->Hp->VK->Prop)(te:TE)(tl th:TO):TE:=λσ H Q=>te σ H λx H1=>tl σ H1 λl H2=>th σ H2 λu H3=>r x l u H3 Q
theorem LV{r:V->Option Int->Option Int->Hp->VK->Prop}(m:SlR X r)(F:PE X e te)(A:PO X lo tl)(y:PO X hi th):PE X (.Subscript e (.Slice lo hi aA p2) pos) (tSl r te tl th):=by intro a s c H Q I h;refine mB (Yl (F a s c H _ I h) λv s1 ⟨x,k,L,j,o⟩=>?_);refine wpAny_Slice (Yl (A a s1 c k _ L o) λf s2 ⟨l,E,p,z,t⟩=>Yl (y a s2 c E _ p t) λg d ⟨u,i,G,J,B⟩=>?_);refine aU ?_;have C:Inv X a c i { d with heap:=d.heap.push { cls:=.type "slice",data:=.fields #[f,g,.none] } }:=G.kept λb M q=>aJ _ q;obtain⟨T,id,D,w,n⟩:=m a { d with heap:=d.heap.push { cls:=.type "slice",data:=.fields #[f,g,.none] } } c i x v f g l u d.heap.objs.size Q C j (bW.IsSliceOf.new ..) z J B;exact tail_any w D n rfl
noncomputable def G5(xs:List V)(lo hi:Option Int):List V:=(xs.drop (HT.sIx xs.length 0 lo)).take (HT.sIx xs.length xs.length hi-HT.sIx xs.length 0 lo)
theorem RG(xs:List V)(lo a:Option Int):(G5 xs lo a).length<=xs.length:=by unfold G5;rw[bT,bX];omega
noncomputable def Zie(K:aF):V->Option Int->Option Int->Hp->VK->Prop:=λx lo hi H Q=>∃a xs,x = .ref a/\SqT K H a xs/\
 ¬(HT.sIx xs.length 0 lo=0/\HT.sIx xs.length xs.length hi=xs.length)/\∀p,H p=aA->Q (.ref p) (upd H p (.tup (G5 xs lo hi)))
theorem Zc0:SlR X (Zie X.K):=by
 intro y s z H x v t A lo f u Q I j k i n h;obtain⟨a,xs,rfl,l,m,q⟩:=h;cases j;obtain⟨p,r,d,g⟩:=I.tuple l;have c:p.toArray.size=xs.length:=by rw[aS];exact r.length.symm
 refine⟨"tuple",_,eI.lookup,d.typeIs,?_⟩;refine HT.getItem_tuple_cut d k i n (by rw[c];exact m) ?_ (by rw[c];exact g);rw[c];refine⟨.ref s.heap.objs.size,_,I.laid (λb w q=>aJ _ q) (aX _) ?_,rfl,q _ (I.hok.fresh (aX _))⟩;exact⟨⟨bg (RG xs lo f) g,λo e=>QL e⟩,_,(r.drop (HT.sIx xs.length 0 lo)).take (HT.sIx xs.length xs.length f-HT.sIx xs.length 0 lo),lA _ _⟩
noncomputable def Zf3(K:aF):R2:=λx y H Q=>∃a b xs ys,x = .ref a/\y = .ref b/\SqT K H a xs/\SqT K H b ys/\xs≠[]/\xs.length+ys.length<=sizeLine/\
 (ys=[]->Q (.ref a) H)/\(ys≠[]->∀p,H p=aA->Q (.ref p) (upd H p (.tup (xs++ys))))
theorem Vals.nil_iff{xs:List V}{a:List aI}(r:Vals xs a):a=[]↔xs=[]:=by
 cases r with
 | nil=>simp
 | cons _ _=>simp
theorem BR:U6 X (dN .Add) (Zf3 X.K):=by intro C s D H x y v u Q I n i h;obtain⟨a,b,xs,A,rfl,rfl,t,k,p,g,j,l⟩:=h;cases n;cases i;obtain⟨E,d,m,_⟩:=I.tuple t;obtain⟨f,c,p2,_⟩:=I.tuple k;refine HT.cat_tup m p2 (λz=>p (d.nil_iff.mp z)) (λz=>⟨.ref a,H,I,rfl,j (c.nil_iff.mp z)⟩) (λz=>?_) (by rw[<-d.length,<-c.length];exact g);refine⟨.ref s.heap.objs.size,_,I.laid (λb B q=>aJ _ q) (aX _) ?_,rfl,l (λw=>z (c.nil_iff.mpr w)) _ (I.hok.fresh (aX _))⟩;exact⟨⟨by rw[aj];exact g,λo e=>QL e⟩,_,d.append c,lA _ _⟩
end
noncomputable def LW(n:Nat)(i:Int):Option Nat:=if 0<=i then(if i<n then ax i.toNat else aA) else if -(n:Int)<=i then ax (i+n).toNat else aA
noncomputable def SD{α:Type}(xs:List α)(i:Int):Option α:=(LW xs.length i).bind λj=>xs[j]?
theorem Hm{n:Nat}{i:Int}{j:Nat}(h:LW n i=ax j):seqIndex? i n=ax j/\j<n/\-(n:Int)<=i/\i<n:=by
 unfold LW at h;by_cases b:0<=i
 ·rw[m7 b] at h;by_cases a:i<n
  ·rw[m7 a] at h;have e:=bJ h;exact⟨by rw[lO b a,e],by omega,by omega,a⟩
  ·rw[m9 a] at h;cases h
 ·rw[m9 b] at h;by_cases a : -(n:Int)<=i
  ·rw[m7 a] at h;have e:=bJ h;exact⟨by rw[kb (by omega) a,e],by omega,a,by omega⟩
  ·rw[m9 a] at h;cases h
theorem N6{a:Type}{xs:List a}{i:Int}{v:a}(h:SD xs i=ax v):∃j,seqIndex? i xs.length=ax j/\xs[j]?=ax v/\j<xs.length/\-(xs.length:Int)<=i/\i<xs.length:=by
 unfold SD at h
 cases e:LW xs.length i with
 | none=>rw[e] at h;cases h
 | some j=>
  rw[e] at h;obtain⟨f,c,b,d⟩:=Hm e;exact⟨j,f,h,c,b,d⟩
theorem Uz{a:Type}{xs:List a}{j:Nat}{v:a}(h:xs[j]?=ax v):SD xs (j:Int)=ax v:=by
 have b:=(aO.mp h).1;have e:LW xs.length (j:Int)=ax j:=by unfold LW;rw[m7 (by omega),m7 (by omega)];simp
 unfold SD;rw[e];exact h
noncomputable def N7(b:bH):Prop:=∀o i,subscripted b aB o i=operate [o,i] (jJ o i)
noncomputable def IxR(X:Cx)(r:R2):Prop:=
 ∀(value slice:bH)(m3:List (aL×dI))(s:aM)(σ:St)(H:Hp)(x y:V)(v u:aI)(Q:VK),Inv X m3 σ H s->RelV x v->RelV y u->r x y H Q->
  subscripted slice aB v u=operate [v,u] (jJ v u)->aw (model X.prog X.w) X.A (subscriptTail value slice v u) (EP X m3 σ Q) X.xe s
noncomputable def MtR(X:Cx)(id:String)(r:V->List V->Hp->VK->Prop):Prop:=
 ∀(m3:List (aL×dI))(s:aM)(σ:St)(H:Hp)(x:V)(xs:List V)(v:aI)(us:List aI)(Q:VK),Inv X m3 σ H s->RelV x v->Vals xs us->r x xs H Q->
  aw (model X.prog X.w) X.A (call (.builtin id) (v::us)) (EP X m3 σ Q) X.xe s
section
variable {X:Cx} {a b:bH} {ta tb:TE} {pos:dz}
theorem IxR.or{r g:R2}(h:IxR X r)(h':IxR X g):IxR X (λx y H Q=>r x y H Q\/g x y H Q):=by
 intro b a d s e H x y v u Q I f c q i;rcases q with q | q
 ·exact h b a d s e H x y v u Q I f c q i
 ·exact h' b a d s e H x y v u Q I f c q i
theorem LX{r:R2}(d:IxR X r)(m:PE X a ta)(f:PE X b tb)(k:N7 b):PE X (.Subscript a b pos) (tOp r ta tb):=by intro g s i H Q I h;exact mB (Zcm m f I h λv u s2 x y l e j c q=>d a b g s2 i l x y v u Q e j c q (k _ _))
noncomputable def Zc1(K:aF):R2:=λx y H Q=>∃p xs i v,x = .ref p/\y = .int i/\SqL K H p xs/\SD xs i=ax v/\Q v H
noncomputable def Zf4(K:aF):R2:=λx y H Q=>∃p xs i v,x = .ref p/\y = .int i/\SqT K H p xs/\SD xs i=ax v/\Q v H
noncomputable def Zf5:R2:=λx y H Q=>∃z i c,x = .str z/\y = .int i/\z.length<=sizeLine/\SD z.cps.toList i=ax c/\Q (.str ⟨#[c]⟩) H
theorem ix_list:IxR X (Zc1 X.K):=by
 intro f e n s o H x y v u Q I C m h k;obtain⟨p,xs,i,z,rfl,rfl,G,D,q⟩:=h;cases C;obtain⟨t,rfl⟩:=m;obtain⟨J,r,d,N⟩:=I.list G;obtain⟨j,b,A,M,E,F⟩:=N6 D;obtain⟨w,g,Xa⟩:=r.get A;have B:=r.length;have L:=N5;have a:EP X n o Q w s:=⟨z,H,I,Xa,q⟩;by_cases l:0<=i
 ·have c:i.toNat=j:=by rw[lO l F] at b;exact bJ b
  exact item_listR d.isList l (by omega) (by rw[c];simpa using g) a k
 ·have c:(i+(J.toArray.size:Int)).toNat=j:=by rw[kb (by omega) E] at b;rw[aS,<-B];exact bJ b
  exact jK d.isList.typeIs slot_list_getitem.lookup
   (wpAny_getItem_list_neg d.isList (by omega) (by rw[aS]<;>omega) (by omega) (by rw[c];simpa using g) ⟨rfl,a⟩) k
theorem ix_tup:IxR X (Zf4 X.K):=by
 intro c a g s k H x y v u Q I o e h A;obtain⟨p,xs,i,z,rfl,rfl,C,B,q⟩:=h;cases o;obtain⟨t,rfl⟩:=e;obtain⟨L,r,d,G⟩:=I.tuple C;obtain⟨j,f,m,F,E,J⟩:=N6 B;obtain⟨w,l,Xa⟩:=r.get m;have n:=r.length;have D:=N5;have b:EP X g k Q w s:=⟨z,H,I,Xa,q⟩
 exact jK d.typeIs slot_tuple_getitem.lookup
  (getItem_tuple d (by omega) (by omega) (by rw[aS,<-n];exact f) (by simpa using l) ⟨rfl,b⟩) A
theorem Zc2:IxR X Zf5:=by
 intro b a A s B H x y v u Q I l e h m;obtain⟨z,i,c,rfl,rfl,E,n,q⟩:=h;obtain⟨t,rfl⟩:=l;obtain⟨t',rfl⟩:=e;obtain⟨j,d,g,D,o,w⟩:=N6 n;have k:z.cps.toList.length=z.length:=by simp[ay.length]
 rw[k] at d o w;have C:=N5
 exact tail_any (typeIs_str s z t) slot_str_getitem.lookup (getItem_str (by
  have f:decide (i < -(2^63:Int))=aB:=decide_eq_false (by omega);have p:decide (i ≥ 2^63)=aB:=decide_eq_false (by omega);rw[f,p,Bool.or_false]) (by rw[d];simpa using g) ⟨.str ⟨#[c]⟩,H,I.tok _,⟨_,rfl⟩,q⟩) m
noncomputable def rIx(K:aF):R2:=λx y H Q=>Zc1 K x y H Q\/Zf4 K x y H Q\/Zf5 x y H Q
theorem Zc3:IxR X (rIx X.K):=ix_list.or (ix_tup.or Zc2)
theorem JD(a:List aI)(n j:Nat)(u:aI):cV (·.setIfInBounds j u) { cls:=.type "list",data:=.seq a.toArray n }={ cls:=.type "list",data:=.seq (a.set j u).toArray n }:=by simp[cV]
theorem Inv.lst{b:List (aL×dI)}{c:St}{H:Hp}{s:aM}{p:aL}{xs:List V}(I:Inv X b c H s)(h:H p=ax (.lst xs)) :
  ∃(a:List aI) (n:Nat),Vals xs a/\s.heap.get? p=ax { cls:=.type "list",data:=.seq a.toArray n }/\xs.length<=sizeLine:=by
 obtain⟨z,a,n,r,e⟩:=I.hok p _ h;exact⟨a,n,r,e,z⟩
theorem Inv.lstUpd{i:List (aL×dI)}{j:St}{H:Hp}{s:aM}{p:aL}{xs c:List V}{k a:List aI}{n d:Nat}{f:dI->dI}(I:Inv X i j H s)(h:H p=ax (.lst xs))
  (o:s.heap.get? p=ax { cls:=.type "list",data:=.seq k.toArray n }) (g:f { cls:=.type "list",data:=.seq k.toArray n }={ cls:=.type "list",data:=.seq a.toArray d }) (r:Vals c a) (m:c.length<=sizeLine) (t:Nat) :
  Inv X i j (upd H p (.lst c)) { s with heap:=s.heap.update p f,toks:=t }:=by
 have e:(s.heap.update p f).get? p=ax { cls:=.type "list",data:=.seq a.toArray d }:=by rw[gJ f o (by rw[g]<;>rfl),g]
 refine I.write (by rw[h];trivial) (.inl rfl) (λb u l q=>(jL _ _ (bO l)).trans q) ⟨_,e⟩ ?_;exact⟨m,a,d,r,e⟩
noncomputable def EI:V->V->V->Hp->(Hp->Prop)->Prop:=λo i v H Q=>∃p xs k j,o = .ref p/\i = .int k/\H p=ax (.lst xs)/\LW xs.length k=ax j/\Q (upd H p (.lst (xs.set j v)))
theorem WX:Zfp X EI:=by
 intro C s D H o i v J E u Q I x A B h;obtain⟨p,xs,k,j,rfl,rfl,e,y,q⟩:=h;cases x;obtain⟨t,rfl⟩:=A;obtain⟨m,n,r,d,z⟩:=I.lst e;obtain⟨a,F,l,g⟩:=Hm y;have b:=r.length;have G:=N5
 have f:=
  I.lstUpd e d (JD m n j u) (r.set B j) (by rw[cH];exact z) s.toks
 by_cases w:0<=k
 ·have c:k.toNat=j:=by rw[lO w g] at a;exact bJ a
  exact PySem.W.ki_setAt d w (by omega) (by rw[aS,<-b];exact g) (by rw[c];exact⟨_,f,q⟩)
 ·have c:(k+(m.toArray.size:Int)).toNat=j:=by rw[kb (by omega) l] at a;rw[aS,<-b];exact bJ a
  exact PySem.W.ki_setBack d (by omega) (by rw[aS,<-b];exact l) (by omega) (by rw[c];exact⟨_,f,q⟩)
theorem N8(lo a:Option Int)(n:Nat):(gC lo a aA n).1=((HT.sIx n 0 lo:Nat):Int)/\(gC lo a aA n).2.1=((HT.sIx n n a:Nat):Int)/\(gC lo a aA n).2.2=1:=by
 refine⟨?_,?_,rfl⟩
 ·cases lo with
  | none=>simp[gC,HT.sIx]
  | some i=>
   simp only[gC,HT.sIx,lC];by_cases h:i<0
   ·simp only[h,if_true]<;>omega
   ·simp only[h,if_false]<;>omega
 ·cases a with
  | none=>simp[gC,HT.sIx]
  | some i=>
   simp only[gC,HT.sIx,lC];by_cases h:i<0
   ·simp only[h,if_true]<;>omega
   ·simp only[h,if_false]<;>omega
theorem OQ(a:List aI)(lo b:Option Int):slicePick a.toArray lo b aA=((a.drop (HT.sIx a.length 0 lo)).take (HT.sIx a.length a.length b-HT.sIx a.length 0 lo)).toArray:=by
 obtain⟨e,d,c⟩:=N8 lo b a.toArray.size;unfold slicePick;rw[e,d,c];simp only[sliceRange_one,pick_run]<;>rfl
noncomputable def Zif(K:aF):V->Option Int->Option Int->Hp->VK->Prop:=λx lo hi H Q=>∃a xs,x = .ref a/\SqL K H a xs/\∀p,H p=aA->Q (.ref p) (upd H p (.lst (G5 xs lo hi)))
theorem BS:SlR X (Zif X.K):=by intro p s t H x v m u lo e n Q I g i f k h;obtain⟨a,xs,rfl,j,q⟩:=h;cases g;obtain⟨w,r,d,l⟩:=I.list j;have c:=r.length;refine⟨"list",_,slot_list_getitem.lookup,d.isList.typeIs,?_⟩;refine wpAny_getItem_list_slice d.isList i f k .none (by simp) ?_ (by rw[aS]<;>omega);rw[OQ,<-c];refine⟨.ref s.heap.objs.size,_,I.laid (λb o q=>aJ _ q) (aX _) ?_,rfl,q _ (I.hok.fresh (aX _))⟩;exact⟨bg (RG xs lo e) l,_,0,(r.drop (HT.sIx xs.length 0 lo)).take (HT.sIx xs.length xs.length e-HT.sIx xs.length 0 lo),a9 _ rfl⟩
theorem N9:Xb X (.type "list") (λxs H Q=>∃p c,xs=[.ref p]/\(SqL X.K H p c\/SqT X.K H p c)/\∀l,H l=aA->Q (.ref l) (upd H l (.lst c))):=by
 intro x s y H xs A Q I r h;obtain⟨p,c,rfl,m,q⟩:=h;obtain⟨u,rfl,z⟩:=V1 r;cases z
 have i:∀(a:List aI),Vals c a->c.length<=sizeLine->∀(h':bW)(d:Nat),(∀b o',s.heap.get? b=ax o'->h'.get? b=ax o')->
   h'.get? s.heap.objs.size=ax { cls:=.type "list",dict:=aA,data:=.seq a.toArray d,slots:=#[] }->EP X x y Q (.ref s.heap.objs.size) { s with heap:=h' }:=λa f k h' d g e=>
  ⟨.ref s.heap.objs.size,_,I.laid g (aX _) (show ObjOk X.prog X.w _ h' _ (.lst c) from⟨k,a,d,f,e⟩),rfl,q _ (I.hok.fresh (aX _))⟩
 rcases m with m | m
 ·obtain⟨a,f,t,k⟩:=I.list m;have j:=f.length;obtain⟨o,w,v,n,hd⟩:=t.isList;exact call_list_seq p (.inl rfl) w v hd (λh' d g e=>i a f k h' d g e) (by simp only[aS]<;>omega)
 ·obtain⟨a,f,t,k⟩:=I.tuple m;have j:=f.length;obtain⟨o,w,v,n,hd⟩:=t;exact call_list_seq p (.inr rfl) w v hd (λh' d g e=>i a f k h' d g e) (by simp only[aS]<;>omega)
theorem Zv:Xb X (.type "tuple") (λxs H Q=>∃p a,xs=[.ref p]/\((SqL X.K H p a/\∀l,H l=aA->Q (.ref l) (upd H l (.tup a)))\/(SqT X.K H p a/\Q (.ref p) H))):=by
 intro v s w H xs x Q I r h;obtain⟨p,a,rfl,h⟩:=h;obtain⟨u,rfl,t⟩:=V1 r;cases t;rcases h with⟨f,q⟩ | ⟨f,q⟩
 ·obtain⟨k,d,c,i⟩:=I.list f;have g:=d.length;refine call_tuple_list c.isList (λh' m=>?_) (by simp only[aS]<;>omega);have j:=I.kept (t':=s.toks) m
  have n:=
   j.laid (t':=s.toks) (λb o e=>aJ _ e) (aX _) (show ObjOk X.prog X.w _ _ _ (.tup a) from⟨⟨i,λo e=>QL e⟩,k,d,lA _ _⟩)
  exact⟨.ref h'.objs.size,_,n,rfl,q _ (j.hok.fresh (aX _))⟩
 ·obtain⟨k,d,c,i⟩:=I.tuple f;exact call_tuple_same c ⟨.ref p,H,I,rfl,q⟩
noncomputable def tyV(K:aF)(T:String)(x:V)(H:Hp):Prop:=match x with
 | .str _=>T = "str"
 | .int _=>T = "int"
 | .ref p=>(T = "list"/\∃xs,SqL K H p xs)\/(T = "tuple"/\∃o,K.lookup p=ax o/\o.cls = .type "tuple"/\o.dict=aA)\/
   (T = "dict"/\((∃m4,H p=ax (.dK m4))\/∃m4,H p=ax (.dT m4)))\/(T = "set"/\∃S n,H p=ax (.set S n))\/(T = "tuple"/\∃xs,H p=ax (.tup xs))
 | _=>False
theorem Zc4{j:List (aL×dI)}{k:St}{H:Hp}{s:aM}{T:String}{x:V}{v:aI}(I:Inv X j k H s)(r:RelV x v)(ty:tyV X.K T x H) :
  s.TypeIs v T/\∀a,v = .ref a->∃ob,s.heap.get? a=ax ob/\ob.dict=aA:=by
 cases x with
 | str z=>
  obtain⟨t,rfl⟩:=r;cases (ty);exact⟨typeIs_str s z t,λ_ e=>nomatch e⟩
 | int i=>
  obtain⟨t,rfl⟩:=r;cases (ty);exact⟨jM s i t,λ_ e=>nomatch e⟩
 | ref p=>
  cases r;rcases ty with⟨rfl,xs,q⟩ | ⟨rfl,o,b,l,hd⟩ | ⟨rfl,b⟩ | ⟨rfl,S,n,b⟩ | ⟨rfl,xs,b⟩;rotate_left 4
  ·obtain⟨z,u,_,o,g,f,_⟩:=(I.hok p _ b);refine⟨⟨o,g,f⟩,λa e=>?_⟩;cases e;exact⟨o,g,z.2 o g⟩
  ·obtain⟨u,_,h,_⟩:=I.list q;refine⟨h.isList.typeIs,λa e=>?_⟩;cases e;obtain⟨o,n,e,c,hd,_⟩:=h;exact⟨o,e,hd⟩
  ·refine⟨⟨o,I.kIn p o b,l⟩,λa e=>?_⟩;cases e;exact⟨o,I.kIn _ o b,hd⟩
  ·have z:∃o,s.heap.get? p=ax o/\o.ExactDict:=by
    rcases b with⟨m,b⟩ | ⟨m,b⟩
    ·obtain⟨_,_,_,_,o,_,_,e,d,_⟩:=I.hok p _ b;exact⟨o,e,d⟩
    ·obtain⟨_,_,_,_,o,_,_,e,d,_⟩:=I.hok p _ b;exact⟨o,e,d⟩
   obtain⟨o,e,d⟩:=z;refine⟨⟨o,e,d.1⟩,λa f=>?_⟩;cases f;exact⟨o,e,d.2.1⟩
  ·obtain⟨o,_,_,_,e,d,_⟩:=I.hok p _ b;refine⟨⟨o,e,d.1⟩,λa f=>?_⟩;cases f;exact⟨o,e,d.2.1⟩
 | _=>exact cg ty
noncomputable def tBM(K:aF)(T:String)(r:V->List V->Hp->VK->Prop)(to:TE)(t:TA):TE:=λσ H Q=>to σ H λx H1=>tyV K T x H1/\t σ H1 λxs H2=>r x xs H2 Q
variable {o e:bH} {es:List bH} {to:TE} {t:TA} {name:ay} {apos cpos:dz} {T id:String} {r:V->List V->Hp->VK->Prop}
theorem VJ(q:PlainAttrs T)(d:Slot T name id)(g:typeOf (.builtin id)=pure (.type "method_descriptor"))(G:MtR X id r)(E:PE X o to)(D:PA X (e::es) t)
  (b:attributeBase o name X.env (eval o X.env)=eval o X.env:=by rfl)
  (f:((dX cpos (aR (e::es) X.env)).all (λx=>!x.1)&&(backToKw cpos (lM [] X.env)).all (λx=>x.1.isSome)
   &&decide ((e::es).length+([]:List l3).length+(if([]:List l3).isEmpty then 0 else 1)<30))=aC:=by rfl)
  (c:(apos.endLine==cpos.line)=aC:=by rfl) (B:aR (e::es) X.env=(aB,eval e X.env)::aR es X.env:=by rfl) (a:(dX cpos (aR es X.env)).any (·.1)=aB:=by rfl) :
  PE X (.Call (.Attribute o name apos) (e::es) [] cpos) (tBM X.K T r to t):=by
 intro i s j H Q I h;refine wpAny_Call_method_late b f c rfl (Yl (E i s j H _ I h) λv s1 ⟨x,p,m,k,ty,u⟩=>?_);obtain⟨n,z⟩:=Zc4 m k ty;refine⟨T,id,q,d,g,n,z,?_⟩;have l:=D cpos i s1 j p _ m u;rw[B] at l ⊢;refine Calls.callWith_builtin (by show(aB || (dX cpos (aR es X.env)).any (·.1))=aB;rw[a]<;>rfl) (Calls.evalArgs_plain ?_);exact Yl l λA s2 ⟨vs,C,w,F,y⟩=>G i s2 j C x vs v A Q w k F y
end
noncomputable def MtM(X:Cx)(id:String)(r:V->List V->Hp->VK->Prop):Prop:=
 ∀(m3:List (aL×dI))(s:aM)(σ:St)(H:Hp)(x:V)(xs:List V)(v:aI)(us:List aI)(Q:VK),Inv X m3 σ H s->RelV x v->Vals xs us->r x xs H Q->
  aw (model X.prog X.w) X.A (call (.builtin id) (v::us)) (EP X m3 σ Q) X.xe s
theorem Vals.one:∀{x:V}{us:List aI},Vals [x] us->∃u,us=[u]/\RelV x u
 | _,_,.cons r .nil=>⟨_,rfl,r⟩
theorem Vals.two:∀{x y:V}{us:List aI},Vals [x,y] us->∃u v,us=[u,v]/\RelV x u/\RelV y v
 | _,_,_,.cons r (.cons q .nil)=>⟨_,_,rfl,r,q⟩
theorem Vals.dropLast{xs:List V}{a:List aI}(h:Vals xs a):Vals xs.dropLast a.dropLast:=by
 induction h with
 | nil=>exact .nil
 | cons r t ih=>
  cases t with
  | nil=>exact .nil
  | cons q t'=>exact .cons r ih
theorem Vals.rep{xs:List V}{a:List aI}(h:Vals xs a):∀k:Nat,Vals (aT k xs).flatten (aT k a).flatten
 | 0=>.nil
 | k+1=>by rw[dD,dD,fC,fC];exact Vals.append h (Vals.rep h k)
theorem SE(a:List aI):∀(k:Nat)(acc:List aI),
  kT (λd c=>d++c) acc.toArray (aT k a.toArray)=(acc++(aT k a).flatten).toArray
 | 0,acc=>by simp
 | k+1,acc=>by
  have e:acc.toArray++a.toArray=(acc++a).toArray:=by simp
  have b:(acc++a)++(aT k a).flatten=acc++(aT (k+1) a).flatten:=by rw[dD,fC,fD]
  rw[<-b,<-SE a k (acc++a),<-e,dD,List.foldl_cons]
section
variable {X:Cx} {m3:List (aL×dI)} {σ:St} {H:Hp} {s:aM} {l b:aL} {xs ys zs:List V}
theorem Inv.lset{b a:List aI}{n:Nat}{f:Array aI->Array aI}{t':Nat}(I:Inv X m3 σ H s)(h:H l=ax (.lst xs))
  (e:s.heap.get? l=ax { cls:=.type "list",data:=.seq b.toArray n }) (c:f b.toArray=a.toArray) (i:Vals ys a) (d:ys.length<=sizeLine) :
  Inv X m3 σ (upd H l (.lst ys)) { s with heap:=s.heap.update l (cV f),toks:=t' }:=by
 have q:=PySem.IsL.update e f;rw[c] at q;refine I.write (by rw[h];exact trivial) (.inl rfl) (λk u j g=>(jL s.heap (cV f) (bO j)).trans g) ⟨_,q⟩ ?_;exact⟨d,a,_,i,q⟩
theorem Inv.lnew{a:List aI}{t':Nat}(I:Inv X m3 σ H s)(c:Vals ys a)(b:ys.length<=sizeLine) :
  Inv X m3 σ (upd H s.heap.objs.size (.lst ys)) { s with heap:=s.heap.push { cls:=.type "list",data:=.seq a.toArray },toks:=t' }:=
 I.laid (λ_ _ q=>aJ _ q) (aX _) ⟨b,a,0,c,a9 _ rfl⟩
theorem Inv.fresh(I:Inv X m3 σ H s):H s.heap.objs.size=aA:=I.hok.fresh (aX _)
theorem Inv.lstM(I:Inv X m3 σ H s)(b:H l=ax (.lst xs)):xs.length<=sizeLine/\∃(a:List aI) (n:Nat),Vals xs a/\xs.length=a.length/\s.heap.get? l=ax { cls:=.type "list",data:=.seq a.toArray n }:=by obtain⟨z,a,n,r,e⟩:=I.hok l _ b;exact⟨z,a,n,r,r.length,e⟩
theorem LY{n:Nat}(h:n<=sizeLine):fV n=aB:=by exact decide_eq_false (by omega)
end
section
variable {X:Cx}
noncomputable def Hn:V->List V->Hp->VK->Prop:=λx vs H Q=>∃l xs y,x = .ref l/\vs=[y]/\H l=ax (.lst xs)/\xs.length<sizeLine/\Q .non (upd H l (.lst (xs++[y])))
theorem Xs:MtM X "list.append" Hn:=by intro g s i H x vs v k Q I c d h;obtain⟨l,xs,y,rfl,rfl,a,m,q⟩:=h;cases c;obtain⟨u,rfl,b⟩:=d.one;obtain⟨z,f,n,r,j,e⟩:=I.lstM a;refine fF F.slot_list_append ⟨_,e,rfl⟩ F.entry_list_append (F.args_list_append_2 _ _) (PySem.list_append l f.toArray n u (by rw[aS];omega)) ⟨e,?_⟩;refine⟨.non,_,I.lset a e (by simp) (r.append (.cons b .nil)) ?_,rfl,q⟩;rw[aj,cY];omega
noncomputable def Ho:V->List V->Hp->VK->Prop:=λx vs H Q=>∃l b xs zs,x = .ref l/\vs=[.ref b]/\H l=ax (.lst xs)/\H b=ax (.lst zs)/\xs.length+zs.length<=sizeLine/\Q .non (upd H l (.lst (xs++zs)))
theorem Ni:MtM X "list.extend" Ho:=by
 intro A s B H x vs v D Q I k w h;obtain⟨l,b,xs,E,rfl,rfl,g,m,G,q⟩:=h;cases k;obtain⟨u,rfl,j⟩:=w.one;cases j;obtain⟨z,d,n,r,C,e⟩:=I.lstM g;obtain⟨y,a,i,t,o,p⟩:=I.lstM m;have f:d.toArray.size+a.toArray.size<=sizeLine:=by rw[aS,aS];omega
 have c:¬(!d.toArray.isEmpty&&fV (d.toArray.size+a.toArray.size))=aC:=by rw[LY f,Bool.and_false];exact bN
 refine fF F.slot_list_extend ⟨_,e,rfl⟩ F.entry_list_extend (F.args_list_extend_2 _ _)
  (AutoSeq1.list_extend_list_list_0 l d.toArray n b a.toArray i c (by omega) (by omega)) ⟨e,p,?_⟩
 refine⟨.non,_,I.lset g e (by simp) (r.append t) ?_,rfl,q⟩;rw[aj];omega
noncomputable def Zf6:R2:=λx y H Q=>∃l b xs zs,x = .ref l/\y = .ref b/\H l=ax (.lst xs)/\H b=ax (.lst zs)/\xs.length+zs.length<=sizeLine/\∀p,H p=aA->Q (.ref p) (upd H p (.lst (xs++zs)))
theorem EJ:U6 X (dN .Add) Zf6:=by
 intro t s w H x y v u Q I f d h;obtain⟨l,b,xs,B,rfl,rfl,g,i,C,q⟩:=h;cases f;cases d;obtain⟨z,c,n,r,A,e⟩:=I.lstM g;obtain⟨o,a,p,m,j,k⟩:=I.lstM i;refine PySem.P.add_list e k ?_ (by rw[aS,aS];omega);have ea:c.toArray++a.toArray=(c++a).toArray:=by simp
 rw[ea];exact⟨.ref _,_,I.lnew (r.append m) (by rw[aj];omega),rfl,q _ I.fresh⟩
noncomputable def Zii:R2:=λx y H Q=>∃l k xs,x = .ref l/\y = .int k/\H l=ax (.lst xs)/\-(2^63)<=k/\k<2^63/\xs.length*k.toNat<=sizeLine/\
 ∀p,H p=aA->Q (.ref p) (upd H p (.lst (aT k.toNat xs).flatten))
theorem Ma{a:Type}(xs:List a)(k:Nat):(aT k xs).flatten.length=k*xs.length:=by simp
theorem Zc5:U6 X (dN .Mult) Zii:=by
 intro L s M H x y v u Q I C o h;obtain⟨l,k,xs,rfl,rfl,E,J,w,j,q⟩:=h;cases C;obtain⟨t,rfl⟩:=o;obtain⟨z,b,n,r,A,e⟩:=I.lstM E;have i:b.toArray.size*k.toNat<=sizeLine:=by rw[aS,<-A];exact j
 have f:¬b.toArray.size*k.toNat>(2^63-1)/8:=by
  have:(sizeLine:Nat)<=(2^63-1)/8:=by decide
  omega
 have d:¬(!Builtin.List.listFitsIndex k)=aC:=by rw[fitsIndex_both J w];exact bN
 have c:¬fV (b.toArray.size*k.toNat)=aC:=by rw[LY i];exact bN
 have g:kT (λp D=>p++D) #[] (aT (if b.toArray.isEmpty=aC then 0 else k.toNat) b.toArray)=(aT k.toNat b).flatten.toArray:=by
  have B:=λm=>by have:=SE b m [];rw[jZ] at this;exact this
  rw[B]
  cases b with
  | nil=>simp
  | cons a r'=>rw[m9 (by simp)]
 refine iD rfl ⟨_,e,rfl⟩ (λG=>jM G k t) noFill_list_mul F.fills_int_mul F.slot_int_rmul repeat_list F.slot_int_index.lookup
  (fF F.slot_int_rmul (jM s k t) F.entry_int_rmul (F.args_int_rmul_2 _ _) (int___rmul___int_list k t l b.toArray n)
   ⟨e,rfl,⟨_,e,rfl⟩,fF F.slot_list_mul ⟨_,e,rfl⟩ F.entry_list_mul (F.args_list_mul_2 _ _) (AutoListH.list___mul___list_int_3 l b.toArray n k t d f c) ⟨e,?_⟩⟩)
 rw[g];exact⟨.ref _,_,I.lnew (r.rep k.toNat) (by rw[Ma,kc];exact j),rfl,q _ I.fresh⟩
end
end L2
namespace Att
open PySem PySem.W PySem.Calls PyProof.Rows
theorem RX{P:Params}{h:bW}:∀(ns:List Int)(vs:List aI),WellAll P h vs (ns.map lE)->gS vs ns:=by
 intro ns
 induction ns with
 | nil=>
  intro vs w;cases w;exact .nil
 | cons n ns ih=>
  intro vs w
  cases w with
  | cons a b=>
   cases a;exact .cons _ _ (ih _ b)
theorem script_of{l:OpenLaw}{n:Nat}(p:l.most=ax n){P:Params}{h:bW}{b:List WData}{c:List aI}
  (e:l.row.toRowW.claim.pre b=aC) (i:WellAll P h c b) :
  ∃a vs ns,c=[b7 a]/\b=[WData.list (ns.map lE)]/\h.get? a=ax { cls:=.type "list",data:=.seq vs.toArray }/\gS vs ns/\ns.length<=n:=by
 have j:=(pre_splitW e).1;have o:=(pre_splitW e).2;obtain⟨d,r,rfl,s,m⟩:=hasAllW_cons j;obtain rfl:=hasAllW_nil m;obtain⟨xs,rfl,q⟩:=hasW_list s;obtain⟨ns,rfl⟩:=items_int q
 have f:ns.length<=n:=by
  have g:(WTm.not (.lt (.lit (.int (n:Int))) (.len (.arg 0)))).holds [] { args:=[.list (ns.map .int)] }=aC:=by have g:=(holds_andW o).1;rw[p] at g;exact g
  have k:=condW_of g (w_not (w_lt w_lit (w_len_list (w_arg rfl))))
  first
   | (rw[decide_eq_true q'] at k;exact absurd k rfl)
   | (simp at k;omega)
 cases i with
 | cons w1 w2=>
  cases w2
  cases w1 with
  | list ho hall=>exact⟨_,_,ns,rfl,rfl,ho,RX ns _ hall,f⟩
theorem post_true(l:OpenLaw)(a:List WData):l.row.toRowW.claim.post a (.bool aC) a=aC:=
 postW_of
  (show WShape.has [] (.bool aC) .bool=aC by first | rfl | decide | simp[WShape.arms])
  (w_eq_bool (w_res rfl) w_lit) rfl
end Att
namespace L2
open PySem PySem.Spec PyProof.Rows
section
variable {κ:Type} [DecidableEq κ]
noncomputable def TC(m4:List (κ×V))(k:κ):Option V:=(m4.find? λkv=>decide (kv.1=k)).map (·.2)
noncomputable def VU(m4:List (κ×V))(k:κ)(v:V):List (κ×V):=
 if(m4.any λkv=>decide (kv.1=k))=aC then m4.map (λkv=>if kv.1=k then(kv.1,v) else kv) else m4++[(k,v)]
theorem TF{p:κ×V}{r:List (κ×V)}{k:κ}(e:p.1=k):TC (p::r) k=ax p.2:=by simp[TC,e]
theorem TH{p:κ×V}{r:List (κ×V)}{k:κ}(e:¬p.1=k):TC (p::r) k=TC r k:=by simp[TC,e]
theorem LZ(k:κ):∀m4:List (κ×V),(m4.any λa=>decide (a.1=k))=(TC m4 k).isSome
 | []=>rfl
 | p::r=>by
  rw[kJ];by_cases e:p.1=k
  ·simp only[TF e,decide_eq_true e,Bool.true_or,Option.isSome_some]
  ·rw[TH e,decide_eq_false e,mK];exact LZ k r
theorem V2(a:List (κ×V))(k:κ)(v:V):(VU a k v).length<=a.length+1:=by
 unfold VU;split
 ·rw[aK];omega
 ·rw[aj,bM,j3];omega
theorem RelO.isSome_eq{o:Option V}{u:Option aI}(r:RelO o u):o.isSome=u.isSome:=by
 cases o with
 | none=>cases u with
  | none=>rfl
  | some _=>exact(r).elim
 | some _=>cases u with
  | none=>exact(r).elim
  | some _=>rfl
theorem KV.val{c:List (κ×V)}{vs:List (κ×aI)}(r:KV c vs)(k:κ):RelO (TC c k) (kd vs k):=by
 induction r with
 | nil=>exact bS
 | @cons p q ps qs h t ih=>
  obtain⟨d,f⟩:=h;by_cases e:p.1=k
  ·have a:=d.symm.trans e;have b:kd (q::qs) k=ax q.2:=by simp[kd,a]
   rw[TF e,b];exact f
  ·have a:¬q.1=k:=λz=>e (d.trans z);have b:kd (q::qs) k=kd qs k:=by simp[kd,a]
   rw[TH e,b];exact ih
theorem KV.any{b:List (κ×V)}{vs:List (κ×aI)}(r:KV b vs)(k:κ):(b.any λa=>decide (a.1=k))=vs.any λa=>decide (a.1=k):=by
 unfold KV at r
 induction r with
 | nil=>rfl
 | cons h t ih=>rw[kJ,kJ,ih,h.1]
theorem KV.repl{c:List (κ×V)}{vs:List (κ×aI)}(r:KV c vs)(k:κ){y:V}{u:aI}(d:RelV y u) :
  KV (c.map λa=>if a.1=k then(a.1,y) else a) (vs.map λa=>if a.1=k then(a.1,u) else a):=by
 induction r with
 | nil=>exact .nil
 | @cons p q ps qs h t ih=>
  rw[af,af];refine .cons ?_ ih;obtain⟨b,f⟩:=h;by_cases e:p.1=k
  ·rw[m7 e,m7 (b.symm.trans e)];exact⟨b,d⟩
  ·rw[m9 e,m9 (λz=>e (b.trans z))];exact⟨b,f⟩
theorem KV.put{b:List (κ×V)}{vs:List (κ×aI)}(r:KV b vs)(k:κ){y:V}{u:aI}(a:RelV y u):KV (VU b k y) (stored vs k u):=by
 unfold VU stored;rw[r.any k];by_cases e:(vs.any λc=>decide (c.1=k))=aC
 ·rw[m7 e,m7 e];exact r.repl k a
 ·rw[m9 e,m9 e];exact Paired.snoc r ⟨rfl,a⟩
theorem KV.length{a:List (κ×V)}{vs:List (κ×aI)}(r:KV a vs):a.length=vs.length:=Paired.length r
end
theorem Nj{P:bB}{w:b8}{k:Yp}{u:aI}(r:RelV (kV k) u):(Yr P w).is k u=aC:=by
 cases k with
 | inl i=>obtain⟨t,e⟩:=(r);subst e;exact LM P w i t
 | inr x=>obtain⟨t,e⟩:=(r);subst e;exact LN P w x t
theorem Nk{P:bB}{w:b8}:∀{ks:List Yp}{us:List aI},Vals (ks.map kV) us->ItemsAre (Yr P w) ks us
 | [],_,r=>by rw[eR] at r;cases r;exact .nil
 | k::ks,_,r=>by
  rw[af] at r
  cases r with
  | cons h t=>exact .cons (Nj h) (Nk t)
abbrev KT(H:Hp):List (List Yp×V)->List (List Yp×aL×aI)->Prop:=Paired λp q=>p.1=q.1/\H q.2.1=ax (.tup (p.1.map kV))/\RelV p.2 q.2.2
theorem KT.val{H:Hp}{c:List (List Yp×V)}{xs:List (List Yp×aL×aI)}(r:KT H c xs)(k:List Yp):RelO (TC c k) ((mC xs k).map (·.2)):=by
 induction r with
 | nil=>exact bS
 | @cons p q ps qs h t ih=>
  obtain⟨d,_,f⟩:=h;by_cases e:p.1=k
  ·have a:=d.symm.trans e;have b:mC (q::qs) k=ax q.2:=by simp[mC,a]
   rw[TF e,b];exact f
  ·have a:¬q.1=k:=λz=>e (d.trans z);have b:mC (q::qs) k=mC qs k:=by simp[mC,a]
   rw[TH e,b];exact ih
theorem KT.repl{H:Hp}{c:List (List Yp×V)}{xs:List (List Yp×aL×aI)}(r:KT H c xs)(k:List Yp){y:V}{u:aI}(f:RelV y u) :
  KT H (c.map λb=>if b.1=k then(b.1,y) else b) (xs.map (putAt k u)):=by
 induction r with
 | nil=>exact .nil
 | @cons p q ps qs h t ih=>
  rw[af];refine .cons ?_ ih;obtain⟨a,d,g⟩:=h;unfold putAt;by_cases e:p.1=k
  ·rw[m7 e,m7 (a.symm.trans e)];exact⟨a,d,f⟩
  ·rw[m9 e,m9 (λz=>e (a.trans z))];exact⟨a,d,g⟩
theorem KT.put{H:Hp}{a:List (List Yp×V)}{xs:List (List Yp×aL×aI)}(r:KT H a xs)(k:List Yp){b:aL}{y:V}{u:aI}(f:H b=ax (.tup (k.map kV)))(c:RelV y u) :
  KT H (VU a k y) (storedH xs k b u):=by
 have e:(a.any λd=>decide (d.1=k))=(mC xs k).isSome:=by rw[LZ,(r.val k).isSome_eq,iO]
 unfold VU storedH;rw[e];by_cases q:(mC xs k).isSome=aC
 ·rw[m7 q,m7 q];exact r.repl k c
 ·rw[m9 q,m9 q];exact Paired.snoc r ⟨rfl,f,c⟩
theorem KT.keeps{H c:Hp}{a:List (List Yp×V)}{xs:List (List Yp×aL×aI)}(r:KT H a xs)(d:∀b ys,H b=ax (.tup ys)->c b=ax (.tup ys)):KT c a xs:=
 Paired.mapP r λ_ _ z=>⟨z.1,d _ _ z.2.1,z.2.2⟩
section
variable {P:bB} {w:b8} {H:Hp} {h:bW} {a:aL}
theorem Zbb{u:HO}(ok:HOk P w H h)(e:Rd H a u):ObjOk P w H h a u:=e.ok ok
theorem L0{b:List (Yp×V)}(ok:HOk P w H h)(e:Rd H a (.dK b)):b.length<=sizeLine/\(a==dU)=aB/\∃vs,KV b vs/\h.DictOf (Yr P w) a vs:=
 Zbb ok e
theorem Zbc{b:List (Yp×V)}(ok:HOk P w H h)(e:H a=ax (.dK b)):b.length<=sizeLine/\(a==dU)=aB/\∃vs,KV b vs/\h.DictOf (Yr P w) a vs:=L0 ok (.inl e)
theorem QS{b:List Yp}(ok:HOk P w H h)(e:H a=ax (.tup (b.map kV))):(jy (Yr P w)).is h b a:=by obtain⟨_,g,r,o,d,f,n,c⟩:=(ok a _ e);exact⟨o,g.toArray,n,d,f,c,by simpa using Nk r⟩
theorem Nl{c:List (List Yp×V)}(ok:HOk P w H h)(e:Rd H a (.dT c)):c.length<=sizeLine/\(a==dU)=aB/\
  ∃xs,KT H c xs/\h.DictOfH (jy (Yr P w)) a xs:=by
 obtain⟨z,y,xs,r,o,d,ep,k,f,i,g,j⟩:=(Zbb ok e);refine⟨z,y,xs,r,o,d,ep,k,f,i,g,λx b=>?_,j⟩
 have all:∀{l:List (List Yp×V)}{m:List (List Yp×aL×aI)},KT H l m->∀x∈m,(jy (Yr P w)).is h x.1 x.2.1:=by
  intro l m q
  induction q with
  | nil=>intro x b;exact nomatch b
  | @cons p q ps qs hq t ih=>
   intro x b;rcases aa.mp b with e | b
   ·subst e;exact QS ok (by rw[<-hq.1];exact hq.2.1)
   ·exact ih x b
 exact all r x b
theorem Zf7{b:List (List Yp×V)}(ok:HOk P w H h)(e:H a=ax (.dT b)):b.length<=sizeLine/\(a==dU)=aB/\
  ∃xs,KT H b xs/\h.DictOfH (jy (Yr P w)) a xs:=Nl ok (.inl e)
end
noncomputable def L3(H:Hp)(a:aL)(y:V)(r:Option V):Prop:=
 (∃m4 k,Rd H a (.dK m4)/\y=kV k/\r=TC m4 k)\/∃m4 k b,Rd H a (.dT m4)/\y = .ref b/\H b=ax (.tup (k.map kV))/\r=TC m4 k
noncomputable def Zf8(H:Hp)(a:aL)(y v:V)(H':Hp):Prop:=
 (∃m4 k,H a=ax (.dK m4)/\y=kV k/\m4.length<sizeLine/\H'=upd H a (.dK (VU m4 k v)))\/
 ∃m4 k b,H a=ax (.dT m4)/\y = .ref b/\H b=ax (.tup (k.map kV))/\m4.length<sizeLine/\H'=upd H a (.dT (VU m4 k v))
section
variable {X:Cx} {m3:List (aL×dI)} {σ:St} {H:Hp} {s:aM} {a:aL} {y v:V} {u r:aI} {o:Option V} {A:ba} {E:aI->aM->Prop}
theorem Inv.big(I:Inv X m3 σ H s):dU<s.heap.objs.size:=by have h:=(I.mod.glob.keeps I.bk).lt;exact ke (by decide) h
theorem G6{Q:aI->aM->Prop}(q:A.units+1<dc)(I:Inv X m3 σ H s)(g:L3 H a y (ax v))(n:RelV y u)(h:∀d s',Inv X m3 σ H s'->RelV v d->Q d s') :
  aw (model X.prog X.w) A (jJ (.ref a) u) Q E s:=by
 rcases g with⟨t,k,e,m,l⟩ | ⟨t,k,b,e,m,w,l⟩
 ·subst m;obtain⟨z,hd,vs,c,f⟩:=L0 I.hok e;obtain⟨d,i,Xa⟩:=RelO.some_of (by rw[l];exact c.val k);exact wpAny_getItem_of (Nj n) f.mapOf i (h d _ (I.tok _) Xa)
 ·subst m;cases (n);obtain⟨z,hd,xs,c,f⟩:=Nl I.hok e;obtain⟨d,i,Xa⟩:=RelO.some_of (by rw[l];exact c.val k);obtain⟨p,o,j⟩:=jN.mp i;refine wpAny_getItem_heap (fg q) (QS I.hok w) f o ?_;rw[j];exact h d _ (I.tok _) Xa
theorem Zij{Q:aI->aM->Prop}(j:A.units+1<dc)(I:Inv X m3 σ H s)(g:L3 H a y o)(i:RelV y u)(h:∀s',Inv X m3 σ H s'->Q (.bool o.isSome) s') :
  aw (model X.prog X.w) A (dY .In u (.ref a)) Q E s:=by
 rcases g with⟨m,k,e,f,l⟩ | ⟨m,k,b,e,f,n,l⟩
 ·subst f;obtain⟨z,hd,vs,c,d⟩:=L0 I.hok e;refine wpAny_in_of (Nj i) hd d.mapOf ?_;rw[<-(c.val k).isSome_eq,<-l];exact h _ (I.tok _)
 ·subst f;cases (show u=b7 b from i);obtain⟨z,hd,xs,c,d⟩:=Nl I.hok e;refine wpAny_in_heap (fg j) (QS I.hok n) hd d ?_;have q:=(c.val k).isSome_eq;rw[iO] at q;rw[<-q,<-l];exact h _ (I.tok _)
theorem BU{Q:aI->aM->Prop}(j:A.units+1<dc)(I:Inv X m3 σ H s)(g:L3 H a y o)(i:RelV y u)(h:∀s',Inv X m3 σ H s'->Q (.bool (!o.isSome)) s') :
  aw (model X.prog X.w) A (dY .NotIn u (.ref a)) Q E s:=by
 rcases g with⟨m,k,e,f,l⟩ | ⟨m,k,b,e,f,n,l⟩
 ·subst f;obtain⟨z,hd,vs,c,d⟩:=L0 I.hok e;refine wpAny_notIn_of (Nj i) hd d.mapOf ?_;rw[<-(c.val k).isSome_eq,<-l];exact h _ (I.tok _)
 ·subst f;cases (i);obtain⟨z,hd,xs,c,d⟩:=Nl I.hok e;refine wpAny_notIn_heap (fg j) (QS I.hok n) hd d ?_;have q:=(c.val k).isSome_eq;rw[iO] at q;rw[<-q,<-l];exact h _ (I.tok _)
theorem Mc{h':bW}{t':Nat}{c:HO}(I:Inv X m3 σ H s)(d:VZ (H a))(f:cO a s.heap h')(g:∃q,h'.get? a=ax q)(new:ObjOk X.prog X.w (upd H a c) h' a c) :
  Inv X m3 σ (upd H a c) { s with heap:=h',toks:=t' }:=
 I.write d (.inl rfl) (λb q e z=>(f.2 b e).trans z) g new
theorem EK{P:bB}{w:b8}{e:Hp}{h':bW}{b:List (Yp×V)}{vs:List (Yp×aI)}(z:b.length<=sizeLine)(hd:(a==dU)=aB)(c:KV b vs)(d:h'.DictOf (Yr P w) a vs) :
  ObjOk P w e h' a (.dK b):=⟨z,hd,vs,c,d⟩
theorem G7{B:Hp}{Q:Unit->aM->Prop}(G:A.units+1<dc)(I:Inv X m3 σ H s)(g:Zf8 H a y v B)(w:RelV y u)(D:RelV v r)(h:∀s',Inv X m3 σ B s'->Q () s') :
  aw (model X.prog X.w) A (setItem (.ref a) u r) Q E s:=by
 rcases g with⟨i,k,e,t,l,p⟩ | ⟨i,k,b,e,t,C,l,p⟩
 ·subst t p;obtain⟨z,hd,vs,d,m⟩:=Zbc I.hok e;have O:vs.length<=sizeLine:=by rw[<-d.length];exact z
  have n:(VU i k v).length<=sizeLine:=by have:=V2 i k v;omega
  refine wpAny_setItem_pairs (Nj w) m λh' f o=>h _ ?_;have L:∃q,h'.get? a=ax q:=let⟨q,_,_,j,_⟩:=f;⟨q,j⟩;exact Mc I (by rw[e];exact bS) o L (EK n hd (d.put k D) f)
 ·subst t p;cases (w);obtain⟨z,hd,xs,d,m⟩:=Zf7 I.hok e;have O:xs.length<=sizeLine:=by rw[<-Paired.length d];exact z
  have n:(VU i k v).length<=sizeLine:=by have:=V2 i k v;omega
  refine wpAny_setItem_heap (fg G) (QS I.hok C) m λh' f o=>h _ ?_;obtain⟨q,F,ep,j,J,N,M,_,P⟩:=f;refine Mc I (by rw[e];exact bS) o ⟨q,j⟩ ⟨n,hd,_,(d.put k C D).keeps λc R x=>?_,q,F,ep,j,J,N,M,P⟩;rw[upd_ne (Zfh x e (λz=>nomatch z))];exact x
end
noncomputable def Zc6(i:bH):Prop:=∀ov iv,subscripted i aB ov iv=operate [ov,iv] (jJ ov iv)
theorem BV{prog:bB}{w:b8}{A:ba}{E:aI->aM->Prop}{s:aM}{env:kM}{b a:bH}{pos:dz}{T id:String}{Q:aI->aM->Prop}
  (k:typeLookup (.type T) "__getitem__" = pure (ax (.builtin id))) (m:Zc6 a)
  (h:aw (model prog w) A (eval b env) (λo f=>aw (model prog w) A (eval a env) (λi c=>c.TypeIs o T/\aw (model prog w) A (jJ o i) Q E c) E f) E s) :
  aw (model prog w) A (eval (.Subscript b a pos) env) Q E s:=by
 refine mB (cB h (λo f h₁=>cB h₁ (λi c d=>?_) λ_ _ x=>x) λ_ _ x=>x);obtain⟨l,d⟩:=d;refine aE ?_;refine aE (wpAny_specialOf l k ?_);have g:aw (model prog w) A (subscripted a aB o i) (λr e=>aw (model prog w) A (letTemporaryGo b o r >>= λ_=>pure r) Q E e) E c:=by rw[m o i];exact wpAny_operating (cB d (λr e j=>aE (wpAny_letTemporaryGo (aU j))) λ_ _ x=>x)
 first
  | exact aU (aE g)
  | exact aE (aU (aE g))
  | exact aE g
theorem L4{X:Cx}{d:List (aL×dI)}{f:St}{H:Hp}{s:aM}{a:aL}{y:V}{o:Option V}(I:Inv X d f H s)(g:L3 H a y o):s.TypeIs (.ref a) "dict":=by
 rcases g with⟨h,k,e,_,_⟩ | ⟨h,k,b,e,_,_,_⟩
 ·obtain⟨_,_,vs,_,c⟩:=L0 I.hok e;exact c.typeIs
 ·obtain⟨_,_,xs,_,c⟩:=Nl I.hok e;exact c.typeIs
noncomputable def Zbd(td ty:TE):TE:=λσ H Q=>td σ H λx H1=>ty σ H1 λy H2=>∃a v,x = .ref a/\L3 H2 a y (ax v)/\Q v H2
noncomputable def Zf9(ty td:TE):TE:=λσ H Q=>ty σ H λy H1=>td σ H1 λx H2=>∃a o,x = .ref a/\L3 H2 a y o/\Q (.bl o.isSome) H2
noncomputable def Hq(ty td:TE):TE:=λσ H Q=>ty σ H λy H1=>td σ H1 λx H2=>∃a o,x = .ref a/\L3 H2 a y o/\Q (.bl (!o.isSome)) H2
noncomputable def sDPut(td ty tv:TE):TS:=λD σ H=>tv σ H λv H1=>td σ H1 λx H2=>ty σ H2 λy H3=>∃a H4,x = .ref a/\Zf8 H3 a y v H4/\D.nx σ H4
section
variable {X:Cx} {o i e value:bH} {pos pos' tpos:dz} {td ty tv:TE}
theorem BW(l:X.A.units+1<dc)(z:PE X o td)(n:PE X i ty)(p:Zc6 i):PE X (.Subscript o i pos) (Zbd td ty):=by intro c s d H Q I h;refine BV PySem.F.slot_dict_getitem.lookup p (Yl (z c s d H _ I h) λu s1 ⟨x,f,w,m,j⟩=>Yl (n c s1 d f _ w j) λC s2 ⟨y,q,b,e,a,v,A,g,k⟩=>?_);subst A;obtain rfl:=m;exact⟨L4 b g,G6 l b g e λB D t Xa=>⟨v,q,t,Xa,k⟩⟩
theorem Zc7(m:X.A.units+1<dc)(p:PE X i ty)(w:PE X o td):PC X .In i o (Zf9 ty td):=by intro b s c H Q I h;refine Yl (p b s c H _ I h) λA s1 ⟨y,f,v,d,j⟩=>Yl (w b s1 c f _ v j) λu s2 ⟨x,q,k,n,a,e,z,g,l⟩=>?_;subst z;obtain rfl:u=b7 a:=n;exact Zij m k g d λB t=>⟨.bl e.isSome,q,t,rfl,l⟩
theorem G8(m:X.A.units+1<dc)(p:PE X i ty)(w:PE X o td):PC X .NotIn i o (Hq ty td):=by intro b s c H Q I h;refine Yl (p b s c H _ I h) λA s1 ⟨y,f,v,d,j⟩=>Yl (w b s1 c f _ v j) λu s2 ⟨x,q,k,n,a,e,z,g,l⟩=>?_;subst z;obtain rfl:=n;exact BU m k g d λB t=>⟨.bl (!e.isSome),q,t,rfl,l⟩
theorem Md(m:X.A.units+1<dc)(E:PE X o td)(w:PE X i ty)(f:PE X value tv)(z:fu value (ax (.Subscript o i pos')) pos.line X.env=pure aB) :
  PS X (.Assign [.Subscript o i pos'] value pos) (sDPut td ty tv):=by
 intro c s b H D I h;refine wpAny_Assign_Subscript (Yl (f c s b H _ I h) λr s1 ⟨v,e,C,G,j⟩=>Yl (E c s1 b e _ C j) λu s2 ⟨x,A,k,t,l⟩=>Yl (w c s2 b A _ k l) λJ M ⟨y,L,B,d,a,n,F,g,p⟩=>?_) z;subst F;obtain rfl:=t;exact G7 m B g d G λN q=>⟨b,n,q,p⟩
end
theorem EL{P:bB}{w:b8}{H:Hp}(h:bW)(a:dU<h.objs.size):ObjOk P w H (h.push { cls:=.type "dict",data:=.dict #[] }) h.objs.size (.dK []):=
 ⟨dH _,beq_eq_false_iff_ne.mpr (bO (bG a)),[],.nil,bW.DictOf.new h⟩
theorem EM{P:bB}{w:b8}{H:Hp}(h:bW)(a:dU<h.objs.size):ObjOk P w H (h.push { cls:=.type "dict",data:=.dict #[] }) h.objs.size (.dT []):=
 ⟨dH _,beq_eq_false_iff_ne.mpr (bO (bG a)),[],.nil,_,#[],0,a9 _ rfl,⟨rfl,rfl,rfl⟩,rfl,rfl,bu⟩
noncomputable def Zc8:TE:=λ_ H Q=>∀p,H p=aA->Q (.ref p) (upd H p (.dT []))
section
variable {X:Cx} {pos:dz}
theorem EN:PE X (.Dict [] [] pos) Zc8:=λb s c H Q I h=>
 wpAny_Dict_empty ⟨.ref s.heap.objs.size,_,I.laid (a:=s.heap.objs.size) (o:=.dT []) (t':=s.toks) (λ_ _ q=>aJ _ q) (aX _) (EM s.heap I.big),rfl,h _ (I.hok.fresh (aX _))⟩
end
noncomputable def JE:List (TE×TE)->St->Hp->(List (V×V)->Hp->Prop)->Prop
 | [],_,H,Q=>Q [] H
 | (tk,tv)::r,σ,H,Q=>tk σ H λx H1=>tv σ H1 λy H2=>JE r σ H2 λps H3=>Q ((x,y)::ps) H3
abbrev VV:List (V×V)->List (aI×aI)->Prop:=Paired λp q=>RelV p.1 q.1/\RelV p.2 q.2
noncomputable def PPs(X:Cx)(pos:dz)(keys:List (Option bH))(values:List bH)(trs:List (TE×TE)):Prop:=
 ∀(m3:List (aL×dI))(s:aM)(σ:St)(H:Hp)(Q:List (V×V)->Hp->Prop),Inv X m3 σ H s->JE trs σ H Q->
  aw (model X.prog X.w) X.A (evalPairs (pairTrees keys values X.env pos)) (λvs s'=>∃ps H',Inv X m3 σ H' s'/\VV ps vs/\Q ps H') X.xe s
theorem BX{X:Cx}{pos:dz}:PPs X pos [] [] []:=λa s b H Q I h=>pairTrees_nil_walk ⟨[],H,I,.nil,h⟩
theorem EO{X:Cx}{pos:dz}{k v:bH}{e:List (Option bH)}{vs:List bH}{tk f:TE}{a:List (TE×TE)}(t:PE X k tk)(j:PE X v f)(l:PPs X pos e vs a) :
  PPs X pos (ax k::e) (v::vs) ((tk,f)::a):=λc s d H Q I h=>
 pairTrees_cons_walk (Yl (t c s d H _ I h) λu s1 ⟨x,i,B,w,m⟩=>Yl (j c s1 d i _ B m) λC s2 ⟨y,z,n,g,o⟩=>
  Yl (l c s2 d z _ n o) λE D ⟨ps,p,A,b,q⟩=>⟨(x,y)::ps,p,A,.cons ⟨w,g⟩ b,q⟩)
noncomputable def QT(m4 more:List (Yp×V)):List (Yp×V):=more.foldl (λacc kv=>VU acc kv.1 kv.2) m4
theorem KV.merge:∀{more:List (Yp×V)}{b:List (Yp×aI)}{a:List (Yp×V)}{vs:List (Yp×aI)},KV more b->KV a vs->KV (QT a more) (merged vs b):=by
 intro more b a vs r
 induction r generalizing a vs with
 | nil=>intro q;exact q
 | @cons p q ps qs h t ih=>
  intro c;have e:KV (VU a p.1 p.2) (stored vs q.1 q.2):=by have:=c.put p.1 h.2;rw[<-h.1];exact this
  exact ih e
theorem U7:∀(more m4:List (Yp×V)),(QT m4 more).length<=m4.length+more.length
 | [],m4=>by show m4.length<=m4.length+0;omega
 | p::r,m4=>by have b:=U7 r (VU m4 p.1 p.2);have a:=V2 m4 p.1 p.2;show(QT (VU m4 p.1 p.2) r).length<=_;rw[bM];omega
theorem QU{P:bB}{w:b8}:∀{m4:List (Yp×V)}{ws:List (aI×aI)},VV (m4.map λe=>(kV e.1,e.2)) ws->∃d,Carries (Yr P w) ws d/\KV m4 d
 | [],_,r=>by rw[eR] at r;cases r;exact⟨[],bS,.nil⟩
 | p::m4,_,r=>by
  rw[af] at r
  cases r with
  | @cons a b as bs h t=>
   obtain⟨d,c,q⟩:=QU (P:=P) (w:=w) t;obtain⟨b1,f⟩:=b;exact⟨(p.1,f)::d,⟨Nj h.1,rfl,c⟩,.cons ⟨rfl,h.2⟩ q⟩
noncomputable def Zga(trs:List (TE×TE)):TE:=λσ H Q=>∀p,H p=aA->JE trs σ (upd H p (.dK [])) λps H2=>H2 p=ax (.dK [])/\∃m4:List (Yp×V),ps=m4.map (λkv=>(kV kv.1,kv.2))/\m4.length<=15/\Q (.ref p) (upd H2 p (.dK (QT [] m4)))
theorem BY{X:Cx}{pos:dz}{a:List (Option bH)}{b:List bH}{g:List (TE×TE)}(h:PPs X pos a b g)(f:a.all (·.isSome)=aC)(u:a.length=b.length)(F:a≠[])
  (j:a.length<=15):PE X (.Dict a b pos) (Zga g):=by
 intro m s t H Q I q;have w:=I.hok.fresh (aX s.heap.objs.size);have C:=I.laid (t':=s.toks) (λ_ _ q=>aJ _ q) (aX _) (EL s.heap I.big);refine wpAny_Dict_walk (knd:=Yr X.prog X.w) f u F j (Yl (h m _ t _ _ C (q _ w)) λM s2 ⟨ps,L,k,i,e,l,ep,J,n⟩=>?_);subst ep;obtain⟨v,c,E⟩:=QU i;obtain⟨z,hd,o,x,p⟩:=Zbc k.hok e;cases x;refine⟨v,c,p,λh' d y=>⟨.ref s.heap.objs.size,_,?_,rfl,n⟩⟩;have B:(QT [] l).length<=sizeLine:=by have G:=U7 l [];rw[j3] at G;rw[cj];omega
 have A:∃q,h'.get? s.heap.objs.size=ax q:=let⟨q,_,_,D,_⟩:=d;⟨q,D⟩;exact Mc k (by rw[e];exact bS) y A (EK B hd (E.merge .nil) d)
theorem Nm:∀{vs:List aI}{ns:List Int},gS vs ns->Vals (ns.map V.int) vs
 | _,_,.nil=>.nil
 | _,_,.cons n t h=>.cons ⟨t,rfl⟩ (Nm h)
noncomputable def Y1(s:bp):kA:=match s with
 | .FunctionDef _ a _ _ _ _ _ _ _ _=>a
 | _=>{ posonlyargs:=[],args:=[],vararg:=aA,kwonlyargs:=[],kw_defaults:=[],kwarg:=aA,defaults:=[] }
noncomputable def Yd(s:bp):List bp:=match s with
 | .FunctionDef _ _ b _ _ _ _ _ _ _=>b
 | _=>[]
noncomputable def Zf(s:bp):e7:=match s with
 | .FunctionDef _ _ _ _ _ _ sc _ _ _=>sc
 | _=>{ kind:=.function,names:=[],isGenerator:=aB,isCoroutine:=aB }
abbrev L5:CXT:=λ_ _ _ _ _ _=>False
abbrev E0:XK:=λ_ _ _=>False
theorem Zgb{X:Cx}:JA L5 X E0:=λ_ _ _ _ _ _ _ h=>h.elim
structure Fun(K:aF)(x qual:ay)(st:bp)(f:aL)(fd:eJ):Prop where
 ex:∃(oc:aI) (od:Option aL) (kV doc pm:aI) (an:Option aL) (cdv ct:aI) (osl:Array (Option aI)),
  fd=cw x qual (Y1 st) (Yd st) (Zf st) .none kV doc pm an cdv ct/\K.lookup f=ax ⟨oc,od,.func fd,osl⟩/\cq K cdv qual=aC
 kp:gD K (.ref f)=aC
section
variable {P:bB} {w:b8} {K:aF} {mg:ay->Option aI} {base:bW}
theorem Fun.ok{x b:ay}{st:bp}{f:aL}{j:eJ}{N ps:List ay}{k:Nat}{e:Sp}(F:Fun K x b st f j)(S:Zp N ps (Zf st))(len:∀vs H Q E,e vs H Q E->vs.length=ps.length)
  (d:∀(c:aI)(A:ba)(a:List kM)(s:aM)(H:Hp)(vs:List V)(Q:VK)(E:XK),Room k (A.deeper (gL b (Zf st) s.heap.objs.size f c))->e vs H Q E->
   ∃t,PSs (QP L5 P w K mg base N b (Zf st) f c A a s H E).nox (Yd st) t/\t { nx:=λ_ o=>Q .non o,rt:=Q } (start N vs) H):RW P w K mg base L5 (k+1) f j ps e:=by
 obtain⟨v,y,kV,l,u,z,c,ct,m,rfl,p,g⟩:=F.ex;refine WW p g S len λA a s H vs Q E n i=>?_;obtain⟨t,h,q⟩:=d c A a s H vs Q E n i;exact⟨t,h.nox,q⟩
theorem Fun.binds{x a:ay}{st:bp}{f:aL}{g:eJ}{ps:List ay}(F:Fun K x a st f g)
  (h:∀(kV b d:aI)(e:Option aL)(c ct:aI)(us:List aI),us.length=ps.length->hU (cw x a (Y1 st) (Yd st) (Zf st) .none kV b d e c ct) ⟨us,[]⟩=pure (ps.zip us)):Binds K g ps []:=by
 obtain⟨k,l,kV,b,d,e,c,ct,i,rfl,m,j⟩:=F.ex;exact .all (h kV b d e c ct)
theorem Zc9{x a:ay}{st:bp}{f:aL}{i:aI}{j h:Option aL}{e:Array (Option aI)}{kV d g b ct:aI}(l:K.lookup f=ax ⟨i,j,.func (cw x a (Y1 st) (Yd st) (Zf st) .none kV d g h b ct),e⟩)
  (c:cq K b a=aC) (k:gD K (.ref f)=aC):Fun K x a st f (cw x a (Y1 st) (Yd st) (Zf st) .none kV d g h b ct):=⟨⟨i,j,kV,d,g,h,b,ct,e,rfl,l,c⟩,k⟩
end
theorem QV{A:ba}{k:Nat}(a:Room k A):A.units+1<dc:=eT (Nat.add_le_add_left (by simp) _) a.units
section
variable {X:Cx}
theorem pv(i:Nat){x:ay}{pos:dz}(b:X.N[i]?=ax x:=by rfl)(c:Vis X.env.scope x:=by first | exact iT rfl | exact kU (iT rfl) | exact kU (kU rfl))(hd:(x==("__debug__" : ay))=aB:=by decide)
  (a:(x==("__classdict__" : ay))=aB:=by decide):PE X (.Name x pos) (QM i):=Ex b c hd a
end
theorem Zgc{A B:Prop}(h:B):if aB=aC then A else B:=by rw[m9 bN];exact h
theorem Zgd{A B:Prop}(h:A):if aC=aC then A else B:=by rw[m7 rfl];exact h
noncomputable def Same(H H':Hp):Prop:=∀b o,H b=ax o->H' b=ax o
theorem Same.refl(H:Hp):Same H H:=λ_ _ h=>h
theorem Same.trans{H d e:Hp}(a:Same H d)(b:Same d e):Same H e:=λc o h=>b c o (a c o h)
theorem Same.free{H a:Hp}(e:Same H a){l:aL}(h:a l=mU):H l=mU:=by
 cases q:H l with
 | none=>rfl
 | some o=>
  rw[e l o q] at h;cases h
end L2
set_option maxHeartbeats 4000000
namespace L2
open PySem PySem.Spec PyProof.Rows
noncomputable def WY(cells:List (ay×aL)):List (ay×eK)->List (ay×aL)->List (ay×aL)
 | [],acc=>acc
 | (n,k)::r,acc=>WY cells r (if(k==bq)=aC then(n,(cells.lookup n).getD 0)::acc else acc)
theorem U8{env:kM}:∀(names:List (ay×eK))(acc:List (ay×aL)),(∀y∈names,y.2 = .free->(env.cells.lookup y.1).isSome=aC)->
  (forIn (m:=Sem) names acc λ(x:ay×eK) (d:List (ay×aL))=>
   match x with
   | (name,kind)=>if(kind==bq)=aC then do
     let c <-cellOf env name
     pure (e8 ((name,c)::d))
    else pure (e8 d))=pure (WY env.cells names acc)
 | [],acc,_=>rfl
 | (n,k)::r,acc,h=>by
  rw[List.forIn_cons];have e:=λa=>U8 r a λy f=>h y (aQ _ f)
  cases hk:(k==bq) with
  | true=>
   have g:=h (n,k) ag (by simpa using hk);obtain⟨c,b⟩:=cK.mp g;have b:env.cells.lookup n=ax c:=b;have i:cellOf env n=pure c:=by unfold cellOf;rw[b]
   dsimp only
   rw[hk,m7 rfl,i];refine Eq.trans (e ((n,c)::acc)) ?_;show _=pure (WY env.cells r (if(k==bq)=aC then(n,(env.cells.lookup n).getD 0)::acc else acc));rw[m7 hk,b];rfl
  | false=>
   dsimp only
   rw[hk,m9 bN];refine Eq.trans (e acc) ?_;show _=pure (WY env.cells r (if(k==bq)=aC then(n,(env.cells.lookup n).getD 0)::acc else acc));rw[m9 (by rw[hk];exact bN)]
theorem U9{a:e7}{env:kM}(h:∀y∈a.names,y.2 = .free->(env.cells.lookup y.1).isSome=aC):jO a env=pure (WY env.cells a.names []):=by
 have e:=U8 a.names [] h;unfold jO
 dsimp only
 rw[e];rfl
theorem SF{a:List (ay×aL)}{x:ay}{c:aL}:∀(names:List (ay×eK))(acc:List (ay×aL)),(∀y∈names,y.2 = .free->(a.lookup y.1).isSome=aC)->(acc.lookup x=ax c->a.lookup x=ax c)->
  (WY a names acc).lookup x=ax c->a.lookup x=ax c
 | [],_,_,h,e=>h e
 | (n,k)::r,acc,hf,h,e=>by
  refine SF r _ (λy g=>hf y (aQ _ g)) ?_ e;intro q;by_cases b:(k==bq)=aC
  ·rw[m7 b,bY] at q
   cases hx:x==n with
   | true=>
    rw[hx] at q;have f:x=n:=by simpa using hx
    obtain⟨d,hd⟩:=cK.mp (hf (n,k) ag (by simpa using b));have hd:a.lookup n=ax d:=hd;rw[hd] at q;rw[f,hd];exact q
   | false=>rw[hx] at q;exact h q
  ·rw[m9 b] at q;exact h q
theorem QW{a:List (ay×aL)}{x:ay}:∀(names:List (ay×eK))(acc:List (ay×aL)),(acc.lookup x).isSome=aC->((WY a names acc).lookup x).isSome=aC
 | [],_,h=>h
 | (n,k)::r,acc,h=>by
  refine QW r _ ?_;split
  ·rw[bY];split<;>simp_all
  ·exact h
theorem SG{a:List (ay×aL)}{x:ay}:∀(names:List (ay×eK))(acc:List (ay×aL)),(x,bq)∈names->((WY a names acc).lookup x).isSome=aC
 | (n,k)::r,acc,h=>by
  rcases aa.mp h with e | h
  ·cases e;refine QW r _ ?_;rw[m7 (by decide),bY];simp
  ·exact SG r _ h
structure CompScope(N:List ay)(around scope:e7)(own fr:List ay)(ix:List Nat):Prop where
 kind:scope.kind = .function
 nocell:∀y∈scope.names,y.2≠.cell
 names:∀y∈scope.names,y.2 = .local->scope.names.lookup y.1=ax .local
 frees:∀y∈scope.names,y.2 = .free->(around.names.lookup y.1=ax .cell\/around.names.lookup y.1=ax .free)
 slots:fr.map ax=ix.map (λi=>N[i]?)
 outs:∀x∈fr,(x,bq)∈scope.names
 apart:∀x∈fr,scope.names.lookup x≠ax .local
noncomputable def ZD(X:Cx)(N':List ay)(scope:e7)(cl:List (ay×aL))(C:aL)(s:aM)(H:Hp)(ex:List aL):Cx:=
 { X with N:=N',s₀:=s,H₀:=H,env:=jk scope cl C X.env,outer:=X.stack,ex:=ex,fn:=λ_=>aB,pn:=[],xe:=λ_ _=>False }
noncomputable def Z4(n:Nat)(ix:List Nat)(σ:St):St:=aT n aA++ix.map (λi=>(σ[i]?).join)
theorem X1{env:kM}{x:ay}:∀{names:List (ay×eK)}{k:eK},names.lookup x=ax k->
  (names.map λ(n,k)=>if(k==bq&&env.scope.kind==.function&&env.kindOf n==ax .cell) then(n,el) else(n,k)).lookup x =
   ax (if(k==bq&&env.scope.kind==.function&&env.kindOf x==ax .cell)=aC then el else k)
 | [],_,h=>by simp at h
 | (n,k')::r,k,h=>by
  show List.lookup x ((if(k'==bq&&env.scope.kind==.function&&env.kindOf n==ax .cell)=aC then(n,el) else(n,k'))::_)=_
  cases hx:x==n with
  | true=>
   simp only[bY,hx] at h;cases h;have e:x=n:=by simpa using hx
   subst e;split
   ·simp[bY]
   ·simp[bY]
  | false=>
   simp only[bY,hx] at h;split
   ·simp only[bY,hx];exact X1 h
   ·simp only[bY,hx];exact X1 h
theorem Vl{env:kM}{x:ay}:∀{names:List (ay×eK)}{k':eK},
  (names.map λ(n,k)=>if(k==bq&&env.scope.kind==.function&&env.kindOf n==ax .cell) then(n,el) else(n,k)).lookup x=ax k'->∃k,names.lookup x=ax k
 | [],_,h=>by simp at h
 | (n,k0)::r,k',h=>by
  have h:List.lookup x ((if(k0==bq&&env.scope.kind==.function&&env.kindOf n==ax .cell)=aC then(n,el) else(n,k0))::_)=ax k':=h
  cases hx:x==n with
  | true=>exact⟨k0,by simp[bY,hx]⟩
  | false=>
   have:∃k,r.lookup x=ax k:=by
    apply Vl (env:=env) (k':=k');split at h<;>simpa [bY,hx] using h
   obtain⟨k,e⟩:=this;exact⟨k,by simp[bY,hx,e]⟩
section
variable {X:Cx} {m3:List (aL×dI)} {σ:St} {H:Hp} {s:aM} {own fr:List ay} {ix:List Nat} {scope:e7}
theorem CompScope.clos(S:CompScope X.N X.env.scope scope own fr ix)(I:Inv X m3 σ H s):∀y∈scope.names,y.2 = .free->(X.env.cells.lookup y.1).isSome=aC:=λy b a=>by obtain⟨c,e⟩:=I.ok.has y.1 (S.frees y b a);rw[e];rfl
end
theorem Me{prog:bB}{w:b8}{A:ba}{R:Result->aM->Prop}{s:aM}{C a q:bH}{u:List bH}{o:e7}{pos:dz}{D t:aI}{env:kM}(I:Nat->aM->Prop)
  (turn:∀n s,I n s->aw (model prog w) A (jh D) (λr f=>match r with
   | none=>R (.ok .next) f
   | some v=>aw (model prog w) A (jY a D v) (λ_ d=>aw (model prog w) A (assign a env v) (λ_ l=>
     aw (model prog w) A (forIn u aC λc r=>if r=aC then do let ok <-kO c env (eval c env);pure (e8 ok) else pure (e8 r)) (λok b=>
      if ok=aC then aw (model prog w) A (eval C env) (λx k=>
       aw (model prog w) A (call (.builtin "list.append") [t,x]) (λ_ j=>∃m,m<n/\I m j) (kB (model prog w) A env λe g=>R (.error e) g) k) (kB (model prog w) A env λe g=>R (.error e) g) b
      else ∃m,m<n/\I m b) (kB (model prog w) A env λe g=>R (.error e) g) l) (kB (model prog w) A env λe g=>R (.error e) g) d) (kB (model prog w) A env λe g=>R (.error e) g) f) (kB (model prog w) A env λe g=>R (.error e) g) s)
  (n:Nat) (h:I n s) :
  jG (model prog w) A (.compLoop (.ListComp C [⟨a,q,u,0⟩] o pos) 0 D t env) R s:=by
 refine codeAny_loop rfl I (λn s E=>?_) n h;refine wpAny_noted ?_;refine aE (kG (aE (cB (turn n s E) (λr f h₁=>?_) λ_ _ h'=>h')))
 cases r with
 | none=>exact aU h₁
 | some v=>
  refine aE (cB h₁ (λ_ d p=>?_) λ_ _ h'=>h');refine aE (cB p (λ_ l y=>aE (cB y (λok b i=>?_) λ_ _ h'=>h')) λ_ _ h'=>h')
  cases ok with
  | false=>exact aU ⟨rfl,i⟩
  | true=>
   exact aE (aE (cB i (λx k z=>aE (cB z (λ_ j B=>aU (aU ⟨rfl,B⟩)) λ_ _ h'=>h')) λ_ _ h'=>h'))
noncomputable def Eo(X:Cx)(ifs:List bH)(t:TT):Prop:=
 ∀(m3:List (aL×dI))(s:aM)(σ:St)(H:Hp)(Q:Bool->Hp->Prop),Inv X m3 σ H s->t σ H Q->
  aw (model X.prog X.w) X.A (forIn ifs aC λc r=>if r=aC then do let ok <-kO c X.env (eval c X.env);pure (e8 ok) else pure (e8 r)) (TP X m3 σ Q) X.xe s
noncomputable def Zge:TT:=λ_ H Q=>Q aC H
theorem BZ{X:Cx}:Eo X [] Zge:=λ_ _ _ H _ I h=>wpAny_tests_nil ⟨H,I,h⟩
theorem B1{X:Cx}{c:bH}{t:TT}(h:PT X c t):Eo X [c] t:=λb s d H Q I a=>wpAny_tests_one (h b s d H Q I a)
noncomputable def Zgf(n:Nat)(ix:List Nat)(g:TG)(tt:TT)(te:TE)(σ:St)(Q:VK)(J:It)(H1:Hp):Prop:=
 ∃W:Nat->Nat->List V->Hp->Prop,(∃m,W 0 m [] H1)/\∀i m ys H,W i m ys H->ys.length<=sizeLine/\
  ((J.stop i H/\∀p,H p=aA->Q (.ref p) (upd H p (.lst ys)))\/
   (J.go i H/\∃N:List V->Hp->Prop,(∀ys' H',N ys' H'->∃m',m'<m/\W (i+1) m' ys' H')/\
    ∀x H',J.yld i H x H'->g x (Z4 n ix σ) H' λσ2 H2=>σ2.drop n=(Z4 n ix σ).drop n/\tt σ2 H2 λb H3=>if b=aC then te σ2 H3 λy H4=>N (ys++[y]) H4 else N ys H3))
noncomputable def Nn(n:Nat)(ix:List Nat)(wi:TI)(g:TG)(tt:TT)(te:TE):TE:=λσ H Q=>wi σ H λJ H1=>Zgf n ix g tt te σ Q J H1
theorem G9{n:Nat}{c:List Nat}{b a:St}(hd:a.drop n=(Z4 n c b).drop n):∀(i:Nat) v,(Z4 n c b)[i]?=ax (ax v)->a[i]?=ax (ax v):=λi v e=>by
 by_cases d:i<n
 ·unfold Z4 at e;rw[ah (by simpa using d),bU] at e;rw[m7 d] at e;cases e
 ·have q:=congrArg (λl=>l[i-n]?) hd;simp only[eU] at q;rw[show n+(i-n)=i by omega] at q;rw[q];exact e
section
variable {X:Cx} {tg elt iter:bH} {ifs:List bH} {scope:e7} {pos:dz} {own fr:List ay} {ix:List Nat} {wi:TI} {g:TG} {tt:TT} {te:TE}
theorem ER{Y:List (aL×dI)}{B:St}{F:Hp}{s2:aM}{G:List aL}{h₁:bW}{tk:Nat}{C:aL}(S:CompScope X.N X.env.scope scope own fr ix)(d:Inv X Y B F s2)(H:∀b∈G,U2 X Y F b)(U:∀b∈G,b<s2.heap.objs.size)
  (Q:s2.heap.objs.size<=C) (J:h₁.Ns C λ_=>aA) (s:∀b o,s2.heap.get? b=ax o->h₁.get? b=ax o) :
  Inv (ZD X (own++fr) scope (WY X.env.cells scope.names []) C s2 F G) [] (Z4 own.length ix B) F { s2 with heap:=h₁,toks:=tk }:=by
 have cs:=S.clos d;have sub:∀x c,(WY X.env.cells scope.names []).lookup x=ax c->X.env.cells.lookup x=ax c:=λx c e=>SF scope.names [] cs (λh=>by simp at h) e;have M:=d.stkSub
 have O:(ZD X (own++fr) scope (WY X.env.cells scope.names []) C s2 F G).Ok:=by
  refine⟨d.ok.mod,S.kind,d.ok.glob,d.ok.blt,Q,λx y c t f=>d.ok.inj x y c (sub x c t) (sub y c f),λx hx=>?_,λx c h _=>?_,d.ok.hd,d.ok.frames,.inl rfl,λb w=>⟨?_,λx c e=>?_⟩,d.bs,?_,λb o e w=>?_,λb w z=>?_,d.stack,d.stkFree,d.ok.tab.un d.base,λ_ z=>absurd rfl z⟩
  ·-- the cells of the block's free names
   have P:(x,bq)∈scope.names:=by
    have:∃k',(relabel scope X.env).names.lookup x=ax k'/\(k' = .cell\/k' = .free):=by
     rcases hx with h | h
     ·exact⟨_,h,.inl rfl⟩
     ·exact⟨_,h,.inr rfl⟩
    obtain⟨k',e,N⟩:=this;obtain⟨k,D⟩:=Vl e;have L:=X1 (env:=X.env) D;have e:(scope.names.map λ(n,k)=>if(k==bq&&X.env.scope.kind==.function&&X.env.kindOf n==ax .cell) then(n,el) else(n,k)).lookup x=ax k':=e;rw[L] at e;have m:=cU D
    cases k with
    | free=>exact m
    | cell=>exact absurd rfl (S.nocell _ m)
    | _=>simp at e;subst e;rcases N with z | z<;>cases z
   exact cK.mp (SG _ _ P)
  ·cases h
  ·-- G differs from the frame
   exact bG (az (U b w) Q)
  ·exact(H b w).2.2.2.2.1 x c (sub x c e)
  ·exact bg d.ok.bsz d.sz
  ·rcases(H b w).2.2.2.1 with z | z
   ·exact d.ok.noex b o e z
   ·exact absurd (az (aV (d.ok.bs b o e).1) z) (cI _)
  ·rcases aa.mp (M b z) with e | e
   ·exact(H b w).2.1 e
   ·exact(H b w).2.2.1 e
 have sl:fr.length=ix.length:=by simpa using congrArg iN S.slots
 refine⟨O,rfl,d.bare,Un.kept s,⟨_,J,λi x v t f g=>?_⟩,λx c e=>?_,d.hok.fresh Q,λx c e=>d.freeC x c (sub x c e),λp hp=>absurd (show p∈([]:List (aL×dI)) from hp) (by simp),d.hok.kept s,?_⟩
 ·-- a name of the def around
  have t:(own++fr)[i]?=ax x:=t;have I:¬i<own.length:=λI=>by unfold Z4 at f;rw[ah (by simpa using I),bU,m7 I] at f;cases f
  rw[bA (by omega)] at t;unfold Z4 at f;rw[bA (by simpa using I),dO,aW] at f
  cases ej:ix[i-own.length]? with
  | none=>rw[ej] at f;cases f
  | some j=>
   rw[ej] at f;have f:(B[j]?).join=ax v:=by simpa using f
   have f:B[j]?=ax (ax v):=by
    cases q:B[j]? with
    | none=>rw[q] at f;cases f
    | some z=>rw[q] at f;exact congrArg ax f
   have hN:X.N[j]?=ax x:=by have q:=congrArg (λl=>l[i-own.length]?) S.slots;simp only[aW,t,ej] at q;exact(bJ q).symm
   have hm:=S.outs x (bK t);have Z:=S.frees _ hm rfl;obtain⟨m,hn,hl⟩:=d.loc;obtain⟨u,r,l⟩:=hl j x v hN f (by rcases Z with k | k;exact .inr (.inl k);exact .inr (.inr k));refine⟨u,r,?_⟩;rcases l with⟨k,_⟩ | ⟨_,c,hc,A⟩
   ·have k:X.env.scope.names.lookup x=ax .local:=k;rcases Z with q | q<;>rw[k] at q<;>cases q
   ·obtain⟨c',E⟩:=cK.mp (SG _ [] hm);have W:=sub x c' E;rw[hc] at W;cases W;refine .inr ⟨?_,c,E,?_⟩
    ·have g:=g;rcases g with g | g
     ·obtain⟨k0,D⟩:=Vl g;have L:=X1 (env:=X.env) D;have g:(scope.names.map λ(n,k)=>if(k==bq&&X.env.scope.kind==.function&&X.env.kindOf n==ax .cell) then(n,el) else(n,k)).lookup x=ax .local:=g;rw[L] at g
      have R:k0 = .local:=by
       cases k0<;>simp at g ⊢
       split at g<;>cases g
      subst R;exact absurd D (S.apart x (bK t))
     ·exact g
    ·obtain⟨o,T,hd⟩:=A;exact⟨o,s _ _ T,hd⟩
 ·obtain⟨v,o,T,hd⟩:=d.cell x c (sub x c e);exact⟨v,o,s _ _ T,hd⟩
 ·show(Z4 own.length ix B).length=(own++fr).length;unfold Z4;rw[aj,dO,aK,aj,sl]
noncomputable def cxG(fv:ay->Bool)(X:Cx)(N':List ay)(scope:e7)(cl:List (ay×aL))(C:aL)(s:aM)(H:Hp)(ex:List aL):Cx:=
 { X with N:=N',s₀:=s,H₀:=H,env:=jk scope cl C X.env,outer:=X.stack,ex:=ex,fn:=fv,pn:=[],xe:=λ_ _=>False }
theorem Fb{fv:ay->Bool}{N:List ay}{cl:List (ay×aL)}{Z:Nat}{C D:aL}{h₁:bW}{tk:Nat}{m3:List (aL×dI)}{σ:St}{t:Hp}{s2:aM}{k:List aL}{it:aL}{tn:Nat->bW->Prop}{J:It}{Fin:List V->Hp->Prop}{RR:aI->aL->Result->aM->Prop}
  (G:X.calm=aC) (hg:PG (cxG fv X N scope cl C s2 t k) tg g) (ht:Eo (cxG fv X N scope cl C s2 t k) ifs tt) (he:PE (cxG fv X N scope cl C s2 t k) elt te)
  (I2:Inv X m3 σ t s2) (T:LQ X.prog X.w X.K tg J k it tn) (st2:tn 0 s2.heap) (f2:∀b∈k,U2 X m3 t b)
  {W:Nat->Nat->List V->Hp->Prop} {m0:Nat} (w0:W 0 m0 [] t)
  (turn:∀i m f H,W i m f H->f.length<=sizeLine/\
   ((J.stop i H/\Fin f H)\/
    (J.go i H/\∃N:List V->Hp->Prop,(∀ys' h,N ys' h->∃m',m'<m/\W (i+1) m' ys' h)/\
     ∀x h,J.yld i H x h->g x (Z4 Z ix σ) h λσ2 t=>σ2.drop Z=(Z4 Z ix σ).drop Z/\tt σ2 t λb w=>if b=aC then te σ2 w λy H4=>N (f++[y]) H4 else N f w)))
  (hRR:∀(D C:aL)(oC:dI)(m:ay->Option aI)(I:aM)(h:Hp)(f:List V),Inv X (m3++[(C,oC)]) σ (upd h D (.lst f)) I->I.heap.get? C=ax oC->I.heap.Ns C m->U2 X m3 (upd h D (.lst f)) C->h D=aA->Fin f h->RR (.ref D) C (.ok .next) I)
  (hfp:∀b∈k,b<s2.heap.objs.size) (hC:@Eq Nat C (D+1)) (hDD:@Eq Nat s2.heap.objs.size D) (old:∀b o,s2.heap.get? b=ax o->h₁.get? b=ax o) (hacc:h₁.get? D=ax { cls:=.type "list",data:=.seq ([]:List aI).toArray 0 })
  (I0:∀tk,Inv (cxG fv X N scope cl C s2 t k) [] (Z4 Z ix σ) t { s2 with heap:=h₁,toks:=tk }) (hcl:∀x c,cl.lookup x=ax c->c≠D) :
  jG (model X.prog X.w) X.A (.compStart (.ListComp elt [⟨tg,iter,ifs,0⟩] scope pos) 0 (.ref it) (.ref D) (jk scope cl C X.env)) (RR (.ref D) C) { s2 with heap:=h₁,toks:=tk }:=by
 have hDC:@Ne Nat D C:=by omega
 have j:∀b,b<s2.heap.objs.size->b≠C/\b≠D:=λb a=>by rw[hDD] at a;exact⟨bG (by omega),bG a⟩
 have loop:jG (model X.prog X.w) X.A (.compLoop (.ListComp elt [⟨tg,iter,ifs,0⟩] scope pos) 0 (.ref it) (.ref D) (jk scope cl C X.env)) (RR (.ref D) C) { s2 with heap:=h₁,toks:=tk }:=by
  generalize s:cxG fv X N scope cl C s2 t k=Y at I0 hg ht he
  have E:∀{h:Hp}{pn:List (aL×dI)},(∀b∈k,h b=aA)->(∀p∈pn,∀b∈k,p.1≠b)->∀b∈k,U2 Y pn h b:=λ{h pn} hn B b a=>by
   subst s;refine⟨hn b a,(j b (hfp b a)).1,λz=>?_,.inl a,λx c e=>?_,λp hp'=>B p hp' b a⟩
   ·exact(I0 0).ok.exfs b a z
   ·exact((I0 0).ok.exf b a).2 x c e
  have dfp:=λb a=>bO (j b (hfp b a)).2;have P:∀x c,Y.env.cells.lookup x=ax c->c≠D:=by subst s;exact hcl
  have hfsD:D∉Y.fs:=λz=>by subst s;obtain⟨_,o,ho,_⟩:=(I0 0).ok.funs.mem z;have:=aV ho;have:D<s2.heap.objs.size:=this;exact cI _ (Nat.lt_of_lt_of_eq this hDD)
  have eL:Y.env.locals=C:=by subst s;rfl
  have eS:Y.s₀=s2:=by subst s;rfl
  have eP:Y.pn=[]:=by subst s;rfl
  refine Me (λn I=>∃i f A F h,Inv Y [] (Z4 Z ix σ) h I/\tn i I.heap/\(∀b∈k,h b=aA)/\I.heap.get? D=ax { cls:=.type "list",data:=.seq A F }/\Vals f A.toList/\h D=aA/\W i n f h) ?_ m0
   ⟨0,[],#[],0,t,I0 _,T.keep _ _ _ st2 λb _ o e=>old b o e,λb a=>(f2 b a).1,hacc,.nil,I2.hok.fresh (by omega),w0⟩
  rintro n s3 ⟨i,f,A,F,w,I3,st3,fr3,oD,vD,nD,w3⟩;obtain⟨hlen,U⟩:=turn i n f w w3;have hsize:A.size<=sizeLine:=by have:=vD.length;simp only[cA] at this;omega
  have pD:Inv Y [(D,{ cls:=.type "list",data:=.seq A F })] (Z4 Z ix σ) w s3:=I3.pins_of λp B=>by rw[aN.mp B];exact⟨oD,nD,by rw[eL];exact hDC,hfsD,λv z=>by cases z⟩
  have YP:Y.prog=X.prog:=by subst s;rfl
  have Yw:Y.w=X.w:=by subst s;rfl
  have YK:Y.K=X.K:=by subst s;rfl
  have YA:Y.A=X.A:=by subst s;rfl
  have Yx:Y.xe=λ_ _=>False:=by subst s;rfl
  have Ye:Y.env=jk scope cl C X.env:=by subst s;rfl
  have ne1:∀p∈[((D,{ cls:=.type "list",data:=.seq A F }):aL×dI)],∀b∈k,p.1≠b:=λp B b a=>by rw[aN.mp B];exact dfp b a
  rcases U with⟨stop,qn⟩ | ⟨go,N,hN,step⟩
  ·have d:=T.done Y YP Yw YK (by subst s;exact G) i _ s3 _ w (kB (model X.prog X.w) X.A (jk scope cl C X.env) λe I=>RR (.ref D) C (.error e) I) pD (E fr3 ne1) st3 stop;rw[YA] at d;refine Yl d λr s4 ⟨hr,I4⟩=>?_;subst hr;obtain⟨oD4,l,_⟩:=I4.pin (D,_) (by rw[eP];exact ag);obtain⟨m,hn,_⟩:=I4.loc;rw[eL] at hn;obtain⟨oC,es,ep,hoC,hdC,hrest⟩:=id hn;have R:w C=aA:=by have:=I4.free;rw[eL] at this;exact this
   have un:Un (N3 X.stack) k t w s2.heap s4.heap:=by have:=I4.base;subst s;exact this
   have lt2:∀b o,s2.heap.get? b=ax o->b≠D:=λb o e=>(j b (aV e)).2
   have un':Un (N3 X.stack) k t (upd w D (.lst f)) s2.heap s4.heap:=by
    refine⟨un.keep,un.slot,λb o e n hx=>?_,un.there,λb xs e=>?_,λb o u e=>?_,λb ps e=>?_⟩
    ·rw[upd_ne (lt2 b o e)];exact un.free b o e n hx
    ·have q:=un.tups b xs e;rw[upd_ne (Zm q l)];exact q
    ·have q:=un.frzs b o u e;rw[upd_ne (Zm q l)];exact q
    ·obtain⟨more,q⟩:=un.tbls b ps e;exact⟨more,by rw[upd_ne (Zm q l)];exact q⟩
   have hok4:HOk X.prog X.w w s4.heap:=by have:=I4.hok;rw[YP,Yw] at this;exact this
   have hok':HOk X.prog X.w (upd w D (.lst f)) s4.heap:=λb u q=>by
    by_cases a:b=D
    ·subst a;rw[Zi] at q;cases q;exact⟨hlen,A.toList,F,vD,by simpa using oD4⟩
    ·rw[upd_ne a] at q;exact(hok4 b u q).stay (λc v _ z=>z) (λc z=>by rw[upd_ne (Zm z l)];exact z) (λc xs z=>by rw[upd_ne (Zm z l)];exact z) λc u z=>by rw[upd_ne (Zm z l)];exact z
   have os4:s4.os=s2.os:=by rw[I4.os,eS]
   have I5:=I2.call' os4 un' hok' I4.bare λb a=>⟨(f2 b a).2.2.2.1,(f2 b a).2.1,(f2 b a).2.2.2.2.1,(f2 b a).2.2.2.2.2⟩;have CL:C≠X.env.locals:=λz=>by exact(j _ I2.lt).1 z.symm
   have O:U2 X m3 (upd w D (.lst f)) C:=I2.fpOk (by omega) (by rw[upd_ne (bO hDC)];exact R);refine hRR D C oC m s4 w f (I5.pins_of λp B=>?_) hoC hn O l qn;rcases ak.mp B with z | z
   ·exact I5.pin p (aq _ z)
   ·rw[aN.mp z];exact⟨hoC,O.1,O.2.1,O.2.2.1,λv z=>by rw[hdC] at z;cases z⟩
  ·have d:=T.item Y YP Yw YK (by subst s;exact G) i _ s3 _ w (λ_ _=>False) pD (E fr3 ne1) st3 go;rw[YA] at d;refine cB d (λr s4 ⟨u,hr,h4⟩=>?_) λ_ _ z=>z.elim;subst hr;refine cB h4 (λ_ s5 ⟨x,H5,I5,r5,y5,st5,fr5⟩=>?_) λ_ _ z=>z.elim;have I5':=I5.pinned (E fr5 ne1) (T.obj _ _ st5);have a6:=hg _ s5 _ H5 x u _ I5' r5 (step x H5 y5);rw[YP,Yw,YA,Ye,Yx] at a6;refine cB a6 (λ_ s6 ⟨S,H6,I6,dr,q6⟩=>?_) λ_ _ z=>z.elim;have a7:=ht _ s6 S H6 _ I6 q6;rw[YP,Yw,YA,Ye,Yx] at a7;refine cB a7 (λok s7 ⟨H7,I7,q7⟩=>?_) λ_ _ z=>z.elim
   have back:∀{M:Hp}{L:aM},Inv Y ([((D,{ cls:=.type "list",data:=.seq A F }):aL×dI)]++Sz k s5.heap) S M L->
     L.heap.get? D=ax { cls:=.type "list",data:=.seq A F }/\M D=aA/\tn (i+1) L.heap/\(∀b∈k,M b=aA):=λ{M L} Q=>by
    obtain⟨e1,e2,_⟩:=Q.pin (D,{ cls:=.type "list",data:=.seq A F }) (by simp);refine⟨e1,e2,T.keep _ _ _ st5 λb a o e=>(Q.pin (b,o) (by rw[eP];exact aQ _ (Vk a e))).1,λb a=>?_⟩;obtain⟨o,e,_⟩:=T.obj _ _ st5 b a;exact(Q.pin (b,o) (by rw[eP];exact aQ _ (Vk a e))).2.1
   have unp:∀{M:Hp}{L:aM},Inv Y ([((D,{ cls:=.type "list",data:=.seq A F }):aL×dI)]++Sz k s5.heap) S M L->Inv Y [] (Z4 Z ix σ) M L:=λ{M L} Q=>
    (Q.pins_of λp B=>absurd B (by simp)).weak (by
     have e1:=(I0 0).len;have e2:=Q.len;rw[e1,e2]) (G9 dr)
   cases ok with
   | false=>
    obtain⟨e1,e2,e3,e4⟩:=back I7;obtain⟨m',hm,w7⟩:=hN _ _ q7;exact⟨m',hm,i+1,f,A,F,H7,unp I7,e3,e4,e1,vD,e2,w7⟩
   | true=>
    have a8:=he _ s7 S H7 _ I7 q7;rw[YP,Yw,YA,Ye,Yx] at a8;refine cB a8 (λyv L ⟨y,M,Q,ry,q8⟩=>?_) λ_ _ z=>z.elim;obtain⟨e1,e2,e3,e4⟩:=back Q;obtain⟨m',hm,w8⟩:=hN _ _ q8;refine append_at e1 (λh9 hs9 hD9=>?_) hsize;have I9:=(unp Q).turned (t':=L.toks) (λb o a e=>hs9.extBut b o a e) e2 (by rw[eL];exact hDC) (.inr (by rw[eS];omega)) P (λp B=>absurd (show p∈([]:List (aL×dI)) by rw[eP] at B;exact B) (by simp));refine⟨m',hm,i+1,f++[y],A.push yv,F+1,M,I9,T.keep _ _ _ e3 λb a o e=>hs9.extBut b o (bO (dfp b a)) e,e4,hD9,?_,e2,w8⟩;rw[Array.toList_push];exact vD.append (.cons ry .nil)
 exact codeAny_compStart_list loop (T.self X.A 0 _ _ _ (T.keep _ _ _ st2 λb _ o e=>old b o e) loop)
theorem QX{P:List (aL×dI)}{Q:St}{F:Hp}{s2:aM}{U:List aL}{it:aL}{tn:Nat->bW->Prop}{J:It}{Fin:List V->Hp->Prop}{RR:aI->aL->Result->aM->Prop}{E:aI->aM->Prop}
  (p:X.calm=aC) (S:CompScope X.N X.env.scope scope own fr ix)
  (hg:∀cl C s H ex,PG (ZD X (own++fr) scope cl C s H ex) tg g) (ht:∀cl C s H ex,Eo (ZD X (own++fr) scope cl C s H ex) ifs tt) (he:∀cl C s H ex,PE (ZD X (own++fr) scope cl C s H ex) elt te)
  (M:Inv X P Q F s2) (T:LQ X.prog X.w X.K tg J U it tn) (L:tn 0 s2.heap) (f2:∀b∈U,U2 X P F b)
  {W:Nat->Nat->List V->Hp->Prop} {m0:Nat} (w0:W 0 m0 [] F)
  (turn:∀i m ys H,W i m ys H->ys.length<=sizeLine/\
   ((J.stop i H/\Fin ys H)\/
    (J.go i H/\∃N:List V->Hp->Prop,(∀ys' H',N ys' H'->∃m',m'<m/\W (i+1) m' ys' H')/\
     ∀x H',J.yld i H x H'->g x (Z4 own.length ix Q) H' λn F=>n.drop own.length=(Z4 own.length ix Q).drop own.length/\tt n F λb H3=>if b=aC then te n H3 λy H4=>N (ys++[y]) H4 else N ys H3)))
  (Z:∀(D C:aL)(oC:dI)(m:ay->Option aI)(s':aM)(H':Hp)(ys:List V),Inv X (P++[(C,oC)]) Q (upd H' D (.lst ys)) s'->s'.heap.get? C=ax oC->s'.heap.Ns C m->U2 X P (upd H' D (.lst ys)) C->H' D=aA->Fin ys H'->RR (.ref D) C (.ok .next) s') :
  aw (model X.prog X.w) X.A (newList []) (λu w=>aw (model X.prog X.w) X.A (newFunctionEnv scope X.env.globals (WY X.env.cells scope.names []) [] X.env.qual aA .none (ax X.env)) (λk G=>
   jG (model X.prog X.w) X.A (.compStart (.ListComp elt [⟨tg,iter,ifs,0⟩] scope pos) 0 (.ref it) u { k with scope:=relabel scope X.env }) (RR u k.locals) G) E w) E s2:=by
 have I:∀b∈U,b<s2.heap.objs.size:=λb O=>by obtain⟨o,e,_⟩:=T.obj 0 s2.heap L b O;exact aV e
 refine cX (jm S.nocell (by simp) (λh₁ d a=>?_) S.kind);generalize t:s2.heap.push { cls:=.type "list",dict:=aA,data:=.seq ([]:List aI).toArray }=G2 at d a ⊢;have R:G2.objs.size=s2.heap.objs.size+1:=by rw[<-t,cz]
 generalize hCC:G2.objs.size=C at d a R ⊢;generalize l:s2.heap.objs.size=D at R ⊢;have Y:D≠C:=by omega
 have f:∀b,b<s2.heap.objs.size->b≠C/\b≠D:=λb O=>by rw[l] at O;exact⟨bG (by omega),bG O⟩
 have A:=λb o e=>a.extBut b o (f b (aV e)).1 (aJ _ (t▸aJ _ e))
 have B:h₁.get? D=ax { cls:=.type "list",data:=.seq ([]:List aI).toArray 0 }:=by
  have e0:G2.get? D=ax { cls:=.type "list",data:=.seq ([]:List aI).toArray 0 }:=by rw[<-t,<-l];exact a9 _ rfl
  exact a.extBut _ _ Y (aJ _ e0)
 have j:h₁.Ns C λ_=>aA:=by simpa using d
 have I0:=λtk=>ER (tk:=tk) S M f2 I (by omega) j A;refine Fb (s2:=s2) (h₁:=h₁) (fv:=λ_=>aB) (N:=own++fr) (C:=C) (D:=D) (cl:=WY X.env.cells scope.names []) p (hg _ _ _ _ _) (ht _ _ _ _ _) (he _ _ _ _ _) M T L f2 w0 turn Z I R l A B I0 λx c e z=>?_;obtain⟨v,q⟩:=M.cell x c (SF scope.names [] (S.clos M) (λh=>by simp at h) e);exact(f c q.lt).2 z
theorem B2(c:X.calm=aC)(G:PI X tg iter wi)(S:CompScope X.N X.env.scope scope own fr ix)
  (k:∀cl C s H ex,PG (ZD X (own++fr) scope cl C s H ex) tg g) (t:∀cl C s H ex,Eo (ZD X (own++fr) scope cl C s H ex) ifs tt) (M:∀cl C s H ex,PE (ZD X (own++fr) scope cl C s H ex) elt te)
  (L:∀x,bt iter X.env x=pure x:=by intro _;rfl):PE X (.ListComp elt [⟨tg,iter,ifs,0⟩] scope pos) (Nn own.length ix wi g tt te):=by
 intro q s w H Q I h;refine iU rfl L (U9 (S.clos I)) S.kind S.names (Yl (G q s w H _ I h) λv s1 O=>Yl O λu s2 z=>?_);obtain⟨R,Z,P,J,Y,e,l,T,i,B,W,⟨m0,N⟩,turn⟩:=z;subst e;refine QX c S k t M l T i B N turn ?_;intro D C oC m U A j n F E a y f;refine⟨m,E,λh' d=>⟨.ref D,upd A D (.lst j),?_,rfl,f D y⟩⟩;exact(n.unpinned).turned (λb o p e=>d.extBut b o p e) a.1 a.2.1 a.2.2.2.1 a.2.2.2.2.1 a.2.2.2.2.2
theorem B3{i:Nat}{y:ay}{u c:dz}(B:X.N.Nodup)(hy:X.N[i]?=ax y)(d:X.env.scope.names.lookup y=ax .local)(f:X.calm=aC)(hi:PI X tg iter wi)(S:CompScope X.N X.env.scope scope own fr ix)
  (hg:∀cl C s H ex,PG (ZD X (own++fr) scope cl C s H ex) tg g) (N:∀cl C s H ex,Eo (ZD X (own++fr) scope cl C s H ex) ifs tt) (he:∀cl C s H ex,PE (ZD X (own++fr) scope cl C s H ex) elt te)
  (k:fu (.ListComp elt [⟨tg,iter,ifs,0⟩] scope pos) (ax (.Name y u)) c.line X.env=pure aC:=by rfl)
  (hs:∀x,bt iter X.env x=pure x:=by intro _;rfl):PS X (.Assign [.Name y u] (.ListComp elt [⟨tg,iter,ifs,0⟩] scope pos) c) (Jt (Nn own.length ix wi g tt te) (TB i)):=by
 intro M s P H D0 I h;rw[exec_Assign_Name_used _ _ _ _ k];refine aE (kG (aE ?_))
 refine aE (cB (iU rfl hs (U9 (S.clos I)) S.kind S.names
  (Yl (hi M s P H _ I h) λv s1 h1=>Yl h1 λO s2 R=>?_)) (λ_ s' hq=>aU (aU hq)) λ_ _ e=>e)
 obtain⟨it,fp,tn,J,H2,e,F,T,q,Y,W,⟨m0,w0⟩,turn⟩:=R;subst e;refine QX f S hg N he F T q Y w0 turn ?_;intro D C w m s' U z G p Z a Q n;refine wpAny_assign_Name (Tz G B hy (.inl d) (v:=.ref D) rfl (λs6 t=>?_) (.inr d));obtain⟨A,_⟩:=t.pin (C,w) (aq _ (aq _ ag));obtain⟨o',E,ep,j,r'⟩:=Z;rw[p] at j;cases j;refine⟨m,⟨w,E,ep,A,r'⟩,λh' l=>⟨_,upd U D (.lst z),?_,n D Q⟩⟩;exact(t.unpinned).turned (λb o L e=>l.extBut b o L e) a.1 a.2.1 a.2.2.2.1 a.2.2.2.2.1 a.2.2.2.2.2
end
open AutoSeq1 (wpAny_loadPart')
section
variable {prog:bB} {w:b8} {A:ba} {E:aI->aM->Prop} {s:aM}
theorem TJ{b l:aL}{i:Nat}{items}{x:aI}{Q:aI->aM->Prop}(a:s.heap.IsTupleIter b l i)
  (h:s.heap.IsTuple l items) (g:items[i]?=ax x)
  (f:∀h',h'.IsTupleIter b l (i+1)->cO b s.heap h'->Q x { s with heap:=h' }) :
  aw (model prog w) A (iE (.ref b)) Q E s:=by
 obtain⟨o,c,j,hd⟩:=id a;obtain⟨k,e,_,m,d⟩:=h
 refine aE (cP a.typeIs F.slot_tuple_iterator_next
  (cT F.slot_tuple_iterator_next a.typeIs F.entry_tuple_iterator_next ?_ (F.args_tuple_iterator_next_1 _)))
 show aw _ _ (field (.ref b) 0 >>= _) _ _ s;refine aE (cW c hd rfl ?_);refine aE (cW c hd rfl ?_);refine aE (dh e d ?_);simp only[bc,g];refine aE (hW c hd (by simp) (aU ⟨x,rfl,aU (f _ ?_ (fO ..))⟩));exact⟨_,gJ _ c (jb (fj hd _)),(kf ..).trans j,by rw[fj hd];simp[fA]⟩
theorem SH{b l:aL}{i:Nat}{items}{Q:aI->aM->Prop}(g:A.handled=aA)
  (a:s.heap.IsTupleIter b l i) (k:s.heap.IsTuple l items) (j:items[i]?=aA)
  (h:∀h' e,jn b s.heap h'->(∃o,h'.get? e=ax o/\o.cls = .type "StopIteration")->E (.ref e) { s with heap:=h' }) :
  aw (model prog w) A (iE (.ref b)) Q E s:=by
 obtain⟨o,d,q,hd⟩:=id a;obtain⟨n,f,_,p,c⟩:=k
 refine aE (cP a.typeIs F.slot_tuple_iterator_next
  (cT F.slot_tuple_iterator_next a.typeIs F.entry_tuple_iterator_next ?_ (F.args_tuple_iterator_next_1 _)))
 show aw _ _ (field (.ref b) 0 >>= _) _ _ s;refine aE (cW d hd rfl ?_);refine aE (cW d hd rfl ?_);refine aE (dh f c ?_);simp only[bc,j];refine aE (mD (aE (hW d hd (by simp) ?_)));refine aE ?_;refine aE (m:=jo _ _) (wpAny_of_eq rfl ?_);refine cX ?_ (by size_fits);refine aE (wpAny_handled ?_)
 first | rw[g] | rw[g]
 refine aE (aU (wpAny_throw ?_));exact h _ _ (((fO ..).extBut.push _).push _) ⟨_,a9 _ rfl,rfl⟩
end
noncomputable def SeqB(b:Bool)(h:bW)(a:aL)(m6:Array aI):Prop:=if b=aC then h.IsList a m6 else h.IsTuple a m6
noncomputable def IterB(b:Bool)(h:bW)(it a:aL)(i:Nat):Prop:=if b=aC then h.IsListIter it a i else h.IsTupleIter it a i
noncomputable def OM(b:Bool)(K:aF)(H:Hp)(a:aL)(xs:List V):Prop:=if b=aC then SqL K H a xs else SqT K H a xs
noncomputable def VN(b:Bool)(a:aL):dI:={ cls:=.type (if b=aC then "list_iterator" else "tuple_iterator"),data:=.fields #[.ref a,.int 0 0] }
theorem SeqB.at{b:Bool}{h h':bW}{a:aL}{c:Array aI}(x:SeqB b h a c)(k:∀o,h.get? a=ax o->h'.get? a=ax o):SeqB b h' a c:=by
 cases b with
 | true=>obtain⟨o,e,r⟩:=(x);exact⟨o,k o e,r⟩
 | false=>obtain⟨o,e,r⟩:=(x);exact⟨o,k o e,r⟩
theorem SeqB.has{b:Bool}{h:bW}{a:aL}{c:Array aI}(x:SeqB b h a c):∃o,h.get? a=ax o:=by
 cases b with
 | true=>obtain⟨o,e,r⟩:=(x);exact⟨o,e⟩
 | false=>obtain⟨o,e,r⟩:=(x);exact⟨o,e⟩
theorem IterB.at{b:Bool}{h h':bW}{c a:aL}{i:Nat}(x:IterB b h c a i)(k:∀o,h.get? c=ax o->h'.get? c=ax o):IterB b h' c a i:=by
 cases b with
 | true=>obtain⟨o,e,r⟩:=(x);exact⟨o,k o e,r⟩
 | false=>obtain⟨o,e,r⟩:=(x);exact⟨o,k o e,r⟩
theorem IterB.has{b:Bool}{h:bW}{c a:aL}{i:Nat}(x:IterB b h c a i):∃o,h.get? c=ax o/\∀v,o.data≠.cell v:=by
 cases b with
 | true=>obtain⟨o,e,_,d⟩:=(x);exact⟨o,e,λv z=>by rw[d] at z;cases z⟩
 | false=>obtain⟨o,e,_,d⟩:=(x);exact⟨o,e,λv z=>by rw[d] at z;cases z⟩
theorem IterB.new{b:Bool}{h:bW}{c a:aL}(e:h.get? c=ax (VN b a)):IterB b h c a 0:=by
 cases b with
 | true=>exact⟨_,e,rfl,rfl⟩
 | false=>exact⟨_,e,rfl,rfl⟩
section
variable {X:Cx} {m3:List (aL×dI)} {σ:St} {H:Hp} {s:aM} {a:aL} {xs ys:List V} {b:Bool}
theorem Inv.seqB(I:Inv X m3 σ H s)(h:OM b X.K H a xs):∃c:List aI,Vals xs c/\SeqB b s.heap a c.toArray/\xs.length<=sizeLine:=by
 cases b with
 | true=>
  obtain⟨c,r,p,z⟩:=I.list (h);exact⟨c,r,p.isList,z⟩
 | false=>
  obtain⟨c,r,p,z⟩:=I.tuple (h);exact⟨c,r,p,z⟩
theorem Inv.seqB_inj(I:Inv X m3 σ H s)(h:OM b X.K H a xs)(h':OM b X.K H a ys):xs=ys:=by
 cases b with
 | true=>exact I.list_inj (h) (h')
 | false=>exact I.tuple_inj (h) (h')
end
theorem Draws.seq{prog:bB}{w:b8}{A:ba}(b:Bool)(n:A.handled=aA)(f l:aL)(g:l≠f)(a:Array aI) :
  Draws prog w A f [f,l] a.size (λi v=>a[i]?=ax v) (λi h=>IterB b h f l i/\SeqB b h l a) where
 live:=λ_ _ st=>let⟨o,q,_⟩:=st.1.has;⟨o,q⟩
 frame:=λ_ _ _ st k=>⟨st.1.at λo e=>k f (by simp) o e,st.2.at λo e=>k l (by simp) o e⟩
 item:=λi s Q E j st m=>by
  cases b with
  | true=>
   refine wpAny_nextOf_list_item (st.1) (st.2) (x:=a[i]) (by simp[j]) λh' c d=>?_;exact m _ h' s.toks (by simp[j]) ⟨c,st.2.at λo e=>d.extBut l o g e⟩ d
  | false=>
   refine TJ (st.1) (st.2) (x:=a[i]) (by simp[j]) λh' c d=>?_;exact m _ h' s.toks (by simp[j]) ⟨c,st.2.at λo e=>d.extBut l o g e⟩ d
 done:=λs Q E st p=>by
  cases b with
  | true=>exact wpAny_nextOf_list_end n (st.1) (st.2) (by simp) p
  | false=>exact SH n (st.1) (st.2) (by simp) p
theorem Yq{prog:bB}{w:b8}{A:ba}{E:aI->aM->Prop}{s:aM}{b:Bool}{a:aL}{d:Array aI}{Q:aI->aM->Prop}(h:SeqB b s.heap a d)
  (c:Q (.ref s.heap.objs.size) { s with heap:=s.heap.push (VN b a) }):aw (model prog w) A (mS (.ref a)) Q E s:=by
 cases b with
 | true=>exact wpAny_pyIter_list (h) c
 | false=>exact kP (h) c
set_option maxHeartbeats 4000000 in
theorem QY(b:Bool)(l:aL)(a:Array aI) :
  Meets (gn.«enumerate.__new__» ⟨[.type "enumerate",.ref l],[]⟩) (λ_ R s=>SeqB b s.heap l a/\
   R (.ok (.ret (.ref (s.heap.push (VN b l)).objs.size)))
    { s with heap:=(s.heap.push (VN b l)).push { cls:=.type "enumerate",data:=.fields #[.none,.bool aB,.ref s.heap.objs.size,fA 0,.none,.none] } }):=
 .of_wp λprog w A R s h=>by
  obtain⟨k,g,d,tk,os⟩:=s;obtain⟨i,h⟩:=h;have j:=sub_enumerate;obtain⟨o,e⟩:=i.has;have f:SeqB b (mV ⟨k,g,d,tk,os⟩) l a:=i
  wp_walk using g8 e
  refine wpAny_stack_any λst=>aU ?_;split
  ·rename_i c _ _ _ _ _;cases (c==l4 "enumerate")
   ·wp_walk using g8 e,Yq f
    exact⟨_,rfl,h⟩
   ·wp_walk using g8 e,Yq f
    exact⟨_,rfl,h⟩
  ·wp_walk using g8 e,Yq f
   exact⟨_,rfl,h⟩
section
variable {prog:bB} {w:b8} {A:ba} {E:aI->aM->Prop} {s:aM}
theorem OR{b:Bool}{l:aL}{a:Array aI}{Q:aI->aM->Prop}(f:SeqB b s.heap l a)
  (h:∀h',IsEnum h' (s.heap.objs.size+1) s.heap.objs.size 0 .none->IterB b h' s.heap.objs.size l 0->h'.objs.size=s.heap.objs.size+2->
   (∀b o,s.heap.get? b=ax o->h'.get? b=ax o)->Q (.ref (s.heap.objs.size+1)) { s with heap:=h' }) :
  aw (model prog w) A (call (.type "enumerate") [.ref l]) Q E s:=by
 refine callType_new F.called_enumerate rfl (F.typeCall_enumerate_1 _) (F.newCall_enumerate_1 _) (λc=>F.args_object_init_2 c _) F.entry_enumerate_new
  (QY b l a) ⟨f,?_⟩
 have d:(s.heap.push (VN b l)).objs.size=s.heap.objs.size+1:=cz ..;rw[d]
 have e:IsEnum ((s.heap.push (VN b l)).push
   { cls:=.type "enumerate",data:=.fields #[.none,.bool aB,.ref s.heap.objs.size,fA 0,.none,.none] }) (s.heap.objs.size+1) s.heap.objs.size 0 .none:=by
  have:=a9 (s.heap.push (VN b l))
   (o:={ cls:=.type "enumerate",data:=.fields #[.none,.bool aB,.ref s.heap.objs.size,fA 0,.none,.none] }) rfl
  rw[d] at this;exact this
 refine⟨⟨_,e,rfl⟩,h _ e (IterB.new (aJ _ (a9 _ rfl))) (by simp) λb o x=>aJ _ (aJ _ x)⟩
end
noncomputable def Ite(b:Bool)(K:aF)(a:aL):It:=
  ⟨λi H=>∃xs x,OM b K H a xs/\xs[i]?=ax x,
   λi H v H'=>∃p x,H p=aA/\v = .ref p/\H'=upd H p (.tup [.int i,x])/\∀xs,OM b K H a xs->xs[i]?=ax x,
   λi H=>∃xs,OM b K H a xs/\xs.length=i⟩
theorem Fc{P:bB}{w:b8}{K:aF}{Z:List bH}{k:Nat}{pos:dz}(b:Bool)(a e t:aL)(N:e≠t) :
  LQ P w K (.Tuple Z k pos) (Ite b K a) [e,t] e (λi h=>(∃C,IsEnum h e t i C)/\IterB b h t a i) where
 mem:=by simp
 obj:=λi h st c S=>by
  rcases aa.mp S with rfl | S
  ·obtain⟨⟨C,q⟩,_⟩:=st;exact⟨_,q,λv z=>by cases z⟩
  ·rw[aN.mp S];exact st.2.has
 keep:=λi h h' st R=>⟨let⟨C,q⟩:=st.1;⟨C,R e (by simp) _ q⟩,st.2.at λo q=>R t (by simp) o q⟩
 item:=by
  intro X hP hw hK S i m3 s σ H E I M st hg;subst hP hw hK;obtain⟨xs,x,hq,hx⟩:=hg;obtain⟨U,rv,p,hz⟩:=I.seqB hq;obtain⟨u,hu,ru⟩:=rv.get hx;obtain⟨⟨C,J⟩,l⟩:=st;have fe:=M e (by simp);have fi:=M t (by simp);obtain⟨oa,L⟩:=p.has
  -- the sequence is neither record
  have j:∀c,U2 X m3 H c->(∃oc,s.heap.get? c=ax oc/\∃n vs,oc.cls = .type n/\oc.data = .fields vs)->a≠c:=λc _ ⟨oc,hoc,n,vs,hn,hv⟩ z=>by
   subst z;rw[L] at hoc;cases hoc
   cases b with
   | true=>obtain⟨o,G,_,m,d⟩:=(p);rw[L] at G;cases G;rw[hv] at d;cases d
   | false=>obtain⟨o,G,_,m,d⟩:=(p);rw[L] at G;cases G;rw[hv] at d;cases d
  have ae:=j e fe ⟨_,J,_,_,rfl,rfl⟩
  have ai:=j t fi (by
   cases b with
   | true=>obtain⟨o,G,c1,d1⟩:=(l);exact⟨o,G,_,_,c1,d1⟩
   | false=>obtain⟨o,G,c1,d1⟩:=(l);exact⟨o,G,_,_,c1,d1⟩)
  have D:=Draws.seq (prog:=X.prog) (w:=X.w) (A:=X.A.in1) b (I.ok.hd S) t a ai U.toArray;have hlt:i<U.toArray.size:=by have:=(aO.mp hu).1;simpa using this
  refine wpAny_pyNext_enum_itemD D J ⟨l,p⟩ hlt N (by simp[N,bO ae]) λy h' tk hPy ho hs' hT hsz hk=>?_
  have ey:y=u:=by
   have q1:=hPy;have q2:U.toArray[i]?=ax u:=by simpa using hu
   rw[q1] at q2;exact bJ q2
  subst ey;refine⟨_,rfl,wpAny_letOwnedTupleGo_enum ho λY he2 T=>?_⟩;have Tne:=fJ (aV J);have F:=I.hok.fresh (aX _);have R:∀c o,c∉[e,t]->s.heap.get? c=ax o->Y.get? c=ax o:=λc o g q=>T.extBut c o (λz=>g (by simp[z])) (hk c o (λz=>g (by simp[z])) (λz=>g (by simp[z])) q);have W:=T.extBut _ _ Tne hT;have hcs:∀c∈[e,t],(c∈X.ex\/X.s₀.heap.objs.size<=c)/\c≠X.env.locals/\(∀x d,X.env.cells.lookup x=ax d->d≠c)/\∀p∈X.pn++m3,p.1≠c:=λc g=>by have f:=M c g;exact⟨f.2.2.2.1,f.2.1,f.2.2.2.2.1,f.2.2.2.2.2⟩
  have nfp:∀c O,H c=ax O->c∉[e,t]:=λc O q g=>by rw[(M c g).1] at q;cases q
  have hok0:=λc O q=>(I.hok c O q).stay (λd v hd q'=>R d v (by
    rcases hd with z | z
    ·rw[z];exact nfp c O q
    ·exact nfp d _ z) q') (λ_ z=>z) (λ_ _ z=>z) λ_ _ z=>z
  have new:ObjOk X.prog X.w (upd H s.heap.objs.size (.tup [.int i,x])) Y s.heap.objs.size (.tup [.int i,x]):=
   ⟨⟨by show 2<=sizeLine;decide,λo e=>by rw[W] at e;cases e;rfl⟩,[.int i tk,y],.cons ⟨tk,rfl⟩ (.cons ru .nil),⟨_,W,rfl,_,rfl⟩⟩
  have hok1:HOk X.prog X.w (upd H s.heap.objs.size (.tup [.int i,x])) Y:=λc O q=>by
   by_cases hb:c=s.heap.objs.size
   ·subst hb;rw[Zi] at q;cases q;exact new
   ·rw[upd_ne hb] at q;exact(hok0 c O q).stay (λd v _ q'=>q') (λd z=>by rw[upd_ne (Zm z F)];exact z) (λd zs z=>by rw[upd_ne (Zm z F)];exact z) λd u z=>by rw[upd_ne (Zm z F)];exact z
  have un:Un (N3 X.stack) [e,t] H (upd H s.heap.objs.size (.tup [.int i,x])) s.heap Y:=by
   refine⟨λc o q _ _ B=>R c o B q,λc o q _ _ B=>⟨o.slots,R c o B q⟩,λc o q n _=>?_,λc o q B=>⟨o,R c o B q⟩,λc zs q=>?_,λc o zs q=>?_,λc ps q=>⟨#[],?_⟩⟩
   ·rw[upd_ne (bG (aV q))];exact n
   ·rw[upd_ne (Zm q F)];exact q
   ·rw[upd_ne (Zm q F)];exact q
   ·rw[upd_ne (Zm q F),q];simp
  have I2:Inv X m3 σ (upd H s.heap.objs.size (.tup [.int i,x])) { s with heap:=Y,toks:=tk+1 }:=I.call un hok1 I.bare hcs;refine⟨.ref s.heap.objs.size,upd H s.heap.objs.size (.tup [.int i,x]),I2,rfl,⟨_,x,F,rfl,rfl,λzs hzs=>by rw[I.seqB_inj hzs hq];exact hx⟩,⟨⟨y,by simpa using he2⟩,?_⟩,λc g=>?_⟩
  ·exact hs'.1.at λo q=>T.extBut t o (bO N) q
  ·rw[upd_ne (bG (by
    rcases aa.mp g with rfl | g
    ·exact aV J
    ·rw[aN.mp g];obtain⟨o,q,_⟩:=l.has;exact aV q))]
   exact(M c g).1
 done:=by
  intro X hP hw hK S i m3 s σ H E I M st hg;subst hP hw hK;obtain⟨xs,hq,hx⟩:=hg;obtain⟨U,rv,p,hz⟩:=I.seqB hq;obtain⟨⟨C,J⟩,l⟩:=st;have fi:=M t (by simp)
  have ai:a≠t:=λz=>by
   subst z
   cases b with
   | true=>
    obtain⟨o,G,_,m,d⟩:=(p);obtain⟨o',e2,_,d2⟩:=(l);rw[G] at e2;cases e2;rw[d] at d2;cases d2
   | false=>
    obtain⟨o,G,_,m,d⟩:=(p);obtain⟨o',e2,_,d2⟩:=(l);rw[G] at e2;cases e2;rw[d] at d2;cases d2
  have D:=Draws.seq (prog:=X.prog) (w:=X.w) (A:=X.A.in1) b (I.ok.hd S) t a ai U.toArray;have hl:=rv.length;have hi:i=U.toArray.size:=by simp;omega
  refine wpAny_pyNext_enum_endD D J (by rw[<-hi];exact⟨l,p⟩) λh' B=>⟨rfl,?_⟩;obtain⟨f0,f1,f2,f3,f4,f5⟩:=fi;exact I.turned (λc o hb q=>B c o hb q) f0 f1 f3 f4 f5
 self:=λA i s Q E st hQ=>by obtain⟨⟨C,J⟩,_⟩:=st;exact wpAny_pyIter_enum J hQ
end L2
namespace L2
open PySem PySem.Spec PyProof.Rows
section
variable {X:Cx}
noncomputable def Zgh(b:Bool)(K:aF)(ta:TA):TI:=λσ H R=>ta σ H λvs H1=>∃a,vs=[.ref a]/\(∃xs,OM b K H1 a xs)/\R (Ite b K a) H1
theorem B4{i:List bH}{k:Nat}{f:dz}(b:Bool){a:bH}{m:TA}{p pos:dz}(w:Gl X "enumerate")(E:X.mg "enumerate" = aA)(D:PA X [a] m)(C:aR [a] X.env=[(aB,eval a X.env)]:=by rfl) :
  PI X (.Tuple i k f) (.Call (.Name "enumerate" p) [a] [] pos) (Zgh b X.K m):=by
 intro z s A H R I h;refine Call_ (Vj I w E rfl (bx (Yl (D pos z s A H _ I h) λG s1 ⟨vs,v,d,t,x⟩=>?_) C rfl));obtain⟨a,e,⟨xs,o⟩,q⟩:=x;subst e
 cases t with
 | cons r rr=>
  cases rr;cases r;obtain⟨L,F,g,J⟩:=d.seqB o;refine OR g λh' n l u B=>?_;refine wpAny_pyIter_enum n ?_;have y:=d.kept (t':=s1.toks) B;have ne:s1.heap.objs.size+1≠s1.heap.objs.size:=fJ (eM _);refine⟨s1.heap.objs.size+1,[s1.heap.objs.size+1,s1.heap.objs.size],_,_,v,rfl,y,Fc b a (s1.heap.objs.size+1) s1.heap.objs.size ne,⟨⟨.none,n⟩,l⟩,λc j=>?_,q⟩;rcases aa.mp j with rfl | j
  ·exact d.fpOk (jq _) (d.hok.fresh (jq _))
  ·rw[aN.mp j];exact d.fpOk (aX _) (d.hok.fresh (aX _))
end
section
variable {prog:bB} {w:b8} {A:ba} {E:aI->aM->Prop} {s:aM}
structure Np(z TI TO i1 i2:aL)(fp1 fp2:List aL):Prop where
 TIz:TI≠z
 TOz:TO≠z
 i1z:i1≠z
 i2z:i2≠z
 TITO:TI≠TO
 TIi1:TI≠i1
 TIi2:TI≠i2
 TOi1:TO≠i1
 TOi2:TO≠i2
 i12:i1≠i2
 z1:z∉fp1
 TO1:TO∉fp1
 i21:i2∉fp1
 z2:z∉fp2
 TO2:TO∉fp2
 i12':i1∉fp2
theorem ES{z TI TO i1 i2:aL}{fp1 fp2:List aL}{n1 n2 k:Nat}{P1 P2:Nat->aI->Prop}{Z U:Nat->bW->Prop}{a b:aI}{Q:aI->aM->Prop}(D:Np z TI TO i1 i2 fp1 fp2)
  (D1:Draws prog w A i1 fp1 n1 P1 Z) (D2:Draws prog w A i2 fp2 n2 P2 U)
  (hz:j4 s.heap z TI TO .none) (hTI:fG s.heap TI (.ref i1) (.ref i2)) (hTO:fG s.heap TO a b)
  (h1:Z k s.heap) (h2:U k s.heap) (hx:k<n1) (hy:k<n2)
  (hQ:∀x y h' tk,P1 k x->P2 k y->j4 h' z TI TO (fA s.heap.objs.size)->fG h' TO x y->Z (k+1) h'->U (k+1) h'->fG h' s.heap.objs.size x y->h'.objs.size=s.heap.objs.size+1->
   (∀c o,c≠z->c≠TO->c≠i1->c≠i2->s.heap.get? c=ax o->h'.get? c=ax o)->Q (.ref s.heap.objs.size) { s with heap:=h',toks:=tk }) :
  aw (model prog w) A (gn.«zip.__next__» ⟨[.ref z],[]⟩) (λfin s'=>∃v,fin = .done (.ret v)/\Q v s') E s:=by
 show aw _ _ (field (.ref z) 2 >>= _) _ _ _;refine aE (cW hz rfl rfl ?_);refine aE (cW hz rfl rfl ?_);refine aE (dh hTI rfl ?_);refine aE ?_;refine aE (cW hz rfl rfl (aU ?_));refine aE (mD ?_);refine aE (cW hz rfl rfl ?_);refine aE (di hz (by simp) λh₁ C l=>?_)
 replace C:j4 h₁ z TI TO .ellipsis:=C
 refine aE ?_;refine aE (aE (iV ?_));have st1:=D1.frame _ _ _ h1 λc u o e=>l.extBut c o (λq=>D.z1 (q▸u)) e;refine aE (D1.item k _ _ _ hx st1 λx M tk₂ hPx T g=>aU ?_)
 replace g:cO i1 h₁ M:=g
 have H:=g.extBut _ _ D.TOi1 (l.extBut _ _ D.TOz hTO);refine aE (dh H rfl ?_);refine aE (gW H λI n f=>?_)
 replace n:fG I TO x b:=n
 replace f:cO TO M I:=f
 refine aE (lT (aU ?_));refine aE (aE (iV ?_));have st2:=D2.frame _ _ _ h2 λc u o e=>f.extBut c o (λq=>D.TO2 (q▸u)) (g.extBut c o (λq=>D.i12' (q▸u)) (l.extBut c o (λq=>D.z2 (q▸u)) e));refine aE (D2.item k _ _ _ hy st2 λy O X hPy Y d=>aU ?_)
 replace d:cO i2 I O:=d
 have G:=d.extBut _ _ D.TOi2 n;refine aE (dh G rfl ?_);refine aE (gW G λi j h=>?_)
 replace j:fG i TO x y:=j
 replace h:cO TO O i:=h
 refine aE (lT (aU (aU ?_)));refine aE (dh j rfl ?_);refine aE (wpAny_newTuple ?_);have hsz:i.objs.size=s.heap.objs.size:=by rw[h.1,d.1,f.1,g.1,l.1]
 have L:=h.extBut _ _ D.TOz.symm (d.extBut _ _ D.i2z.symm (f.extBut _ _ D.TOz.symm (g.extBut _ _ D.i1z.symm C)))
 have S:∀c o,c≠z->c≠TO->c≠i1->c≠i2->s.heap.get? c=ax o->i.get? c=ax o:=λc o c1 c2 c3 c4 e=>
  h.extBut _ _ c2 (d.extBut _ _ c4 (f.extBut _ _ c2 (g.extBut _ _ c3 (l.extBut _ _ c1 e))))
 have P:=D1.frame _ _ _ T λc u o e=>h.extBut c o (λq=>D.TO1 (q▸u)) (d.extBut c o (λq=>D.i21 (q▸u)) (f.extBut c o (λq=>D.TO1 (q▸u)) e));have W:=D2.frame _ _ _ Y λc u o e=>h.extBut c o (λq=>D.TO2 (q▸u)) e;have N:=aV L;refine aE ?_;have R:j4 (i.push { cls:=.type "tuple",data:=.seq #[x,y] }) z TI TO .ellipsis:=aJ _ L;refine aE (di R (by simp) λh₇ t p=>?_)
 replace t:j4 h₇ z TI TO (fA i.objs.size):=t
 refine di t (by simp) λF m B=>?_
 replace m:j4 F z TI TO (fA i.objs.size):=m
 have up:∀c o,c≠z->i.get? c=ax o->F.get? c=ax o:=λc o c1 e=>B.extBut _ _ c1 (p.extBut _ _ c1 (aJ _ e));have J:=B.extBut _ _ (fJ N) (p.extBut _ _ (fJ N) (a9 _ rfl));have hz8:F.objs.size=i.objs.size+1:=by rw[B.1,p.1,cz]
 rw[hsz] at m J hz8;refine aU ⟨_,rfl,?_⟩;rw[hsz];exact hQ x y F X hPx hPy m (up _ _ D.TOz j) (D1.frame _ _ _ P λc u o e=>up c o (λq=>D.z1 (q▸u)) e) (D2.frame _ _ _ W λc u o e=>up c o (λq=>D.z2 (q▸u)) e) J hz8 λc o c1 c2 c3 c4 e=>up c o c1 (S c o c1 c2 c3 c4 e)
theorem B5{z TI TO G P:aL}{I L:List aL}{n1 n2 k:Nat}{P1 P2:Nat->aI->Prop}{J N:Nat->bW->Prop}{a b:aI}{Q:PySem.Fin->aM->Prop}(D:Np z TI TO G P I L)
  (T:Draws prog w A G I n1 P1 J) (D2:Draws prog w A P L n2 P2 N)
  (O:j4 s.heap z TI TO .none) (U:fG s.heap TI (.ref G) (.ref P)) (Z:fG s.heap TO a b)
  (h1:J k s.heap) (h2:N k s.heap) (H:k=n1\/(k<n1/\k=n2))
  (hE:∀h' tk e,(∀c o,c≠z->c≠TO->c≠G->c≠P->s.heap.get? c=ax o->h'.get? c=ax o)->(∃o,h'.get? e=ax o/\o.cls = .type "StopIteration")->E (.ref e) { s with heap:=h',toks:=tk }) :
  aw (model prog w) A (gn.«zip.__next__» ⟨[.ref z],[]⟩) Q E s:=by
 show aw _ _ (field (.ref z) 2 >>= _) _ _ _;refine aE (cW O rfl rfl ?_);refine aE (cW O rfl rfl ?_);refine aE (dh U rfl ?_);refine aE ?_;refine aE (cW O rfl rfl (aU ?_));refine aE (mD ?_);refine aE (cW O rfl rfl ?_);refine aE (di O (by simp) λh₁ i g=>?_)
 replace i:j4 h₁ z TI TO .ellipsis:=i
 replace g:cO z s.heap h₁:=g
 refine aE ?_;refine aE (aE (iV ?_));have C:=T.frame _ _ _ h1 λc M o e=>g.extBut c o (λq=>D.z1 (q▸M)) e;rcases H with hk | ⟨hx,hk⟩
 ·rw[hk] at C;refine aE (T.done _ _ _ C λm e d he=>?_)
  replace d:jn G h₁ m:=d
  obtain⟨W,n,t⟩:=he;have v:=d _ _ D.i1z.symm i;have F:e≠z:=λx=>by subst x;rw[v] at n;cases n;simp at t
  refine di v (by simp) λl _ f=>?_
  replace f:cO z m l:=f
  exact hE l _ e (λc o c1 _ c3 _ x=>f.extBut _ _ c1 (d _ _ c3 (g.extBut _ _ c1 x))) ⟨W,f.extBut _ _ F n,t⟩
 ·refine aE (T.item k _ _ _ hx C λx m Y hPx X d=>aU ?_)
  replace d:cO G h₁ m:=d
  have p:=d.extBut _ _ D.TOi1 (g.extBut _ _ D.TOz Z);refine aE (dh p rfl ?_);refine aE (gW p λl S f=>?_)
  replace f:cO TO m l:=f
  refine aE (lT (aU ?_));refine aE (aE (iV ?_));have R:=D2.frame _ _ _ h2 λc M o e=>f.extBut c o (λq=>D.TO2 (q▸M)) (d.extBut c o (λq=>D.i12' (q▸M)) (g.extBut c o (λq=>D.z2 (q▸M)) e));rw[hk] at R;refine aE (D2.done _ _ _ R λy e h he=>?_)
  replace h:jn P l y:=h
  obtain⟨W,n,t⟩:=he;have u:=h _ _ D.i2z.symm (f.extBut _ _ D.TOz.symm (d.extBut _ _ D.i1z.symm i));have F:e≠z:=λx=>by subst x;rw[u] at n;cases n;simp at t
  refine di u (by simp) λB _ j=>?_
  replace j:cO z y B:=j
  exact hE B _ e (λc o c1 c2 c3 c4 x=>j.extBut _ _ c1 (h _ _ c4 (f.extBut _ _ c2 (d.extBut _ _ c3 (g.extBut _ _ c1 x))))) ⟨W,j.extBut _ _ F n,t⟩
theorem RY{z TI TO h i:aL}{f g:List aL}{t n k:Nat}{p m:Nat->aI->Prop}{d e:Nat->bW->Prop}{a b:aI}{Q:Option aI->aM->Prop}(D:Np z TI TO h i f g)
  (B:Draws prog w A.in1 h f t p d) (G:Draws prog w A.in1 i g n m e)
  (u:j4 s.heap z TI TO .none) (j:fG s.heap TI (.ref h) (.ref i)) (l:fG s.heap TO a b)
  (T:d k s.heap) (J:e k s.heap) (P:k<t) (O:k<n)
  (R:∀x y h' tk,p k x->m k y->j4 h' z TI TO (fA s.heap.objs.size)->fG h' TO x y->d (k+1) h'->e (k+1) h'->fG h' s.heap.objs.size x y->h'.objs.size=s.heap.objs.size+1->
   (∀c o,c≠z->c≠TO->c≠h->c≠i->s.heap.get? c=ax o->h'.get? c=ax o)->Q (ax (.ref s.heap.objs.size)) { s with heap:=h',toks:=tk }) :
  aw (model prog w) A (jh (.ref z)) Q E s:=by
 have q:s.TypeIs (.ref z) "zip":=⟨_,u,rfl⟩
 exact aE (iW (cP q F.slot_zip_next
  (cT F.slot_zip_next q F.entry_zip_next
   (ES D B G u j l T J P O λx y h' tk I p2 H N M v S C L=>aU (R x y h' tk I p2 H N M v S C L)) (F.args_zip_next_1 _))))
theorem QZ{z TI TO j l:aL}{f h:List aL}{p q k:Nat}{B y:Nat->aI->Prop}{g i:Nat->bW->Prop}{a b:aI}{Q:Option aI->aM->Prop}(D:Np z TI TO j l f h)
  (v:Draws prog w A.in1 j f p B g) (x:Draws prog w A.in1 l h q y i)
  (u:j4 s.heap z TI TO .none) (m:fG s.heap TI (.ref j) (.ref l)) (n:fG s.heap TO a b)
  (M:g k s.heap) (C:i k s.heap) (d:k=p\/(k<p/\k=q))
  (I:∀h' tk,(∀c o,c≠z->c≠TO->c≠j->c≠l->s.heap.get? c=ax o->h'.get? c=ax o)->Q aA { s with heap:=h',toks:=tk }):aw (model prog w) A (jh (.ref z)) Q E s:=by
 have t:s.TypeIs (.ref z) "zip":=⟨_,u,rfl⟩
 refine aE (iW (cP t F.slot_zip_next
  (cT F.slot_zip_next t F.entry_zip_next (B5 D v x u m n M C d λh' tk e H J=>?_) (F.args_zip_next_1 _))))
 obtain⟨o,L,G⟩:=J;refine aE (wpAny_isInstance ⟨o,L,G⟩ isSubtype_stop ?_);exact aU (I _ tk H)
end
abbrev zq1(h:bW)(b1:Bool)(l1:aL):bW:=h.push (VN b1 l1)
abbrev zq2(h:bW)(b1 b2:Bool)(l1 l2:aL):bW:=(zq1 h b1 l1).push (VN b2 l2)
abbrev zq3(h:bW)(b1 b2:Bool)(l1 l2:aL):bW:=(zq2 h b1 b2 l1 l2).push { cls:=.type "tuple",data:=.seq #[.ref h.objs.size,.ref (zq1 h b1 l1).objs.size] }
abbrev zq4(h:bW)(b1 b2:Bool)(l1 l2:aL):bW:=(zq3 h b1 b2 l1 l2).push { cls:=.type "tuple",data:=.seq #[.none,.none] }
abbrev zq5(h:bW)(b1 b2:Bool)(l1 l2:aL):bW:=(zq4 h b1 b2 l1 l2).push { cls:=.type "zip",data:=.fields #[.none,.bool aB,.bool aB,.ref (zq2 h b1 b2 l1 l2).objs.size,.ref (zq3 h b1 b2 l1 l2).objs.size] }
theorem OS(b1 c:Bool)(b a:aL)(xs l:Array aI) :
  Meets (gn.«zip.__new__» ⟨[.type "zip",.ref b,.ref a],[]⟩) (λ_ R s=>SeqB b1 s.heap b xs/\SeqB c s.heap a l/\
   R (.ok (.ret (.ref (zq4 s.heap b1 c b a).objs.size))) { s with heap:=zq5 s.heap b1 c b a }):=
 .of_wp λprog w A R s h=>by
  obtain⟨n,g,d,tk,os⟩:=s;obtain⟨f,j,h⟩:=h;have m:=sub_zip;have i:=f;have k:SeqB c (mV ⟨n.push (VN b1 b),g,d,tk,os⟩) a l:=j.at λo e=>aJ _ e
  wp_walk using Yq i,Yq k
  exact⟨_,rfl,h⟩
section
variable {prog:bB} {w:b8} {A:ba} {E:aI->aM->Prop} {s:aM}
theorem Mf{b1 d:Bool}{a b:aL}{xs n:Array aI}{Q:aI->aM->Prop}(e:SeqB b1 s.heap a xs)(j:SeqB d s.heap b n)
  (h:∀h',j4 h' (s.heap.objs.size+4) (s.heap.objs.size+2) (s.heap.objs.size+3) .none->fG h' (s.heap.objs.size+2) (.ref s.heap.objs.size) (.ref (s.heap.objs.size+1))->
   fG h' (s.heap.objs.size+3) .none .none->IterB b1 h' s.heap.objs.size a 0->IterB d h' (s.heap.objs.size+1) b 0->h'.objs.size=s.heap.objs.size+5->
   (∀c o,s.heap.get? c=ax o->h'.get? c=ax o)->Q (.ref (s.heap.objs.size+4)) { s with heap:=h' }) :
  aw (model prog w) A (call (.type "zip") [.ref a,.ref b]) Q E s:=by
 refine callType_new F.called_zip rfl (F.typeCall_zip_2 _ _) (F.newCall_zip_2 _ _) (λm=>F.args_object_init_3 m _ _) F.entry_zip_new
  (OS b1 d a b xs n) ⟨e,j,?_⟩
 have i:(zq1 s.heap b1 a).objs.size=s.heap.objs.size+1:=cz ..;have f:(zq2 s.heap b1 d a b).objs.size=s.heap.objs.size+2:=by rw[cz,i]
 have k:(zq3 s.heap b1 d a b).objs.size=s.heap.objs.size+3:=by rw[cz,f]
 have g:(zq4 s.heap b1 d a b).objs.size=s.heap.objs.size+4:=by rw[cz,k]
 have v:(zq5 s.heap b1 d a b).objs.size=s.heap.objs.size+5:=by rw[cz,g]
 have l:(zq5 s.heap b1 d a b).get? (zq4 s.heap b1 d a b).objs.size=ax _:=a9 _ rfl;have q:(zq5 s.heap b1 d a b).get? (zq3 s.heap b1 d a b).objs.size=ax _:=aJ _ (a9 _ rfl);have t:(zq5 s.heap b1 d a b).get? (zq2 s.heap b1 d a b).objs.size=ax _:=aJ _ (aJ _ (a9 _ rfl));have p:(zq5 s.heap b1 d a b).get? (zq1 s.heap b1 a).objs.size=ax (VN d b):=aJ _ (aJ _ (aJ _ (a9 _ rfl)));have u:(zq5 s.heap b1 d a b).get? s.heap.objs.size=ax (VN b1 a):=aJ _ (aJ _ (aJ _ (aJ _ (a9 _ rfl))));rw[f,k,g] at l;rw[i,f] at t;rw[k] at q;rw[i] at p;rw[g]
 exact⟨⟨_,l,rfl⟩,h _ l t q (IterB.new u) (IterB.new p) v λc o x=>
  aJ _ (aJ _ (aJ _ (aJ _ (aJ _ x))))⟩
end
theorem Inv.newTup{X:Cx}{y:List (aL×dI)}{F:St}{H:Hp}{s:aM}{l:List aL}{j:bW}{tk n:Nat}{A:List aI}{xs:List V}(I:Inv X y F H s)(D:∀b∈l,U2 X y H b)
  (w:∀c o,c∉l->s.heap.get? c=ax o->j.get? c=ax o) (G:j.get? s.heap.objs.size=ax { cls:=.type "tuple",data:=.seq A.toArray n }) (M:Vals xs A) (L:xs.length<=sizeLine) :
  Inv X y F (upd H s.heap.objs.size (.tup xs)) { s with heap:=j,toks:=tk }:=by
 have a:=I.hok.fresh (aX _);have C:∀c∈l,(c∈X.ex\/X.s₀.heap.objs.size<=c)/\c≠X.env.locals/\(∀x d,X.env.cells.lookup x=ax d->d≠c)/\∀p∈X.pn++y,p.1≠c:=λc h=>by have f:=D c h;exact⟨f.2.2.2.1,f.2.1,f.2.2.2.2.1,f.2.2.2.2.2⟩
 have t:∀c i,H c=ax i->c∉l:=λc i q h=>by rw[(D c h).1] at q;cases q
 have m:=λc i q=>(I.hok c i q).stay (λd v hd B=>w d v (by
   rcases hd with z | z
   ·rw[z];exact t c i q
   ·exact t d _ z) B) (λ_ z=>z) (λ_ _ z=>z) λ_ _ z=>z
 have new:ObjOk X.prog X.w (upd H s.heap.objs.size (.tup xs)) j s.heap.objs.size (.tup xs):=
  ⟨⟨L,λo e=>by rw[G] at e;cases e;rfl⟩,A,M,⟨_,G,rfl,_,rfl⟩⟩
 have k:HOk X.prog X.w (upd H s.heap.objs.size (.tup xs)) j:=λc i q=>by
  by_cases E:c=s.heap.objs.size
  ·subst E;rw[Zi] at q;cases q;exact new
  ·rw[upd_ne E] at q;exact(m c i q).stay (λd v _ B=>B) (λd z=>by rw[upd_ne (Zm z a)];exact z) (λd J z=>by rw[upd_ne (Zm z a)];exact z) λd u z=>by rw[upd_ne (Zm z a)];exact z
 have un:Un (N3 X.stack) l H (upd H s.heap.objs.size (.tup xs)) s.heap j:=by
  refine⟨λc o q _ _ g=>w c o g q,λc o q _ _ g=>⟨o.slots,w c o g q⟩,λc o q n _=>?_,λc o q g=>⟨o,w c o g q⟩,λc J q=>?_,λc o J q=>?_,λc ps q=>⟨#[],?_⟩⟩
  ·rw[upd_ne (bG (aV q))];exact n
  ·rw[upd_ne (Zm q a)];exact q
  ·rw[upd_ne (Zm q a)];exact q
  ·rw[upd_ne (Zm q a),q];simp
 exact I.call un k I.bare C
theorem Inv.turnedL{X:Cx}{l:List (aL×dI)}{w:St}{H:Hp}{s:aM}{h:List aL}{m:bW}{tk:Nat}(I:Inv X l w H s)(u:∀b∈h,U2 X l H b)
  (k:∀c o,c∉h->s.heap.get? c=ax o->m.get? c=ax o):Inv X l w H { s with heap:=m,toks:=tk }:=by
 have t:∀c∈h,(c∈X.ex\/X.s₀.heap.objs.size<=c)/\c≠X.env.locals/\(∀x d,X.env.cells.lookup x=ax d->d≠c)/\∀p∈X.pn++l,p.1≠c:=λc e=>by have f:=u c e;exact⟨f.2.2.2.1,f.2.1,f.2.2.2.2.1,f.2.2.2.2.2⟩
 have j:∀c g,H c=ax g->c∉h:=λc g q e=>by rw[(u c e).1] at q;cases q
 have i:=λc g q=>(I.hok c g q).stay (λd v hd A=>k d v (by
   rcases hd with z | z
   ·rw[z];exact j c g q
   ·exact j d _ z) A) (λ_ z=>z) (λ_ _ z=>z) λ_ _ z=>z
 have un:Un (N3 X.stack) h H H s.heap m:=
  ⟨λc o q _ _ a=>k c o a q,λc o q _ _ a=>⟨o.slots,k c o a q⟩,λc o q n _=>n,λc o q a=>⟨o,k c o a q⟩,λc y q=>q,λc o y q=>q,λc ps q=>⟨#[],by rw[q];simp⟩⟩
 exact I.call un i I.bare t
theorem SeqB.ne_rec{b:Bool}{h:bW}{a c:aL}{j:Array aI}{o:dI}{vs:Array aI}(p:SeqB b h a j)(e:h.get? c=ax o)(d:o.data = .fields vs):a≠c:=λz=>by
 subst z
 cases b with
 | true=>obtain⟨i,g,_,m,f⟩:=(p);rw[e] at g;cases g;rw[d] at f;cases f
 | false=>obtain⟨i,g,_,m,f⟩:=(p);rw[e] at g;cases g;rw[d] at f;cases f
theorem IterB.rec{b:Bool}{h:bW}{c a:aL}{i:Nat}(x:IterB b h c a i):∃o,h.get? c=ax o/\∃vs,o.data = .fields vs:=by
 cases b with
 | true=>obtain⟨o,e,_,d⟩:=(x);exact⟨o,e,_,d⟩
 | false=>obtain⟨o,e,_,d⟩:=(x);exact⟨o,e,_,d⟩
structure Zdb(a1 a2 TO TI:aL):Prop where
 a:a1≠TO
 b:a2≠TO
 c:a1≠TI
 d:a2≠TI
noncomputable def Itz(b1 b2:Bool)(K:aF)(a1 a2:aL):It:=
  ⟨λi H=>∃xs ys x y,OM b1 K H a1 xs/\OM b2 K H a2 ys/\xs[i]?=ax x/\ys[i]?=ax y,
   λi H v H'=>∃p x y,H p=aA/\v = .ref p/\H'=upd H p (.tup [x,y])/\(∀xs,OM b1 K H a1 xs->xs[i]?=ax x)/\∀ys,OM b2 K H a2 ys->ys[i]?=ax y,
   λi H=>∃xs ys,OM b1 K H a1 xs/\OM b2 K H a2 ys/\(i=xs.length\/(i<xs.length/\i=ys.length))⟩
theorem ET{P:bB}{w:b8}{K:aF}{elts:List bH}{k:Nat}{pos:dz}(b1 b2:Bool)(a1 a2 z TI TO G J:aL)(d:[z,TI,TO,G,J].Nodup) :
  LQ P w K (.Tuple elts k pos) (Itz b1 b2 K a1 a2) [z,TI,TO,G,J] z
   (λi h=>j4 h z TI TO .none/\fG h TI (.ref G) (.ref J)/\(∃u v,fG h TO u v/\Zdb a1 a2 TO TI)/\IterB b1 h G a1 i/\IterB b2 h J a2 i) where
 mem:=by simp
 obj:=λi h st c Z=>by
  obtain⟨C,b,⟨u,v,m,_⟩,W,N⟩:=st;simp only[aa,cC,or_false] at Z;rcases Z with rfl | rfl | rfl | rfl | rfl
  ·exact⟨_,C,λv q=>by cases q⟩
  ·exact⟨_,b,λv q=>by cases q⟩
  ·exact⟨_,m,λv q=>by cases q⟩
  ·exact W.has
  ·exact N.has
 keep:=λi h h' st kk=>by obtain⟨C,b,⟨u,v,m,f⟩,W,N⟩:=st;exact⟨kk z (by simp) _ C,kk TI (by simp) _ b,⟨u,v,kk TO (by simp) _ m,f⟩,W.at λo q=>kk G (by simp) o q,N.at λo q=>kk J (by simp) o q⟩
 item:=by
  intro X hP hw hK Z i m3 s σ H E I hf st hg;subst hP hw hK;obtain⟨xs,ys,x,y,S,U,hx,hy⟩:=hg;obtain⟨l,rv1,T,hz1⟩:=I.seqB S;obtain⟨n,rv2,p2,hz2⟩:=I.seqB U;obtain⟨u,hu,ru⟩:=rv1.get hx;obtain⟨v,hv,rv⟩:=rv2.get hy;obtain⟨C,b,⟨q1,q2,m,f⟩,W,N⟩:=st;obtain⟨o1,e1,vs1,d1⟩:=W.rec;obtain⟨o2,e2,vs2,d2⟩:=N.rec;have A1z:=T.ne_rec C rfl;have A2z:=p2.ne_rec C rfl;have A11:=T.ne_rec e1 d1;have A12:=T.ne_rec e2 d2;have A21:=p2.ne_rec e1 d1;have A22:=p2.ne_rec e2 d2;simp only[av,aa,cC,not_or,bu,and_true,not_false_eq_true] at d;obtain⟨⟨g,t,F,B⟩,⟨O,R,Y⟩,⟨L,M⟩,p⟩:=d;obtain⟨f1,f2,f3,f4⟩:=f;have D:Np z TI TO G J [G,a1] [J,a2]:=⟨bO g,bO t,bO F,bO B,O,R,Y,L,M,p,by simp[F,bO A1z],by simp[L,bO f1],by simp[bO p,bO A12],by simp[B,bO A2z],by simp[M,bO f2],by simp[p,bO A21]⟩;have D1:=Draws.seq (prog:=X.prog) (w:=X.w) (A:=X.A.in1) b1 (I.ok.hd Z) G a1 A11 l.toArray;have D2:=Draws.seq (prog:=X.prog) (w:=X.w) (A:=X.A.in1) b2 (I.ok.hd Z) J a2 A22 n.toArray;have l1:i<l.toArray.size:=by simpa using(aO.mp hu).1
  have l2:i<n.toArray.size:=by simpa using(aO.mp hv).1
  refine RY D D1 D2 C b m ⟨W,T⟩ ⟨N,p2⟩ l1 l2 λx' y' h' tk hPx hPy c1 c2 c3 c4 c5 c6 hk=>?_
  have ex':x'=u:=by
   have w1:=hPx;have w2:l.toArray[i]?=ax u:=by simpa using hu
   rw[w1] at w2;exact bJ w2
  have ey':y'=v:=by
   have w1:=hPy;have w2:n.toArray[i]?=ax v:=by simpa using hv
   rw[w1] at w2;exact bJ w2
  subst ex' ey';refine⟨_,rfl,wpAny_letOwnedTupleGo_zip c1 λh3 hz3 j=>?_⟩
  replace j:cO z h' h3:=j
  have kk:∀c o,c∉[z,TI,TO,G,J]->s.heap.get? c=ax o->h3.get? c=ax o:=λc o a q=>
   j.extBut c o (λe=>a (by simp[e])) (hk c o (λe=>a (by simp[e])) (λe=>a (by simp[e])) (λe=>a (by simp[e])) (λe=>a (by simp[e])) q)
  have hTn:=I.hok.fresh (aX _);have hT3:=j.extBut _ _ (fJ (aV C)) c5;have I2:=I.newTup (tk:=tk) hf kk hT3 (.cons ru (.cons rv .nil)) (by show 2<=sizeLine;decide);refine⟨.ref s.heap.objs.size,_,I2,rfl,⟨_,x,y,hTn,rfl,rfl,λzs hzs=>by rw[I.seqB_inj hzs S];exact hx,λzs hzs=>by rw[I.seqB_inj hzs U];exact hy⟩,⟨hz3,j.extBut _ _ (bO g) (hk _ _ (bO g) O R Y b),⟨_,_,j.extBut _ _ (bO t) c2,f1,f2,f3,f4⟩,c3.1.at λo q=>j.extBut _ o (bO F) q,c4.1.at λo q=>j.extBut _ o (bO B) q⟩,λc a=>?_⟩;rw[upd_ne (bG ?_)]
  ·exact(hf c a).1
  ·simp only[aa,cC,or_false] at a;rcases a with rfl | rfl | rfl | rfl | rfl
   ·exact aV C
   ·exact aV b
   ·exact aV m
   ·exact aV e1
   ·exact aV e2
 done:=by intro X hP hw hK Z i m3 s σ H E I hf st hg;subst hP hw hK;obtain⟨xs,ys,S,U,hx⟩:=hg;obtain⟨l,rv1,T,hz1⟩:=I.seqB S;obtain⟨n,rv2,p2,hz2⟩:=I.seqB U;obtain⟨C,b,⟨q1,q2,m,f⟩,W,N⟩:=st;obtain⟨o1,e1,vs1,d1⟩:=W.rec;obtain⟨o2,e2,vs2,d2⟩:=N.rec;have A1z:=T.ne_rec C rfl;have A2z:=p2.ne_rec C rfl;have A11:=T.ne_rec e1 d1;have A12:=T.ne_rec e2 d2;have A21:=p2.ne_rec e1 d1;have A22:=p2.ne_rec e2 d2;simp only[av,aa,cC,not_or,bu,and_true,not_false_eq_true] at d;obtain⟨⟨g,t,F,B⟩,⟨O,R,Y⟩,⟨L,M⟩,p⟩:=d;obtain⟨f1,f2,f3,f4⟩:=f;have D:Np z TI TO G J [G,a1] [J,a2]:=⟨bO g,bO t,bO F,bO B,O,R,Y,L,M,p,by simp[F,bO A1z],by simp[L,bO f1],by simp[bO p,bO A12],by simp[B,bO A2z],by simp[M,bO f2],by simp[p,bO A21]⟩;have D1:=Draws.seq (prog:=X.prog) (w:=X.w) (A:=X.A.in1) b1 (I.ok.hd Z) G a1 A11 l.toArray;have D2:=Draws.seq (prog:=X.prog) (w:=X.w) (A:=X.A.in1) b2 (I.ok.hd Z) J a2 A22 n.toArray;have n1:=rv1.length;have n2:=rv2.length;refine QZ D D1 D2 C b m ⟨W,T⟩ ⟨N,p2⟩ (by simp only[aS];omega) λh' tk hk=>⟨rfl,?_⟩;exact I.turnedL hf λc o a q=>hk c o (λe=>a (by simp[e])) (λe=>a (by simp[e])) (λe=>a (by simp[e])) (λe=>a (by simp[e])) q
 self:=λA i s Q E st hQ=>wpAny_pyIter_zip st.1 hQ
section
variable {X:Cx}
noncomputable def Zik(b1 b2:Bool)(K:aF)(ta:TA):TI:=λσ H R=>ta σ H λvs H1=>∃a1 a2,vs=[.ref a1,.ref a2]/\(∃xs,OM b1 K H1 a1 xs)/\(∃ys,OM b2 K H1 a2 ys)/\R (Itz b1 b2 K a1 a2) H1
theorem Zdc{l:List bH}{k:Nat}{f:dz}(b1 y:Bool){a b:bH}{E:TA}{p pos:dz}(L:Gl X "zip")(Z:X.mg "zip" = aA)(Y:PA X [a,b] E)
  (W:aR [a,b] X.env=[(aB,eval a X.env),(aB,eval b X.env)]:=by rfl) (o:aR [b] X.env=[(aB,eval b X.env)]:=by rfl) :
  PI X (.Tuple l k f) (.Call (.Name "zip" p) [a,b] [] pos) (Zik b1 y X.K E):=by
 intro P s Q H R I h;refine Call_ (Vj I L Z boot_zip (bx (Yl (Y pos P s Q H _ I h) λus s1 ⟨vs,J,m,G,M⟩=>?_) (by rw[W,o]) (by rw[o];rfl)));obtain⟨u,w,e,⟨xs,v⟩,⟨ys,x⟩,q⟩:=M;subst e
 cases G with
 | cons r rr=>
  cases rr with
  | cons r' rr=>
   cases rr;cases r;cases r';obtain⟨B,O,A,_⟩:=m.seqB v;obtain⟨D,rv2,p2,_⟩:=m.seqB x;refine Mf A p2 λh' c1 c2 c3 c4 c5 c6 T=>?_;refine wpAny_pyIter_zip c1 ?_;have N:=m.kept (t':=s1.toks) T;have F:=let⟨_,e⟩:=A.has;aV e;have C:=let⟨_,e⟩:=p2.has;aV e;generalize U:s1.heap.objs.size=n at *;have ne:∀(a:aL)(j:Nat),a<n->a≠n+j:=λa j h=>bG (az h (eO _ _));have S:([n+4,n+2,n+3,n,n+1]:List aL).Nodup:=by have d:∀(i j:Nat),i≠j->(n+i:Nat)≠n+j:=λi j h e=>h (kD e);have t:∀(i:Nat),i≠0->(n+i:Nat)≠n:=λi h e=>h (kD (e.trans (Nat.add_zero n).symm));simp only[av,aa,cC,not_or,bu,and_true,not_false_eq_true];exact⟨⟨d 4 2 (by decide),d 4 3 (by decide),t 4 (by decide),d 4 1 (by decide)⟩,⟨d 2 3 (by decide),t 2 (by decide),d 2 1 (by decide)⟩,⟨t 3 (by decide),d 3 1 (by decide)⟩,(t 1 (by decide)).symm⟩
   refine⟨n+4,[n+4,n+2,n+3,n,n+1],_,_,J,rfl,N,ET b1 y u w (n+4) (n+2) (n+3) n (n+1) S,⟨c1,c2,⟨_,_,c3,ne u 3 F,ne w 3 C,ne u 2 F,ne w 2 C⟩,c4,c5⟩,λc z=>?_,q⟩
   have g:s1.heap.objs.size<=c:=by
    rw[U];simp only[aa,cC,or_false] at z;rcases z with rfl | rfl | rfl | rfl | rfl
    ·exact eO _ _
    ·exact eO _ _
    ·exact eO _ _
    ·exact aX _
    ·exact eO _ _
   exact m.fpOk g (m.hok.fresh g)
end
section
variable {prog:bB} {w:b8} {A:ba} {E:aI->aM->Prop} {s:aM}
theorem Mg{d:aL}{o:dI}{e:Array gx}{ep:Nat}{Q:aI->aM->Prop}(hd:(d==dU)=aB)(c:s.heap.get? d=ax o)(g:o.ExactDict)(a:o.data = .dict e ep)
  (f:Q (.ref s.heap.objs.size) { s with heap:=s.heap.push { cls:=.type "dict_keyiterator",data:=.fields #[.ref d,.int 0 0,.int e.size 0,.int ep 0] } }) :
  aw (model prog w) A (mS (.ref d)) Q E s:=by
 have b:s.TypeIs (.ref d) "dict":=⟨o,c,g.1⟩;refine wpAny_pyIter_slot b F.slot_dict_iter (cT F.slot_dict_iter b F.entry_dict_iter ?_ (F.args_dict_iter_1 _));unfold gn.«dict.__iter__»;refine aE ?_;unfold gn.Dict.dictSlotNone;refine aE (wpAny_notOrdered_dict b ?_);show aw _ _ (pure (b7 d)) _ _ s;refine aU ?_;show aw _ _ (jc d >>= _) _ _ s;unfold jc;rw[m9 (by rw[hd];exact bN)];refine aE (aU ?_);refine aE (iP c a ?_);refine aE (j5 c a ?_);refine aE (cX (aU ⟨_,rfl,"dict_keyiterator",_,⟨_,a9 _ rfl,rfl⟩,F.slot_dict_keyiterator_next.lookup,?_⟩));simpa [fA] using f
theorem TL{c d:aL}{i ep:Nat}{m:dI}{f:Array gx}{e:gx}{Q:Option aI->aM->Prop}(a:s.heap.IsKeyIter c d i f.size ep)
  (k:s.heap.get? d=ax m) (h:m.data = .dict f ep) (p:f[i]?=ax e)
  (q:∀h',h'.IsKeyIter c d (i+1) f.size ep->cO c s.heap h'->Q (ax e.key) { s with heap:=h' }) :
  aw (model prog w) A (jh (.ref c)) Q E s:=by
 obtain⟨o,l,n,hd⟩:=id a;unfold jh
 refine aE (iW (cP (name:=ay.ofString "__next__") a.typeIs F.slot_dict_keyiterator_next
  (cT F.slot_dict_keyiterator_next a.typeIs F.entry_dict_keyiterator_next ?_ (F.args_dict_keyiterator_next_1 _))))
 refine aE (aU ?_);refine aE ?_;refine aE ?_
 first | refine aE (dQ a.typeIs (aU ?_)) | refine aE (eG a.typeIs (aU ?_))
 refine aE (wpAny_fieldsOf l hd ?_);have j:g9 "dict_keyiterator" = aB:=by decide
 simp only[j,eV,if_false];show aw _ _ (if(b7 d==dP)=aC then _ else _) _ _ s;rw[m9 (show ¬((b7 d==dP)=aC) from bN)];refine aE (aU ?_);refine aE (iP k h ?_);rw[m9 (by simp)];refine aE (aU ?_);refine aE (j5 k h ?_);rw[m9 (by simp)];refine aU ?_;obtain⟨g,t⟩:=Array.getElem?_eq_some_iff.mp p;subst t;simp only[show ¬((i:Int)<0) from by omega,if_false,bc,iG g];refine aE ?_
 first | refine aE (dQ a.typeIs (aU ?_)) | refine aE (eG a.typeIs (aU ?_))
 refine aE (jd a.typeIs ?_);show aw _ _ (setField (.ref c) 1 (fA ((i:Int)+1)) >>= _) _ _ s;refine aE (hW l hd (by simp) ?_)
 have b:(s.heap.update c (dI.mapFields (·.setIfInBounds 1 (fA ((i:Int)+1))))).IsKeyIter c d (i+1) f.size ep:=
  ⟨_,gJ _ l (jb (fj hd _)),(kf ..).trans n,by rw[fj hd];simp[fA]⟩
 refine aE (eB ?_);refine aE (jd (s:={ s with heap:=s.heap.update c (dI.mapFields (·.setIfInBounds 1 (fA ((i:Int)+1)))) }) b.typeIs ?_);show aw _ _ (pure f[i].key) _ _ _;exact aU (aU ⟨_,rfl,aU (q _ b (fO ..))⟩)
theorem SI{i d:aL}{ep:Nat}{k:dI}{h:Array gx}{Q:Option aI->aM->Prop}(n:A.handled=aA)(c:s.heap.IsKeyIter i d h.size h.size ep)
  (g:s.heap.get? d=ax k) (e:k.data = .dict h ep)
  (l:∀h',jn i s.heap h'->Q aA { s with heap:=h' }):aw (model prog w) A (jh (.ref i)) Q E s:=by
 obtain⟨o,j,p,hd⟩:=id c;unfold jh
 refine aE (iW (cP (name:=ay.ofString "__next__") c.typeIs F.slot_dict_keyiterator_next
  (cT F.slot_dict_keyiterator_next c.typeIs F.entry_dict_keyiterator_next ?_ (F.args_dict_keyiterator_next_1 _))))
 refine aE (aU ?_);refine aE ?_;refine aE ?_
 first | refine aE (dQ c.typeIs (aU ?_)) | refine aE (eG c.typeIs (aU ?_))
 refine aE (wpAny_fieldsOf j hd ?_);have f:g9 "dict_keyiterator" = aB:=by decide
 simp only[f,eV,if_false];show aw _ _ (if(b7 d==dP)=aC then _ else _) _ _ s;rw[m9 (show ¬((b7 d==dP)=aC) from bN)];refine aE (aU ?_);refine aE (iP g e ?_);rw[m9 (by simp)];refine aE (aU ?_);refine aE (j5 g e ?_);rw[m9 (by simp)];refine aU ?_;simp only[show ¬((h.size:Int)<0) from by omega,if_false,bc,jC (aX h.size)];refine aE ?_
 first | refine aE (dQ c.typeIs (aU ?_)) | refine aE (eG c.typeIs (aU ?_))
 show aw _ _ (setField (.ref i) 0 .none >>= _) _ _ s;refine aE (hW j hd (by simp) ?_);show aw _ _ (newExc (.type "StopIteration") [] >>= _) _ _ _;refine aE ?_;simp only[newExc,newTuple];refine aE (cX ?_ (by size_fits));refine aE (m:=jo _ _) (wpAny_of_eq (a:=dP) (by first | rfl | (simp only[jo];rfl)) ?_);refine cX ?_ (by size_fits);simp only[raiseNew];refine aE (wpAny_handled ?_);rw[show A.in1.handled=aA from n];refine aE (aU (wpAny_throw ?_));refine aE (wpAny_isInstance (T:="StopIteration") (b:=aC) ⟨_,a9 _ rfl,rfl⟩ isSubtype_stop ?_);exact aU (l _ (((fO ..).extBut.push _).push _))
end
theorem Walks.seqB{prog:bB}{w:b8}{A:ba}(b:Bool)(e:A.handled=aA)(I c:aL)(d:c≠I)(a:Array aI) :
  Walks prog w A I [I,c] [I] a.size (λi v=>a[i]?=ax v) (λi h=>IterB b h I c i/\SeqB b h c a):=by
 cases b with
 | true=>exact Walks.list e I c d a
 | false=>exact Walks.tuple e I c d a
section
variable {X:Cx}
theorem UA(D:X.calm=aC):Xb X (.builtin "sum") (λxs H Q=>∃(b:Bool) (p:aL) (ns:List Int),xs=[.ref p]/\OM b X.K H p (ns.map V.int)/\Q (.int ns.sum) H):=by
 intro J s L H xs M Q I r h;obtain⟨b,p,ns,rfl,G,q⟩:=h;obtain⟨u,rfl,E⟩:=V1 r;cases E;obtain⟨n,l,a,N⟩:=I.seqB G;have w:=let⟨_,e⟩:=a.has;aV e;refine call_sum_walkG (Yq a ?_);refine⟨_,_,_,_,_,_,λi=>ns.getD i 0,rfl,Walks.seqB (A:=X.A.in1) b (I.ok.hd D) s.heap.objs.size p (bG w) n.toArray,⟨IterB.new (a9 _ rfl),a.at λo e=>aJ _ e⟩,λc f=>?_,λi v g=>?_,λh' tk t' z=>?_⟩
 ·show c<(s.heap.push _).objs.size;rw[cz];rcases aa.mp f with rfl | f
  ·exact eM _
  ·rw[aN.mp f];exact dA w
 ·have g:=g;have g:n[i]?=ax v:=by simpa using g
  have j:=l.length;rw[aK] at j;have F:i<ns.length:=by rw[j];exact(aO.mp g).1
  obtain⟨u,y,C⟩:=l.get (i:=i) (x:=.int ns[i]) (by simp);rw[g] at y;cases y;obtain⟨t,rfl⟩:=C;refine⟨t,?_⟩;show gu ns[i] t=gu (ns.getD i 0) t;rw[aG,aH F];rfl
 ·have e:preSum (λi=>ns.getD i 0) n.toArray.size=ns.sum:=by
   have j:=l.length;rw[aK] at j;rw[aS,<-j]
   have m:∀k,k<=ns.length->preSum (λi=>ns.getD i 0) k=(ns.take k).sum:=by
    intro k
    induction k with
    | zero=>intro _;simp[preSum]
    | succ k ih=>
     intro z;rw[preSum,ih (by omega),List.take_add_one,aG,aH (by omega),e9];simp
   rw[m _ (aX _),lG]
  rw[e];refine⟨.int ns.sum,H,I.kept (λc o d=>z c o ?_ (aJ _ d)),⟨_,rfl⟩,q⟩;intro B;rw[aN.mp B] at d;exact absurd (aV d) (cI _)
theorem Fd(y:X.calm=aC):Xb X (.builtin "all") (λxs H Q=>∃(b:Bool) (p:aL) (bs:List Bool),xs=[.ref p]/\OM b X.K H p (bs.map V.bl)/\Q (.bl (bs.all id)) H):=by
 intro G s J H xs L Q I r h;obtain⟨b,p,bs,rfl,E,q⟩:=h;obtain⟨u,rfl,B⟩:=V1 r;cases B;obtain⟨k,l,a,N⟩:=I.seqB E;have n:=let⟨_,e⟩:=a.has;aV e;have j:=l.length;rw[aK] at j;refine call_all_walk (Yq a ?_);refine⟨_,_,_,_,_,_,λi=>bs.getD i aC,rfl,Walks.seqB (A:=X.A.in1) b (I.ok.hd y) s.heap.objs.size p (bG n) k.toArray,⟨IterB.new (a9 _ rfl),a.at λo e=>aJ _ e⟩,λi v M F O g D=>?_,λh' tk z=>?_⟩
 ·have g:=g;have g:k[i]?=ax v:=by simpa using g
  have d:i<bs.length:=by rw[j];exact(aO.mp g).1
  obtain⟨u,m,w⟩:=l.get (i:=i) (x:=.bl bs[i]) (by simp);rw[g] at m;cases m;cases w;refine dS ?_;have e:bs.getD i aC=bs[i]:=by rw[aG,aH d];rfl
  rw[<-e];exact D
 ·have e:(aD k.toArray.size).all (λi=>bs.getD i aC)=bs.all id:=by
   rw[aS,<-j,Bool.eq_iff_iff,au,au];constructor
   ·intro h x C;obtain⟨i,d,rfl⟩:=gX.mp C;have:=h i (aY.mpr d);rw[aG,aH d] at this;exact this
   ·intro h i d;have d:=aY.mp d;rw[aG,aH d];exact h _ (cD d)
  rw[e];refine⟨.bl (bs.all id),H,I.kept (λc o f=>z c o ?_ (aJ _ f)),rfl,q⟩;intro t;rw[aN.mp t] at f;exact absurd (aV f) (cI _)
theorem Wv:Xb X (.builtin "isinstance") (λxs H Q=>∃x T t b,xs=[x,.ty T]/\TyOf X.K H x t/\cu X.K t (.type T)=ax b/\Q (.bl b) H):=by intro f s g H xs i Q I r h;obtain⟨x,T,t,b,rfl,c,d,q⟩:=h;obtain⟨u,v,rfl,a,e⟩:=Za8 r;cases e;exact G3 I a c d λtk=>⟨.bl b,H,I.tok tk,rfl,q⟩
theorem L6{K:aF}:cu K (.type "int") (.type "int")=ax aC:=rfl
theorem Mh{K:aF}:cu K (.type "int") (.type "bool")=ax aB:=rfl
theorem L7{K:aF}:cu K (.type "tuple") (.type "tuple")=ax aC:=rfl
theorem OT{K:aF}:cu K (.type "list") (.type "list")=ax aC:=rfl
theorem L8{K:aF}:cu K (.type "str") (.type "str")=ax aC:=rfl
noncomputable def Hr:V->List V->Hp->VK->Prop:=λx vs H Q=>∃l xs k y,x = .ref l/\vs=[.int k,y]/\H l=ax (.lst xs)/\0<=k/\k<2^63/\xs.length<sizeLine/\Q .non (upd H l (.lst (xs.take k.toNat++y::xs.drop k.toNat)))
theorem Nq:MtM X "list.insert" Hr:=by
 intro u s w H x vs v C Q I m p h;obtain⟨l,xs,k,y,rfl,rfl,f,E,g,D,q⟩:=h;cases m;obtain⟨A,d,rfl,i,o⟩:=p.two;obtain⟨t,rfl⟩:=i;obtain⟨z,a,n,r,B,e⟩:=I.lstM f;have b:¬(!Builtin.List.listFitsIndex k)=aC:=by rw[fitsIndex_both (by omega) g];exact bN
 refine fF F.slot_list_insert ⟨_,e,rfl⟩ F.entry_list_insert (F.args_list_insert_3 _ _ _) (AutoListH.list_insert_list_int_val_1 l a.toArray n k t d b (by rw[aS];omega)) ⟨e,?_⟩;refine⟨.non,_,I.lset f e ?_ ((r.take k.toNat).append (.cons o (r.drop k.toNat))) ?_,rfl,q⟩
 ·show(have j:=if k<0 then(k+((a.toArray.size:Nat):Int)).toNat else min k.toNat a.toArray.size;(a.toArray.extract 0 j).push d++a.toArray.extract j)=_;rw[m9 (by omega)];by_cases c:k.toNat<=a.length
  ·rw[dq (by rw[aS];exact c)];simp;rw[b9 (by simp)]
  ·rw[ip (by rw[aS];omega)];rw[b9 (by omega),gF (by omega)];simp
 ·rw[aj,bM,bT,bX];omega
end
noncomputable def TK(H H':Hp):Prop:=∀b xs,H b=ax (.tup xs)->H' b=ax (.tup xs)
theorem Same.tk{H a:Hp}(s:Same H a):TK H a:=λb xs h=>s b _ h
theorem Same.new{H:Hp}{p:aL}(h:H p=aA)(o:HO):Same H (upd H p o):=λb u q=>by rw[upd_ne (Zm q h)];exact q
structure Def(K:aF)(mg:ay->Option aI)(x:ay)(st:bp):Prop where
 ex:∃f fd,mg x=ax (.ref f)/\Fun K x x st f fd
theorem def_mk{K:aF}{h:bW}{mg:ay->Option aI}{x:ay}{st:bp}{f:aL}{i:aI}{j m:Option aL}{e:Array (Option aI)}{kV d g b ct:aI}(X:K.In h)(G:h.Ns cE mg)
  (a:gp K cE x=ax (ax (.ref f))) (l:K.lookup f=ax ⟨i,j,.func (cw x x (Y1 st) (Yd st) (Zf st) .none kV d g m b ct),e⟩)
  (c:cq K b x=aC) (k:gD K (.ref f)=aC):Def K mg x st:=⟨f,_,mL X G a,Zc9 l c k⟩
structure Y9(P:bB)(w:b8)(K:aF)(mg:ay->Option aI)(base:bW)(x:ay)(ps:List ay)(sp:Sp)(k:Nat):Prop where
 ex:∃f fd,mg x=ax (.ref f)/\gD K (.ref f)=aC/\Binds K fd ps []/\RW P w K mg base L5 k f fd ps sp
section
variable {P:bB} {w:b8} {K:aF} {mg:ay->Option aI} {base:bW}
theorem Def.cal{x:ay}{st:bp}{N ps:List ay}{k:Nat}{d:Sp}(D:Def K mg x st)(S:Zp N ps (Zf st))
  (g:∀(kV doc pm:aI)(an:Option aL)(b ct:aI)(us:List aI),us.length=ps.length->hU (cw x x (Y1 st) (Yd st) (Zf st) .none kV doc pm an b ct) ⟨us,[]⟩=pure (ps.zip us))
  (len:∀vs H Q E,d vs H Q E->vs.length=ps.length)
  (c:∀(f:aL)(b:aI)(A:ba)(a:List kM)(s:aM)(H:Hp)(vs:List V)(Q:VK)(E:XK),Room k (A.deeper (gL x (Zf st) s.heap.objs.size f b))->d vs H Q E->
   ∃t,PSs (QP L5 P w K mg base N x (Zf st) f b A a s H E).nox (Yd st) t/\t { nx:=λ_ i=>Q .non i,rt:=Q } (start N vs) H):Y9 P w K mg base x ps d (k+1):=by
 obtain⟨f,j,l,F⟩:=D.ex;exact⟨f,j,l,F.kp,F.binds g,F.ok S len λb A a s H vs Q E e h=>c f b A a s H vs Q E e h⟩
end
section
variable {X:Cx} {x:ay} {ps:List ay} {sp:Sp} {k:Nat} {e:bH} {es:List bH} {t:TA} {p pos:dz}
theorem Zdd(C:Y9 X.prog X.w X.K X.mg X.base x ps sp k)(j:Room k X.A)(l:Gl X x)(i:PA X (e::es) t)
  (h:(x==("__debug__" : ay))=aB:=by decide) (m:aR (e::es) X.env=(aB,eval e X.env)::aR es X.env:=by rfl) (g:(dX pos (aR es X.env)).any (·.1)=aB:=by rfl) :
  PE X (.Call (.Name x p) (e::es) [] pos) (Zba sp [] E0 t):=by
 obtain⟨f,n,a,b,c,d⟩:=C.ex;exact BN d j l a b c .nil Zgb i h m g
end
noncomputable def Vm(N:List ay)(around scope:e7)(own fr:List ay)(ix:List Nat):Bool:=
 (match scope.kind with | .function=>aC | _=>aB)&&scope.names.all (λy=>y.2 != .cell)&&scope.names.all (λy=>y.2 != .local || scope.names.lookup y.1==ax .local)&&
 scope.names.all (λy=>y.2 != .free || (around.names.lookup y.1==ax .cell || around.names.lookup y.1==ax .free))&&(fr.map ax==ix.map (λi=>N[i]?))&&
 fr.all (λx=>scope.names.contains (x,bq))&&fr.all (λx=>scope.names.lookup x != ax .local)
theorem Nr{N:List ay}{a b:e7}{own fr:List ay}{g:List Nat}(h:Vm N a b own fr g=aC):CompScope N a b own fr g:=by
 unfold Vm at h;simp only[ao] at h;obtain⟨⟨⟨⟨⟨⟨f,j⟩,m⟩,k⟩,n⟩,l⟩,i⟩:=h;refine⟨?_,λy c=>?_,λy c e=>?_,λy c e=>?_,by simpa using n,λx d=>?_,λx d=>?_⟩
 ·split at f
  ·assumption
  ·cases f
 ·simpa using au.mp j y c
 ·have:=au.mp m y c;rw[e] at this;simpa using this
 ·have:=au.mp k y c;rw[e] at this;simpa using this
 ·simpa using au.mp l x d
 ·simpa using au.mp i x d
section
variable {X:Cx} {tg elt iter:bH} {ifs:List bH} {scope:e7} {pos:dz} {wi:TI} {g:TG} {tt:TT} {te:TE}
theorem L9(own fr:List ay)(b:List Nat)(a:X.calm=aC)(d:PI X tg iter wi)(S:Vm X.N X.env.scope scope own fr b=aC)
  (h:∀cl C s H ex,PG (ZD X (own++fr) scope cl C s H ex) tg g) (c:∀cl C s H ex,Eo (ZD X (own++fr) scope cl C s H ex) ifs tt) (f:∀cl C s H ex,PE (ZD X (own++fr) scope cl C s H ex) elt te)
  (e:∀x,bt iter X.env x=pure x:=by intro _;rfl):PE X (.ListComp elt [⟨tg,iter,ifs,0⟩] scope pos) (Nn own.length b wi g tt te):=
 B2 a d (Nr S) h c f e
theorem EU(own fr:List ay)(e:List Nat){i:Nat}{y:ay}{f a:dz}(h:X.N.Nodup)(k:X.N[i]?=ax y)(c:X.env.scope.names.lookup y=ax .local)(b:X.calm=aC)(l:PI X tg iter wi)(S:Vm X.N X.env.scope scope own fr e=aC)
  (o:∀cl C s H ex,PG (ZD X (own++fr) scope cl C s H ex) tg g) (j:∀cl C s H ex,Eo (ZD X (own++fr) scope cl C s H ex) ifs tt) (n:∀cl C s H ex,PE (ZD X (own++fr) scope cl C s H ex) elt te)
  (d:fu (.ListComp elt [⟨tg,iter,ifs,0⟩] scope pos) (ax (.Name y f)) a.line X.env=pure aC:=by rfl)
  (m:∀x,bt iter X.env x=pure x:=by intro _;rfl):PS X (.Assign [.Name y f] (.ListComp elt [⟨tg,iter,ifs,0⟩] scope pos) a) (Jt (Nn own.length e wi g tt te) (TB i)):=
 B3 h k c b l (Nr S) o j n d m
end
structure XZ(mg:ay->Option aI):Prop where
 «len» : mg "len" = aA
 «sum» : mg "sum" = aA
 «range» : mg "range" = aA
 «enumerate» : mg "enumerate" = aA
 «zip» : mg "zip" = aA
 «tuple» : mg "tuple" = aA
 «list» : mg "list" = aA
 «all» : mg "all" = aA
 «any» : mg "any" = aA
 «isinstance» : mg "isinstance" = aA
 «int» : mg "int" = aA
 «bool» : mg "bool" = aA
 «str» : mg "str" = aA
 «min» : mg "min" = aA
 «max» : mg "max" = aA
 «sorted» : mg "sorted" = aA
 «abs» : mg "abs" = aA
 «ValueError» : mg "ValueError" = aA
 «reversed» : mg "reversed" = aA
 «set» : mg "set" = aA
abbrev Zil(g:TG)(tb:TS)(D:YW)(σ:St)(J:It)(H:Hp):Prop:=
 ∃W:Nat->Nat->St->Hp->Prop,(∃m,W 0 m σ H)/\∀i m σ H,W i m σ H->
   (J.stop i H/\D.nx σ H)\/(J.go i H/\∃N:St->Hp->Prop,(∀σ' H',N σ' H'->∃m',m'<m/\W (i+1) m' σ' H')/\∀x H',J.yld i H x H'->g x σ H' λσ2 H2=>tb { D with nx:=N,ct:=N,bk:=D.nx } σ2 H2)
noncomputable def Zq(l:List Int)(i:Nat):Int:=l.getD i 0
theorem SJ(l:List Int):(aD l.length).map (Zq l)=l:=by
 apply gG;intro i;rw[aW];by_cases h:i<l.length
 ·rw[aH (by simpa using h)];simp[Zq,aH h]
 ·rw[cZ (by simpa using h),cZ (by omega)];rfl
theorem ZN{f:Nat->Int}{n i:Nat}(h:i<n):Zq ((aD n).map f) i=f i:=by unfold Zq;rw[aG,aW,br h];rfl
noncomputable def Zw(w:List (List Int))(i:Nat):List Int:=w.getD i []
theorem Q0{w:List (List Int)}{i:Nat}(h:i<w.length):w[i]?=ax (Zw w i):=by unfold Zw;rw[aG,aH h];rfl
noncomputable def Zz(w:List (List Int))(i j:Nat):Int:=Zq (Zw w i) j
structure ZA(w:List (List Int)):Prop where
 pos:1<=w.length
 few:w.length<=7
 sq:∀i,i<w.length->(Zw w i).length=w.length
 lo:∀i j,i<w.length->j<w.length->0<=Zz w i j
 hi:∀i j,i<w.length->j<w.length->Zz w i j<=9
 sym:∀i j,i<w.length->j<w.length->Zz w i j=Zz w j i
 dia:∀i,i<w.length->Zz w i i=0
noncomputable def Zde(K:aF):List V->Hp->VK->Prop:=λxs H Q=>∃p ys,xs=[.ref p]/\((SqL K H p ys/\∀l,H l=aA->Q (.ref l) (upd H l (.tup ys)))\/(SqT K H p ys/\Q (.ref p) H))
noncomputable def B6(K:aF):List V->Hp->VK->Prop:=λxs H Q=>∃p ys,xs=[.ref p]/\(SqL K H p ys\/SqT K H p ys)/\∀l,H l=aA->Q (.ref l) (upd H l (.lst ys))
theorem Same.off{H a:Hp}{p:aL}(s:Same H a)(n:a p=aA):H p=aA:=s.free n
abbrev Tie:=Nat×Nat×Int
noncomputable def SK(M:List (List Int))(a b:Nat)(t:Int):List (List Int):=M.set a ((Zw M a).set b t)
structure MatOk(n:Nat)(M:List (List Int)):Prop where
 len:M.length=n
 row:∀i,i<n->(Zw M i).length=n
 lo:∀i j,i<n->j<n->0<=Zz M i j
 hi:∀i j,i<n->j<n->Zz M i j<=9
 sym:∀i j,i<n->j<n->Zz M i j=Zz M j i
 dia:∀i,i<n->Zz M i i=0
theorem Nt{M:List (List Int)}{a i:Nat}{r:List Int}(b:a<M.length):Zw (M.set a r) i=if a=i then r else Zw M i:=by
 unfold Zw;by_cases h:a=i
 ·subst h;simp[b]
 ·simp[h]
theorem nth_set{l:List Int}{b j:Nat}{t:Int}(a:b<l.length):Zq (l.set b t) j=if b=j then t else Zq l j:=by
 unfold Zq;by_cases h:b=j
 ·subst h;simp[a]
 ·simp[h]
theorem Q1{n:Nat}{M:List (List Int)}{a b i j:Nat}{t:Int}(f:M.length=n)(d:∀i,i<n->(Zw M i).length=n)(c:a<n)(e:b<n):Zz (SK M a b t) i j=if a=i/\b=j then t else Zz M i j:=by
 show Zq (Zw (M.set a ((Zw M a).set b t)) i) j=_;rw[Nt (by omega)];by_cases h:a=i
 ·subst h;rw[m7 rfl,nth_set (by rw[d a c];exact e)];by_cases q:b=j
  ·rw[m7 q,m7 ⟨rfl,q⟩]
  ·rw[m9 q,m9 (λz=>q z.2)];rfl
 ·rw[m9 h,m9 (λz=>h z.1)];rfl
theorem Wb{n:Nat}{M:List (List Int)}{a b:Nat}{t:Int}(f:M.length=n)(c:∀i,i<n->(Zw M i).length=n)(d:a<n):(SK M a b t).length=n/\∀i,i<n->(Zw (SK M a b t) i).length=n:=by
 refine⟨by unfold SK;rw[cH];exact f,λi e=>?_⟩;show(Zw (M.set a ((Zw M a).set b t)) i).length=n;rw[Nt (by omega)];split
 ·rw[cH];exact c a d
 ·exact c i e
theorem MatOk.zero(n:Nat):MatOk n (aT n (aT n 0)):=by
 have r:∀i,i<n->Zw (aT n (aT n (0:Int))) i=aT n 0:=λi a=>by unfold Zw;rw[aG,bU,m7 a];rfl
 have z:∀i j,i<n->j<n->Zz (aT n (aT n (0:Int))) i j=0:=λi j a b=>by show Zq (Zw _ i) j=0;rw[r i a];unfold Zq;rw[aG,bU,m7 b];rfl
 exact⟨by simp,λi a=>by rw[r i a];simp,λi j a b=>by rw[z i j a b];omega,λi j a b=>by rw[z i j a b];omega,λi j a b=>by rw[z i j a b,z j i b a],λi a=>z i i a a⟩
theorem MatOk.web{n:Nat}{M:List (List Int)}(h:MatOk n M)(b:1<=n)(a:n<=7):ZA M:=by have e:=h.len;subst e;exact⟨b,a,h.row,h.lo,h.hi,h.sym,h.dia⟩
theorem ZU(f:Nat->Int)(n:Nat):((aD (n+1)).map f).sum=((aD n).map f).sum+f n:=by rw[ee];simp
theorem Ya{f g:Nat->Int}{n:Nat}(h:∀i,i<n->f i=g i):((aD n).map f).sum=((aD n).map g).sum:=by congr 1;apply ar;intro i a;exact h i (aY.mp a)
theorem Hs(f g:Nat->Int)(n:Nat):((aD n).map λi=>f i+g i).sum=((aD n).map f).sum+((aD n).map g).sum:=by
 induction n with
 | zero=>simp
 | succ n ih=>rw[ZU,ZU,ZU,ih];omega
theorem Ht(f g:Nat->Int)(n:Nat):((aD n).map λi=>f i-g i).sum=((aD n).map f).sum-((aD n).map g).sum:=by
 induction n with
 | zero=>simp
 | succ n ih=>rw[ZU,ZU,ZU,ih];omega
theorem Fe(c:Int)(n:Nat):((aD n).map λ_=>c).sum=n*c:=by
 induction n with
 | zero=>simp
 | succ n ih=>rw[ZU,ih];rw[show((n+1:Nat):Int)=(n:Int)+1 by omega,iQ];omega
theorem Mi(l:List Int):((aD l.length).map (Zq l)).sum=l.sum:=by rw[SJ]
theorem EV(e:Nat->Nat->Int)(n:Nat)(d:∀i j,i<n->j<n->e i j=e j i)(hd:∀i,i<n->e i i=0) :
  ((aD n).map λi=>((aD n).map λj=>e i j).sum).sum=2*((aD n).map λa=>((aD (n-(a+1))).map λj=>e a (a+1+j)).sum).sum:=by
 induction n with
 | zero=>simp
 | succ n c=>
  have c:=c (λi j b k=>d i j (by omega) (by omega)) λi b=>hd i (by omega);rw[ZU,ZU,ZU];have g:((aD n).map λi=>((aD (n+1)).map λj=>e i j).sum).sum=((aD n).map λi=>((aD n).map λj=>e i j).sum).sum+((aD n).map λi=>e i n).sum:=by rw[<-Hs];apply Ya;intro i _;rw[ZU]
  have h:((aD n).map λa=>((aD (n+1-(a+1))).map λj=>e a (a+1+j)).sum).sum=((aD n).map λa=>((aD (n-(a+1))).map λj=>e a (a+1+j)).sum).sum+((aD n).map λi=>e i n).sum:=by rw[<-Hs];apply Ya;intro i b;rw[show n+1-(i+1)=(n-(i+1))+1 by omega,ZU,show i+1+(n-(i+1))=n by omega]
  have f:((aD n).map λj=>e n j).sum=((aD n).map λi=>e i n).sum:=by apply Ya;intro i b;exact d n i (by omega) (by omega)
  rw[g,h,f,hd n (by omega)];simp;omega
theorem EW{a:Type}(n:Nat)(x:a):(aT n [x]).flatten=aT n x:=by simp
structure NamesOk(i:Nat)(l:List Int):Prop where
 len:l.length=i
 nd:l.Nodup
 lo:∀x∈l,0<=x
 hi:∀x∈l,x<i
theorem NamesOk.nil:NamesOk 0 []:=⟨rfl,bu,λ_ h=>by simp at h,λ_ h=>by simp at h⟩
theorem NamesOk.ins{i:Nat}{l:List Int}(h:NamesOk i l)(k:Nat):NamesOk (i+1) (l.take k++(i:Int)::l.drop k):=by
 have b:(l.take k++(i:Int)::l.drop k).Perm ((i:Int)::l):=by have:=List.perm_middle (a:=(i:Int)) (l₁:=l.take k) (l₂:=l.drop k);rw[List.take_append_drop] at this;exact this
 refine⟨by rw[b.length_eq,bM,h.len],?_,λx c=>?_,λx c=>?_⟩
 ·rw[b.nodup_iff,av];exact⟨λd=>by have:=h.hi _ d;omega,h.nd⟩
 ·rcases aa.mp (b.mem_iff.mp c) with e | e
  ·omega
  ·exact h.lo x e
 ·rcases aa.mp (b.mem_iff.mp c) with e | e
  ·omega
  ·have:=h.hi x e;omega
theorem NamesOk.at{i:Nat}{l:List Int}(h:NamesOk i l){x:Nat}(a:x<i):0<=Zq l x/\Zq l x<i:=by
 have e:Zq l x=l[x]'(by rw[h.len];exact a):=by unfold Zq;rw[aG,aH (by rw[h.len];exact a)];rfl
 rw[e];exact⟨h.lo _ (cD _),h.hi _ (cD _)⟩
theorem NamesOk.ne{i:Nat}{l:List Int}(h:NamesOk i l){x y:Nat}(b:x<i)(a:y<i)(n:x≠y):Zq l x≠Zq l y:=by
 have c:Zq l x=l[x]'(by rw[h.len];exact b):=by unfold Zq;rw[aG,aH (by rw[h.len];exact b)];rfl
 have d:Zq l y=l[y]'(by rw[h.len];exact a):=by unfold Zq;rw[aG,aH (by rw[h.len];exact a)];rfl
 rw[c,d];intro e;exact n ((gK h.nd).mp e)
theorem lt_size{n:Nat}(h:n<=10000):n<sizeLine:=eT h (by decide)
end L2
namespace VL
open PySem PySem.Spec PyProof.Rows L2
variable {K:aF}
noncomputable def NsO(od:dI)(f:ay)(u:aI):Prop:=∀(hp:bW)(dx:aL),hp.get? dx=ax od->hp.Ns1 dx (λn=>if n=f then ax u else aA)
noncomputable def B7(n:ay):ay:=if n = "NoWeb" then "place" else if n = "Apart" then "houses" else if n = "TooMany" then "most" else "total"
structure ON where
 qual:ay
 params:kA
 body:bH
 scope:e7
 free:ay
inductive PV where
 | non | bl (b:Bool) | int (i:Int) | str (x:ay) | ty (n:String) | exc (n:ay) | exf (n:ay) (l:PV) | clo (L:ON) (l:PV)
 | tup (l:List PV) | lst (l:List PV) | cst (l:List PV)
 | dK (ks:List Yp) (vs:List PV) | dT (ks:List (List Yp)) (vs:List PV)
instance:Inhabited PV:=⟨.non⟩
mutual
/-- nothing in it can be changed -/
def ZI:PV->Bool
 | .tup l=>ZC l
 | .cst l=>ZC l
 | .lst _=>aB
 | .dK _ _=>aB
 | .dT _ _=>aB
 | .non=>aC
 | .bl _=>aC
 | .int _=>aC
 | .str _=>aC
 | .ty _=>aC
 | .exc _=>aC
 | .exf _ _=>aC
 | .clo _ l=>ZI l
def ZC:List PV->Bool
 | []=>aC
 | x::r=>ZI x&&ZC r
end
theorem WZ:∀l:List PV,ZC l=l.all ZI
 | []=>rfl
 | x::r=>by rw[gU,<-WZ r];rfl
noncomputable def KL(K:aF)(a:aL)(xs:List V):Prop:=
 ∃(o:dI) (m6:Array aI) (n:Nat),K.lookup a=ax o/\o.cls = .type "list"/\o.dict=aA/\o.data = .seq m6 n/\m6.size<=sizeLine/\Vals xs m6.toList
noncomputable def CsK(K:aF)(H:Hp)(p:aL)(xs:List V):Prop:=(∃o,H p=ax (.frz o (.lst xs)))\/KL K p xs
theorem CsK.sq{K:aF}{H:Hp}{p:aL}{xs:List V}(h:CsK K H p xs):SqL K H p xs:=by
 rcases h with h | h
 ·exact .inl (.inr h)
 ·exact .inr h
noncomputable def CloAt(H:Hp)(L:ON)(v:V)(u:aI):Prop:=∃f fo c oc e eo pm ct,v = .ref f/\H f=ax (.frz fo (.own 0))/\fo.data = .func (fH "<lambda>" L.qual L.params L.body L.scope [(L.free,e)] pm (.ref c) ct)/\H c=ax (.frz oc (.own 0))/\Jq oc L.qual/\H e=ax (.frz eo (.own 1))/\eo.data = .cell (ax u)
mutual
/-- v is the tree l in the heap H;fp: the addresses of m6 lists and dicts -/
def Is(K:aF)(H:Hp):PV->V->List aL->Prop
 | .non,v,fp=>v = .non/\fp=[]
 | .bl b,v,fp=>v = .bl b/\fp=[]
 | .int i,v,fp=>v = .int i/\fp=[]
 | .str x,v,fp=>v = .str x/\fp=[]
 | .ty n,v,fp=>v = .ty n/\fp=[]
 | .exc n,v,fp=>(∃e o x C,v = .ref e/\H e=ax (.frz o (.own x))/\o.cls = .ref C/\gp K cE n=ax (ax (.ref C))/\o.dict=aA/\∃vs,o.data = .fields vs)/\fp=[]
 | .exf n l,v,fp=>(∃e o x C dx od u z,v = .ref e/\H e=ax (.frz o (.own x))/\o.cls = .ref C/\gp K cE n=ax (ax (.ref C))/\o.dict=ax dx/\(∃vs,o.data = .fields vs)/\H dx=ax (.frz od (.own dx))/\NsO od (B7 n) u/\RelV z u/\Is K H l z [])/\fp=[]
 | .clo L l,v,fp=>∃u x,CloAt H L v u/\RelV x u/\Is K H l x fp
 | .tup l,v,fp=>∃p xs,v = .ref p/\H p=ax (.tup xs)/\Iss K H l xs fp
 | .lst l,v,fp=>∃p xs fq,v = .ref p/\H p=ax (.lst xs)/\Iss K H l xs fq/\fp=p::fq
 | .cst l,v,fp=>∃p xs,v = .ref p/\CsK K H p xs/\Iss K H l xs fp
 | .dK ks l,v,fp=>∃p m4 fq,v = .ref p/\Rd H p (.dK m4)/\m4.map (·.1)=ks/\Iss K H l (m4.map (·.2)) fq/\fp=p::fq
 | .dT ks l,v,fp=>∃p m4 fq,v = .ref p/\Rd H p (.dT m4)/\m4.map (·.1)=ks/\Iss K H l (m4.map (·.2)) fq/\fp=p::fq
def Iss(K:aF)(H:Hp):List PV->List V->List aL->Prop
 | [],xs,fp=>xs=[]/\fp=[]
 | l::ls,xs,fp=>∃x r f1 f2,xs=x::r/\Is K H l x f1/\Iss K H ls r f2/\fp=f1++f2
end
noncomputable def RdK(H H':Hp)(p:aL):Prop:=(∀xs,H p=ax (.lst xs)->H' p=ax (.lst xs))/\(∀m4,Rd H p (.dK m4)->Rd H' p (.dK m4))/\∀m4,Rd H p (.dT m4)->Rd H' p (.dT m4)
theorem RdK.of{H a:Hp}{p:aL}(h:∀o,H p=ax o->a p=ax o):RdK H a p:=by
 have r:∀u,Rd H p u->Rd a p u:=λu q=>by
  rcases q with q | ⟨o,q⟩
  ·exact .inl (h _ q)
  ·exact .inr ⟨o,h _ q⟩
 exact⟨λ_=>h _,λ_=>r _,λ_=>r _⟩
structure TK2(H H':Hp):Prop where
 tup:TK H H'
 frz:∀b o xs,H b=ax (.frz o (.lst xs))->H' b=ax (.frz o (.lst xs))
 exc:∀b o x,H b=ax (.frz o (.own x))->H' b=ax (.frz o (.own x))
theorem Same.tk2{H a:Hp}(s:Same H a):TK2 H a:=⟨s.tk,λb o xs h=>s b _ h,λb o x h=>s b _ h⟩
theorem CsK.tr{K:aF}{H a:Hp}(t:TK2 H a){p:aL}{xs:List V}(h:CsK K H p xs):CsK K a p xs:=by
 rcases h with⟨o,h⟩ | h
 ·exact .inl ⟨o,t.frz p o xs h⟩
 ·exact .inr h
theorem CloAt.tr{H b:Hp}(t:TK2 H b){L:ON}{v:V}{u:aI}(h:CloAt H L v u):CloAt b L v u:=by obtain⟨f,g,c,a,e,d,i,ct,p,k,n,l,o,m,j⟩:=h;exact⟨f,g,c,a,e,d,i,ct,p,t.exc f g 0 k,n,t.exc c a 0 l,o,t.exc e d 1 m,j⟩
mutual
theorem Is.tr{H n:Hp}(f:TK2 H n):∀(l:PV)(v:V)(fp:List aL),(∀p∈fp,RdK H n p)->Is K H l v fp->Is K n l v fp
 | .non,_,_,_,h=>by simpa only[Is] using h
 | .bl _,_,_,_,h=>by simpa only[Is] using h
 | .int _,_,_,_,h=>by simpa only[Is] using h
 | .str _,_,_,_,h=>by simpa only[Is] using h
 | .ty _,_,_,_,h=>by simpa only[Is] using h
 | .exc _,_,_,_,h=>by simp only[Is] at h ⊢;obtain⟨⟨e,o,x,C,a,b,c⟩,d⟩:=h;exact⟨⟨e,o,x,C,a,f.exc e o x b,c⟩,d⟩
 | .exf _ l,_,_,_,h=>by simp only[Is] at h ⊢;obtain⟨⟨e,o,x,C,w,y,u,z,a,b,c1,c2,c3,c4,c5,A,D,B⟩,d⟩:=h;exact⟨⟨e,o,x,C,w,y,u,z,a,f.exc e o x b,c1,c2,c3,c4,f.exc w y w c5,A,D,Is.tr f l z [] (λp m=>by simp at m) B⟩,d⟩
 | .clo L l,v,fp,hm,h=>by simp only[Is] at h ⊢;obtain⟨u,x,E,i,g⟩:=h;exact⟨u,x,E.tr f,i,Is.tr f l x fp hm g⟩
 | .tup l,v,fp,hm,h=>by simp only[Is] at h ⊢;obtain⟨p,xs,e,m,g⟩:=h;exact⟨p,xs,e,f.tup p xs m,Iss.tr f l xs fp hm g⟩
 | .lst l,v,fp,hm,h=>by simp only[Is] at h ⊢;obtain⟨p,xs,j,e,i,g,rfl⟩:=h;exact⟨p,xs,j,e,(hm p ag).1 _ i,Iss.tr f l xs j (λq k=>hm q (aQ _ k)) g,rfl⟩
 | .cst l,v,fp,hm,h=>by simp only[Is] at h ⊢;obtain⟨p,xs,e,i,g⟩:=h;exact⟨p,xs,e,i.tr f,Iss.tr f l xs fp hm g⟩
 | .dK ks l,v,fp,hm,h=>by simp only[Is] at h ⊢;obtain⟨p,t,j,e,i,s,g,rfl⟩:=h;exact⟨p,t,j,e,(hm p ag).2.1 _ i,s,Iss.tr f l _ j (λq k=>hm q (aQ _ k)) g,rfl⟩
 | .dT ks l,v,fp,hm,h=>by simp only[Is] at h ⊢;obtain⟨p,t,j,e,i,s,g,rfl⟩:=h;exact⟨p,t,j,e,(hm p ag).2.2 _ i,s,Iss.tr f l _ j (λq k=>hm q (aQ _ k)) g,rfl⟩
theorem Iss.tr{H b:Hp}(d:TK2 H b):∀(l:List PV)(xs:List V)(fp:List aL),(∀p∈fp,RdK H b p)->Iss K H l xs fp->Iss K b l xs fp
 | [],_,_,_,h=>by simpa only[Iss] using h
 | l::ls,xs,fp,hm,h=>by simp only[Iss] at h ⊢;obtain⟨x,r,f1,c,e,f,g,rfl⟩:=h;exact⟨x,r,f1,c,e,Is.tr d l x f1 (λq a=>hm q (bC _ a)) f,Iss.tr d ls r c (λq a=>hm q (aq _ a)) g,rfl⟩
end
theorem Is.mono{H b:Hp}(s:Same H b){l:PV}{v:V}{a:List aL}(h:Is K H l v a):Is K b l v a:=Is.tr (Same.tk2 s) l v a (λp _=>RdK.of λo q=>s p o q) h
theorem Iss.mono{H b:Hp}(s:Same H b){l:List PV}{v:List V}{a:List aL}(h:Iss K H l v a):Iss K b l v a:=Iss.tr (Same.tk2 s) l v a (λp _=>RdK.of λo q=>s p o q) h
mutual
theorem Is.pure{H:Hp}:∀(l:PV)(v:V)(fp:List aL),ZI l=aC->Is K H l v fp->fp=[]
 | .non,_,_,_,h=>by simp only[Is] at h;exact h.2
 | .bl _,_,_,_,h=>by simp only[Is] at h;exact h.2
 | .int _,_,_,_,h=>by simp only[Is] at h;exact h.2
 | .str _,_,_,_,h=>by simp only[Is] at h;exact h.2
 | .ty _,_,_,_,h=>by simp only[Is] at h;exact h.2
 | .exc _,_,_,_,h=>by simp only[Is] at h;exact h.2
 | .exf _ _,_,_,_,h=>by simp only[Is] at h;exact h.2
 | .clo L l,v,fp,hp,h=>by simp only[Is] at h;obtain⟨u,x,c,b,a⟩:=h;exact Is.pure l x fp (by simpa only[ZI] using hp) a
 | .tup l,v,fp,hp,h=>by simp only[Is] at h;obtain⟨p,xs,e,_,a⟩:=h;exact Iss.pure l xs fp (by simpa only[ZI] using hp) a
 | .lst l,v,fp,hp,h=>by simp[ZI] at hp
 | .cst l,v,fp,hp,h=>by simp only[Is] at h;obtain⟨p,xs,e,_,a⟩:=h;exact Iss.pure l xs fp (by simpa only[ZI] using hp) a
 | .dK ks l,v,fp,hp,h=>by simp[ZI] at hp
 | .dT ks l,v,fp,hp,h=>by simp[ZI] at hp
theorem Iss.pure{H:Hp}:∀(l:List PV)(xs:List V)(fp:List aL),ZC l=aC->Iss K H l xs fp->fp=[]
 | [],_,_,_,h=>by simp only[Iss] at h;exact h.2
 | l::ls,xs,fp,hp,h=>by simp only[Iss] at h;simp only[ZC,ao] at hp;obtain⟨x,r,f1,c,e,a,b,rfl⟩:=h;rw[Is.pure l x f1 hp.1 a,Iss.pure ls r c hp.2 b];rfl
end
section
variable {H H':Hp}
theorem Iss.len:∀{l:List PV}{xs:List V}{fp:List aL},Iss K H l xs fp->xs.length=l.length
 | [],xs,fp,h=>by simp only[Iss] at h;rw[h.1];rfl
 | l::ls,xs,fp,h=>by simp only[Iss] at h;obtain⟨x,r,f1,b,rfl,_,a,_⟩:=h;rw[bM,bM,a.len]
theorem Iss.get:∀{l:List PV}{xs:List V}{fp:List aL}{i:Nat}{a:PV},Iss K H l xs fp->l[i]?=ax a->∃x f1,xs[i]?=ax x/\Is K H a x f1/\∀p∈f1,p∈fp
 | [],xs,fp,i,a,h,e=>by simp at e
 | l::ls,xs,fp,0,a,h,e=>by simp only[Iss] at h;obtain⟨x,r,f1,d,rfl,m,_,rfl⟩:=h;simp at e;subst e;exact⟨x,f1,rfl,m,λp b=>bC _ b⟩
 | l::ls,xs,fp,i+1,a,h,e=>by simp only[Iss] at h;obtain⟨x,r,f1,d,rfl,_,j,rfl⟩:=h;obtain⟨y,g,c,k,f⟩:=j.get (i:=i) (a:=a) (by simpa using e);exact⟨y,g,by simpa using c,k,λp b=>aq _ (f p b)⟩
theorem Iss.get'{l:List PV}{xs:List V}{b:List aL}{i:Nat}{x:V}(h:Iss K H l xs b)(e:xs[i]?=ax x):∃a f1,l[i]?=ax a/\Is K H a x f1/\∀p∈f1,p∈b:=by
 have d:i<l.length:=by rw[<-h.len];exact(aO.mp e).1
 obtain⟨y,f1,c,g,f⟩:=h.get (aH d);rw[e] at c;cases c;exact⟨_,f1,aH d,g,f⟩
theorem Iss.nil:Iss K H [] [] []:=by simp[Iss]
theorem Iss.cons{l:PV}{ls:List PV}{x:V}{xs:List V}{f1 a:List aL}(b:Is K H l x f1)(c:Iss K H ls xs a):Iss K H (l::ls) (x::xs) (f1++a):=by exact⟨x,xs,f1,a,rfl,b,c,rfl⟩
theorem Iss.inv{l:PV}{ls:List PV}{xs:List V}{a:List aL}(h:Iss K H (l::ls) xs a):∃x r f1 f2,xs=x::r/\Is K H l x f1/\Iss K H ls r f2/\a=f1++f2:=by simpa only[Iss] using h
theorem Iss.append:∀{l m:List PV}{xs ys:List V}{f1 f2:List aL},Iss K H l xs f1->Iss K H m ys f2->Iss K H (l++m) (xs++ys) (f1++f2)
 | [],m,xs,ys,f1,f2,h,h'=>by simp only[Iss] at h;rw[h.1,h.2];exact h'
 | l::ls,m,xs,ys,f1,f2,h,h'=>by obtain⟨x,r,c,d,rfl,a,b,rfl⟩:=h.inv;rw[fD];exact Iss.cons a (b.append h')
theorem Iss.one{l:PV}{x:V}{f:List aL}(h:Is K H l x f):Iss K H [l] [x] f:=by
 have:=Iss.cons h (Iss.nil)
 rwa [dG] at this
theorem Iss.take:∀{l:List PV}{xs:List V}{fp:List aL}(n:Nat),Iss K H l xs fp->∃f1,Iss K H (l.take n) (xs.take n) f1/\∀p∈f1,p∈fp
 | l,xs,fp,0,h=>⟨[],by rw[mE,mE];exact Iss.nil,λp c=>by simp at c⟩
 | [],xs,fp,n+1,h=>by simp only[Iss] at h;rw[h.1];exact⟨[],by rw[mM,mM];exact Iss.nil,λp c=>by simp at c⟩
 | l::ls,xs,fp,n+1,h=>by
  obtain⟨x,r,f1,g,rfl,d,f,rfl⟩:=h.inv;obtain⟨e,a,b⟩:=f.take n;refine⟨f1++e,Iss.cons d a,λp c=>?_⟩;rcases ak.mp c with h | h
  ·exact bC _ h
  ·exact aq _ (b p h)
theorem Iss.drop:∀{l:List PV}{xs:List V}{fp:List aL}(n:Nat),Iss K H l xs fp->∃f1,Iss K H (l.drop n) (xs.drop n) f1/\∀p∈f1,p∈fp
 | l,xs,fp,0,h=>⟨fp,h,λp c=>c⟩
 | [],xs,fp,n+1,h=>by simp only[Iss] at h;rw[h.1];exact⟨[],by rw[mN,mN];exact Iss.nil,λp c=>by simp at c⟩
 | l::ls,xs,fp,n+1,h=>by obtain⟨x,r,f1,f,rfl,g,e,rfl⟩:=h.inv;obtain⟨d,a,b⟩:=e.drop n;exact⟨d,a,λp c=>aq _ (b p c)⟩
theorem Iss.setP:∀{l:List PV}{xs:List V}{a:PV}{x:V}(i:Nat),ZC l=aC->ZI a=aC->Iss K H l xs []->Is K H a x []->Iss K H (l.set i a) (xs.set i x) []
 | [],xs,a,x,i,_,_,h,_=>by simp only[Iss] at h;rw[h.1];simp only[List.set_nil];exact Iss.nil
 | l::ls,xs,a,x,0,hp,_,h,ha=>by simp only[ZC,ao] at hp;obtain⟨y,r,f1,g,rfl,_,b,e⟩:=h.inv;have c:=Iss.pure _ _ _ hp.2 b;subst c;exact Iss.cons (f1:=[]) ha b
 | l::ls,xs,a,x,i+1,hp,hq,h,ha=>by simp only[ZC,ao] at hp;obtain⟨y,r,f1,g,rfl,d,b,e⟩:=h.inv;have f:=Is.pure _ _ _ hp.1 d;have c:=Iss.pure _ _ _ hp.2 b;subst f c;exact Iss.cons (f1:=[]) d (Iss.setP i hp.2 hq b ha)
theorem Is.int_inv{i:Int}{v:V}{a:List aL}(h:Is K H (.int i) v a):v = .int i/\a=[]:=by simpa only[Is] using h
theorem Is.int(i:Int):Is K H (.int i) (.int i) []:=by simp[Is]
theorem Is.bl(i:Bool):Is K H (.bl i) (.bl i) []:=by simp[Is]
theorem Is.non:Is K H .non .non []:=by simp[Is]
theorem Is.str(x:ay):Is K H (.str x) (.str x) []:=by simp[Is]
theorem Is.ty(n:String):Is K H (.ty n) (.ty n) []:=by simp[Is]
theorem Is.bl_inv{i:Bool}{v:V}{a:List aL}(h:Is K H (.bl i) v a):v = .bl i/\a=[]:=by simpa only[Is] using h
theorem Is.str_inv{i:ay}{v:V}{a:List aL}(h:Is K H (.str i) v a):v = .str i/\a=[]:=by simpa only[Is] using h
theorem Is.non_inv{v:V}{a:List aL}(h:Is K H .non v a):v = .non/\a=[]:=by simpa only[Is] using h
theorem Is.ty_inv{n:String}{v:V}{a:List aL}(h:Is K H (.ty n) v a):v = .ty n/\a=[]:=by simpa only[Is] using h
theorem Is.tup_inv{l:List PV}{v:V}{a:List aL}(h:Is K H (.tup l) v a):∃p xs,v = .ref p/\H p=ax (.tup xs)/\Iss K H l xs a:=by simpa only[Is] using h
theorem Is.tup{l:List PV}{p:aL}{xs:List V}{a:List aL}(h:H p=ax (.tup xs))(b:Iss K H l xs a):Is K H (.tup l) (.ref p) a:=by simp only[Is];exact⟨p,xs,rfl,h,b⟩
theorem Is.lst_inv{l:List PV}{v:V}{a:List aL}(h:Is K H (.lst l) v a):∃p xs fq,v = .ref p/\H p=ax (.lst xs)/\Iss K H l xs fq/\a=p::fq:=by simpa only[Is] using h
theorem Is.lst{l:List PV}{p:aL}{xs:List V}{a:List aL}(h:H p=ax (.lst xs))(b:Iss K H l xs a):Is K H (.lst l) (.ref p) (p::a):=by simp only[Is];exact⟨p,xs,a,rfl,h,b,rfl⟩
theorem Is.cst_inv{l:List PV}{v:V}{a:List aL}(h:Is K H (.cst l) v a):∃p xs,v = .ref p/\CsK K H p xs/\Iss K H l xs a:=by simpa only[Is] using h
theorem Is.cst{l:List PV}{p:aL}{xs:List V}{a:List aL}(h:CsK K H p xs)(b:Iss K H l xs a):Is K H (.cst l) (.ref p) a:=by simp only[Is];exact⟨p,xs,rfl,h,b⟩
theorem Is.dT_inv{b:List (List Yp)}{l:List PV}{v:V}{a:List aL}(h:Is K H (.dT b l) v a):∃p m4 fq,v = .ref p/\Rd H p (.dT m4)/\m4.map (·.1)=b/\Iss K H l (m4.map (·.2)) fq/\a=p::fq:=by simpa only[Is] using h
theorem Is.dT{c:List (List Yp)}{l:List PV}{p:aL}{a:List (List Yp×V)}{b:List aL}(h:H p=ax (.dT a))(d:a.map (·.1)=c)(e:Iss K H l (a.map (·.2)) b):Is K H (.dT c l) (.ref p) (p::b):=by simp only[Is];exact⟨p,a,b,rfl,.inl h,d,e,rfl⟩
theorem Is.dK_inv{b:List Yp}{l:List PV}{v:V}{a:List aL}(h:Is K H (.dK b l) v a):∃p m4 fq,v = .ref p/\Rd H p (.dK m4)/\m4.map (·.1)=b/\Iss K H l (m4.map (·.2)) fq/\a=p::fq:=by simpa only[Is] using h
theorem Is.dK{c:List Yp}{l:List PV}{p:aL}{a:List (Yp×V)}{b:List aL}(h:H p=ax (.dK a))(d:a.map (·.1)=c)(e:Iss K H l (a.map (·.2)) b):Is K H (.dK c l) (.ref p) (p::b):=by simp only[Is];exact⟨p,a,b,rfl,.inl h,d,e,rfl⟩
end
abbrev iL(l:List Int):List PV:=l.map PV.int
theorem Yb(l:List Int):ZC (iL l)=aC:=by rw[WZ,au];intro x a;obtain⟨i,_,rfl⟩:=bR.mp a;rfl
theorem Iss.iL{H:Hp}:∀{l:List Int}{xs:List V}{fp:List aL},Iss K H (VL.iL l) xs fp->xs=l.map V.int/\fp=[]
 | [],xs,fp,h=>by simpa only[VL.iL,eR,Iss] using h
 | i::l,xs,fp,h=>by obtain⟨x,r,f1,c,rfl,a,b,rfl⟩:=Iss.inv (show Iss K H (PV.int i::VL.iL l) xs fp from h);obtain⟨rfl,rfl⟩:=a.int_inv;obtain⟨rfl,rfl⟩:=b.iL;exact⟨rfl,rfl⟩
theorem Iss.ofInts{H:Hp}:∀(l:List Int),Iss K H (VL.iL l) (l.map V.int) []
 | []=>Iss.nil
 | i::l=>Iss.cons (f1:=[]) (Is.int i) (Iss.ofInts l)
end VL
namespace VL
open PySem PySem.Spec PyProof.Rows L2
variable {K:aF}
abbrev RZ:=L2.St
abbrev ZE:=List (Option PV)
abbrev XE:=ZE->Option PV
structure EnvIs(K:aF)(Rm:aL->Prop)(H:Hp)(s:ZE)(σ:RZ):Prop where
 is:∀(i:Nat) l,s[i]?=ax (ax l)->∃v fp,σ[i]?=ax (ax v)/\Is K H l v fp/\∀p∈fp,¬Rm p
theorem EnvIs.mono{f:aL->Prop}{H g:Hp}{s:ZE}{d:RZ}(h:EnvIs K f H s d)(e:Same H g):EnvIs K f g s d:=⟨λi l q=>by
 obtain⟨v,j,a,b,c⟩:=h.is i l q;exact⟨v,j,a,b.mono e,c⟩⟩
theorem EnvIs.free{f:aL->Prop}{H:Hp}{s:ZE}{d:RZ}(h:EnvIs K f H s d):EnvIs K (λ_=>False) H s d:=⟨λi l q=>by
 obtain⟨v,e,a,b,c⟩:=h.is i l q;exact⟨v,e,a,b,λ_ _ z=>z⟩⟩
theorem Same.mut{H a:Hp}(e:Same H a){p:aL}(h:VZ (H p)):VZ (a p):=by
 cases q:H p with
 | none=>rw[q] at h;exact h.elim
 | some o=>rw[e p o q,<-q];exact h
theorem Xc{H:Hp}{p:aL}(h:VZ (H p)):H p≠aA:=λz=>by rw[z] at h;exact h
noncomputable def tF(K:aF)(f:XE):TE:=λσ H Q=>∃(Rm:aL->Prop) (s:ZE) (l:PV),(∀p,Rm p->VZ (H p))/\EnvIs K Rm H s σ/\f s=ax l/\∀v H' fp,Same H H'->Is K H' l v fp->(∀p∈fp,¬Rm p)->Q v H'
noncomputable def tM(K:aF)(f:XE):TE:=λσ H Q=>∃(s:ZE) (l:PV),EnvIs K (λ_=>False) H s σ/\f s=ax l/\∀v H' fp,Same H H'->Is K H' l v fp->fp.Nodup->(∀p∈fp,H p=aA/\VZ (H' p))->Q v H'
noncomputable def VE(X:Cx)(e:bH)(f:XE):Prop:=PE X e (tF X.K f)
noncomputable def VM(X:Cx)(e:bH)(f:XE):Prop:=PE X e (tM X.K f)
section
variable {X:Cx} {e:bH} {f g:XE} {t t':TE}
theorem PE.imp(h:PE X e t)(i:∀a H Q,t' a H Q->t a H Q):PE X e t':=λb s a H Q I q=>h b s a H Q I (i a H Q q)
theorem VM.ve(h:VM X e f):VE X e f:=PE.imp h λj H Q ⟨g,s,l,hd,env,e,k⟩=>
 ⟨s,l,env.free,e,λv c d b i _ n=>k v c d b i λp a z=>Xc (hd p z) (n p a).1⟩
noncomputable def eP(f:XE):XE:=λs=>(f s).bind λl=>if ZI l=aC then ax l else aA
theorem B8{s:ZE}{l:PV}(h:eP f s=ax l):f s=ax l/\ZI l=aC:=by
 unfold eP at h
 cases q:f s with
 | none=>rw[q] at h;cases h
 | some a=>
  rw[q] at h;simp only[aZ] at h;split at h
  ·cases h;exact⟨rfl,by assumption⟩
  ·cases h
theorem VE.pure(h:VE X e f):VM X e (eP f):=PE.imp h λm H Q ⟨s,l,env,e,k⟩=>by
 obtain⟨b,j⟩:=B8 e;refine⟨λ_=>False,s,l,λ_ z=>z.elim,env,b,λv d g c i n=>?_⟩;have:=Is.pure l v g j i;subst this;exact k v d [] c i bu λp a=>by simp at a
end
noncomputable def Za(i:Nat):XE:=λs=>(s[i]?).join
noncomputable def eC(l:PV):XE:=λ_=>ax l
theorem Nu{i:Nat}{s:ZE}{l:PV}(h:Za i s=ax l):s[i]?=ax (ax l):=by
 unfold Za at h
 cases q:s[i]? with
 | none=>rw[q] at h;cases h
 | some o=>rw[q] at h;cases o with
  | none=>cases h
  | some a=>cases h;rfl
section
variable {X:Cx} {pos:dz}
theorem Hu{e:bH}{i:Nat}(h:PE X e (QM i)):VE X e (Za i):=PE.imp h λf H Q ⟨g,s,l,hd,env,e,k⟩=>by obtain⟨v,d,a,b,c⟩:=env.is i l (Nu e);exact⟨v,a,k v H d (Same.refl H) b c⟩
theorem EX{e:bH}{v:V}{l:PV}(h:PE X e (tC v))(b:∀H,Is X.K H l v []):VE X e (eC l):=PE.imp h λd H Q ⟨f,s,c,hd,env,e,k⟩=>by
 cases e;exact k v H [] (Same.refl H) (b H) λp a=>by simp at a
theorem Zh{i j}:VE X (.Constant (.int i) j pos) (eC (.int i)):=EX Zb5 λ_=>Is.int i
theorem RH{i j}:VE X (.Constant (.bool i) j pos) (eC (.bl i)):=EX Zfj λ_=>Is.bl i
theorem Mj{j}:VE X (.Constant .none j pos) (eC .non):=EX Zb6 λ_=>Is.non
end
noncomputable def RB(K:aF)(r:R2)(g:PV->PV->Option PV):Prop:=∀(H:Hp)(x y:V)(a b l:PV)(fa fb:List aL),Is K H a x fa->Is K H b y fb->g a b=ax l->∀Q:VK,
 (∀v H' fp,Same H H'->Is K H' l v fp->(∀p∈fp,p∈fa\/p∈fb\/H p=aA)->Q v H')->r x y H Q
noncomputable def Zl(g:PV->PV->Option PV)(a b:XE):XE:=λs=>(a s).bind λx=>(b s).bind λy=>g x y
theorem W0{g:PV->PV->Option PV}{a b:XE}{s:ZE}{l:PV}(h:Zl g a b s=ax l):∃x y,a s=ax x/\b s=ax y/\g x y=ax l:=by
 unfold Zl at h
 cases q:a s with
 | none=>rw[q] at h;cases h
 | some x=>cases q2:b s with
  | none=>rw[q,q2] at h;cases h
  | some y=>rw[q,q2] at h;exact⟨x,y,rfl,rfl,h⟩
section
variable {X:Cx} {a b:bH} {fa fb:XE} {pos:dz}
theorem Hv{r:R2}{g:PV->PV->Option PV}(j:RB K r g):∀b H Q,tF K (Zl g fa fb) b H Q->tOp r (tF K fa) (tF K fb) b H Q:=λb H Q ⟨c,s,l,hd,env,e,k⟩=>by
 obtain⟨d,f,D,E,e⟩:=W0 e;refine⟨c,s,d,hd,env,D,λx F f1 s1 i A=>⟨c,s,f,λp a=>Same.mut s1 (hd p a),env.mono s1,E,λy w q s2 C m=>?_⟩⟩;refine j w x y d f l f1 q (i.mono s2) C e Q λv o B u n t=>k v o B (s1.trans (s2.trans u)) n λp a z=>?_;rcases t p a with h | h | h
 ·exact A p h z
 ·exact m p h z
 ·exact Xc (Same.mut (s1.trans s2) (hd p z)) h
theorem Wc{op:la}{r:R2}{g:PV->PV->Option PV}(c:U6 X (dN op) r)(e:RB X.K r g)(d:VE X a fa)(f:VE X b fb):VE X (.BinOp a op b pos) (Zl g fa fb):=
 PE.imp (Hi c d f) (Hv e)
theorem Mk{op:l9}{r:R2}{g:PV->PV->Option PV}(c:U6 X (dY op) r)(f:RB X.K r g)(e:VE X a fa)(h:VE X b fb)(d:cJ op b=aB):VE X (.Compare a [op] [b] pos) (Zl g fa fb):=
 PE.imp (BK c e h d) (Hv f)
theorem Zgi{r:R2}{g:PV->PV->Option PV}(c:IxR X r)(f:RB X.K r g)(d:VE X a fa)(h:VE X b fb)(e:N7 b):VE X (.Subscript a b pos) (Zl g fa fb):=
 PE.imp (LX c d h e) (Hv f)
end
noncomputable def gI(g:Int->Int->Int):PV->PV->Option PV
 | .int i,.int j=>ax (.int (g i j))
 | _,_=>aA
noncomputable def gB(g:Int->Int->Bool):PV->PV->Option PV
 | .int i,.int j=>ax (.bl (g i j))
 | _,_=>aA
noncomputable def Ep(C:Int->Int->Prop)[∀i j,Decidable (C i j)](g:Int->Int->Int):PV->PV->Option PV
 | .int i,.int j=>if C i j then ax (.int (g i j)) else aA
 | _,_=>aA
theorem Hw{g:Int->Int->Int}{a b l:PV}(h:gI g a b=ax l):∃i j,a = .int i/\b = .int j/\l = .int (g i j):=by
 unfold gI at h;split at h
 ·cases h;exact⟨_,_,rfl,rfl,rfl⟩
 ·cases h
theorem B9{g:Int->Int->Bool}{a b l:PV}(h:gB g a b=ax l):∃i j,a = .int i/\b = .int j/\l = .bl (g i j):=by
 unfold gB at h;split at h
 ·cases h;exact⟨_,_,rfl,rfl,rfl⟩
 ·cases h
theorem EY{C:Int->Int->Prop}[∀i j,Decidable (C i j)]{g:Int->Int->Int}{a b l:PV}(h:Ep C g a b=ax l):∃i j,a = .int i/\b = .int j/\C i j/\l = .int (g i j):=by
 unfold Ep at h;split at h
 ·split at h
  ·cases h;exact⟨_,_,rfl,rfl,by assumption,rfl⟩
  ·cases h
 ·cases h
theorem Zdf(g:Int->Int->Int):RB K (By λi j=>.int (g i j)) (gI g):=λH x y a b l h fb f c e Q k=>by obtain⟨i,j,rfl,rfl,rfl⟩:=Hw e;exact⟨i,j,f.int_inv.1,c.int_inv.1,k _ H [] (Same.refl H) (Is.int _) λp d=>by simp at d⟩
theorem EZ(g:Int->Int->Bool):RB K (By λi j=>.bl (g i j)) (gB g):=λH x y a b l h fb f c e Q k=>by obtain⟨i,j,rfl,rfl,rfl⟩:=B9 e;exact⟨i,j,f.int_inv.1,c.int_inv.1,k _ H [] (Same.refl H) (Is.bl _) λp d=>by simp at d⟩
theorem Q2(C:Int->Int->Prop)[∀i j,Decidable (C i j)](g:Int->Int->Int):RB K (rI C λi j=>.int (g i j)) (Ep C g):=λH x y a b l m fb h f e Q k=>by obtain⟨i,j,rfl,rfl,c,rfl⟩:=EY e;exact⟨i,j,h.int_inv.1,f.int_inv.1,c,k _ H [] (Same.refl H) (Is.int _) λp d=>by simp at d⟩
instance (i j:Int):Decidable (CMul i j):=by unfold CMul;infer_instance
instance (i j:Int):Decidable (EC i j):=by unfold EC;infer_instance
instance (i j:Int):Decidable (Za5 i j):=by unfold Za5;infer_instance
instance (i j:Int):Decidable (BI i j):=by unfold BI;infer_instance
abbrev Yt:=gI (· + ·)
abbrev W3:=gI (· - ·)
abbrev Ml:=Ep CMul (· * ·)
abbrev R0:=Ep EC (· / ·)
abbrev W4:=Ep (λ_ j=>0<j) (· % ·)
abbrev Zdg:=Ep BI (λi j=>i*2^j.toNat)
abbrev Aa:=Ep (λ_ j=>0<=j) (λi j=>i/2^j.toNat)
abbrev Ac:=gI lj
abbrev Hx:=gB (λi j=>decide (i<j))
abbrev Hy:=gB (λi j=>decide (j<i))
abbrev oGe:=gB (λi j=>decide (j<=i))
section
variable {X:Cx} {a b:bH} {fa fb:XE} {pos:dz}
theorem Z5(c:VE X a fa)(d:VE X b fb):VE X (.BinOp a .Add b pos) (Zl Yt fa fb):=Wc Zcq (Zdf _) c d
theorem Xd(c:VE X a fa)(d:VE X b fb):VE X (.BinOp a .Sub b pos) (Zl W3 fa fb):=Wc Zcr (Zdf _) c d
theorem Mm(c:VE X a fa)(d:VE X b fb):VE X (.BinOp a .Mult b pos) (Zl Ml fa fb):=Wc Zcs (Q2 _ _) c d
theorem X2(c:VE X a fa)(d:VE X b fb):VE X (.BinOp a .FloorDiv b pos) (Zl R0 fa fb):=Wc BJ (Q2 _ _) c d
theorem Xt(c:VE X a fa)(d:VE X b fb):VE X (.BinOp a .Mod b pos) (Zl W4 fa fb):=Wc Zct (Q2 _ _) c d
theorem E1(c:VE X a fa)(d:VE X b fb):VE X (.BinOp a .LShift b pos) (Zl Zdg fa fb):=Wc Zcu (Q2 _ _) c d
theorem JF(c:VE X a fa)(d:VE X b fb):VE X (.BinOp a .RShift b pos) (Zl Aa fa fb):=Wc Zcv (Q2 _ _) c d
theorem Mn(c:VE X a fa)(d:VE X b fb):VE X (.BinOp a .BitAnd b pos) (Zl Ac fa fb):=Wc Zcw (Zdf _) c d
theorem Zgj(c:VE X a fa)(d:VE X b fb):VE X (.Compare a [.Lt] [b] pos) (Zl Hx fa fb):=Mk Za6 (EZ _) c d (V0 _)
theorem E2(c:VE X a fa)(d:VE X b fb):VE X (.Compare a [.Gt] [b] pos) (Zl Hy fa fb):=Mk Za7 (EZ _) c d (V0 _)
end
noncomputable def ZW:PV->PV->Option PV
 | .lst l,.int i=>SD l i
 | .cst l,.int i=>SD l i
 | .tup l,.int i=>SD l i
 | .str z,.int i=>if z.length<=sizeLine then(SD z.cps.toList i).map λc=>.str ⟨#[c]⟩ else aA
 | _,_=>aA
theorem JG{l:List PV}{xs:List V}{H:Hp}{b:List aL}{i:Int}{a:PV}(h:Iss K H l xs b)(e:SD l i=ax a):∃x f1,SD xs i=ax x/\Is K H a x f1/\∀p∈f1,p∈b:=by
 unfold SD at e ⊢;rw[h.len]
 cases q:LW l.length i with
 | none=>rw[q] at e;cases e
 | some j=>rw[q] at e;exact h.get e
theorem Zgk:RB K (rIx K) ZW:=λH x y a b l o fb n m e Q k=>by
 unfold ZW at e;split at e
 ·obtain⟨p,xs,s,rfl,d,h,rfl⟩:=n.lst_inv;obtain⟨z,f1,f,g,i⟩:=JG h e;exact .inl ⟨p,xs,_,z,rfl,m.int_inv.1,SqL.of d,f,k z H f1 (Same.refl H) g λq j=>.inl (aQ _ (i q j))⟩
 ·obtain⟨p,xs,rfl,d,h⟩:=n.cst_inv;obtain⟨z,f1,f,g,i⟩:=JG h e;exact .inl ⟨p,xs,_,z,rfl,m.int_inv.1,d.sq,f,k z H f1 (Same.refl H) g λq j=>.inl (i q j)⟩
 ·obtain⟨p,xs,rfl,d,h⟩:=n.tup_inv;obtain⟨z,f1,f,g,i⟩:=JG h e;exact .inr (.inl ⟨p,xs,_,z,rfl,m.int_inv.1,SqT.of d,f,k z H f1 (Same.refl H) g λq j=>.inl (i q j)⟩)
 ·split at e
  ·cases q:SD _ _ with
   | none=>rw[q] at e;cases e
   | some c=>
    rw[q] at e;cases e;exact .inr (.inr ⟨_,_,c,n.str_inv.1,m.int_inv.1,by assumption,q,k _ H [] (Same.refl H) (Is.str _) λp d=>by simp at d⟩)
  ·cases e
 ·cases e
section
variable {X:Cx} {a b:bH} {fa fb:XE} {pos:dz}
theorem Zk(c:VE X a fa)(e:VE X b fb)(d:N7 b:=by exact λ_ _=>rfl):VE X (.Subscript a b pos) (Zl ZW fa fb):=Zgi Zc3 Zgk c e d
end
abbrev XT:=ZE->Option Bool
noncomputable def Jo(K:aF)(f:XT):TT:=λσ H Q=>∃(Rm:aL->Prop) (s:ZE) (c:Bool),(∀p,Rm p->VZ (H p))/\EnvIs K Rm H s σ/\f s=ax c/\∀H',Same H H'->Q c H'
noncomputable def VT(X:Cx)(e:bH)(f:XT):Prop:=PT X e (Jo X.K f)
noncomputable def VW(X:Cx)(e:bH)(f:XT):Prop:=PW X e (Jo X.K f)
section
variable {X:Cx} {e:bH} {f:XT}
theorem PT.imp{t t':TT}(h:PT X e t)(i:∀a H Q,t' a H Q->t a H Q):PT X e t':=λb s a H Q I q=>h b s a H Q I (i a H Q q)
theorem PW.imp{t t':TT}(h:PW X e t)(i:∀b H Q,t' b H Q->t b H Q):PW X e t':=λa c s b H Q I q=>h a c s b H Q I (i b H Q q)
theorem VW.vt(h:VW X e f):VT X e f:=PW.pt h
end
noncomputable def xB(f:XE):XT:=λs=>match f s with | some (.bl c)=>ax c | _=>aA
theorem TM{f:XE}{s:ZE}{c:Bool}(h:xB f s=ax c):f s=ax (.bl c):=by
 unfold xB at h;split at h
 ·cases h;assumption
 ·cases h
noncomputable def Zgl:PV->Option Bool
 | .non=>ax aB
 | .bl b=>ax b
 | .int i=>ax (i != 0)
 | .str y=>if y.length<=sizeLine then ax ((y.length:Int) != 0) else aA
 | .lst l=>ax !l.isEmpty
 | .cst l=>ax !l.isEmpty
 | .tup l=>ax !l.isEmpty
 | _=>aA
noncomputable def xV(f:XE):XT:=λs=>(f s).bind Zgl
section
variable {X:Cx} {a b c:bH} {Yj:List bH} {fa fb:XE} {ga gb:XT} {pos:dz}
theorem Q3(h:VE X a fa)(g:∀whole,kO a X.env whole=(do let v <-whole;lZ a.pos;holding [v] (truthy v)):=by intro _;rfl):VT X a (xB fa):=
 PT.imp (Zb7 h g) λj H Q ⟨b,s,c,hd,env,e,k⟩=>⟨b,s,.bl c,hd,env,TM e,λv f l d i n=>⟨c,i.bl_inv.1,k f d⟩⟩
theorem E3:∀a H Q,Jo K (xB fa) a H Q->Hj (tF K fa) a H Q:=λa H Q ⟨b,s,c,hd,env,e,k⟩=>⟨b,s,.bl c,hd,env,TM e,λv f g d i n=>⟨c,i.bl_inv.1,k f d⟩⟩
theorem JH{t t':TE}(i:∀a H Q,t' a H Q->t a H Q):∀a H Q,Hj t' a H Q->Hj t a H Q:=λa H Q h=>i a H _ h
theorem Td{op:l9}{r:R2}{g:PV->PV->Option PV}(d:U6 X (dY op) r)(i:RB X.K r g)(f:VE X a fa)(j:VE X b fb)(e:cJ op b=aB):VT X (.Compare a [op] [b] pos) (xB (Zl g fa fb)):=
 PT.imp (BL d f j e) λc H Q h=>JH (Hv i) c H Q (E3 c H Q h)
theorem Nv(c:VE X a fa)(d:VE X b fb):VT X (.Compare a [.Lt] [b] pos) (xB (Zl Hx fa fb)):=Td Za6 (EZ _) c d (V0 _)
theorem E4(c:VE X a fa)(d:VE X b fb):VT X (.Compare a [.Gt] [b] pos) (xB (Zl Hy fa fb)):=Td Za7 (EZ _) c d (V0 _)
theorem Zgm(c:VE X a fa)(d:VE X b fb):VT X (.Compare a [.GtE] [b] pos) (xB (Zl oGe fa fb)):=Td Zfy (EZ _) c d (V0 _)
noncomputable def R1(a b:XT):XT:=λs=>(a s).bind λc=>if c=aC then b s else ax aB
noncomputable def E5(a b:XT):XT:=λs=>(a s).bind λc=>if c=aC then ax aC else b s
noncomputable def Ka(a:XT):XT:=λs=>(a s).map not
theorem Ad:∀a H Q,Jo K (R1 ga gb) a H Q->Zfk (Jo K ga) (Jo K gb) a H Q:=λa H Q ⟨b,s,c,hd,env,e,k⟩=>by
 unfold R1 at e
 cases q:ga s with
 | none=>rw[q] at e;cases e
 | some d=>
  rw[q] at e;refine⟨b,s,d,hd,env,q,λf s1=>?_⟩
  cases d with
  | true=>
   exact⟨b,s,c,λp g=>Same.mut s1 (hd p g),env.mono s1,e,λh s2=>k h (s1.trans s2)⟩
  | false=>
   cases e;exact k f s1
theorem Zdh:∀a H Q,Jo K (E5 ga gb) a H Q->tOr (Jo K ga) (Jo K gb) a H Q:=λa H Q ⟨b,s,c,hd,env,e,k⟩=>by
 unfold E5 at e
 cases q:ga s with
 | none=>rw[q] at e;cases e
 | some d=>
  rw[q] at e;refine⟨b,s,d,hd,env,q,λf s1=>?_⟩
  cases d with
  | true=>
   cases e;exact k f s1
  | false=>
   exact⟨b,s,c,λp g=>Same.mut s1 (hd p g),env.mono s1,e,λh s2=>k h (s1.trans s2)⟩
theorem TN(b:VT X a ga):VW X (.BoolOp .And [a] pos) ga:=BE b
theorem Mo(b:VT X a ga):VW X (.BoolOp .Or [a] pos) ga:=Zb8 b
theorem Q4(c:VT X a ga)(d:VW X (.BoolOp .And (b::Yj) pos) gb):VW X (.BoolOp .And (a::b::Yj) pos) (R1 ga gb):=PW.imp (Zb9 c d) Ad
theorem Kb(c:VT X a ga)(d:VW X (.BoolOp .Or (b::Yj) pos) gb):VW X (.BoolOp .Or (a::b::Yj) pos) (E5 ga gb):=PW.imp (Zfl c d) Zdh
theorem JI(f:VT X a ga):VT X (.UnaryOp .Not a pos) (Ka ga):=PT.imp (Zca f) λg H Q ⟨b,s,c,hd,env,e,k⟩=>by
 unfold Ka at e
 cases q:ga s with
 | none=>rw[q] at e;cases e
 | some d=>rw[q] at e;cases e;exact⟨b,s,d,hd,env,q,k⟩
theorem E6(o:VE X a fa)(t:∀whole,kO a X.env whole=(do let v <-whole;lZ a.pos;holding [v] (truthy v)):=by intro _;rfl):VT X a (xV fa):=
 PT.imp (ED o t) λu H Q ⟨g,s,c,hd,env,e,k⟩=>by
 unfold xV at e
 cases q:fa s with
 | none=>rw[q] at e;cases e
 | some l=>
  rw[q] at e;simp only[aZ] at e;refine⟨g,s,l,hd,env,q,λv m x h i n=>⟨c,?_,k m h⟩⟩
  cases l with
  | non=>rw[i.non_inv.1];cases e;rfl
  | bl b=>rw[i.bl_inv.1];cases e;rfl
  | int j=>rw[i.int_inv.1];cases e;rfl
  | str y=>
   rw[i.str_inv.1];simp only[Zgl] at e;split at e
   ·cases e;exact⟨by assumption,rfl⟩
   ·cases e
  | lst l=>
   obtain⟨p,xs,w,rfl,d,f,_⟩:=i.lst_inv;cases e;refine .inl ⟨xs,SqL.of d,?_⟩;have:=f.len;cases xs<;>cases l<;>simp at this ⊢
  | cst l=>
   obtain⟨p,xs,rfl,d,f⟩:=i.cst_inv;cases e;refine .inl ⟨xs,d.sq,?_⟩;have:=f.len;cases xs<;>cases l<;>simp at this ⊢
  | tup l=>
   obtain⟨p,xs,rfl,d,f⟩:=i.tup_inv;cases e;refine .inr (.inl ⟨xs,SqT.of d,?_⟩);have:=f.len;cases xs<;>cases l<;>simp at this ⊢
  | ty n=>cases e
  | exc C=>cases e
  | exf C l=>cases e
  | clo C l=>cases e
  | dK ks l=>cases e
  | dT ks l=>cases e
end
section
variable {X:Cx} {a b c:bH} {Yj:List bH} {fa fb:XE} {gc:XT} {pos:dz}
noncomputable def JJ(a b:XE):XE:=λs=>(xB a s).bind λc=>if c=aC then b s else ax (.bl aB)
noncomputable def eOr(a b:XE):XE:=λs=>(xB a s).bind λc=>if c=aC then ax (.bl aC) else b s
noncomputable def Ae(a:XE):XE:=λs=>(xB a s).map λc=>.bl !c
noncomputable def LJ(c:XT)(a b:XE):XE:=λs=>(c s).bind λk=>if k=aC then a s else b s
theorem E7{op}(h:VE X a fa):VE X (.BoolOp op [a] pos) fa:=Zcb h
theorem JK(o:VE X a fa)(m:VE X (.BoolOp .And (b::Yj) pos) fb):VE X (.BoolOp .And (a::b::Yj) pos) (JJ fa fb):=PE.imp (Zcc o m) λw H Q ⟨g,s,l,hd,env,e,k⟩=>by
 unfold JJ at e
 cases q:xB fa s with
 | none=>rw[q] at e;cases e
 | some d=>
  rw[q] at e;refine⟨g,s,.bl d,hd,env,TM q,λv i x s1 h _=>⟨d,h.bl_inv.1,?_⟩⟩
  cases d with
  | true=>
   exact⟨g,s,l,λp c=>Same.mut s1 (hd p c),env.mono s1,e,λu n f s2 t j=>k u n f (s1.trans s2) t j⟩
  | false=>
   cases e;exact k _ i [] s1 (Is.bl aB) λp c=>by simp at c
theorem Zdi(h:VE X a fa):VE X (.UnaryOp .Not a pos) (Ae fa):=PE.imp (Zcd h) λi H Q ⟨c,s,l,hd,env,e,k⟩=>by
 unfold Ae at e
 cases q:xB fa s with
 | none=>rw[q] at e;cases e
 | some d=>
  rw[q] at e;cases e;exact⟨c,s,.bl d,hd,env,TM q,λv f j s1 b _=>⟨d,b.bl_inv.1,k _ f [] s1 (Is.bl _) λp g=>by simp at g⟩⟩
theorem TQ(t:VT X c gc)(u:VE X a fa)(o:VE X b fb):VE X (.IfExp c a b pos) (LJ gc fa fb):=PE.imp (Ez t u o) λw H Q ⟨g,s,l,hd,env,e,k⟩=>by
 unfold LJ at e
 cases q:gc s with
 | none=>rw[q] at e;cases e
 | some d=>
  rw[q] at e;refine⟨g,s,d,hd,env,q,λv s1=>?_⟩
  cases d with
  | true=>
   exact⟨g,s,l,λp h=>Same.mut s1 (hd p h),env.mono s1,e,λn j f s2 m i=>k n j f (s1.trans s2) m i⟩
  | false=>
   exact⟨g,s,l,λp h=>Same.mut s1 (hd p h),env.mono s1,e,λn j f s2 m i=>k n j f (s1.trans s2) m i⟩
end
section
variable {X:Cx} {a b c:bH} {fa fb fc:XE} {pos:dz}
noncomputable def Af(neg:Bool):PV->Option PV
 | .non=>ax (.bl !neg)
 | _=>ax (.bl neg)
noncomputable def E8:PV->Bool
 | .non=>aC
 | _=>aB
theorem JL{H:Hp}{l:PV}{v:V}{d:List aL}(i:Is K H l v d):decide (v=V.non)=E8 l:=by
 cases l with
 | non=>rw[i.non_inv.1];rfl
 | bl b=>rw[i.bl_inv.1];rfl
 | int j=>rw[i.int_inv.1];rfl
 | str y=>rw[i.str_inv.1];rfl
 | ty n=>rw[i.ty_inv.1];rfl
 | exc C=>obtain⟨⟨e,o,x,C,rfl,_⟩,_⟩:=i;rfl
 | exf C l=>obtain⟨⟨e,o,x,C,s,k,u,z,rfl,_⟩,_⟩:=i;rfl
 | clo C l=>obtain⟨u,x,⟨f,q,c,h,e,m,g,ct,rfl,_⟩,_⟩:=i;rfl
 | lst l=>obtain⟨p,xs,a,rfl,_⟩:=i.lst_inv;rfl
 | cst l=>obtain⟨p,xs,rfl,_⟩:=i.cst_inv;rfl
 | tup l=>obtain⟨p,xs,rfl,_⟩:=i.tup_inv;rfl
 | dK ks l=>obtain⟨p,xs,a,rfl,_⟩:=i.dK_inv;rfl
 | dT ks l=>obtain⟨p,xs,a,rfl,_⟩:=i.dT_inv;rfl
noncomputable def OU(neg:Bool)(a:XE):XE:=λs=>(a s).bind (Af neg)
theorem E9:∀a H Q,tF K (OU aC fa) a H Q->Za1 (tF K fa) a H Q:=λa H Q ⟨d,s,l,hd,env,e,k⟩=>by
 unfold OU at e
 cases q:fa s with
 | none=>rw[q] at e;cases e
 | some m=>
  rw[q] at e;refine⟨d,s,m,hd,env,q,λv b g s1 c _=>?_⟩;show Q _ b;rw[JL c];have:l = .bl (!E8 m):=by cases m<;>cases e<;>rfl
  subst this;exact k _ b [] s1 (Is.bl _) λp f=>by simp at f
theorem Dc:∀a H Q,Jo K (xB fa) a H Q->tB (tF K fa) a H Q:=λa H Q ⟨b,s,c,hd,env,e,k⟩=>⟨b,s,.bl c,hd,env,TM e,λv f g d i n=>⟨c,i.bl_inv.1,k f d⟩⟩
theorem Mp{t t':TE}(i:∀a H Q,t' a H Q->t a H Q):∀a H Q,tB t' a H Q->tB t a H Q:=λa H Q h=>i a H _ h
theorem Ql{j pos'}(c:VE X a fa):VT X (.Compare a [.IsNot] [.Constant .none j pos'] pos) (xB (OU aC fa)):=PT.imp (Jr (BD c)) λb H Q h=>Mp E9 b H Q (Dc b H Q h)
noncomputable def Kc:PV->Option PV
 | .int i=>ax (.int (-i))
 | _=>aA
noncomputable def Ff(g:PV->Option PV)(a:XE):XE:=λs=>(a s).bind g
theorem Mq(g:VE X a fa):VE X (.UnaryOp .USub a pos) (Ff Kc fa):=PE.imp (Zfx Zcx g) λh H Q ⟨c,s,l,hd,env,e,k⟩=>by
 unfold Ff at e
 cases q:fa s with
 | none=>rw[q] at e;cases e
 | some m=>
  rw[q] at e;simp only[aZ] at e;unfold Kc at e;split at e
  ·cases e;exact⟨c,s,_,hd,env,q,λv d i s1 b _=>⟨_,b.int_inv.1,k _ d [] s1 (Is.int _) λp f=>by simp at f⟩⟩
  ·cases e
end
end VL
namespace VL
open PySem PySem.Spec PyProof.Rows L2
variable {K:aF}
noncomputable def Qm:List XE->ZE->Option (List PV)
 | [],_=>ax []
 | f::fs,s=>(f s).bind λx=>(Qm fs s).map (x::·)
theorem Q5{f:XE}{fs:List XE}{s:ZE}{ls:List PV}(h:Qm (f::fs) s=ax ls):∃x r,f s=ax x/\Qm fs s=ax r/\ls=x::r:=by
 unfold Qm at h
 cases q:f s with
 | none=>rw[q] at h;cases h
 | some x=>cases q2:Qm fs s with
  | none=>rw[q,q2] at h;cases h
  | some r=>rw[q,q2] at h;cases h;exact⟨x,r,rfl,rfl,rfl⟩
theorem Vn:∀{fs:List XE}{s:ZE}{ls:List PV},Qm fs s=ax ls->ls.length=fs.length
 | [],_,_,h=>by cases h;rfl
 | f::fs,s,ls,h=>by obtain⟨x,r,_,a,rfl⟩:=Q5 h;rw[bM,bM,Vn a]
noncomputable def tFA(K:aF)(fs:List XE):TA:=λσ H Q=>∃(Rm:aL->Prop) (s:ZE) (ls:List PV),(∀p,Rm p->VZ (H p))/\EnvIs K Rm H s σ/\Qm fs s=ax ls/\∀vs H' fp,Same H H'->Iss K H' ls vs fp->(∀p∈fp,¬Rm p)->Q vs H'
noncomputable def tMA(K:aF)(fs:List XE):TA:=λσ H Q=>∃(s:ZE) (ls:List PV),EnvIs K (λ_=>False) H s σ/\Qm fs s=ax ls/\∀vs H' fp,Same H H'->Iss K H' ls vs fp->fp.Nodup->(∀p∈fp,H p=aA/\VZ (H' p))->Q vs H'
noncomputable def VA(X:Cx)(es:List bH)(fs:List XE):Prop:=PA X es (tFA X.K fs)
noncomputable def VMA(X:Cx)(es:List bH)(fs:List XE):Prop:=PA X es (tMA X.K fs)
section
variable {X:Cx} {e:bH} {es:List bH} {f:XE} {fs:List XE} {pos:dz} {k:Nat}
theorem PA.imp{t t':TA}(h:PA X es t)(i:∀a H Q,t' a H Q->t a H Q):PA X es t':=λpos b s a H Q I q=>h pos b s a H Q I (i a H Q q)
theorem Mr:VA X [] []:=PA.imp Y3 λb H Q ⟨c,s,ls,hd,env,e,k⟩=>by
 cases e;exact k [] H [] (Same.refl H) Iss.nil λp a=>by simp at a
theorem Vo(t:VE X e f)(g:VA X es fs)(o:aR (e::es) X.env=(aB,eval e X.env)::aR es X.env:=by rfl):VA X (e::es) (f::fs):=PA.imp (ZZ t g o) λy H Q ⟨b,s,ls,hd,env,e,k⟩=>by
 obtain⟨j,n,d,l,rfl⟩:=Q5 e;refine⟨b,s,j,hd,env,d,λx w f1 s1 c u=>⟨b,s,n,λp a=>Same.mut s1 (hd p a),env.mono s1,l,λxs q m s2 v i=>?_⟩⟩;refine k _ q (f1++m) (s1.trans s2) (Iss.cons (c.mono s2) v) λp a=>?_;rcases ak.mp a with h | h
 ·exact u p h
 ·exact i p h
theorem YL:VMA X [] []:=PA.imp Y3 λb H Q ⟨s,ls,env,e,k⟩=>by
 cases e;exact k [] H [] (Same.refl H) Iss.nil bu λp a=>by simp at a
theorem XH(d:VM X e f)(n:VMA X es fs)(w:aR (e::es) X.env=(aB,eval e X.env)::aR es X.env:=by rfl):VMA X (e::es) (f::fs):=PA.imp (ZZ d n w) λD H Q ⟨s,ls,env,e,k⟩=>by
 obtain⟨q,v,j,t,rfl⟩:=Q5 e;refine⟨s,q,env,j,λx C f1 s1 i A g=>⟨s,v,env.mono s1,t,λxs y u s2 B l c=>?_⟩⟩;refine k _ y (f1++u) (s1.trans s2) (Iss.cons (i.mono s2) B) ?_ λp m=>?_
 ·refine dB.mpr ⟨A,l,λa d b o z=>?_⟩;subst z;exact Xc (g a d).2 (c a o).1
 ·rcases ak.mp m with h | h
  ·exact⟨(g p h).1,Same.mut s2 (g p h).2⟩
  ·exact⟨Same.off s1 (c p h).1,(c p h).2⟩
noncomputable def Wd(fs:List XE):XE:=λs=>(Qm fs s).map .tup
noncomputable def WK(fs:List XE):XE:=λs=>(Qm fs s).map .lst
theorem map_some{d c:Type}{o:Option d}{g:d->c}{b:c}(h:o.map g=ax b):∃a,o=ax a/\b=g a:=by
 cases o with
 | none=>cases h
 | some a=>cases h;exact⟨a,rfl,rfl⟩
theorem Xu(h:VA X es fs)(m:fs.length<=1000:=by decide):VE X (.Tuple es k pos) (Wd fs):=PE.imp (Jz h) λj H Q ⟨d,s,l,hd,env,e,q⟩=>by
 obtain⟨ls,c,rfl⟩:=map_some e;refine⟨d,s,ls,hd,env,c,λvs i g s1 a f=>⟨?_,λp b=>?_⟩⟩
 ·rw[a.len,Vn c];exact bz (lt_size (by omega))
 ·exact q _ _ g (s1.trans (Same.new b _)) (Is.tup Zi (a.mono (Same.new b _))) f
theorem Zdj(h:VMA X es fs)(o:fs.length<=1000:=by decide):VM X (.Tuple es k pos) (Wd fs):=PE.imp (Jz h) λn H Q ⟨s,l,env,e,q⟩=>by
 obtain⟨ls,d,rfl⟩:=map_some e;refine⟨s,ls,env,d,λvs m j s1 c i g=>⟨?_,λp b=>?_⟩⟩
 ·rw[c.len,Vn d];exact bz (lt_size (by omega))
 ·exact q _ _ j (s1.trans (Same.new b _)) (Is.tup Zi (c.mono (Same.new b _))) i λa f=>⟨(g a f).1,Same.mut (Same.new b _) (g a f).2⟩
theorem Ms(h:VA X es fs)(n:fs.length<=1000:=by decide):VE X (.List es pos) (WK fs):=PE.imp (EG h) λm H Q ⟨g,s,l,hd,env,e,q⟩=>by
 obtain⟨ls,f,rfl⟩:=map_some e;refine⟨g,s,ls,hd,env,f,λvs k j s1 d i=>⟨?_,λp b=>?_⟩⟩
 ·rw[d.len,Vn f];exact bz (lt_size (by omega))
 ·refine q _ _ (p::j) (s1.trans (Same.new b _)) (Is.lst Zi (d.mono (Same.new b _))) λa c z=>?_;rcases aa.mp c with rfl | c
  ·exact Xc (Same.mut s1 (hd a z)) b
  ·exact i a c z
theorem XQ(h:VMA X es fs)(n:fs.length<=1000:=by decide):VM X (.List es pos) (WK fs):=PE.imp (EG h) λm H Q ⟨s,l,env,e,q⟩=>by
 obtain⟨ls,g,rfl⟩:=map_some e;refine⟨s,ls,env,g,λvs k j s1 f i d=>⟨?_,λp b=>?_⟩⟩
 ·rw[f.len,Vn g];exact bz (lt_size (by omega))
 ·refine q _ _ (p::j) (s1.trans (Same.new b _)) (Is.lst Zi (f.mono (Same.new b _))) (av.mpr ⟨λz=>Xc (d p z).2 b,i⟩) λa c=>?_;rcases aa.mp c with rfl | c
  ·exact⟨Same.off s1 b,by rw[Zi];exact bS⟩
  ·exact⟨(d a c).1,Same.mut (Same.new b _) (d a c).2⟩
theorem Kd:VM X (.Dict [] [] pos) (eC (.dT [] [])):=PE.imp EN λd H Q ⟨s,l,env,e,q⟩ p b=>by
 cases e;exact q _ _ [p] (Same.new b _) (Is.dT Zi rfl Iss.nil) (by simp) λa c=>by rw[aN.mp c];exact⟨b,by rw[Zi];exact bS⟩
end
noncomputable def YX(K:aF)(D:List PV->Option PV)(n:Nat):Sp:=λvs H Q _=>vs.length=n/\∃ls fp l,Iss K H ls vs fp/\D ls=ax l/\∀v H' fq,Same H H'->Is K H' l v fq->fq.Nodup->(∀p∈fq,H p=aA/\VZ (H' p))->Q v H'
noncomputable def Ze(D:List PV->Option PV)(fs:List XE):XE:=λs=>(Qm fs s).bind D
theorem Zc{d c:Type}{o:Option d}{g:d->Option c}{b:c}(h:o.bind g=ax b):∃a,o=ax a/\g a=ax b:=by
 cases o with
 | none=>cases h
 | some a=>exact⟨a,rfl,h⟩
section
variable {X:Cx} {x:ay} {ps:List ay} {k:Nat} {e:bH} {es:List bH} {fs:List XE} {p pos:dz}
theorem Hz{D:List PV->Option PV}{n:Nat}(C:Y9 X.prog X.w X.K X.mg X.base x ps (YX X.K D n) k)(m:Room k X.A)(o:Gl X x)(b:VA X (e::es) fs)(t:fs.length=n:=by rfl)
  (d:(x==("__debug__" : ay))=aB:=by decide) (w:aR (e::es) X.env=(aB,eval e X.env)::aR es X.env:=by rfl) (c:(dX pos (aR es X.env)).any (·.1)=aB:=by rfl) :
  VM X (.Call (.Name x p) (e::es) [] pos) (Ze D fs):=PE.imp (Zdd C m o b d w c) λF H Q ⟨s,l,env,e,q⟩=>by
 obtain⟨ls,g,B⟩:=Zc e;refine⟨λ_=>False,s,ls,λ_ z=>z.elim,env,g,λvs j A s1 f G=>?_⟩;show YX X.K D n (vs++[]) j Q E0;rw[dG];exact⟨by rw[f.len,Vn g,t],ls,A,l,f,B,λv u y s2 E i h=>q v u y (s1.trans s2) E i λa b=>⟨Same.off s1 (h a b).1,(h a b).2⟩⟩
end
noncomputable def RC(K:aF)(r:List V->Hp->VK->Prop)(g:List PV->Option PV):Prop:=∀(H:Hp)(vs:List V)(ls:List PV)(l:PV)(fp:List aL),Iss K H ls vs fp->g ls=ax l->∀Q:VK,
 (∀v H' fq,Same H H'->Is K H' l v fq->(∀p∈fq,p∈fp\/H p=aA)->Q v H')->r vs H Q
noncomputable def RCM(K:aF)(r:List V->Hp->VK->Prop)(g:List PV->Option PV):Prop:=∀(H:Hp)(vs:List V)(ls:List PV)(l:PV)(fp:List aL),Iss K H ls vs fp->g ls=ax l->∀Q:VK,
 (∀v H' fq,Same H H'->Is K H' l v fq->fq.Nodup->(∀p∈fq,H p=aA/\VZ (H' p))->Q v H')->r vs H Q
theorem Zbf{r:List V->Hp->VK->Prop}{g:List PV->Option PV}{fs:List XE}(j:RC K r g):∀a H Q,tF K (Ze g fs) a H Q->tCB r (tFA K fs) a H Q:=λa H Q ⟨c,s,l,hd,env,e,k⟩=>by
 obtain⟨ls,i,u⟩:=Zc e;refine⟨c,s,ls,hd,env,i,λvs d t s1 b q=>j d vs ls l t b u Q λv n o s2 w m=>k v n o (s1.trans s2) w λp f z=>?_⟩;rcases m p f with h | h
 ·exact q p h z
 ·exact Xc (Same.mut s1 (hd p z)) h
theorem Zbg{r:List V->Hp->VK->Prop}{g:List PV->Option PV}{fs:List XE}(j:RCM K r g):∀a H Q,tM K (Ze g fs) a H Q->tCB r (tFA K fs) a H Q:=λa H Q ⟨s,l,env,e,k⟩=>by obtain⟨ls,i,q⟩:=Zc e;exact⟨λ_=>False,s,ls,λ_ z=>z.elim,env,i,λvs h o s1 d u=>j h vs ls l o d q Q λv m n s2 t f c=>k v m n (s1.trans s2) t f λp b=>⟨Same.off s1 (c p b).1,(c p b).2⟩⟩
section
variable {X:Cx} {x:ay} {k:Nat} {e:bH} {es:List bH} {fs:List XE} {p pos:dz} {id T:String} {r:List V->Hp->VK->Prop} {g:List PV->Option PV}
theorem Ke(k:Xb X (.builtin id) r)(i:RC X.K r g)(j:Gl X x)(c:X.mg x=aA)(h:c9 x=ax (.builtin id))(f:VA X (e::es) fs)(d:x≠"__name__":=by decide)(b:(x==("__debug__" : ay))=aB:=by decide)
  (l:aR (e::es) X.env=(aB,eval e X.env)::aR es X.env:=by rfl) (a:(dX pos (aR es X.env)).any (·.1)=aB:=by rfl):VE X (.Call (.Name x p) (e::es) [] pos) (Ze g fs):=
 PE.imp (LU k j c h f d b l a) (Zbf i)
theorem Dd(k:Xb X (.builtin id) r)(i:RCM X.K r g)(j:Gl X x)(c:X.mg x=aA)(h:c9 x=ax (.builtin id))(f:VA X (e::es) fs)(d:x≠"__name__":=by decide)(b:(x==("__debug__" : ay))=aB:=by decide)
  (l:aR (e::es) X.env=(aB,eval e X.env)::aR es X.env:=by rfl) (a:(dX pos (aR es X.env)).any (·.1)=aB:=by rfl):VM X (.Call (.Name x p) (e::es) [] pos) (Ze g fs):=
 PE.imp (LU k j c h f d b l a) (Zbg i)
theorem ZK(k:Xb X (.type T) r)(i:RC X.K r g)(j:Gl X x)(c:X.mg x=aA)(h:c9 x=ax (.type T))(f:VA X (e::es) fs)(d:x≠"__name__":=by decide)(b:(x==("__debug__" : ay))=aB:=by decide)
  (l:aR (e::es) X.env=(aB,eval e X.env)::aR es X.env:=by rfl) (a:(dX pos (aR es X.env)).any (·.1)=aB:=by rfl):VE X (.Call (.Name x p) (e::es) [] pos) (Ze g fs):=
 PE.imp (Nh k j c h f d b l a) (Zbf i)
theorem Fg(k:Xb X (.type T) r)(i:RCM X.K r g)(j:Gl X x)(c:X.mg x=aA)(h:c9 x=ax (.type T))(f:VA X (e::es) fs)(d:x≠"__name__":=by decide)(b:(x==("__debug__" : ay))=aB:=by decide)
  (l:aR (e::es) X.env=(aB,eval e X.env)::aR es X.env:=by rfl) (a:(dX pos (aR es X.env)).any (·.1)=aB:=by rfl):VM X (.Call (.Name x p) (e::es) [] pos) (Ze g fs):=
 PE.imp (Nh k j c h f d b l a) (Zbg i)
end
theorem Iss.one_inv{H:Hp}{l:PV}{vs:List V}{c:List aL}(h:Iss K H [l] vs c):∃v,vs=[v]/\Is K H l v c:=by obtain⟨x,r,f1,d,rfl,a,b,rfl⟩:=h.inv;rw[b.1,b.2,dG];exact⟨x,rfl,a⟩
theorem Iss.two_inv{H:Hp}{l m:PV}{vs:List V}{e:List aL}(h:Iss K H [l,m] vs e):∃v w f1 d,vs=[v,w]/\Is K H l v f1/\Is K H m w d/\e=f1++d:=by obtain⟨x,r,f1,d,rfl,a,b,rfl⟩:=h.inv;obtain⟨y,rfl,c⟩:=b.one_inv;exact⟨x,y,f1,d,rfl,a,c,rfl⟩
noncomputable def R3:PV->Option (List PV)
 | .lst l=>ax l
 | .cst l=>ax l
 | .tup l=>ax l
 | _=>aA
theorem Vp{H:Hp}{l:PV}{v:V}{f:List aL}{m:List PV}(h:Is K H l v f)(e:R3 l=ax m):∃p xs d,v = .ref p/\(SqL K H p xs\/SqT K H p xs)/\Iss K H m xs d/\∀q∈d,q∈f:=by
 cases l with
 | lst l=>
  cases e;obtain⟨p,xs,d,rfl,a,b,rfl⟩:=h.lst_inv;exact⟨p,xs,d,rfl,.inl (SqL.of a),b,λq c=>aQ _ c⟩
 | cst l=>
  cases e;obtain⟨p,xs,rfl,a,b⟩:=h.cst_inv;exact⟨p,xs,f,rfl,.inl a.sq,b,λq c=>c⟩
 | tup l=>
  cases e;obtain⟨p,xs,rfl,a,b⟩:=h.tup_inv;exact⟨p,xs,f,rfl,.inr (SqT.of a),b,λq c=>c⟩
 | _=>cases e
noncomputable def ZQ:List PV->Option PV
 | [.str z]=>if z.length<=sizeLine then ax (.int z.length) else aA
 | [l]=>(R3 l).map λm=>.int m.length
 | _=>aA
theorem Zdl:RC K (λxs H Q=>∃x n,xs=[x]/\Zf0 K x H n/\Q (.int n) H) ZQ:=λH vs ls l f h e Q k=>by
 unfold ZQ at e;split at e
 ·split at e
  ·cases e;obtain⟨v,rfl,i⟩:=h.one_inv;exact⟨v,_,rfl,by rw[i.str_inv.1];exact⟨by assumption,rfl⟩,k _ H [] (Same.refl H) (Is.int _) λp a=>by simp at a⟩
  ·cases e
 ·obtain⟨m,b,rfl⟩:=map_some e;obtain⟨v,rfl,i⟩:=h.one_inv;obtain⟨p,xs,d,rfl,a,c,_⟩:=Vp i b;refine⟨_,xs.length,rfl,?_,?_⟩
  ·rcases a with a | a
   ·exact .inl ⟨xs,a,rfl⟩
   ·exact .inr ⟨xs,a,rfl⟩
  ·rw[c.len];exact k _ H [] (Same.refl H) (Is.int _) λp a=>by simp at a
 ·cases e
noncomputable def ZX:List PV->Option PV
 | [l]=>(R3 l).map .tup
 | _=>aA
theorem ZV:RC K (Zde K) ZX:=λH vs ls l j h e Q k=>by
 unfold ZX at e;split at e
 ·obtain⟨m,f,rfl⟩:=map_some e;obtain⟨v,rfl,i⟩:=h.one_inv;rename_i n
  cases n with
  | tup l=>
   cases f;obtain⟨p,xs,rfl,b,g⟩:=id i.tup_inv;exact⟨p,xs,rfl,.inr ⟨SqT.of b,k _ H j (Same.refl H) i λa c=>.inl c⟩⟩
  | lst l=>
   cases f;obtain⟨p,xs,o,rfl,b,g,rfl⟩:=i.lst_inv;exact⟨p,xs,rfl,.inl ⟨SqL.of b,λq d=>k _ _ o (Same.new d _) (Is.tup Zi (g.mono (Same.new d _))) λa c=>.inl (aQ _ c)⟩⟩
  | cst l=>
   cases f;obtain⟨p,xs,rfl,b,g⟩:=i.cst_inv;exact⟨p,xs,rfl,.inl ⟨b.sq,λq d=>k _ _ j (Same.new d _) (Is.tup Zi (g.mono (Same.new d _))) λa c=>.inl c⟩⟩
  | _=>cases f
 ·cases e
noncomputable def SM:List PV->Option PV
 | [l]=>(R3 l).bind λm=>if ZC m=aC then ax (.lst m) else aA
 | _=>aA
theorem De:RCM K (B6 K) SM:=λH vs ls l s h e Q k=>by
 unfold SM at e;split at e
 ·obtain⟨m,g,b⟩:=Zc e;split at b
  ·cases b;obtain⟨v,rfl,i⟩:=h.one_inv;obtain⟨p,xs,o,rfl,f,d,n⟩:=Vp i g;have:=Iss.pure _ _ _ (by assumption) d;subst this;refine⟨p,xs,rfl,f,λq c=>k _ _ [q] (Same.new c _) (Is.lst Zi (d.mono (Same.new c _))) (by simp) λa j=>?_⟩;rw[aN.mp j];exact⟨c,by rw[Zi];exact bS⟩
  ·cases b
 ·cases e
noncomputable def Yn:List PV->Option (List Int)
 | []=>ax []
 | .int i::r=>(Yn r).map (i::·)
 | _=>aA
theorem Yf:∀l:List Int,Yn (iL l)=ax l
 | []=>rfl
 | i::r=>by show(Yn (iL r)).map (i::·)=_;rw[Yf r];rfl
theorem Z7:∀{m:List PV}{l:List Int},Yn m=ax l->m=iL l
 | [],l,h=>by cases h;rfl
 | .int i::r,l,h=>by obtain⟨a,e,rfl⟩:=map_some (show(Yn r).map (i::·)=ax l from h);rw[Z7 e];rfl
 | .non::_,_,h=>by cases h
 | .bl _::_,_,h=>by cases h
 | .str _::_,_,h=>by cases h
 | .ty _::_,_,h=>by cases h
 | .exc _::_,_,h=>by cases h
 | .exf _ _::_,_,h=>by cases h
 | .clo _ _::_,_,h=>by cases h
 | .tup _::_,_,h=>by cases h
 | .lst _::_,_,h=>by cases h
 | .cst _::_,_,h=>by cases h
 | .dK _ _::_,_,h=>by cases h
 | .dT _ _::_,_,h=>by cases h
abbrev bL(l:List Bool):List PV:=l.map PV.bl
noncomputable def UB:List PV->Option (List Bool)
 | []=>ax []
 | .bl i::r=>(UB r).map (i::·)
 | _=>aA
theorem Ta:∀l:List Bool,UB (bL l)=ax l
 | []=>rfl
 | i::r=>by show(UB (bL r)).map (i::·)=_;rw[Ta r];rfl
theorem TR:∀{m:List PV}{l:List Bool},UB m=ax l->m=bL l
 | [],l,h=>by cases h;rfl
 | .bl i::r,l,h=>by obtain⟨a,e,rfl⟩:=map_some (show(UB r).map (i::·)=ax l from h);rw[TR e];rfl
 | .non::_,_,h=>by cases h
 | .int _::_,_,h=>by cases h
 | .str _::_,_,h=>by cases h
 | .ty _::_,_,h=>by cases h
 | .exc _::_,_,h=>by cases h
 | .exf _ _::_,_,h=>by cases h
 | .clo _ _::_,_,h=>by cases h
 | .tup _::_,_,h=>by cases h
 | .lst _::_,_,h=>by cases h
 | .cst _::_,_,h=>by cases h
 | .dK _ _::_,_,h=>by cases h
 | .dT _ _::_,_,h=>by cases h
theorem Iss.bL{H:Hp}:∀{l:List Bool}{xs:List V}{fp:List aL},Iss K H (VL.bL l) xs fp->xs=l.map V.bl/\fp=[]
 | [],xs,fp,h=>by simpa only[VL.bL,eR,Iss] using h
 | i::l,xs,fp,h=>by obtain⟨x,r,f1,c,rfl,a,b,rfl⟩:=Iss.inv (show Iss K H (PV.bl i::VL.bL l) xs fp from h);obtain⟨rfl,rfl⟩:=a.bl_inv;obtain⟨rfl,rfl⟩:=b.bL;exact⟨rfl,rfl⟩
theorem JM{H:Hp}{p:aL}{xs:List V}(h:SqL K H p xs\/SqT K H p xs):∃b,OM b K H p xs:=by
 rcases h with h | h
 ·exact⟨aC,h⟩
 ·exact⟨aB,h⟩
noncomputable def Q6:List PV->Option PV
 | [l]=>(R3 l).bind λm=>(Yn m).map λns=>.int ns.sum
 | _=>aA
noncomputable def Fh:List PV->Option PV
 | [l]=>(R3 l).bind λm=>(UB m).map λbs=>.bl (bs.all id)
 | _=>aA
theorem Mu:RC K (λxs H Q=>∃(b:Bool) (p:aL) (ns:List Int),xs=[.ref p]/\OM b K H p (ns.map V.int)/\Q (.int ns.sum) H) Q6:=λH vs ls l s h e Q k=>by
 unfold Q6 at e;split at e
 ·obtain⟨m,c,n⟩:=Zc e;obtain⟨ns,f,rfl⟩:=map_some n;obtain⟨v,rfl,i⟩:=h.one_inv;obtain⟨p,xs,q,rfl,a,j,o⟩:=Vp i c;have g:=Z7 f;subst g;obtain⟨rfl,rfl⟩:=j.iL;obtain⟨b,d⟩:=JM a;exact⟨b,p,ns,rfl,d,k _ H [] (Same.refl H) (Is.int _) λp a=>by simp at a⟩
 ·cases e
theorem Zdm:RC K (λxs H Q=>∃(b:Bool) (p:aL) (bs:List Bool),xs=[.ref p]/\OM b K H p (bs.map V.bl)/\Q (.bl (bs.all id)) H) Fh:=λH vs ls l s h e Q k=>by
 unfold Fh at e;split at e
 ·obtain⟨m,c,n⟩:=Zc e;obtain⟨ns,f,rfl⟩:=map_some n;obtain⟨v,rfl,i⟩:=h.one_inv;obtain⟨p,xs,q,rfl,a,j,o⟩:=Vp i c;have g:=TR f;subst g;obtain⟨rfl,rfl⟩:=j.bL;obtain⟨b,d⟩:=JM a;exact⟨b,p,ns,rfl,d,k _ H [] (Same.refl H) (Is.bl _) λp a=>by simp at a⟩
 ·cases e
noncomputable def Zgo:List PV->Option PV
 | [.int i,.int j]=>ax (.int (if j<i then j else i))
 | _=>aA
noncomputable def HA:List PV->Option PV
 | [.int i,.int j]=>ax (.int (if j>i then j else i))
 | _=>aA
noncomputable def Q7:List PV->Option PV
 | [.int i]=>ax (.int i)
 | [.bl c]=>ax (.int (if c then 1 else 0))
 | _=>aA
theorem Ag:RC K (λxs H Q=>∃i j,xs=[.int i,.int j]/\Q (.int (if j>i then j else i)) H) HA:=λH vs ls l d h e Q k=>by
 unfold HA at e;split at e
 ·cases e;obtain⟨v,w,f1,f,rfl,a,b,rfl⟩:=h.two_inv;exact⟨_,_,by rw[a.int_inv.1,b.int_inv.1],k _ H [] (Same.refl H) (Is.int _) λp c=>by simp at c⟩
 ·cases e
theorem Ah:RC K (λxs H Q=>(∃i,xs=[.int i]/\Q (.int i) H)\/∃k,xs=[.bl k]/\Q (.int (if k then 1 else 0)) H) Q7:=λH vs ls l c h e Q k=>by
 unfold Q7 at e;split at e
 ·cases e;obtain⟨v,rfl,a⟩:=h.one_inv;exact .inl ⟨_,by rw[a.int_inv.1],k _ H [] (Same.refl H) (Is.int _) λp b=>by simp at b⟩
 ·cases e;obtain⟨v,rfl,a⟩:=h.one_inv;exact .inr ⟨_,by rw[a.bl_inv.1],k _ H [] (Same.refl H) (Is.int _) λp b=>by simp at b⟩
 ·cases e
section
variable {X:Cx} {e:bH} {es:List bH} {fs:List XE} {p pos:dz}
noncomputable def tyP:PV->Option String
 | .int _=>ax "int"
 | .bl _=>ax "bool"
 | .tup _=>ax "tuple"
 | .lst _=>ax "list"
 | .str _=>ax "str"
 | _=>aA
noncomputable def VP:List PV->Option PV
 | [a,.ty t]=>(tyP a).bind λu=>if t=u then ax (.bl aC) else if u = "int"/\t = "bool" then ax (.bl aB) else aA
 | _=>aA
theorem OV:cu K (.type "bool") (.type "bool")=ax aC:=rfl
theorem Zdn{H:Hp}{a:PV}{u:String}{v:V}{f:List aL}(e:tyP a=ax u)(h:Is K H a v f):TyOf K H v (.type u)/\cu K (.type u) (.type u)=ax aC:=by
 cases a<;>first
  | exact nomatch (show aA=ax u from e)
  | cases e
 ·obtain⟨rfl,_⟩:=h.bl_inv;exact⟨TyOf.bl _,OV⟩
 ·obtain⟨rfl,_⟩:=h.int_inv;exact⟨TyOf.int _,L6⟩
 ·obtain⟨rfl,_⟩:=h.str_inv;exact⟨TyOf.str _,L8⟩
 ·obtain⟨q,xs,rfl,b,_⟩:=h.tup_inv;exact⟨TyOf.tup b,L7⟩
 ·obtain⟨q,xs,c,rfl,b,_⟩:=h.lst_inv;exact⟨TyOf.lst b,OT⟩
theorem Qn:RC K (λxs H Q=>∃x T t b,xs=[x,.ty T]/\TyOf K H x t/\cu K t (.type T)=ax b/\Q (.bl b) H) VP:=λH vs ls l m h e Q k=>by
 have c:∀b:Bool,l = .bl b->Q (.bl b) H:=λb z=>by subst z;exact k _ H [] (Same.refl H) (Is.bl _) λp g=>by simp at g
 unfold VP at e;split at e
 ·obtain⟨u,i,d⟩:=Zc e;obtain⟨v,w,f1,n,rfl,a,b,rfl⟩:=h.two_inv;obtain⟨f,j⟩:=Zdn i a;split at d
  ·rename_i z;subst z;cases d;exact⟨_,_,_,_,by rw[b.ty_inv.1],f,j,c _ rfl⟩
  ·split at d
   ·rename_i z;obtain⟨rfl,rfl⟩:=z;cases d;exact⟨_,_,_,_,by rw[b.ty_inv.1],f,Mh,c _ rfl⟩
   ·cases d
 ·cases e
theorem HB{x:ay}{n:String}(d:Gl X x)(c:X.mg x=aA)(b:c9 x=ax (.type n))(a:x≠"__name__":=by decide)(hd:(x==("__debug__" : ay))=aB:=by decide):VE X (.Name x pos) (eC (.ty n)):=
 EX (BC d c b (v:=.ty n) rfl a hd) λ_=>Is.ty n
end
end VL
namespace VL
open PySem PySem.Spec PyProof.Rows L2
variable {K:aF}
open Classical in
instance:DecidableEq PV:=λa b=>propDecidable (a=b)
noncomputable def Vq:Nat->PV->PV->Bool
 | _+1,.non,.non=>aC
 | _+1,.bl _,.bl _=>aC
 | _+1,.int _,.int _=>aC
 | _+1,.str _,.str _=>aC
 | n+1,.tup l,.tup m=>(l.zip m).all λz=>Vq n z.1 z.2
 | n+1,.lst l,.lst m=>(l.zip m).all λz=>Vq n z.1 z.2
 | _,_,_=>aB
theorem TU{d c:Type}{p:d×c->Bool}{a:d}{b:c}{l:List d}{m:List c}(h:((a::l).zip (b::m)).all p=aC):p (a,b)=aC/\(l.zip m).all p=aC:=by rw[cQ,gU,ao] at h;exact h
theorem Iss.inj'{n:Nat}{H:Hp}(c:∀a b v fa fb,Vq n a b=aC->Is K H a v fa->Is K H b v fb->a=b):∀{l m:List PV}{xs:List V}{fa fb:List aL},(l.zip m).all (λz=>Vq n z.1 z.2)=aC->Iss K H l xs fa->Iss K H m xs fb->l=m
 | [],m,xs,fa,fb,_,h,h'=>by
  simp only[Iss] at h;rw[h.1] at h';have:=h'.len
  cases m with
  | nil=>rfl
  | cons _ _=>simp at this
 | a::l,m,xs,fa,fb,hc,h,h'=>by
  obtain⟨x,r,f1,q,rfl,d,g,rfl⟩:=h.inv
  cases m with
  | nil=>have:=h'.len;simp at this
  | cons b m=>
   obtain⟨o,p,f,k,e,j,i,rfl⟩:=h'.inv;cases e;obtain⟨c1,c2⟩:=TU hc;rw[c a b x f1 f c1 d j,Iss.inj' c c2 g i]
theorem Is.inj'{H:Hp}:∀(n:Nat)(a b:PV)(v:V)(fa fb:List aL),Vq n a b=aC->Is K H a v fa->Is K H b v fb->a=b
 | 0,a,b,v,fa,fb,hc,_,_=>nomatch (show aB=aC from hc)
 | n+1,a,b,v,fa,fb,hc,ha,hb=>by
  cases a<;>cases b<;>first
   | exact nomatch (show aB=aC from hc)
   | skip
  ·rfl
  ·rw[ha.bl_inv.1] at hb;have:=hb.bl_inv.1;cases this;rfl
  ·rw[ha.int_inv.1] at hb;have:=hb.int_inv.1;cases this;rfl
  ·rw[ha.str_inv.1] at hb;have:=hb.str_inv.1;cases this;rfl
  ·obtain⟨p,xs,rfl,f,g⟩:=ha.tup_inv;obtain⟨j,h,e,c,d⟩:=hb.tup_inv;cases e;rw[f] at c;cases c;rw[Iss.inj' (Is.inj' n) hc g d]
  ·obtain⟨p,xs,k,rfl,f,g,_⟩:=ha.lst_inv;obtain⟨j,h,i,e,c,d,_⟩:=hb.lst_inv;cases e;rw[f] at c;cases c;rw[Iss.inj' (Is.inj' n) hc g d]
section
variable {X:Cx} {m3:List (aL×dI)} {σ:RZ} {H:Hp} {s:aM} {A:ba}
theorem JN{n:Nat}(i:∀a b x y fa fb u w,Vq n a b=aC->Is K H a x fa->Is K H b y fb->RelV x u->RelV y w->∃r,jP A s u w r/\(r=aC↔a=b)) :
  ∀{l m:List PV}{xs ys:List V}{fa fb:List aL}{us ws:List aI},(l.zip m).all (λz=>Vq n z.1 z.2)=aC->Iss K H l xs fa->Iss K H m ys fb->Vals xs us->Vals ys ws->
  ∃e:Nat->Bool,(∀j (c:j<us.length) (d:j<ws.length),jP A s us[j] ws[j] (e j))/\((aD (min us.length ws.length)).all e=aC↔l.take (min us.length ws.length)=m.take (min us.length ws.length))
 | [],m,xs,ys,fa,fb,us,ws,_,h,_,r,_=>by simp only[Iss] at h;obtain⟨rfl,_⟩:=h;cases r;exact⟨λ_=>aC,λj c=>by simp at c,by simp⟩
 | a::l,[],xs,ys,fa,fb,us,ws,_,_,h,_,r=>by simp only[Iss] at h;obtain⟨rfl,_⟩:=h;cases r;exact⟨λ_=>aC,λj c d=>by simp at d,by simp⟩
 | a::l,b::m,xs,ys,fa,fb,us,ws,hc,h,h',r,r'=>by
  obtain⟨x,F,f1,I,rfl,c,d,rfl⟩:=h.inv;obtain⟨y,G,o,E,rfl,D,C,rfl⟩:=h'.inv;obtain⟨c1,c2⟩:=TU hc
  cases r with
  | cons q v=>cases r' with
   | cons q' v'=>
    obtain⟨t,p,g⟩:=i a b x y f1 o _ _ c1 c D q q';obtain⟨e,B,f⟩:=JN i c2 d C v v';refine⟨λj=>match j with | 0=>t | k+1=>e k,λj c d=>?_,?_⟩
    ·cases j with
     | zero=>exact p
     | succ k=>exact B k (by simpa using c) (by simpa using d)
    ·simp only[bM,Nat.succ_min_succ,jQ,gU,jR,ao,List.take_succ_cons,j6];exact and_congr g f
theorem Iss.same'{l m:List PV}{xs e:List V}{f fb:List aL}{c d:List aI}(h:Iss K H l xs f)(h':Iss K H m e fb)(r:Vals xs c)(g:Vals e d) :
  (l.take (min c.length d.length)=m.take (min c.length d.length)/\c.length=d.length)↔l=m:=by
 have n:=h.len;have i:=h'.len;have j:=r.length;have k:=g.length;constructor
 ·rintro⟨a,b⟩;rw[b9 (by omega),b9 (by omega)] at a;exact a
 ·intro a;subst a;exact⟨rfl,by omega⟩
noncomputable def Zbh(A:ba)(s:aM)(u w:aI)(r:Bool):Prop:=SeqAt.RcAt A s u w r/\SeqAt.RcNeAt A s u w !r
theorem Q8(I:Inv X m3 σ H s):∀(n:Nat)(A:ba)(a b:PV)(x y:V)(v fb:List aL)(u w:aI),A.units+2*n+2<dc->Vq n a b=aC->Is K H a x v->Is K H b y fb->RelV x u->RelV y w->
  (∃r,jP A s u w r/\(r=aC↔a=b))/\∃r,Zbh A s u w r/\(r=aC↔a=b)
 | 0,A,a,b,x,y,v,fb,u,w,hu,hc,_,_,_,_=>nomatch (show aB=aC from hc)
 | n+1,A,a,b,x,y,v,fb,u,w,hu,hc,ha,hb,ru,Xa=>by
  cases a<;>cases b<;>first
   | exact nomatch (show aB=aC from hc)
   | skip
  ·rw[ha.non_inv.1] at ru;rw[hb.non_inv.1] at Xa;cases ru;cases Xa;exact⟨⟨aC,j7 _,by simp⟩,aC,⟨SeqAt.RcAt.none_none,SeqAt.RcNeAt.none_none⟩,by simp⟩
  ·rw[ha.bl_inv.1] at ru;rw[hb.bl_inv.1] at Xa;cases ru;cases Xa;exact⟨⟨_,jP.bool_bool _ _,by simp⟩,_,⟨SeqAt.RcAt.bool_bool _ _,SeqAt.RcNeAt.bool_bool _ _⟩,by simp⟩
  ·rw[ha.int_inv.1] at ru;rw[hb.int_inv.1] at Xa;obtain⟨t,rfl⟩:=ru;obtain⟨t',rfl⟩:=Xa;exact⟨⟨_,kW _ _ _ _,by simp⟩,_,⟨SeqAt.RcAt.int_int _ _ _ _,SeqAt.RcNeAt.int_int _ _ _ _⟩,by simp⟩
  ·rw[ha.str_inv.1] at ru;rw[hb.str_inv.1] at Xa;obtain⟨t,rfl⟩:=ru;obtain⟨t',rfl⟩:=Xa;exact⟨⟨_,jP.str_str _ _ _ _,by simp⟩,_,⟨SeqAt.RcAt.str_str _ _ _ _,SeqAt.RcNeAt.str_str _ _ _ _⟩,by simp⟩
  ·rename_i P N;obtain⟨p,xs,rfl,M,F⟩:=id ha.tup_inv;obtain⟨D,W,rfl,m,h⟩:=id hb.tup_inv;cases ru;cases Xa;obtain⟨B,G,q,_⟩:=I.tuple (SqT.of M);obtain⟨C,i,z,_⟩:=I.tuple (SqT.of m);obtain⟨f,E,k⟩:=JN (A:=A.in1) (λa b x y v fb u w c J Q L R=>(Q8 I n A.in1 a b x y v fb u w (by show A.units+1+2*n+2<dc;omega) c J Q L R).1) hc F h G i;have U:=SeqAt.RcAt.tuples (A:=A) (e:=f) (show s.heap.IsTuple p B.toArray from q) (show s.heap.IsTuple D C.toArray from z) (by omega) (λj l o=>E j (by simpa using l) (by simpa using o));have Y:=SeqAt.RcNeAt.tuples (A:=A) (e:=f) (show s.heap.IsTuple p B.toArray from q) (show s.heap.IsTuple D C.toArray from z) (by omega) (λj l o=>E j (by simpa using l) (by simpa using o));have g:(((aD (min B.toArray.size C.toArray.size)).all f&&B.toArray.size==C.toArray.size)=aC)↔PV.tup P=PV.tup N:=by simp only[aS,ao,beq_iff_eq,PV.tup.injEq];rw[k];exact Iss.same' F h G i
   refine⟨?_,_,⟨U,Y⟩,g⟩;by_cases e:p=D
   ·subst e;exact⟨aC,j7 _,by simp[Is.inj' (n+1) _ _ _ _ _ hc ha hb]⟩
   ·exact⟨_,kX e U,g⟩
  ·rename_i P N;obtain⟨p,xs,fq,rfl,M,F,_⟩:=id ha.lst_inv;obtain⟨D,W,Z,rfl,m,h,_⟩:=id hb.lst_inv;cases ru;cases Xa;obtain⟨B,G,q,_⟩:=I.list (SqL.of M);obtain⟨C,i,z,_⟩:=I.list (SqL.of m);obtain⟨f,E,k⟩:=JN (A:=A.in1) (λa b x y v fb u w c J Q L R=>(Q8 I n A.in1 a b x y v fb u w (by show A.units+1+2*n+2<dc;omega) c J Q L R).1) hc F h G i
   have O:∃r,Zbh A s (.ref p) (.ref D) r/\(r=aC↔PV.lst P=PV.lst N):=by
    have g:=Iss.same' F h G i;by_cases d:B.length=C.length
    ·refine⟨_,⟨SeqAt.RcAt.lists (e:=f) q.isList z.isList (by simpa using d) (by omega) (λj l o=>E j (by simpa using l) (by simpa using o)),SeqAt.RcNeAt.lists (e:=f) q.isList z.isList (by simpa using d) (by omega) (λj l o=>E j (by simpa using l) (by simpa using o))⟩,?_⟩;rw[d,Nat.min_self] at k g;simp only[aS,PV.lst.injEq];rw[d,k,<-g];simp
    ·refine⟨aB,⟨SeqAt.RcAt.lists_lengths q.isList z.isList (by simpa using d) (by omega),SeqAt.RcNeAt.lists_lengths q.isList z.isList (by simpa using d) (by omega)⟩,?_⟩;rw[PV.lst.injEq,<-g];simp[d]
   obtain⟨r,S,T⟩:=O;refine⟨?_,r,S,T⟩;by_cases e:p=D
   ·subst e;exact⟨aC,j7 _,by simp[Is.inj' (n+1) _ _ _ _ _ hc ha hb]⟩
   ·exact⟨r,kX e S.1,T⟩
end
noncomputable def Zdo(K:aF)(neg:Bool):R2:=λx y H Q=>∃a b fa fb,Is K H a x fa/\Is K H b y fb/\Vq 8 a b=aC/\∀r:Bool,(r=aC↔a=b)->Q (.bl (if neg then !r else r)) H
section
variable {X:Cx}
theorem Dg(m:X.A.units+64<dc):U6 X (dY .Eq) (Zdo X.K aB):=by intro l s n H x y v u Q I j c h;obtain⟨a,b,g,fb,k,e,f,q⟩:=h;obtain⟨_,r,d,i⟩:=Q8 I 8 X.A a b x y g fb v u (by omega) f k e j c;exact d.1 X.prog X.w X.xe _ ⟨.bl r,H,I,rfl,q r i⟩
theorem Zdp(m:X.A.units+64<dc):U6 X (dY .NotEq) (Zdo X.K aC):=by intro l s n H x y v u Q I j c h;obtain⟨a,b,g,fb,k,e,f,q⟩:=h;obtain⟨_,r,d,i⟩:=Q8 I 8 X.A a b x y g fb v u (by omega) f k e j c;exact d.2 X.prog X.w X.xe _ ⟨.bl !r,H,I,rfl,q r i⟩
end
noncomputable def WU(neg:Bool):PV->PV->Option PV:=λa b=>if Vq 8 a b=aC then ax (.bl (if neg then !decide (a=b) else decide (a=b))) else aA
theorem JO(c:Bool):RB K (Zdo K c) (WU c):=λH x y a b l h fb i g e Q k=>by
 unfold WU at e;split at e
 ·cases e;refine⟨a,b,h,fb,i,g,by assumption,λr d=>?_⟩
  have:r=decide (a=b):=by
   cases r with
   | true=>exact(decide_eq_true (d.mp rfl)).symm
   | false=>exact(decide_eq_false λz=>bN (d.mpr z)).symm
  subst this;exact k _ H [] (Same.refl H) (Is.bl _) λp f=>by simp at f
 ·cases e
noncomputable def Zdq(K:aF)(neg:Bool):R2:=λx y H Q=>∃a b m fa fb,Is K H a x fa/\Is K H b y fb/\R3 b=ax m/\(m.all λz=>Vq 8 z a)=aC/\∀r:Bool,(r=aC↔a∈m)->Q (.bl (if neg then !r else r)) H
section
variable {X:Cx} {m3:List (aL×dI)} {σ:RZ} {H:Hp} {s:aM}
theorem Qo{a:PV}{x:V}{q:List aL}{u:aI}{A:ba}(I:Inv X m3 σ H s)(W:A.units+18<dc)(Q:Is K H a x q)(O:RelV x u):∀{m:List PV}{xs:List V}{fb:List aL}{i:List aI},(m.all λz=>Vq 8 z a)=aC->Iss K H m xs fb->Vals xs i->
  ∃e:aI->Bool,(∀y∈i,jP A s y u (e y))/\(i.any e=aC↔a∈m):=λ{m xs fb i} J h r=>by
 -- c one's answer
 have c:∀y∈i,∃t:Bool,jP A s y u t/\(t=aC↔∃b,b∈m/\b=a/\∃z f,Is K H b z f/\RelV z y):=λy d=>by obtain⟨j,o,e⟩:=gX.mp d;have Y:=r.length;have l:xs[j]?=ax xs[j]:=aH (by omega);obtain⟨b,f,n,p,_⟩:=h.get' l;obtain⟨w,v,Xa⟩:=r.get l;rw[aH o] at v;cases v;rw[e] at Xa;have k:=bK n;have B:=au.mp J b k;obtain⟨⟨t,G,M⟩,_⟩:=Q8 I 8 A b a xs[j] x f q y u (by omega) B p Q Xa O;refine⟨t,G,M.trans ⟨λz=>⟨b,k,z,xs[j],f,p,Xa⟩,λ⟨L,S,T,z,U,E,P⟩=>?_⟩⟩;have N:=P.inj Xa;subst N;subst T;exact Is.inj' 8 b L _ _ _ B p E
 classical
 refine⟨λy=>if d:y∈i then(c y d).choose else aB,λy d=>?_,?_⟩
 ·simp only[dif_pos d];exact(c y d).choose_spec.1
 ·rw[gM];constructor
  ·rintro⟨y,d,e⟩;rw[dif_pos d] at e;obtain⟨b,n,rfl,_⟩:=(c y d).choose_spec.2.mp e;exact n
  ·intro C;obtain⟨j,o,e⟩:=gX.mp C;obtain⟨z,f,R,F,_⟩:=h.get (aH o);obtain⟨y,d,D⟩:=r.get R;have g:=bK d;refine⟨y,g,?_⟩;rw[dif_pos g];exact(c y g).choose_spec.2.mpr ⟨a,C,rfl,z,f,e▸F,D⟩
end
section
variable {X:Cx}
theorem Dh(E:X.A.units+64<dc):U6 X (dY .In) (Zdq X.K aB):=by
 intro D s F H x y v u Q I l z h;obtain⟨a,b,m,G,fb,o,B,C,k,q⟩:=h;obtain⟨p,xs,J,rfl,c,n,_⟩:=Vp B C;cases z;rcases c with c | c
 ·obtain⟨d,f,t,_⟩:=I.list c;obtain⟨e,i,g⟩:=Qo (A:=X.A.in1) I (by show X.A.units+1+18<dc;omega) o l k n f;refine SeqAt.in_listAt e t.isList (λw j=>i w (by simpa using j)) ⟨.bl _,H,I,rfl,?_⟩;rw[show d.toArray.any e=d.any e by simp];exact q _ g
 ·obtain⟨d,f,t,_⟩:=I.tuple c;obtain⟨e,i,g⟩:=Qo (A:=X.A.in1) I (by show X.A.units+1+18<dc;omega) o l k n f;refine SeqAt.in_tupleAt e t (λw j=>i w (by simpa using j)) ⟨.bl _,H,I,rfl,?_⟩;rw[show d.toArray.any e=d.any e by simp];exact q _ g
theorem Fi(E:X.A.units+64<dc):U6 X (dY .NotIn) (Zdq X.K aC):=by
 intro D s F H x y v u Q I l z h;obtain⟨a,b,m,G,fb,o,B,C,k,q⟩:=h;obtain⟨p,xs,J,rfl,c,n,_⟩:=Vp B C;cases z;rcases c with c | c
 ·obtain⟨d,f,t,_⟩:=I.list c;obtain⟨e,i,g⟩:=Qo (A:=X.A.in1) I (by show X.A.units+1+18<dc;omega) o l k n f;refine SeqAt.notIn_listAt e t.isList (λw j=>i w (by simpa using j)) ⟨.bl _,H,I,rfl,?_⟩;rw[show d.toArray.any e=d.any e by simp];exact q _ g
 ·obtain⟨d,f,t,_⟩:=I.tuple c;obtain⟨e,i,g⟩:=Qo (A:=X.A.in1) I (by show X.A.units+1+18<dc;omega) o l k n f;refine SeqAt.notIn_tupleAt e t (λw j=>i w (by simpa using j)) ⟨.bl _,H,I,rfl,?_⟩;rw[show d.toArray.any e=d.any e by simp];exact q _ g
end
noncomputable def Qp(neg:Bool):PV->PV->Option PV:=λa b=>(R3 b).bind λm=>if(m.all λz=>Vq 8 z a)=aC then ax (.bl (if neg then !decide (a∈m) else decide (a∈m))) else aA
theorem JP(c:Bool):RB K (Zdq K c) (Qp c):=λH x y a b l h fb i g e Q k=>by
 obtain⟨m,j,e⟩:=Zc e;split at e
 ·cases e;refine⟨a,b,m,h,fb,i,g,j,by assumption,λr d=>?_⟩
  have:r=decide (a∈m):=by
   cases r with
   | true=>exact(decide_eq_true (d.mp rfl)).symm
   | false=>exact(decide_eq_false λz=>bN (d.mpr z)).symm
  subst this;exact k _ H [] (Same.refl H) (Is.bl _) λp f=>by simp at f
 ·cases e
end VL
namespace VL
open PySem PySem.Spec PyProof.Rows L2
variable {K:aF}
mutual
theorem Is.dom{H:Hp}:∀(l:PV)(v:V)(fp:List aL),Is K H l v fp->∀p∈fp,H p≠aA
 | .non,_,_,h=>by simp only[Is] at h;rw[h.2];simp
 | .bl _,_,_,h=>by simp only[Is] at h;rw[h.2];simp
 | .int _,_,_,h=>by simp only[Is] at h;rw[h.2];simp
 | .str _,_,_,h=>by simp only[Is] at h;rw[h.2];simp
 | .ty _,_,_,h=>by simp only[Is] at h;rw[h.2];simp
 | .exc _,_,_,h=>by simp only[Is] at h;rw[h.2];simp
 | .exf _ _,_,_,h=>by simp only[Is] at h;rw[h.2];simp
 | .clo L l,v,fp,h=>by simp only[Is] at h;obtain⟨u,x,_,_,a⟩:=h;exact Is.dom l x fp a
 | .tup l,v,fp,h=>by obtain⟨p,xs,_,_,a⟩:=h.tup_inv;exact Iss.dom l xs fp a
 | .lst l,v,fp,h=>by
  obtain⟨p,xs,c,_,d,a,rfl⟩:=h.lst_inv;intro q b;rcases aa.mp b with rfl | b
  ·rw[d];simp
  ·exact Iss.dom l xs c a q b
 | .cst l,v,fp,h=>by obtain⟨p,xs,_,_,a⟩:=h.cst_inv;exact Iss.dom l xs fp a
 | .dK ks l,v,fp,h=>by
  obtain⟨p,f,c,_,d,_,a,rfl⟩:=h.dK_inv;intro q b;rcases aa.mp b with rfl | b
  ·rcases d with e | ⟨o,e⟩<;>rw[e]<;>simp
  ·exact Iss.dom l _ c a q b
 | .dT ks l,v,fp,h=>by
  obtain⟨p,f,c,_,d,_,a,rfl⟩:=h.dT_inv;intro q b;rcases aa.mp b with rfl | b
  ·rcases d with e | ⟨o,e⟩<;>rw[e]<;>simp
  ·exact Iss.dom l _ c a q b
theorem Iss.dom{H:Hp}:∀(l:List PV)(xs:List V)(fp:List aL),Iss K H l xs fp->∀p∈fp,H p≠aA
 | [],_,_,h=>by simp only[Iss] at h;rw[h.2];simp
 | l::ls,xs,fp,h=>by
  obtain⟨x,r,f1,d,_,b,c,rfl⟩:=h.inv;intro q a;rcases ak.mp a with a | a
  ·exact Is.dom l x f1 b q a
  ·exact Iss.dom ls r d c q a
end
noncomputable def Ab(Rm:aL->Prop)(H H':Hp):Prop:=∀b o,H b=ax o->¬Rm b->H' b=ax o
theorem Same.ab{c:aL->Prop}{H a:Hp}(s:Same H a):Ab c H a:=λb o h _=>s b o h
theorem Ab.tk{c:aL->Prop}{H d:Hp}(a:Ab c H d)(hd:∀p,c p->VZ (H p)):TK2 H d:=⟨λb xs h=>a b _ h λz=>by
 have:=hd b z
 rw[h] at this;exact this,λb o xs h=>a b _ h λz=>by
 have:=hd b z
 rw[h] at this;exact this,λb o x h=>a b _ h λz=>by
 have:=hd b z;rw[h] at this;exact this⟩
theorem Is.ab{c:aL->Prop}{H d:Hp}(a:Ab c H d)(hd:∀p,c p->VZ (H p)){l:PV}{v:V}{b:List aL}(n:∀p∈b,¬c p)(h:Is K H l v b):Is K d l v b:=
 Is.tr (a.tk hd) l v b (λp e=>RdK.of λo q=>a p o q (n p e)) h
structure JIs(K:aF)(Rm:aL->Prop)(H1:Hp)(J:It)(ls:List PV):Prop where
 stop:∀H',Ab Rm H1 H'->J.stop ls.length H'
 go:∀H' (i:Nat) l,Ab Rm H1 H'->ls[i]?=ax l->J.go i H'
 yld:∀H' (i:Nat) l x H'',Ab Rm H1 H'->ls[i]?=ax l->J.yld i H' x H''->Same H' H''/\∃fp,Is K H'' l x fp/\∀p∈fp,H1 p≠aA/\¬Rm p
abbrev XL:=ZE->Option (List PV)
noncomputable def iF(K:aF)(f:XL):TI:=λσ H R=>∃(Rm:aL->Prop) (s:ZE) (ls:List PV),(∀p,Rm p->VZ (H p))/\EnvIs K Rm H s σ/\f s=ax ls/\∀J H1,Same H H1->JIs K Rm H1 J ls->R J H1
noncomputable def VI(X:Cx)(tg e:bH)(f:XL):Prop:=PI X tg e (iF X.K f)
section
variable {X:Cx} {tg e:bH} {es:List bH}
theorem PI.imp{t t':TI}(h:PI X tg e t)(i:∀a H R,t' a H R->t a H R):PI X tg e t':=λb s a H R I q=>h b s a H R I (i a H R q)
noncomputable def asS:PV->Option (List PV)
 | .lst m=>ax m
 | .cst m=>ax m
 | _=>aA
noncomputable def YY(f:XE):XL:=λs=>(f s).bind asS
noncomputable def OW(f:XE):XL:=λs=>match f s with | some (.tup m)=>ax m | _=>aA
theorem Di{a:PV}{m:List PV}(h:asS a=ax m):a = .lst m\/a = .cst m:=by
 unfold asS at h;split at h
 ·cases h;exact .inl rfl
 ·cases h;exact .inr rfl
 ·cases h
theorem Fj{f:XE}{s:ZE}{m:List PV}(h:OW f s=ax m):f s=ax (.tup m):=by
 unfold OW at h;split at h
 ·cases h;assumption
 ·cases h
theorem Yg{f:XE}(h:VE X e f):VI X tg e (YY f):=PI.imp (BH h) λI H R ⟨A,s,ls,hd,env,e,k⟩=>by
 obtain⟨l,E,G⟩:=Zc e;refine⟨A,s,l,hd,env,E,λv m C s1 z B=>?_⟩;have n:=λp b=>Same.mut s1 (hd p b)
 have d:∀a xs t,v = .ref a->SqL X.K m a xs->(∀c,Ab A m c->SqL X.K c a xs)->Iss X.K m ls xs t->(∀p∈t,p∈C)->∃a,v = .ref a/\(∃xs,SqL X.K m a xs)/\R (Itl X.K a) m:=by
  rintro a xs t rfl j keep g sub;refine⟨a,rfl,⟨xs,j⟩,k _ m s1 ⟨λc ab=>⟨xs,keep c ab,by rw[g.len];exact aX _⟩,λc i l ab u=>?_,λc i l x F ab u y=>?_⟩⟩
  ·obtain⟨x,f1,w,_,_⟩:=g.get u;exact⟨xs,x,keep c ab,w⟩
  ·obtain⟨rfl,y⟩:=y;obtain⟨J,f1,w,D,q⟩:=g.get u;have:=y xs (keep _ ab);rw[w] at this;cases this;have o:=λp b=>B p (sub p (q p b));exact⟨Same.refl _,f1,D.ab ab n o,λp b=>⟨Is.dom _ _ _ D p b,o p b⟩⟩
 rcases Di G with rfl | rfl
 ·obtain⟨a,xs,t,rfl,j,g,rfl⟩:=z.lst_inv;exact d a xs t rfl (SqL.of j) (λc ab=>SqL.of (ab a _ j (B a ag))) g λp b=>aQ _ b
 ·obtain⟨a,xs,rfl,j,g⟩:=z.cst_inv;exact d a xs C rfl j.sq (λc ab=>(j.tr (ab.tk n)).sq) g λp b=>b
theorem JQ{f:XE}(h:VE X e f):VI X tg e (OW f):=PI.imp (Zck h) λB H R ⟨o,s,ls,hd,env,e,k⟩=>by
 refine⟨o,s,.tup ls,hd,env,Fj e,λv q D s1 w A=>?_⟩;obtain⟨a,xs,rfl,t,m⟩:=w.tup_inv;have d:=λp c=>Same.mut s1 (hd p c);have keep:∀b,Ab o q b->SqT X.K b a xs:=λb ab=>SqT.of ((ab.tk d).tup a xs t);refine⟨a,rfl,⟨xs,SqT.of t⟩,k _ q s1 ⟨λb ab=>⟨xs,keep b ab,by rw[m.len];exact aX _⟩,λb i l ab j=>?_,λb i l x z ab j y=>?_⟩⟩
 ·obtain⟨x,f1,n,_,_⟩:=m.get j;exact⟨xs,x,keep b ab,n⟩
 ·obtain⟨rfl,y⟩:=y;obtain⟨C,f1,n,u,sub⟩:=m.get j;have:=y xs (keep _ ab);rw[n] at this;cases this;have g:=λp c=>A p (sub p c);exact⟨Same.refl _,f1,u.ab ab d g,λp c=>⟨Is.dom _ _ _ u p c,g p c⟩⟩
noncomputable def Mv(n:Nat):List PV:=(aD n).map λ(i:Nat)=>PV.int (i:Int)
noncomputable def Te(lo:Int)(n:Nat):List PV:=(aD n).map λ(i:Nat)=>PV.int (lo+(i:Int))
noncomputable def Z1(fs:List XE):XL:=λs=>match Qm fs s with | some [.int j]=>if -1000000<=j/\j<=1000000 then ax (Mv j.toNat) else aA | _=>aA
noncomputable def W5(fs:List XE):XL:=λs=>match Qm fs s with | some [.int i,.int j]=>if -1000000<=i/\i<=1000000/\-1000000<=j/\j<=1000000 then ax (Te i (j-i).toNat) else aA | _=>aA
theorem HC{d:aL->Prop}{e:Hp}(lo:Int)(n:Nat):JIs K d e (Itr lo n) (Te lo n):=by
 refine⟨λc _=>by unfold Te;rw[aK,bw];exact aX n,λc i l _ a=>?_,λc i l x f _ a y=>?_⟩
 ·have:=(aO.mp a).1;unfold Te at this;rw[aK,bw] at this;exact this
 ·obtain⟨rfl,rfl⟩:=y;have b:=(aO.mp a).1;unfold Te at b a;rw[aK,bw] at b;rw[aW,br b] at a;cases a;exact⟨Same.refl _,[],Is.int _,λp g=>by simp at g⟩
theorem Ai(n:Nat):Mv n=Te 0 n:=by apply ar;intro i _;rw[Int.zero_add]
theorem Fl{a:bH}{fs:List XE}{p pos:dz}(f:Gl X "range")(m:X.mg "range" = aA)(h:VA X [a] fs)(g:aR [a] X.env=[(aB,eval a X.env)]:=by rfl):VI X tg (.Call (.Name "range" p) [a] [] pos) (Z1 fs):=
 PI.imp (GW f m h g) λo H R ⟨c,s,ls,hd,env,e,k⟩=>by
 unfold Z1 at e;split at e
 ·split at e
  ·cases e;rename_i j l n;refine⟨c,s,_,hd,env,l,λvs d q s1 b _=>?_⟩;obtain⟨v,rfl,i⟩:=b.one_inv;refine⟨j,by rw[i.int_inv.1],by omega,by omega,k _ d s1 ?_⟩;rw[Ai];exact HC _ _
  ·cases e
 ·cases e
theorem Fm{a b:bH}{fs:List XE}{p pos:dz}(h:Gl X "range")(t:X.mg "range" = aA)(o:VA X [a,b] fs)(n:aR [a,b] X.env=[(aB,eval a X.env),(aB,eval b X.env)]:=by rfl)(c:aR [b] X.env=[(aB,eval b X.env)]:=by rfl):VI X tg (.Call (.Name "range" p) [a,b] [] pos) (W5 fs):=
 PI.imp (GX h t o n c) λx H R ⟨f,s,ls,hd,env,e,k⟩=>by
 unfold W5 at e;split at e
 ·split at e
  ·cases e;rename_i i j q u;refine⟨f,s,_,hd,env,q,λvs g y s1 d _=>?_⟩;obtain⟨v,w,f1,z,rfl,l,m,_⟩:=d.two_inv;exact⟨i,j,by rw[l.int_inv.1,m.int_inv.1],⟨by omega,by omega,by omega,by omega⟩,k _ g s1 (HC _ _)⟩
  ·cases e
 ·cases e
noncomputable def Y5(m:List PV):List PV:=m.zipIdx.map λz=>.tup [.int (z.2:Nat),z.1]
noncomputable def SN(m n:List PV):List PV:=(m.zip n).map λz=>.tup [z.1,z.2]
theorem Nw{m:List PV}{i:Nat}{l:PV}(h:(Y5 m)[i]?=ax l):∃a,m[i]?=ax a/\l = .tup [.int (i:Nat),a]:=by
 unfold Y5 at h;rw[aW,List.getElem?_zipIdx] at h
 cases q:m[i]? with
 | none=>rw[q] at h;cases h
 | some a=>rw[q] at h;cases h;exact⟨a,rfl,by simp⟩
theorem X5(m:List PV):(Y5 m).length=m.length:=by unfold Y5;rw[aK,List.length_zipIdx]
theorem Kf{m n:List PV}{i:Nat}{l:PV}(h:(SN m n)[i]?=ax l):∃a b,m[i]?=ax a/\n[i]?=ax b/\l = .tup [a,b]:=by
 unfold SN at h;rw[aW] at h
 cases q:(m.zip n)[i]? with
 | none=>rw[q] at h;cases h
 | some z=>
  rw[q] at h;cases h;obtain⟨d,c⟩:=iH.mp q;exact⟨z.1,z.2,d,c,rfl⟩
theorem Kg(m n:List PV):(SN m n).length=min m.length n.length:=by unfold SN;rw[aK,List.length_zip]
noncomputable def seqB:Bool->PV->Option (List PV)
 | true,.lst l=>ax l
 | true,.cst l=>ax l
 | false,.tup l=>ax l
 | _,_=>aA
theorem Mw{H:Hp}{b:Bool}{l:PV}{v:V}{g:List aL}{m:List PV}(h:Is K H l v g)(e:seqB b l=ax m):∃p xs j,v = .ref p/\Iss K H m xs j/\(∀q∈j,q∈g)/\∀(a:aL->Prop) d,Ab a H d->(∀p,a p->VZ (H p))->(∀p∈g,¬a p)->OM b K d p xs:=by
 cases b with
 | true=>cases l with
  | lst l=>
   cases e;obtain⟨p,xs,j,rfl,c,f,rfl⟩:=h.lst_inv;exact⟨p,xs,j,rfl,f,λq i=>aQ _ i,λa d ab _ n=>SqL.of (ab p _ c (n p ag))⟩
  | cst l=>
   cases e;obtain⟨p,xs,rfl,c,f⟩:=h.cst_inv;exact⟨p,xs,g,rfl,f,λq i=>i,λa d ab hd _=>(c.tr (ab.tk hd)).sq⟩
  | _=>cases e
 | false=>cases l with
  | tup l=>
   cases e;obtain⟨p,xs,rfl,c,f⟩:=h.tup_inv;exact⟨p,xs,g,rfl,f,λq i=>i,λa d ab hd _=>SqT.of ((ab.tk hd).tup p xs c)⟩
  | _=>cases e
noncomputable def YV(b:Bool)(fs:List XE):XL:=λs=>match Qm fs s with | some [l]=>(seqB b l).map Y5 | _=>aA
noncomputable def OX(b1 b2:Bool)(fs:List XE):XL:=λs=>match Qm fs s with | some [l,r]=>(seqB b1 l).bind λm=>(seqB b2 r).map λn=>SN m n | _=>aA
theorem Xe{j:List bH}{k:Nat}{g:dz}(b:Bool){a:bH}{fs:List XE}{p pos:dz}(J:Gl X "enumerate")(Q:X.mg "enumerate" = aA)(N:VA X [a] fs)(M:aR [a] X.env=[(aB,eval a X.env)]:=by rfl) :
  VI X (.Tuple j k g) (.Call (.Name "enumerate" p) [a] [] pos) (YV b fs):=PI.imp (B4 b J Q N M) λS H R ⟨D,s,ls,hd,env,e,k⟩=>by
 unfold YV at e;split at e
 ·rename_i l O;obtain⟨m,I,rfl⟩:=map_some e;refine⟨D,s,_,hd,env,O,λvs t W s1 G E=>?_⟩;obtain⟨v,rfl,i⟩:=G.one_inv;have h:=λp d=>Same.mut s1 (hd p d);obtain⟨a,xs,U,rfl,A,sub,keep⟩:=Mw i I;have o:=λf ab=>keep D f ab h E;refine⟨a,rfl,⟨xs,o t (Same.ab (Same.refl t))⟩,k _ t s1 ⟨λf ab=>⟨xs,o f ab,by rw[X5,A.len]⟩,λf i l ab u=>?_,λf i l x L ab u y=>?_⟩⟩
  ·obtain⟨c,w,rfl⟩:=Nw u;obtain⟨x,f1,B,_,_⟩:=A.get w;exact⟨xs,x,o f ab,B⟩
  ·obtain⟨c,w,rfl⟩:=Nw u;obtain⟨T,f1,B,F,P⟩:=A.get w;obtain⟨q,z,C,rfl,rfl,y⟩:=y;have:=y xs (o _ ab);rw[B] at this;cases this;have n:=λp d=>E p (sub p (P p d));refine⟨Same.new C _,f1,Is.tup Zi ?_,λp d=>⟨Is.dom _ _ _ F p d,n p d⟩⟩;exact Iss.cons (Is.int _) (Iss.one ((F.ab ab h n).mono (Same.new C _)))
 ·cases e
theorem Mx{C:List bH}{k:Nat}{E:dz}(b1 b2:Bool){a b:bH}{fs:List XE}{p pos:dz}(hg:Gl X "zip")(hm:X.mg "zip" = aA)(ha:VA X [a,b] fs)
  (hs:aR [a,b] X.env=[(aB,eval a X.env),(aB,eval b X.env)]:=by rfl) (U:aR [b] X.env=[(aB,eval b X.env)]:=by rfl) :
  VI X (.Tuple C k E) (.Call (.Name "zip" p) [a,b] [] pos) (OX b1 b2 fs):=PI.imp (Zdc b1 b2 hg hm ha hs U) λσ H R ⟨M,s,ls,hd,env,e,k⟩=>by
 unfold OX at e;split at e
 ·rename_i l r he;obtain⟨m,e1,e⟩:=Zc e;obtain⟨n,e2,rfl⟩:=map_some e;refine⟨M,s,_,hd,env,he,λvs F fp s1 i1 Y=>?_⟩;obtain⟨v,w,g1,g2,rfl,iv,iw,rfl⟩:=i1.two_inv;have h:=λp f=>Same.mut s1 (hd p f);have u:=λp f=>Y p (bC _ f);have D:=λp f=>Y p (aq _ f);obtain⟨a1,xs,fq,rfl,T,sub,keep⟩:=Mw iv e1;obtain⟨a2,I,fr,rfl,O,B,t⟩:=Mw iw e2;have J:=λg ab=>keep M g ab h u;have j:=λg ab=>t M g ab h D;refine⟨a1,a2,rfl,⟨xs,J F (Same.ab (Same.refl F))⟩,⟨I,j F (Same.ab (Same.refl F))⟩,k _ F s1 ⟨λg ab=>⟨xs,I,J g ab,j g ab,?_⟩,λg i l ab P=>?_,λg i l x H'' ab P y=>?_⟩⟩
  ·rw[Kg,T.len,O.len];omega
  ·obtain⟨c,d,Q,o,rfl⟩:=Kf P;obtain⟨x,f1,L,_,_⟩:=T.get Q;obtain⟨y,Z,S,_,_⟩:=O.get o;exact⟨xs,I,x,y,J g ab,j g ab,L,S⟩
  ·obtain⟨c,d,Q,o,rfl⟩:=Kf P;obtain⟨x',f1,L,ix,sb⟩:=T.get Q;obtain⟨y',Z,S,iy,W⟩:=O.get o;obtain⟨q,z,z',N,rfl,rfl,y1,y2⟩:=y;have:=y1 xs (J _ ab);rw[L] at this;cases this;have:=y2 I (j _ ab);rw[S] at this;cases this;have A:=λp f=>u p (sub p (sb p f));have G:=λp f=>D p (B p (W p f));refine⟨Same.new N _,f1++Z,Is.tup Zi ?_,λp f=>?_⟩
   ·exact Iss.cons ((ix.ab ab h A).mono (Same.new N _)) (Iss.one ((iy.ab ab h G).mono (Same.new N _)))
   ·rcases ak.mp f with f | f
    ·exact⟨Is.dom _ _ _ ix p f,A p f⟩
    ·exact⟨Is.dom _ _ _ iy p f,G p f⟩
 ·cases e
end
inductive Tgt where
 | one (i:Nat) | many (is:List Nat)
noncomputable def Tgt.slots:Tgt->List Nat
 | .one i=>[i]
 | .many is=>is
noncomputable def setAll:List Nat->List PV->ZE->ZE
 | i::is,l::ls,s=>setAll is ls (s.set i (ax l))
 | _,_,s=>s
noncomputable def YM:List Nat->List V->RZ->RZ
 | i::is,l::ls,s=>YM is ls (s.set i (ax l))
 | _,_,s=>s
noncomputable def Xf:Tgt->PV->ZE->Option ZE
 | .one i,l,s=>ax (s.set i (ax l))
 | .many is,.tup ls,s=>if ls.length=is.length then ax (setAll is ls s) else aA
 | _,_,_=>aA
noncomputable def JR:List Nat->TGs
 | []=>Zfq
 | i::is=>Za4 (TB i) (JR is)
noncomputable def gT(K:aF):Tgt->TG
 | .one i=>TB i
 | .many is=>Zfr K is.length (JR is)
theorem Q9:∀{is:List Nat}{vs:List V}{σ:RZ}{H:Hp}{Q:RZ->Hp->Prop},vs.length=is.length->Q (YM is vs σ) H->JR is vs σ H Q
 | [],[],_,_,_,_,q=>⟨rfl,q⟩
 | [],_::_,_,_,_,h,_=>by simp at h
 | _::_,[],_,_,_,h,_=>by simp at h
 | i::is,v::vs,σ,H,Q,h,q=>⟨v,vs,rfl,Q9 (is:=is) (vs:=vs) (by simpa using h) q⟩
theorem JS{T:Tgt}{l:PV}{v:V}{b:List aL}{s d:ZE}{H:Hp}(h:Is K H l v b)(e:Xf T l s=ax d) :
  ∃ls vs fs,d=setAll T.slots ls s/\Iss K H ls vs fs/\ls.length=T.slots.length/\(∀p∈fs,p∈b)/\∀c (Q:RZ->Hp->Prop),Q (YM T.slots vs c) H->gT K T v c H Q:=by
 cases T with
 | one i=>
  cases e;exact⟨[l],[v],b,rfl,Iss.one h,rfl,λp a=>a,λc Q q=>q⟩
 | many is=>
  cases l with
  | tup ls=>
   have e:(if ls.length=is.length then ax (VL.setAll is ls s) else aA)=ax d:=e;split at e
   ·cases e;obtain⟨p,xs,rfl,a,f⟩:=h.tup_inv;exact⟨ls,xs,b,rfl,f,by assumption,λp a=>a,λc Q q=>⟨p,xs,rfl,SqT.of a,by rw[f.len];assumption,Q9 (by rw[f.len];assumption) q⟩⟩
   ·cases e
  | _=>cases e
theorem Vr:∀{is:List Nat}{vs:List V}{σ:RZ}{n:Nat},(∀i∈is,i<n)->(YM is vs σ).drop n=σ.drop n
 | [],_,_,_,_=>rfl
 | _::_,[],_,_,_=>rfl
 | i::is,v::vs,σ,n,h=>by show(YM is vs (σ.set i (ax v))).drop n=_;rw[Vr (λj a=>h j (aQ _ a))];have:=h i ag;rw[List.drop_set,m7 this]
theorem EnvIs.set{b:aL->Prop}{H:Hp}{s:ZE}{d:RZ}{i:Nat}{l:PV}{v:V}{g:List aL}(h:EnvIs K b H s d)(t:s.length=d.length)(m:Is K H l v g)(n:∀p∈g,¬b p):EnvIs K b H (s.set i (ax l)) (d.set i (ax v)):=⟨λj a e=>by
 rw[bQ] at e;by_cases c:i=j
 ·subst c;rw[m7 rfl] at e;split at e
  ·cases e;exact⟨v,g,by rw[bQ,m7 rfl,m7 (by omega)],m,n⟩
  ·cases e
 ·rw[m9 c] at e;obtain⟨w,f,q,k,o⟩:=h.is j a e;exact⟨w,f,by rw[bQ,m9 c];exact q,k,o⟩⟩
theorem EnvIs.setAll{a:aL->Prop}{H:Hp}:∀{is:List Nat}{ls:List PV}{vs:List V}{fs:List aL}{s:ZE}{σ:RZ},EnvIs K a H s σ->s.length=σ.length->Iss K H ls vs fs->(∀p∈fs,¬a p)->EnvIs K a H (VL.setAll is ls s) (YM is vs σ)
 | [],_,_,_,_,_,h,_,_,_=>by unfold VL.setAll YM;exact h
 | i::is,[],vs,fs,s,σ,h,_,hi,_=>by simp only[Iss] at hi;rw[hi.1];exact h
 | i::is,l::ls,vs,fs,s,σ,h,hl,hi,n=>by obtain⟨x,r,f1,e,rfl,c,d,rfl⟩:=hi.inv;show EnvIs K a H (VL.setAll is ls (s.set i (ax l))) (YM is r (σ.set i (ax x)));exact EnvIs.setAll (h.set hl c λp b=>n p (bC _ b)) (by rw[cH,cH];exact hl) d λp b=>n p (aq _ b)
noncomputable def ZG(n:Nat)(ix:List Nat)(s:ZE):ZE:=aT n aA++ix.map (λi=>(s[i]?).join)
noncomputable def Ww(T:Tgt)(ft:XT)(fe:XE)(s0:ZE):List PV->Option (List PV)
 | []=>ax []
 | l::r=>(Xf T l s0).bind λs1=>(ft s1).bind λc=>if c=aC then(fe s1).bind λy=>(Ww T ft fe s0 r).map (y::·) else Ww T ft fe s0 r
noncomputable def Zu(n:Nat)(ix:List Nat)(fi:XL)(T:Tgt)(ft:XT)(fe:XE):XE:=λs=>(fi s).bind λls=>if ls.length<=10000 then(Ww T ft fe (ZG n ix s) ls).map .lst else aA
noncomputable def ZF:XT:=λ_=>ax aC
theorem Nx{d:Type}{o:Option (Option d)}{a:d}(h:o.join=ax a):o=ax (ax a):=by
 cases o with
 | none=>cases h
 | some b=>cases b with
  | none=>cases h
  | some c=>cases h;rfl
theorem EnvIs.comp{k:aL->Prop}{H:Hp}{s:ZE}{f:RZ}{n:Nat}{g:List Nat}(h:EnvIs K k H s f):EnvIs K k H (ZG n g s) (Z4 n g f):=⟨λi l e=>by
 unfold ZG at e;unfold Z4;by_cases d:i<n
 ·rw[ah (by simpa using d),bU,m7 d] at e;cases e
 ·rw[bA (by simpa using d),dO,aW] at e;rw[bA (by simpa using d),dO,aW]
  cases q:g[i-n]? with
  | none=>rw[q] at e;cases e
  | some j=>
   rw[q] at e;have e:=Nx (bJ e);obtain⟨v,m,a,b,c⟩:=h.is j l e;exact⟨v,m,by show ax ((f[j]?).join)=_;rw[a];rfl,b,c⟩⟩
theorem Kh(n:Nat)(a:List Nat)(s:ZE)(b:RZ):(ZG n a s).length=(Z4 n a b).length:=by unfold ZG Z4;simp
theorem Pa{T:Tgt}{b:XT}{a:XE}{e:ZE}{l:PV}{r f:List PV}(h:Ww T b a e (l::r)=ax f):∃s1 c,Xf T l e=ax s1/\b s1=ax c/\((c=aC/\∃y d,a s1=ax y/\Ww T b a e r=ax d/\f=y::d)\/(c=aB/\Ww T b a e r=ax f)):=by
 obtain⟨s1,k,h⟩:=Zc h;obtain⟨c,g,h⟩:=Zc h;refine⟨s1,c,k,g,?_⟩
 cases c with
 | true=>
  obtain⟨y,i,h⟩:=Zc h;obtain⟨d,j,rfl⟩:=map_some h;exact .inl ⟨rfl,y,d,i,j,rfl⟩
 | false=>
  exact .inr ⟨rfl,h⟩
theorem Pb{b:Type}{l:List b}{i:Nat}{a:b}{r:List b}(h:l.drop i=a::r):l[i]?=ax a/\l.drop (i+1)=r:=by
 constructor
 ·have:=congrArg (λz=>z[0]?) h;simpa [eU] using this
 ·rw[<-List.drop_drop,h];rfl
section
variable {n:Nat} {ix:List Nat} {fi:XL} {T:Tgt} {ft:XT} {fe:XE}
theorem Aj(hT:∀i∈T.slots,i<n):∀G H Q,tF K (Zu n ix fi T ft fe) G H Q->Nn n ix (iF K fi) (gT K T) (Jo K ft) (tF K fe) G H Q:=λG H Q ⟨t,s,L,hd,env,e,k⟩=>by
 obtain⟨ls,e1,e⟩:=Zc e;split at e
 case isFalse=>cases e
 rename_i hlen;obtain⟨ys,e2,rfl⟩:=map_some e;refine⟨t,s,ls,hd,env,e1,λJ Y s1 j=>?_⟩;have S:=λp b=>Same.mut s1 (hd p b)
 refine⟨λi m vs w=>m=ls.length-i/\i<=ls.length/\Same Y w/\∃g Yj o,ys=g++Yj/\g.length<=i/\Ww T ft fe (ZG n ix s) (ls.drop i)=ax Yj/\Iss K w g vs o/\∀p∈o,¬t p,
  ⟨ls.length,by simp,dH _,Same.refl Y,[],ys,[],rfl,aX _,e2,Iss.nil,λp b=>by simp at b⟩,?_⟩
 rintro i m vs w ⟨rfl,hi,d,g,Yj,o,rfl,A,M,N,nv⟩;refine⟨by rw[N.len];exact bz (lt_size (by omega)),?_⟩
 cases q:ls.drop i with
 | nil=>
  have hil:i=ls.length:=by have:=congrArg iN q;simp at this;omega
  subst hil;rw[q] at M;cases M;refine .inl ⟨j.stop w (Same.ab d),λp b=>k _ _ (p::o) (s1.trans (d.trans (Same.new b _))) ?_ λa X z=>?_⟩
  ·rw[dG];exact Is.lst Zi (N.mono (Same.new b _))
  ·rcases aa.mp X with rfl | X
   ·exact Xc (Same.mut (s1.trans d) (hd a z)) b
   ·exact nv a X z
 | cons l r=>
  obtain⟨W,hr⟩:=Pb q;have F:=(aO.mp W).1;rw[q] at M;obtain⟨sb,c,eb,et,P⟩:=Pa M
  refine .inr ⟨j.go w i l (Same.ab d) W,λI O=>Same Y O/\∃dn' rest' fp',g++Yj=dn'++rest'/\dn'.length<=i+1/\Ww T ft fe (ZG n ix s) (ls.drop (i+1))=ax rest'/\Iss K O dn' I fp'/\∀p∈fp',¬t p,
   λI O h'=>⟨ls.length-(i+1),by omega,rfl,F,h'.1,h'.2⟩,λx H2 y=>?_⟩
  obtain⟨s2,fx,R,nx⟩:=j.yld w i l x H2 (Same.ab d) W y;have D:=λp b=>Same.mut (d.trans s2) (S p b);obtain⟨bl,bv,bf,rfl,bi,_,E,C⟩:=JS R eb;have B:EnvIs K t H2 (ZG n ix s) (Z4 n ix G):=(env.mono (s1.trans (d.trans s2))).comp;have f:=B.setAll (is:=T.slots) (Kh n ix s G) bi λp b=>(nx p (E p b)).2;refine C _ _ ⟨Vr hT,t,_,c,D,f,et,λH3 u=>?_⟩;have Z:=λp b=>Same.mut u (D p b);rcases P with⟨rfl,y',zs,ey,U,rfl⟩ | ⟨rfl,U⟩
  ·refine Zgd ?_;refine⟨t,_,y',Z,f.mono u,ey,λv H4 f4 s4 i4 n4=>?_⟩;refine⟨d.trans (s2.trans (u.trans s4)),g++[y'],zs,o++f4,by rw[fD];rfl,by rw[aj];simp;exact A,by rw[hr];exact U,(N.mono (s2.trans (u.trans s4))).append (Iss.one i4),λp b=>?_⟩;rcases ak.mp b with h | h
   ·exact nv p h
   ·exact n4 p h
  ·refine Zgc ?_;exact⟨d.trans (s2.trans u),g,Yj,o,rfl,kg A,by rw[hr];exact U,N.mono (s2.trans u),nv⟩
theorem HD(hT:∀i∈T.slots,i<n):∀M H Q,tM K (Zu n ix fi T ft fe) M H Q->Nn n ix (iF K fi) (gT K T) (Jo K ft) (tM K fe) M H Q:=λM H Q ⟨s,L,env,e,k⟩=>by
 obtain⟨ls,e1,e⟩:=Zc e;split at e
 case isFalse=>cases e
 rename_i hlen;obtain⟨ys,e2,rfl⟩:=map_some e;have hd:∀(H:Hp) p,(λ_=>False:aL->Prop) p->VZ (H p):=λ_ _ z=>z.elim;refine⟨λ_=>False,s,ls,hd H,env,e1,λJ I s1 A=>?_⟩
 refine⟨λi m vs w=>m=ls.length-i/\i<=ls.length/\Same I w/\∃u Yj t,ys=u++Yj/\u.length<=i/\Ww T ft fe (ZG n ix s) (ls.drop i)=ax Yj/\Iss K w u vs t/\t.Nodup/\∀p∈t,I p=aA/\VZ (w p),
  ⟨ls.length,by simp,dH _,Same.refl I,[],ys,[],rfl,aX _,e2,Iss.nil,bu,λp d=>by simp at d⟩,?_⟩
 rintro i m vs w ⟨rfl,hi,f,u,Yj,t,rfl,C,P,R,dv,o⟩;refine⟨by rw[R.len];exact bz (lt_size (by omega)),?_⟩
 cases q:ls.drop i with
 | nil=>
  have hil:i=ls.length:=by have:=congrArg iN q;simp at this;omega
  subst hil;rw[q] at P;cases P;refine .inl ⟨A.stop w (Same.ab f),λp d=>k _ _ (p::t) (s1.trans (f.trans (Same.new d _))) ?_ (av.mpr ⟨λz=>Xc (o p z).2 d,dv⟩) λa B=>?_⟩
  ·rw[dG];exact Is.lst Zi (R.mono (Same.new d _))
  ·rcases aa.mp B with rfl | B
   ·exact⟨Same.off (s1.trans f) d,by rw[Zi];exact bS⟩
   ·exact⟨Same.off s1 (o a B).1,Same.mut (Same.new d _) (o a B).2⟩
 | cons l r=>
  obtain⟨hl,hr⟩:=Pb q;have G:=(aO.mp hl).1;rw[q] at P;obtain⟨sb,c,eb,et,S⟩:=Pa P
  refine .inr ⟨A.go w i l (Same.ab f) hl,λN O=>Same I O/\∃dn' rest' fp',u++Yj=dn'++rest'/\dn'.length<=i+1/\Ww T ft fe (ZG n ix s) (ls.drop (i+1))=ax rest'/\Iss K O dn' N fp'/\fp'.Nodup/\∀p∈fp',I p=aA/\VZ (O p),
   λN O h'=>⟨ls.length-(i+1),by omega,rfl,G,h'.1,h'.2⟩,λx U y=>?_⟩
  obtain⟨s2,fx,W,nx⟩:=A.yld w i l x U (Same.ab f) hl y;obtain⟨bl,bv,bf,rfl,bi,_,F,E⟩:=JS W eb;have D:EnvIs K (λ_=>False) U (ZG n ix s) (Z4 n ix M):=(env.mono (s1.trans (f.trans s2))).comp;have j:=D.setAll (is:=T.slots) (Kh n ix s M) bi λp d=>(nx p (F p d)).2;refine E _ _ ⟨Vr hT,λ_=>False,_,c,hd U,j,et,λH3 g=>?_⟩;rcases S with⟨rfl,y',zs,ey,X,rfl⟩ | ⟨rfl,X⟩
  ·refine Zgd ?_;refine⟨_,y',j.mono g,ey,λv H4 f4 Y i4 d4 Z=>?_⟩;refine⟨f.trans (s2.trans (g.trans Y)),u++[y'],zs,t++f4,by rw[fD];rfl,by rw[aj];simp;exact C,by rw[hr];exact X,(R.mono (s2.trans (g.trans Y))).append (Iss.one i4),dB.mpr ⟨dv,d4,λa B b hb z=>?_⟩,λp d=>?_⟩
   ·subst z;exact Xc (Same.mut (s2.trans g) (o a B).2) (Z a hb).1
   ·rcases ak.mp d with h | h
    ·exact⟨(o p h).1,Same.mut (s2.trans (g.trans Y)) (o p h).2⟩
    ·exact⟨Same.off (f.trans (s2.trans g)) (Z p h).1,(Z p h).2⟩
  ·refine Zgc ?_;exact⟨f.trans (s2.trans g),u,Yj,t,rfl,kg C,by rw[hr];exact X,R.mono (s2.trans g),dv,λp d=>⟨(o p d).1,Same.mut (s2.trans g) (o p d).2⟩⟩
end
noncomputable def VTs(X:Cx)(ifs:List bH)(f:XT):Prop:=Eo X ifs (Jo X.K f)
section
variable {X:Cx} {tg elt iter c:bH} {ifs:List bH} {scope:e7} {pos:dz} {fi:XL} {T:Tgt} {ft:XT} {fe:XE}
theorem Yh:VTs X [] ZF:=λa s b H Q I ⟨d,f,c,hd,env,e,k⟩=>by cases e;exact BZ a s b H Q I (k H (Same.refl H))
theorem Vs(h:VT X c ft):VTs X [c] ft:=B1 h
theorem XG(own fr:List ay)(c:List Nat)(b:X.calm=aC)(f:VI X tg iter fi)(S:Vm X.N X.env.scope scope own fr c=aC)
  (j:∀cl C s H a,PG (ZD X (own++fr) scope cl C s H a) tg (gT X.K T)) (e:∀cl C s H a,VTs (ZD X (own++fr) scope cl C s H a) ifs ft) (h:∀cl C s H a,VE (ZD X (own++fr) scope cl C s H a) elt fe)
  (d:∀i∈T.slots,i<own.length:=by decide) (g:∀x,bt iter X.env x=pure x:=by intro _;rfl):VE X (.ListComp elt [⟨tg,iter,ifs,0⟩] scope pos) (Zu own.length c fi T ft fe):=
 PE.imp (L9 own fr c b f S j (λcl C s H a=>(show Eo (ZD X (own++fr) scope cl C s H a) ifs (Jo X.K ft) from e cl C s H a)) (λcl C s H a=>(show PE (ZD X (own++fr) scope cl C s H a) elt (tF X.K fe) from h cl C s H a)) g) (Aj d)
theorem UC(own fr:List ay)(c:List Nat)(b:X.calm=aC)(f:VI X tg iter fi)(S:Vm X.N X.env.scope scope own fr c=aC)
  (j:∀cl C s H a,PG (ZD X (own++fr) scope cl C s H a) tg (gT X.K T)) (e:∀cl C s H a,VTs (ZD X (own++fr) scope cl C s H a) ifs ft) (h:∀cl C s H a,VM (ZD X (own++fr) scope cl C s H a) elt fe)
  (d:∀i∈T.slots,i<own.length:=by decide) (g:∀x,bt iter X.env x=pure x:=by intro _;rfl):VM X (.ListComp elt [⟨tg,iter,ifs,0⟩] scope pos) (Zu own.length c fi T ft fe):=
 PE.imp (L9 own fr c b f S j (λcl C s H a=>(show Eo (ZD X (own++fr) scope cl C s H a) ifs (Jo X.K ft) from e cl C s H a)) (λcl C s H a=>(show PE (ZD X (own++fr) scope cl C s H a) elt (tM X.K fe) from h cl C s H a)) g) (HD d)
end
noncomputable def W6(xs:List PV)(lo hi:Option Int):List PV:=(xs.drop (HT.sIx xs.length 0 lo)).take (HT.sIx xs.length xs.length hi-HT.sIx xs.length 0 lo)
theorem Iss.cut{H:Hp}{l:List PV}{xs:List V}{f:List aL}(lo e:Option Int)(h:Iss K H l xs f):∃f1,Iss K H (W6 l lo e) (G5 xs lo e) f1/\∀p∈f1,p∈f:=by unfold W6 G5;rw[h.len];obtain⟨f1,a,b⟩:=h.drop (HT.sIx l.length 0 lo);obtain⟨i,c,d⟩:=a.take (HT.sIx l.length l.length e-HT.sIx l.length 0 lo);exact⟨i,c,λp g=>b p (d p g)⟩
abbrev XO:=ZE->Option (Option Int)
noncomputable def tFO(K:aF)(f:XO):TO:=λσ H Q=>∃(Rm:aL->Prop) (s:ZE) (i:Option Int),(∀p,Rm p->VZ (H p))/\EnvIs K Rm H s σ/\f s=ax i/\∀H',Same H H'->Q i H'
noncomputable def VO(X:Cx)(e:Option bH)(f:XO):Prop:=PO X e (tFO X.K f)
noncomputable def OY:XO:=λ_=>ax aA
noncomputable def R4(f:XE):XO:=λs=>match f s with | some (.int i)=>ax (ax i) | _=>aA
noncomputable def TV(x:PV)(lo hi:Option Int):Option PV:=match x with | .lst l=>ax (.lst (W6 l lo hi)) | .cst l=>ax (.lst (W6 l lo hi)) | _=>aA
noncomputable def R5(x:PV)(lo hi:Option Int):Option PV:=match x with | .tup l=>if HT.sIx l.length 0 lo=0/\HT.sIx l.length l.length hi=l.length then aA else ax (.tup (W6 l lo hi)) | _=>aA
noncomputable def OO(g:PV->Option Int->Option Int->Option PV)(a:XE)(lo hi:XO):XE:=λs=>(a s).bind λx=>(lo s).bind λl=>(hi s).bind λu=>g x l u
section
variable {X:Cx} {e:bH} {lo hi:Option bH} {p2 pos:dz} {fa:XE} {fl fh:XO}
theorem Wx:VO X aA OY:=λa s b H Q I ⟨c,d,i,hd,env,e,k⟩=>by cases e;exact BP a s b H Q I (k H (Same.refl H))
theorem Wy{e:bH}(h:VE X e fa):VO X (ax e) (R4 fa):=λb s d H Q I ⟨a,l,i,hd,env,e,k⟩=>by
 unfold R4 at e;split at e
 ·cases e;rename_i j c;exact BQ h b s d H Q I ⟨a,l,.int j,hd,env,c,λv g m f i n=>⟨j,i.int_inv.1,k g f⟩⟩
 ·cases e
theorem W7(y:VE X e fa)(w:VO X lo fl)(B:VO X j fh):VE X (.Subscript e (.Slice lo j aA p2) pos) (OO TV fa fl fh):=PE.imp (LV BS y w B) λD H Q ⟨m,s,l,hd,env,e,k⟩=>by
 obtain⟨x,t,e⟩:=Zc e;obtain⟨a,A,e⟩:=Zc e;obtain⟨b,u,e⟩:=Zc e;refine⟨m,s,x,hd,env,t,λv C I s1 n o=>⟨m,s,a,λp f=>Same.mut s1 (hd p f),env.mono s1,A,λF s2=>⟨m,s,b,λp f=>Same.mut (s1.trans s2) (hd p f),env.mono (s1.trans s2),u,λE i=>?_⟩⟩⟩
 cases x with
 | lst l=>
  cases e;obtain⟨p,xs,G,rfl,f,j,rfl⟩:=(n.mono (s2.trans i)).lst_inv;obtain⟨f1,c,d⟩:=j.cut a b;refine⟨p,xs,rfl,SqL.of f,λq h=>k _ _ (q::f1) (s1.trans (s2.trans (i.trans (Same.new h _)))) (Is.lst Zi (c.mono (Same.new h _))) λr g z=>?_⟩;rcases aa.mp g with rfl | g
  ·exact Xc (Same.mut (s1.trans (s2.trans i)) (hd r z)) h
  ·exact o r (aQ _ (d r g)) z
 | cst l=>
  cases e;obtain⟨p,xs,rfl,f,j⟩:=(n.mono (s2.trans i)).cst_inv;obtain⟨f1,c,d⟩:=j.cut a b;refine⟨p,xs,rfl,f.sq,λq h=>k _ _ (q::f1) (s1.trans (s2.trans (i.trans (Same.new h _)))) (Is.lst Zi (c.mono (Same.new h _))) λr g z=>?_⟩;rcases aa.mp g with rfl | g
  ·exact Xc (Same.mut (s1.trans (s2.trans i)) (hd r z)) h
  ·exact o r (d r g) z
 | _=>cases e
theorem SO(y:VE X e fa)(w:VO X lo fl)(B:VO X g fh):VE X (.Subscript e (.Slice lo g aA p2) pos) (OO R5 fa fl fh):=PE.imp (LV Zc0 y w B) λD H Q ⟨h,s,l,hd,env,e,k⟩=>by
 obtain⟨x,o,e⟩:=Zc e;obtain⟨a,A,e⟩:=Zc e;obtain⟨b,u,e⟩:=Zc e;refine⟨h,s,x,hd,env,o,λv C G s1 n z=>⟨h,s,a,λp f=>Same.mut s1 (hd p f),env.mono s1,A,λF s2=>⟨h,s,b,λp f=>Same.mut (s1.trans s2) (hd p f),env.mono (s1.trans s2),u,λE j=>?_⟩⟩⟩
 cases x with
 | tup l=>
  unfold R5 at e;simp only at e;split at e
  ·cases e
  ·rename_i i;cases e;obtain⟨p,xs,rfl,f,g⟩:=(n.mono (s2.trans j)).tup_inv;obtain⟨f1,c,d⟩:=g.cut a b;refine⟨p,xs,rfl,SqT.of f,by rw[g.len];exact i,λq m=>k _ _ f1 (s1.trans (s2.trans (j.trans (Same.new m _)))) (Is.tup Zi (c.mono (Same.new m _))) λr t=>z r (d r t)⟩
 | _=>cases e
end
end VL
namespace VL
open PySem PySem.Spec PyProof.Rows L2
variable {K:aF}
structure Rel(K:aF)(O:List Nat)(H0:Hp)(fps:Nat->List aL)(s:ZE)(σ:RZ)(H:Hp):Prop where
 same:Same H0 H
 len:s.length=σ.length
 is:∀(i:Nat) l,s[i]?=ax (ax l)->∃v,σ[i]?=ax (ax v)/\Is K H l v (fps i)
 emp:∀(i:Nat),(∀l,s[i]?≠ax (ax l))->fps i=[]
 nd:∀i∈O,(fps i).Nodup
 own:∀i∈O,∀p∈fps i,H0 p=aA/\VZ (H p)
 dis:∀i∈O,∀j,j≠i->∀p∈fps i,p∉fps j
noncomputable def Ow(O:List Nat)(fps:Nat->List aL)(p:aL):Prop:=∃i∈O,p∈fps i
noncomputable def Xg(O:List Nat)(s:ZE):ZE:=O.foldl (λs i=>s.set i aA) s
theorem Pc:∀{O:List Nat}{s:ZE}{i:Nat}{l:PV},(Xg O s)[i]?=ax (ax l)->i∉O/\s[i]?=ax (ax l)
 | [],s,i,l,h=>⟨by simp,h⟩
 | o::O,s,i,l,h=>by
  obtain⟨b,a⟩:=Pc (O:=O) (s:=s.set o aA) h;rw[bQ] at a;by_cases e:o=i
  ·rw[m7 e] at a;split at a<;>cases a
  ·rw[m9 e] at a;exact⟨by simp only[aa,not_or];exact⟨λz=>e z.symm,b⟩,a⟩
section
variable {O:List Nat} {H0 H H':Hp} {fps:Nat->List aL} {s:ZE} {σ:RZ}
theorem Rel.at(r:Rel K O H0 fps s σ H)(i:Nat){p:aL}(c:p∈fps i):∃l v,s[i]?=ax (ax l)/\σ[i]?=ax (ax v)/\Is K H l v (fps i):=by
 cases q:s[i]? with
 | none=>rw[r.emp i (λl z=>by rw[q] at z;cases z)] at c;simp at c
 | some o=>cases o with
  | none=>rw[r.emp i (λl z=>by rw[q] at z;cases z)] at c;simp at c
  | some l=>
   obtain⟨v,a,b⟩:=r.is i l q;exact⟨l,v,rfl,a,b⟩
theorem Rel.dom(r:Rel K O H0 fps s σ H)(i:Nat):∀p∈fps i,H p≠aA:=λp a=>by obtain⟨l,v,_,_,b⟩:=r.at i a;exact Is.dom _ _ _ b p a
theorem Rel.env(r:Rel K O H0 fps s σ H):EnvIs K (λ_=>False) H s σ:=⟨λi l e=>by
 obtain⟨v,a,b⟩:=r.is i l e;exact⟨v,_,a,b,λ_ _ z=>z⟩⟩
theorem Rel.envO(r:Rel K O H0 fps s σ H):EnvIs K (Ow O fps) H (Xg O s) σ:=⟨λi l e=>by
 obtain⟨n,e⟩:=Pc e;obtain⟨v,a,b⟩:=r.is i l e;exact⟨v,_,a,b,λp f ⟨j,d,c⟩=>r.dis j d i (λz=>n (z▸d)) p c f⟩⟩
theorem Rel.owMut(r:Rel K O H0 fps s σ H):∀p,Ow O fps p->VZ (H p):=λp ⟨i,b,a⟩=>(r.own i b p a).2
theorem Rel.grow(r:Rel K O H0 fps s σ H)(e:Same H H'):Rel K O H0 fps s σ H':=
 ⟨r.same.trans e,r.len,λi l q=>by obtain⟨v,a,b⟩:=r.is i l q;exact⟨v,a,b.mono e⟩,r.emp,r.nd,λi d p c=>⟨(r.own i d p c).1,Same.mut e (r.own i d p c).2⟩,r.dis⟩
theorem Rel.less{F:Hp}(r:Rel K O F fps s σ H)(e:Same H0 F):Rel K O H0 fps s σ H:=
 ⟨e.trans r.same,r.len,r.is,r.emp,r.nd,λi b p a=>⟨Same.off e (r.own i b p a).1,(r.own i b p a).2⟩,r.dis⟩
theorem Rel.weak{O':List Nat}(r:Rel K O H0 fps s σ H)(h:∀i∈O',i∈O):Rel K O' H0 fps s σ H:=
 ⟨r.same,r.len,r.is,r.emp,λi a=>r.nd i (h i a),λi a=>r.own i (h i a),λi a=>r.dis i (h i a)⟩
open Classical in
noncomputable def R6(H:Hp)(Rm:aL->Prop):Hp:=λb=>if Rm b then aA else H b
theorem Fo{a:aL->Prop}:Same (R6 H a) H:=λb o h=>by
 unfold R6 at h;split at h
 ·cases h
 ·exact h
theorem Rel.frame(r:Rel K O H0 fps s σ H):Rel K O (R6 H (Ow O fps)) fps s σ H:=
 ⟨Fo,r.len,r.is,r.emp,r.nd,λi b p a=>⟨by unfold R6;rw[m7 ⟨i,b,a⟩],(r.own i b p a).2⟩,r.dis⟩
theorem Rel.under(r:Rel K O H0 fps s σ H):Same H0 (R6 H (Ow O fps)):=λb o h=>by unfold R6;rw[m9 (λ⟨i,c,a⟩=>by rw[(r.own i c b a).1] at h;cases h)];exact r.same b o h
open Classical in
noncomputable def R7(fps:Nat->List aL)(n:Nat)(i:Nat)(fp:List aL):Nat->List aL:=λj=>if j=i/\i<n then fp else fps j
theorem Z6{n i j:Nat}{a:List aL}(h:j≠i):R7 fps n i a j=fps j:=by unfold R7;rw[m9 (λz=>h z.1)]
theorem HE{n i:Nat}{a:List aL}(h:i<n):R7 fps n i a i=a:=by unfold R7;rw[m7 ⟨rfl,h⟩]
theorem Rel.set(r:Rel K O H0 fps s σ H){i:Nat}{l:PV}{v:V}{f:List aL}(u:Is K H l v f)(o:i∈O->f.Nodup/\∀p∈f,H0 p=aA/\VZ (H p))
  (hd:∀j,j≠i->(j∈O\/i∈O)->∀p∈f,p∉fps j):Rel K O H0 (R7 fps s.length i f) (s.set i (ax l)) (σ.set i (ax v)) H:=by
 by_cases c:i<s.length
 ·have g:R7 fps s.length i f i=f:=HE c;refine⟨r.same,by rw[cH,cH];exact r.len,λj a e=>?_,λj h=>?_,λj b=>?_,λj b p d=>?_,λj b k n p d=>?_⟩
  ·rw[bQ] at e;by_cases b:i=j
   ·subst b;rw[m7 rfl,m7 c] at e;cases e;rw[g];exact⟨v,by rw[bQ,m7 rfl,m7 (by rw[<-r.len];exact c)],u⟩
   ·rw[m9 b] at e;obtain⟨w,x,t⟩:=r.is j a e;rw[Z6 (bO b)];exact⟨w,by rw[bQ,m9 b];exact x,t⟩
  ·by_cases b:i=j
   ·subst b;exact absurd (by rw[bQ,m7 rfl,m7 c]) (h l)
   ·rw[Z6 (bO b)];exact r.emp j λa z=>h a (by rw[bQ,m9 b];exact z)
  ·by_cases e:j=i
   ·subst e;rw[g];exact(o b).1
   ·rw[Z6 e];exact r.nd j b
  ·by_cases e:j=i
   ·subst e;rw[g] at d;exact(o b).2 p d
   ·rw[Z6 e] at d;exact r.own j b p d
  ·by_cases e:j=i
   ·subst e;rw[g] at d;rw[Z6 n];exact hd k n (.inr b) p d
   ·rw[Z6 e] at d;by_cases m:k=i
    ·subst m;rw[g];exact λz=>hd j e (.inl b) p z d
    ·rw[Z6 m];exact r.dis j b k n p d
 ·have g:s.set i (ax l)=s:=fW (by omega);have m:σ.set i (ax v)=σ:=fW (by rw[<-r.len];omega);have q:R7 fps s.length i f=fps:=by funext j;unfold R7;rw[m9 (λz=>c z.2)]
  rw[g,m,q];exact r
theorem Rel.mutate(r:Rel K O H0 fps s σ H){i:Nat}(A:i∈O){p:aL}(n:p∈fps i){o:HO}{t:PV}{v:V}{d:List aL}(D:σ[i]?=ax (ax v))(g:i<s.length)
  (h':Is K (upd H p o) t v d) (G:d.Nodup) (L:∀q∈d,H0 q=aA/\VZ (upd H p o q)) (hd:∀j,j≠i->∀q∈d,q∉fps j) (J:VZ (ax o)):Rel K O H0 (R7 fps s.length i d) (s.set i (ax t)) σ (upd H p o):=by
 have l:=(r.own i A p n).2;have E:=(r.own i A p n).1;have m:R7 fps s.length i d i=d:=HE g
 have tk:TK2 H (upd H p o):=⟨λb xs h=>by
  rw[upd_ne (λz=>by rw[z] at h;rw[h] at l;exact l)];exact h,λb o xs h=>by
  rw[upd_ne (λz=>by rw[z] at h;rw[h] at l;exact l)];exact h,λb o x h=>by
  rw[upd_ne (λz=>by rw[z] at h;rw[h] at l;exact l)];exact h⟩
 refine⟨λb u h=>by rw[upd_ne (Zm h E)];exact r.same b u h,by rw[cH];exact r.len,λj a e=>?_,λj h=>?_,λj c=>?_,λj c q f=>?_,λj c k y q f=>?_⟩
 ·rw[bQ] at e;by_cases c:i=j
  ·subst c;rw[m7 rfl,m7 g] at e;cases e;rw[m];exact⟨v,D,h'⟩
  ·rw[m9 c] at e;obtain⟨w,C,I⟩:=r.is j a e;rw[Z6 (bO c)];refine⟨w,C,Is.tr tk _ _ _ (λq f=>RdK.of λu F=>?_) I⟩;have ne:q≠p:=λz=>r.dis i A j (bO c) p n (z▸f);rw[upd_ne ne];exact F
 ·by_cases c:i=j
  ·subst c;exact absurd (by rw[bQ,m7 rfl,m7 g]) (h t)
  ·rw[Z6 (bO c)];exact r.emp j λa z=>h a (by rw[bQ,m9 c];exact z)
 ·by_cases e:j=i
  ·subst e;rw[m];exact G
  ·rw[Z6 e];exact r.nd j c
 ·by_cases e:j=i
  ·subst e;rw[m] at f;exact L q f
  ·rw[Z6 e] at f;refine⟨(r.own j c q f).1,?_⟩;have ne:q≠p:=λz=>r.dis j c i (bO e) q f (z▸n);rw[upd_ne ne];exact(r.own j c q f).2
 ·by_cases e:j=i
  ·subst e;rw[m] at f;rw[Z6 y];exact hd k y q f
  ·rw[Z6 e] at f;by_cases B:k=i
   ·subst B;rw[m];exact λz=>hd j e q z f
   ·rw[Z6 B];exact r.dis j c k y q f
end
noncomputable def Kep(a b:List aL):Prop:=a=b\/a=[]
theorem Kep.refl(a:List aL):Kep a a:=.inl rfl
theorem Kep.trans{a b c:List aL}(h:Kep a b)(k:Kep b c):Kep a c:=by
 rcases h with rfl | h
 ·exact k
 ·exact .inr h
inductive Out where
 | nx (s:ZE) | rt (l:PV) | bk (s:ZE) | ct (s:ZE)
abbrev XS:=ZE->Option Out
noncomputable def OutOk(K:aF)(O W:List Nat)(H0:Hp)(fps:Nat->List aL)(σ:RZ)(D:YW):Out->Prop
 | .nx s'=>∀m5 σ' H',Rel K O H0 m5 s' σ' H'->(∀j,j∉W->σ'[j]?=σ[j]?/\Kep (m5 j) (fps j))->D.nx σ' H'
 | .bk s'=>∀m5 σ' H',Rel K O H0 m5 s' σ' H'->(∀j,j∉W->σ'[j]?=σ[j]?/\Kep (m5 j) (fps j))->D.bk σ' H'
 | .ct s'=>∀m5 σ' H',Rel K O H0 m5 s' σ' H'->(∀j,j∉W->σ'[j]?=σ[j]?/\Kep (m5 j) (fps j))->D.ct σ' H'
 | .rt l=>∀v fp H',Same H0 H'->Is K H' l v fp->fp.Nodup->(∀p∈fp,H0 p=aA/\VZ (H' p))->D.rt v H'
noncomputable def tFS(K:aF)(O W:List Nat)(f:XS):TS:=λD σ H=>∃H0 fps s out,Rel K O H0 fps s σ H/\f s=ax out/\OutOk K O W H0 fps σ D out
noncomputable def VS(X:Cx)(O W:List Nat)(st:bp)(f:XS):Prop:=PS X st (tFS X.K O W f)
noncomputable def VSs(X:Cx)(O W:List Nat)(st:List bp)(f:XS):Prop:=PSs X st (tFS X.K O W f)
theorem OutOk.same{O W i:List Nat}{m:Hp}{fps c:Nat->List aL}{n e:RZ}{D:YW}{out:Out}(h:OutOk K O i m fps n D out)(k:∀j,j∉i->e[j]?=n[j]?/\Kep (c j) (fps j))(d:∀j,j∉i->j∉W):OutOk K O W m c e D out:=by
 cases out with
 | nx s'=>exact λg b f r q=>h g b f r λj a=>⟨(q j (d j a)).1.trans (k j a).1,(q j (d j a)).2.trans (k j a).2⟩
 | bk s'=>exact λg b f r q=>h g b f r λj a=>⟨(q j (d j a)).1.trans (k j a).1,(q j (d j a)).2.trans (k j a).2⟩
 | ct s'=>exact λg b f r q=>h g b f r λj a=>⟨(q j (d j a)).1.trans (k j a).1,(q j (d j a)).2.trans (k j a).2⟩
 | rt l=>exact h
theorem OutOk.less{O W:List Nat}{f F:Hp}{fps:Nat->List aL}{j:RZ}{D:YW}{out:Out}(h:OutOk K O W f fps j D out)(e:Same f F):OutOk K O W F fps j D out:=by
 cases out with
 | nx s'=>exact λc a b r q=>h c a b (r.less e) q
 | bk s'=>exact λc a b r q=>h c a b (r.less e) q
 | ct s'=>exact λc a b r q=>h c a b (r.less e) q
 | rt l=>exact λv m b k i d n=>h v m b (e.trans k) i d λp g=>⟨Same.off e (n p g).1,(n p g).2⟩
noncomputable def YH:XS:=λs=>ax (.nx s)
noncomputable def Zn(f g:XS):XS:=λs=>(f s).bind λo=>match o with | .nx s'=>g s' | r=>ax r
noncomputable def Qq(c:XT)(f g:XS):XS:=λs=>(c s).bind λk=>if k=aC then f s else g s
noncomputable def ZL(f:XE):XS:=λs=>(f s).map .rt
noncomputable def Zs(i:Nat)(f:XE):XS:=λs=>(f s).map λl=>.nx (s.set i (ax l))
section
variable {X:Cx} {O W W1 W2:List Nat} {st:bp} {Yj:List bp} {f g:XS} {pos:dz}
theorem PS.imp{t t':TS}(h:PS X st t)(i:∀D a H,t' D a H->t D a H):PS X st t':=λb s a H D I q=>h b s a H D I (i D a H q)
theorem PSs.imp{t t':TS}(h:PSs X Yj t)(i:∀D a H,t' D a H->t D a H):PSs X Yj t':=λb s a H D I q=>h b s a H D I (i D a H q)
theorem Dj:∀D a H,tFS K O W YH D a H->Za2 D a H:=λD a H ⟨b,fps,s,out,r,e,k⟩=>by cases e;exact k fps a H r λj _=>⟨rfl,Kep.refl _⟩
theorem Yu:VSs X O [] [] YH:=PSs.imp BF Dj
theorem Zg(h:VS X O W st f):VSs X O W [st] f:=BG h
theorem Zd(y:VS X O W1 st f)(x:VSs X O W2 Yj g):VSs X O (W1++W2) (st::Yj) (Zn f g):=PSs.imp (LP y x) λD B H ⟨p,fps,s,out,r,e,k⟩=>by
 obtain⟨q,v,e⟩:=Zc e;have a:∀j,j∉W1++W2->j∉W1:=λj b z=>b (bC _ z);have d:∀j,j∉W1++W2->j∉W2:=λj b z=>b (aq _ z);refine⟨p,fps,s,q,r,v,?_⟩
 cases q with
 | nx s1=>
  intro h t A u w;exact⟨p,h,s1,out,u,e,k.same (λj b=>w j (a j b)) d⟩
 | bk s1=>cases e;exact λm c i n o=>k m c i n λj b=>o j (a j b)
 | ct s1=>cases e;exact λm c i n o=>k m c i n λj b=>o j (a j b)
 | rt l=>cases e;exact k
theorem We{c:bH}{a b:List bp}{m:XT}(p:VT X c m)(q:VSs X O W1 a f)(o:VSs X O W2 b g):VS X O (W1++W2) (.If c a b pos) (Qq m f g):=PS.imp (Zfo p q o) λD u H ⟨l,fps,s,out,r,e,k⟩=>by
 obtain⟨c,n,e⟩:=Zc e;have d:∀j,j∉W1++W2->j∉W1:=λj i z=>i (bC _ z);have h:∀j,j∉W1++W2->j∉W2:=λj i z=>i (aq _ z);refine⟨λ_=>False,s,c,λ_ z=>z.elim,r.env,n,λt s1=>?_⟩
 cases c with
 | true=>
  exact⟨l,fps,s,out,r.grow s1,e,k.same (λj _=>⟨rfl,Kep.refl _⟩) d⟩
 | false=>
  exact⟨l,fps,s,out,r.grow s1,e,k.same (λj _=>⟨rfl,Kep.refl _⟩) h⟩
theorem Zy{e:bH}{b:XE}(h:VM X e b):VS X O [] (.Return (ax e) pos) (ZL b):=PS.imp (Js h) λD o H ⟨m,fps,s,out,r,e,k⟩=>by obtain⟨l,c,rfl⟩:=map_some e;exact⟨s,l,r.env,c,λv g j f i d n=>k v j g (r.same.trans f) i d λp a=>⟨Same.off r.same (n p a).1,(n p a).2⟩⟩
theorem TX{e:bH}{i:Nat}(f:PE X e (QM i))(c:i∈O:=by decide):VS X O [] (.Return (ax e) pos) (ZL (Za i)):=PS.imp (Js f) λD g H ⟨h,fps,s,out,r,e,k⟩=>by obtain⟨l,d,rfl⟩:=map_some e;obtain⟨v,a,b⟩:=r.is i l (Nu d);exact⟨v,a,k v _ H r.same b (r.nd i c) (r.own i c)⟩
theorem HF{t:TE}{i:Nat}{c:XE}(h:∀a H Q,tM K c a H Q->t a H Q):∀D a H,tFS K O [i] (Zs i c) D a H->Jt t (TB i) D a H:=λD a H ⟨q,fps,s,out,r,e,k⟩=>by
 obtain⟨l,f,rfl⟩:=map_some e;refine h a H _ ⟨s,l,r.env,f,λv o u m is d n=>?_⟩;refine k _ _ o ((r.grow m).set is (λ_=>⟨d,λp b=>⟨Same.off r.same (n p b).1,(n p b).2⟩⟩) λj _ _ p b z=>r.dom j p z (n p b).1) λj g=>?_;have:j≠i:=by simpa using g
 exact⟨by rw[bQ,m9 (bO this)],.inl (Z6 this)⟩
theorem Zdr{i:Nat}{x:ay}{e:bH}{a:XE}{pos':dz}(c:X.N.Nodup)(d:X.N[i]?=ax x)(f:Ew X.env.scope x)(j:VM X e a)(g:fu e (ax (.Name x pos')) pos.line X.env=pure aB:=by rfl)(b:X.fn x=aC\/X.env.scope.names.lookup x=ax .local:=by first | exact .inl rfl | exact .inr rfl | assumption) :
  VS X O [i] (.Assign [.Name x pos'] e pos) (Zs i a):=PS.imp (Zcg c d f j g b) (HF λ_ _ _ h=>h)
end
noncomputable def W8(T:Tgt)(fb:XS):List PV->ZE->Option Out
 | [],s=>ax (.nx s)
 | l::r,s=>(Xf T l s).bind λs1=>(fb s1).bind λo=>match o with | .nx s2=>W8 T fb r s2 | .ct s2=>W8 T fb r s2 | .bk s2=>ax (.nx s2) | .rt v=>ax (.rt v)
noncomputable def YF(O:List Nat)(fi:XL)(T:Tgt)(fb:XS):XS:=λs=>(fi (Xg O s)).bind λls=>W8 T fb ls s
theorem Rel.setAll{O:List Nat}{m H:Hp}:∀{is:List Nat}{ls:List PV}{vs:List V}{fs:List aL}{fps:Nat->List aL}{s:ZE}{σ:RZ},Rel K O m fps s σ H->Iss K H ls vs fs->ls.length=is.length->(∀i∈is,i∉O)->(∀i∈O,∀p∈fps i,p∉fs)->
  ∃k,Rel K O m k (VL.setAll is ls s) (YM is vs σ) H/\∀j,j∉is->(YM is vs σ)[j]?=σ[j]?/\Kep (k j) (fps j)
 | [],ls,vs,fs,fps,s,σ,r,_,_,_,_=>⟨fps,by unfold VL.setAll YM;exact r,λj _=>⟨by unfold YM;rfl,Kep.refl _⟩⟩
 | i::is,[],vs,fs,fps,s,σ,r,_,hl,_,_=>by simp at hl
 | i::is,l::ls,vs,fs,fps,s,σ,r,hi,hl,hO,hd=>by
  obtain⟨x,v,f1,w,rfl,n,t,rfl⟩:=hi.inv;have g:=hO i ag
  have o:=r.set (i:=i) n (λz=>absurd z g) λj f c p h z=>by
   rcases c with c | c
   ·exact hd j c p z (bC _ h)
   ·exact absurd c g
  obtain⟨k,u,q⟩:=Rel.setAll (is:=is) o t (by simpa using hl) (λj f=>hO j (aQ _ f)) λj f p h z=>by have d:j≠i:=λe=>g (by rw[<-e];exact f);rw[Z6 d] at h;exact hd j f p h (aq _ z)
  refine⟨k,u,λj f=>?_⟩;have d:j≠i:=λe=>f (e▸ag);obtain⟨a,b⟩:=q j (λz=>f (aQ _ z));exact⟨a.trans (by rw[bQ,m9 (bO d)]),b.trans (.inl (Z6 d))⟩
section
variable {O W:List Nat} {T:Tgt} {fb:XS}
theorem Dk{B:Hp}{fps:Nat->List aL}{s:ZE}{F:RZ}{D:YW}{J:It}{ls:List PV}{out:Out}(r:Rel K O (R6 B (Ow O fps)) fps s F B)(E:JIs K (Ow O fps) B J ls)(e:W8 T fb ls s=ax out)(hT:∀i∈T.slots,i∉O)
  (k:OutOk K O (T.slots++W) (R6 B (Ow O fps)) fps F D out):Zil (gT K T) (tFS K O W fb) D F J B:=by
 have t:∀j,j∉T.slots++W->j∉T.slots:=λj a z=>a (bC _ z);have c:∀j,j∉T.slots++W->j∉W:=λj a z=>a (aq _ z)
 refine⟨λi m f G=>m=ls.length-i/\i<=ls.length/\∃P Y,Rel K O (R6 B (Ow O fps)) P Y f G/\W8 T fb (ls.drop i) Y=ax out/\∀j,j∉T.slots++W->f[j]?=F[j]?/\Kep (P j) (fps j),
  ⟨ls.length,by simp,dH _,fps,s,r,e,λj _=>⟨rfl,Kep.refl _⟩⟩,?_⟩
 rintro i m f G ⟨rfl,hi,P,Y,Q,g,Z⟩;have ab:=λb o h n=>Q.same b o (by unfold R6;rw[m9 n];exact h)
 cases q:ls.drop i with
 | nil=>
  have S:i=ls.length:=by have:=congrArg iN q;simp at this;omega
  subst S;rw[q] at g;cases g;exact .inl ⟨E.stop G ab,k P f G Q Z⟩
 | cons l rr=>
  obtain⟨X,hr⟩:=Pb q;have L:=(aO.mp X).1;rw[q] at g;obtain⟨sb,eb,g⟩:=Zc g;obtain⟨o,eo,g⟩:=Zc g
  refine .inr ⟨E.go G i l ab X,λC R=>∃fps2 s2,Rel K O (R6 B (Ow O fps)) fps2 s2 C R/\W8 T fb (ls.drop (i+1)) s2=ax out/\∀j,j∉T.slots++W->C[j]?=F[j]?/\Kep (fps2 j) (fps j),
   λC R h2=>⟨ls.length-(i+1),by omega,rfl,L,h2⟩,λx R y=>?_⟩
  obtain⟨s2,fx,ix,nx⟩:=E.yld G i l x R ab X y;obtain⟨bl,bv,bf,rfl,bi,M,H,I⟩:=JS ix eb;obtain⟨u,r3,q3⟩:=Rel.setAll (Q.grow s2) bi M hT λj a p hp z=>by obtain⟨n1,n2⟩:=nx p (H p z);have:=(Q.own j a p hp).1;unfold R6 at this;rw[m9 n2] at this;exact n1 this
  refine I _ _ ⟨_,u,_,o,r3,eo,?_⟩;have keep:∀j,j∉T.slots++W->(YM T.slots bv f)[j]?=F[j]?/\Kep (u j) (fps j):=λj a=>⟨(q3 j (t j a)).1.trans (Z j a).1,(q3 j (t j a)).2.trans (Z j a).2⟩
  cases o with
  | nx s4=>exact λd A U N w=>⟨d,s4,N,by rw[hr];exact g,λj a=>⟨(w j (c j a)).1.trans (keep j a).1,(w j (c j a)).2.trans (keep j a).2⟩⟩
  | ct s4=>exact λd A U N w=>⟨d,s4,N,by rw[hr];exact g,λj a=>⟨(w j (c j a)).1.trans (keep j a).1,(w j (c j a)).2.trans (keep j a).2⟩⟩
  | bk s4=>
   cases g;exact λd A U N w=>k d A U N λj a=>⟨(w j (c j a)).1.trans (keep j a).1,(w j (c j a)).2.trans (keep j a).2⟩
  | rt v=>
   cases g;exact k
end
section
variable {X:Cx} {O W:List Nat} {tg iter:bH} {body:List bp} {fi:XL} {T:Tgt} {fb:XS} {pos:dz}
theorem Zds(b:jz (model X.prog X.w) X.A X.env X.xe)(g:X.calm=aC)(j:VI X tg iter fi)(d:PG X tg (gT X.K T))(f:VSs X O W body fb)(h:∀i∈T.slots,i∉O:=by decide)
  (l:∀x,bt iter X.env x=pure x:=by intro _;rfl):VS X O (T.slots++W) (.For tg iter body [] pos) (YF O fi T fb):=PS.imp (Zcl b g j d f l) λD o H ⟨m,fps,s,out,r,e,k⟩=>by
 obtain⟨ls,c,e⟩:=Zc e;refine⟨Ow O fps,Xg O s,ls,r.owMut,r.envO,c,λJ n s1 a=>?_⟩;exact Dk (r.grow s1).frame a e h (k.less (r.grow s1).under)
end
noncomputable def Yv(c:XT)(fb:XS):Nat->ZE->Option Out
 | 0,_=>aA
 | n+1,s=>(c s).bind λk=>if k=aC then(fb s).bind λo=>match o with | .nx s2=>Yv c fb n s2 | .ct s2=>Yv c fb n s2 | .bk s2=>ax (.nx s2) | .rt v=>ax (.rt v) else ax (.nx s)
theorem V3{c:XT}{fb:XS}:∀{n:Nat}{s:ZE}{o:Out},Yv c fb n s=ax o->Yv c fb (n+1) s=ax o
 | 0,_,_,h=>by cases h
 | n+1,s,o,h=>by
  unfold Yv at h ⊢;obtain⟨k,d,h⟩:=Zc h;rw[d]
  cases k with
  | false=>exact h
  | true=>
   rw[m7 rfl] at h;obtain⟨b,a,h⟩:=Zc h;simp only[aZ,if_true,a]
   cases b with
   | nx s2=>exact V3 h
   | ct s2=>exact V3 h
   | bk s2=>exact h
   | rt v=>exact h
theorem Ny{c:XT}{fb:XS}{n m:Nat}{s:ZE}{o:Out}(h:Yv c fb n s=ax o)(a:n<=m):Yv c fb m s=ax o:=by
 induction m with
 | zero=>
  have:n=0:=by omega
  subst this;exact h
 | succ m ih=>
  by_cases e:n=m+1
  ·subst e;exact h
  ·exact V3 (ih (by omega))
open Classical in
noncomputable def Xh(c:XT)(fb:XS):XS:=λs=>if h:∃n,(Yv c fb n s).isSome=aC then Yv c fb h.choose s else aA
theorem Nz{c:XT}{fb:XS}{n:Nat}{s:ZE}{o:Out}(h:Yv c fb n s=ax o):Xh c fb s=ax o:=by
 have a:∃n,(Yv c fb n s).isSome=aC:=⟨n,by rw[h];rfl⟩;unfold Xh;rw[dif_pos a];obtain⟨d,e⟩:=cK.mp a.choose_spec;rw[e];rcases Nat.le_total n a.choose with b | b
 ·rw[Ny h b] at e;exact e.symm
 ·rw[Ny e b] at h;exact h
section
variable {X:Cx} {O W:List Nat} {c:bH} {body:List bp} {fc:XT} {fb:XS} {pos:dz}
theorem W9(E:jz (model X.prog X.w) X.A X.env X.xe)(I:VT X c fc)(G:VSs X O W body fb):VS X O W (.While c body [] pos) (Xh fc fb):=PS.imp (EA E I G) λD B H ⟨x,fps,s,out,r,e,k⟩=>by
 unfold Xh at e;split at e
 case isFalse=>cases e
 rename_i M;generalize M.choose=n at e;refine⟨λm g C=>∃q t,Rel X.K O x q t g C/\Yv fc fb m t=ax out/\∀j,j∉W->g[j]?=B[j]?/\Kep (q j) (fps j),⟨n,fps,s,r,e,λj _=>⟨rfl,Kep.refl _⟩⟩,?_⟩;rintro m g C ⟨q,t,A,f,p⟩
 cases m with
 | zero=>cases f
 | succ m=>
  obtain⟨b,F,f⟩:=Zc f;refine⟨λ_=>False,t,b,λ_ z=>z.elim,A.env,F,λw s2=>?_⟩
  cases b with
  | false=>
   cases f;exact k q g w (A.grow s2) p
  | true=>
   obtain⟨o,L,f⟩:=Zc f;refine⟨λl w=>∃fps2 s2,Rel X.K O x fps2 s2 l w/\Yv fc fb m s2=ax out/\∀j,j∉W->l[j]?=B[j]?/\Kep (fps2 j) (fps j),λl w J=>⟨m,eM m,J⟩,x,q,t,o,A.grow s2,L,?_⟩
   cases o with
   | nx s4=>exact λa i y u h=>⟨a,s4,u,f,λj d=>⟨(h j d).1.trans (p j d).1,(h j d).2.trans (p j d).2⟩⟩
   | ct s4=>exact λa i y u h=>⟨a,s4,u,f,λj d=>⟨(h j d).1.trans (p j d).1,(h j d).2.trans (p j d).2⟩⟩
   | bk s4=>
    cases f;exact λa i y u h=>k a i y u λj d=>⟨(h j d).1.trans (p j d).1,(h j d).2.trans (p j d).2⟩
   | rt v=>cases f;exact k
end
end VL
namespace VL
open PySem PySem.Spec PyProof.Rows L2
variable {K:aF}
section
variable {O:List Nat} {H0 H H':Hp} {fps:Nat->List aL} {s:ZE} {σ:RZ}
theorem Rel.lst_at(r:Rel K O H0 fps s σ H){i:Nat}(h:i∈O){m:List PV}(e:s[i]?=ax (ax (.lst m))):∃p xs c,σ[i]?=ax (ax (.ref p))/\H p=ax (.lst xs)/\Iss K H m xs c/\fps i=p::c:=by obtain⟨v,a,b⟩:=r.is i _ e;obtain⟨p,xs,c,rfl,f,g,d⟩:=b.lst_inv;exact⟨p,xs,c,a,f,g,d⟩
theorem Rel.dT_at(r:Rel K O H0 fps s σ H){i:Nat}(k:i∈O){h:List (List Yp)}{m:List PV}(e:s[i]?=ax (ax (.dT h m))):∃p m4 d,σ[i]?=ax (ax (.ref p))/\H p=ax (.dT m4)/\m4.map (·.1)=h/\Iss K H m (m4.map (·.2)) d/\fps i=p::d:=by
 obtain⟨v,a,b⟩:=r.is i _ e;obtain⟨p,xs,d,rfl,c,j,l,g⟩:=b.dT_inv;refine⟨p,xs,d,a,?_,j,l,g⟩;have f:=(r.own i k p (by rw[g];exact ag)).2;rcases c with c | ⟨o,c⟩
 ·exact c
 ·rw[c] at f;exact f.elim
theorem Rel.dK_at(r:Rel K O H0 fps s σ H){i:Nat}(k:i∈O){h:List Yp}{m:List PV}(e:s[i]?=ax (ax (.dK h m))):∃p m4 d,σ[i]?=ax (ax (.ref p))/\H p=ax (.dK m4)/\m4.map (·.1)=h/\Iss K H m (m4.map (·.2)) d/\fps i=p::d:=by
 obtain⟨v,a,b⟩:=r.is i _ e;obtain⟨p,xs,d,rfl,c,j,l,g⟩:=b.dK_inv;refine⟨p,xs,d,a,?_,j,l,g⟩;have f:=(r.own i k p (by rw[g];exact ag)).2;rcases c with c | ⟨o,c⟩
 ·exact c
 ·rw[c] at f;exact f.elim
theorem UD{b:Type}{l:List b}{i:Nat}{a:b}(h:l[i]?=ax a):i<l.length:=(aO.mp h).1
theorem TK.upd'{p:aL}{o:HO}(a:VZ (H p)):TK2 H (L2.upd H p o):=⟨λb xs h=>by
 rw[upd_ne (λz=>by rw[z] at h;rw[h] at a;exact a)];exact h,λb o xs h=>by
 rw[upd_ne (λz=>by rw[z] at h;rw[h] at a;exact a)];exact h,λb o x h=>by
 rw[upd_ne (λz=>by rw[z] at h;rw[h] at a;exact a)];exact h⟩
theorem RdK.upd_ne{p q:aL}{o:HO}(ne:q≠p):RdK H (L2.upd H p o) q:=RdK.of λu a=>by rw[L2.upd_ne ne];exact a
theorem Rel.relist(r:Rel K O H0 fps s σ H){i:Nat}(c:i∈O){m l:List PV}(e:s[i]?=ax (ax (.lst m))){p:aL}{u b:List aL}{d:List V}(g:fps i=p::u)(v:σ[i]?=ax (ax (.ref p)))
  (h':Iss K H l d b) (t:(p::b).Nodup) (k:∀q∈b,q∈u\/((H0 q=aA/\VZ (H q))/\∀j,q∉fps j)):Rel K O H0 (R7 fps s.length i (p::b)) (s.set i (ax (.lst l))) σ (L2.upd H p (.lst d)):=by
 have f:p∈fps i:=by rw[g];exact ag
 have w:=(r.own i c p f).2;have n:=(av.mp t).1;refine r.mutate c f v (UD e) (Is.lst Zi (Iss.tr (TK.upd' w) _ _ _ (λq a=>RdK.upd_ne λz=>n (z▸a)) h')) t (λq a=>?_) (λj o q a z=>?_) bS
 ·rcases aa.mp a with rfl | a
  ·exact⟨(r.own i c q f).1,by rw[Zi];exact bS⟩
  ·have ne:q≠p:=λz=>n (z▸a);rw[L2.upd_ne ne];rcases k q a with h | h
   ·exact r.own i c q (by rw[g];exact aQ _ h)
   ·exact h.1
 ·rcases aa.mp a with rfl | a
  ·exact r.dis i c j o q f z
  ·rcases k q a with h | h
   ·exact r.dis i c j o q (by rw[g];exact aQ _ h) z
   ·exact h.2 j z
end
noncomputable def LK(s:ZE)(i:Nat):Option (List PV):=match s[i]? with | some (ax (.lst m))=>ax m | _=>aA
noncomputable def Er:PV->Option Int
 | .int k=>ax k
 | _=>aA
noncomputable def asL:PV->Option (List PV)
 | .lst k=>ax k
 | _=>aA
theorem V4{s:ZE}{i:Nat}{m:List PV}(h:LK s i=ax m):s[i]?=ax (ax (.lst m)):=by
 unfold LK at h;split at h
 ·cases h;assumption
 ·cases h
theorem TY{a:PV}{k:Int}(h:Er a=ax k):a = .int k:=by
 unfold Er at h;split at h
 ·cases h;rfl
 ·cases h
theorem Ki{a:PV}{k:List PV}(h:asL a=ax k):a = .lst k:=by
 unfold asL at h;split at h
 ·cases h;rfl
 ·cases h
noncomputable def gd(c:Bool):Option Unit:=if c=aC then ax () else aA
theorem Vt{c:Bool}{u:Unit}(h:gd c=ax u):c=aC:=by
 unfold gd at h;split at h
 ·assumption
 ·cases h
noncomputable def YE(i:Nat)(f:XE):XS:=λs=>(f s).bind λl=>(LK s i).bind λm=>(gd (decide (m.length<=10000))).bind λ_=>ax (.nx (s.set i (ax (.lst (m++[l])))))
noncomputable def Wz(i:Nat)(f:XE):XS:=λs=>(f s).bind λl=>(asL l).bind λn=>(LK s i).bind λm=>(gd (decide (m.length+n.length<=10000))).bind λ_=>ax (.nx (s.set i (ax (.lst (m++n)))))
noncomputable def UE(i:Nat)(fk:XE)(f:XE):XS:=λs=>(fk s).bind λk=>(f s).bind λl=>(Er k).bind λk=>(LK s i).bind λm=>(gd (ZC m&&ZI l&&decide (0<=k/\k<=1000000/\m.length<=10000))).bind λ_=>ax (.nx (s.set i (ax (.lst (m.take k.toNat++l::m.drop k.toNat)))))
noncomputable def SQ(i:Nat)(fk:XE)(f:XE):XS:=λs=>(f s).bind λl=>(fk s).bind λk=>(Er k).bind λk=>(LK s i).bind λm=>(gd (ZC m&&ZI l)).bind λ_=>(LW m.length k).map λj=>.nx (s.set i (ax (.lst (m.set j l))))
section
variable {X:Cx} {O:List Nat} {i:Nat} {st:bp} {f fk:XE}
theorem tyL{H:Hp}{p:aL}{xs:List V}(h:H p=ax (.lst xs)):tyV K "list" (.ref p) H:=.inl ⟨rfl,_,SqL.of h⟩
theorem Pd{s:ZE}{a:RZ}{fps:Nat->List aL}{c:List aL}:∀j,j∉[i]->a[j]?=a[j]?/\Kep (R7 fps s.length i c j) (fps j):=λj b=>⟨rfl,.inl (Z6 (by simpa using b))⟩
theorem Xv(h:PS X st (Hh (tBM X.K "list" Hn (QM i) (QO (tM X.K f) EF))))(o:i∈O:=by decide):VS X O [i] st (YE i f):=PS.imp h λD L H ⟨J,fps,s,out,r,e,k⟩=>by
 obtain⟨l,B,e⟩:=Zc e;obtain⟨m,c,e⟩:=Zc e;obtain⟨_,E,e⟩:=Zc e;have c:=V4 c;have w:=of_decide_eq_true (Vt E);cases e;obtain⟨p,xs,P,u,t,x,n⟩:=r.lst_at o c;refine⟨.ref p,u,tyL t,s,l,r.env,B,λy N M s2 G A g=>?_⟩;refine⟨p,xs,y,rfl,rfl,s2 _ _ t,by rw[x.len];exact lt_size (by omega),?_⟩;have I:=r.grow s2;have fr:=λq d j z=>r.dom j q z (g q d).1;refine k _ _ _ (I.relist o c n u ((x.mono s2).append (Iss.one G)) ?_ λq d=>?_) Pd
 ·have v:=r.nd i o;rw[n] at v;exact dB.mpr ⟨v,A,λa F b C z=>fr b C i (by rw[n,<-z];exact F)⟩
 ·rcases ak.mp d with h | h
  ·exact .inl h
  ·exact .inr ⟨⟨Same.off r.same (g q h).1,(g q h).2⟩,fr q h⟩
theorem NA(h:PS X st (Hh (tBM X.K "list" Ho (QM i) (QO (tM X.K f) EF))))(u:i∈O:=by decide):VS X O [i] st (Wz i f):=PS.imp h λD R H ⟨Q,fps,s,out,r,e,k⟩=>by
 obtain⟨l,w,e⟩:=Zc e;obtain⟨n,I,e⟩:=Zc e;obtain⟨m,c,e⟩:=Zc e;obtain⟨_,J,e⟩:=Zc e;rw[Ki I] at w;have c:=V4 c;have C:=of_decide_eq_true (Vt J);cases e;obtain⟨p,xs,U,x,A,F,t⟩:=r.lst_at u c;refine⟨.ref p,x,tyL A,s,_,r.env,w,λy T S s2 N G g=>?_⟩;obtain⟨b,M,fb,rfl,o,E,rfl⟩:=N.lst_inv;have v:=o;refine⟨p,b,xs,M,rfl,rfl,s2 _ _ A,v,by rw[F.len,E.len];exact bz (lt_size (by omega)),?_⟩;have P:=r.grow s2;have fr:=λq d j z=>r.dom j q z (g q (aQ _ d)).1;refine k _ _ _ (P.relist u c t x ((F.mono s2).append E) ?_ λq d=>?_) Pd
 ·have B:=r.nd i u;rw[t] at B;exact dB.mpr ⟨B,(av.mp G).2,λa L b o z=>fr b o i (by rw[t,<-z];exact L)⟩
 ·rcases ak.mp d with h | h
  ·exact .inl h
  ·exact .inr ⟨⟨Same.off r.same (g q (aQ _ h)).1,(g q (aQ _ h)).2⟩,fr q h⟩
theorem Iss.pureEq{H:Hp}{l:List PV}{xs:List V}{a:List aL}(h:Iss K H l xs a)(b:ZC l=aC):Iss K H l xs []:=by have:=Iss.pure _ _ _ b h;subst this;exact h
theorem JT{l:List PV}(n:Nat)(h:ZC l=aC):ZC (l.take n)=aC:=by rw[WZ,au] at *;exact λx a=>h x (gY a)
theorem JU{l:List PV}(n:Nat)(h:ZC l=aC):ZC (l.drop n)=aC:=by rw[WZ,au] at *;exact λx a=>h x (jr a)
theorem NB(h:PS X st (Hh (tBM X.K "list" Hr (QM i) (QO (tF X.K fk) (QO (tF X.K f) EF)))))(x:i∈O:=by decide):VS X O [i] st (UE i fk f):=PS.imp h λD S H ⟨Q,fps,s,out,r,e,k⟩=>by obtain⟨N,v,e⟩:=Zc e;obtain⟨l,F,e⟩:=Zc e;obtain⟨j,G,e⟩:=Zc e;obtain⟨m,c,e⟩:=Zc e;obtain⟨_,L,e⟩:=Zc e;rw[TY G] at v;have c:=V4 c;have u:=Vt L;simp only[ao,decide_eq_true_eq] at u;obtain⟨⟨d,J⟩,M,P,w⟩:=u;cases e;obtain⟨p,xs,Z,t,o,B,I⟩:=r.lst_at x c;refine⟨.ref p,t,tyL o,λ_=>False,s,_,λ_ z=>z.elim,r.env,v,λz R W s1 E _=>⟨λ_=>False,s,l,λ_ z=>z.elim,r.env.mono s1,F,λy Y T s2 A _=>?_⟩⟩;have a:=s1.trans s2;obtain⟨rfl,_⟩:=E.int_inv;have:=Is.pure _ _ _ J A;subst this;refine⟨p,xs,j,y,rfl,rfl,a _ _ o,M,by omega,by rw[B.len];exact lt_size (by omega),?_⟩;have b:=(B.mono a).pureEq d;obtain⟨f1,g,_⟩:=b.take j.toNat;obtain⟨U,n,_⟩:=b.drop j.toNat;have g:=g.pureEq (JT _ d);have n:=n.pureEq (JU _ d);exact k _ _ _ ((r.grow a).relist x c I t (g.append (Iss.cons A n)) (by simp) λq C=>by simp at C) Pd
theorem Kj(h:PS X st (Jt (tF X.K f) (Zcf (QM i) (tF X.K fk) EI)))(u:i∈O:=by decide):VS X O [i] st (SQ i fk f):=PS.imp h λD N H ⟨L,fps,s,out,r,e,k⟩=>by obtain⟨l,F,e⟩:=Zc e;obtain⟨J,g,e⟩:=Zc e;obtain⟨B,A,e⟩:=Zc e;obtain⟨m,b,e⟩:=Zc e;obtain⟨_,E,e⟩:=Zc e;rw[TY A] at g;have b:=V4 b;have t:=Vt E;simp only[ao] at t;obtain⟨d,o⟩:=t;obtain⟨j,I,rfl⟩:=map_some e;obtain⟨p,xs,S,n,x,v,C⟩:=r.lst_at u b;refine⟨λ_=>False,s,l,λ_ z=>z.elim,r.env,F,λy M P s1 c _=>?_⟩;refine⟨.ref p,n,λ_=>False,s,_,λ_ z=>z.elim,r.env.mono s1,g,λz R Q s2 G _=>?_⟩;have a:=s1.trans s2;obtain⟨rfl,_⟩:=G.int_inv;have:=Is.pure _ _ _ o c;subst this;refine⟨p,xs,B,j,rfl,rfl,a _ _ x,by rw[v.len];exact I,?_⟩;exact k _ _ _ ((r.grow a).relist u b C n (Iss.setP j d o ((v.mono a).pureEq d) (c.mono s2)) (by simp) λq w=>by simp at w) Pd
end
theorem Iss.setRow{H:Hp}{o:List V}:∀{m:List PV}{xs:List V}{fq:List aL}{j:Nat}{n n':List PV}{q:aL},Iss K H m xs fq->m[j]?=ax (.lst n)->xs[j]?=ax (.ref q)->fq.Nodup->VZ (H q)->ZC n=aC->Iss K (L2.upd H q (.lst o)) n' o []->
  Iss K (L2.upd H q (.lst o)) (m.set j (.lst n')) xs fq
 | [],_,_,_,_,_,_,_,e,_,_,_,_,_=>by simp at e
 | a::m,xs,fq,0,n,n',q,h,e,ex,nd,mu,pn,h'=>by obtain⟨x,r,f1,p,rfl,f,d,rfl⟩:=h.inv;simp at e ex;subst e ex;obtain⟨A,u,s,e,B,c,rfl⟩:=f.lst_inv;cases e;have:=Iss.pure _ _ _ pn c;subst this;have i:q∉p:=(av.mp nd).1;exact Iss.cons (Is.lst Zi h') (Iss.tr (TK.upd' mu) _ _ _ (λz c=>RdK.upd_ne λe=>i (e▸c)) d)
 | a::m,xs,fq,j+1,n,n',q,h,e,ex,nd,mu,pn,h'=>by obtain⟨x,r,f1,p,rfl,f,d,rfl⟩:=h.inv;simp at e ex;obtain⟨v,g,k⟩:=dB.mp nd;obtain⟨y,C,l,t,b⟩:=d.get e;rw[ex] at l;cases l;obtain⟨A,u,s,w,_,_,rfl⟩:=t.lst_inv;cases w;have i:q∉f1:=λz=>k q z q (b q ag) rfl;exact Iss.cons (Is.tr (TK.upd' mu) _ _ _ (λz c=>RdK.upd_ne λe=>i (e▸c)) f) (Iss.setRow d e ex g mu pn h')
noncomputable def X3(i:Nat)(fa fb:XE)(f:XE):XS:=λs=>(f s).bind λl=>(fa s).bind λa=>(fb s).bind λb=>(Er a).bind λa=>(Er b).bind λb=>(LK s i).bind λm=>(LW m.length a).bind λj=>(m[j]?).bind λr=>(asL r).bind λn=>
 (gd (ZC n&&ZI l)).bind λ_=>(LW n.length b).map λc=>.nx (s.set i (ax (.lst (m.set j (.lst (n.set c l))))))
theorem UG{X:Cx}{O:List Nat}{i:Nat}{st:bp}{f U fb:XE}(h:PS X st (Jt (tF X.K f) (Zcf (tOp (Zc1 X.K) (QM i) (tF X.K U)) (tF X.K fb) EI)))(x:i∈O:=by decide):VS X O [i] st (X3 i U fb f):=PS.imp h λD σ H ⟨H0,fps,s,out,r,e,k⟩=>by
 obtain⟨l,e0,e⟩:=Zc e;obtain⟨a,W,e⟩:=Zc e;obtain⟨b,e2,e⟩:=Zc e;obtain⟨ai,ea,e⟩:=Zc e;obtain⟨bi,eb,e⟩:=Zc e;obtain⟨m,F,e⟩:=Zc e;obtain⟨j,ej,e⟩:=Zc e;obtain⟨Xa,N,e⟩:=Zc e;obtain⟨n,er,e⟩:=Zc e;obtain⟨_,eg,e⟩:=Zc e;rw[TY ea] at W;rw[TY eb] at e2;rw[Ki er] at N;have F:=V4 F;have Y:=Vt eg;simp only[ao] at Y;obtain⟨P,T⟩:=Y;obtain⟨c,ec,rfl⟩:=map_some e;obtain⟨p,xs,fq,hv,hp,R,A⟩:=r.lst_at x F;refine⟨λ_=>False,s,l,λ_ z=>z.elim,r.env,e0,λy H1 fy s1 S _=>?_⟩;refine⟨.ref p,hv,λ_=>False,s,_,λ_ z=>z.elim,r.env.mono s1,W,λz H2 fz s2 i2 _=>?_⟩;obtain⟨rfl,_⟩:=i2.int_inv;have u:=s1.trans s2;obtain⟨q,f1,t,iq,v⟩:=(R.mono u).get N;obtain⟨g,L,fz',rfl,Q,Z,rfl⟩:=id iq.lst_inv;refine⟨p,xs,ai,.ref g,rfl,rfl,SqL.of (u _ _ hp),?_,λ_=>False,s,_,λ_ z=>z.elim,r.env.mono u,e2,λw H3 fw G i3 _=>?_⟩
 ·unfold SD;rw[R.len,ej];exact t
 obtain⟨rfl,_⟩:=i3.int_inv;have d:=u.trans G;have M:=r.grow d;have B:g∈fps i:=by rw[A];exact aQ _ (v g ag)
 have mu:=(M.own i x g B).2;have C:=G _ _ Q;have:=Is.pure _ _ _ T S;subst this;refine⟨g,L,bi,c,rfl,rfl,C,by rw[Z.len];exact ec,?_⟩;have I:=r.nd i x;rw[A] at I;have J:g≠p:=λz=>(av.mp I).1 (z▸v g ag);have o:Iss X.K (L2.upd H3 g (.lst (L.set c y))) (n.set c l) (L.set c y) []:=Iss.tr (TK.upd' mu) _ _ _ (λq t=>by simp at t) (Iss.setP c P T ((Z.mono G).pureEq P) (S.mono (s2.trans G)));have E:=Iss.setRow (R.mono d) N t (av.mp I).2 mu P o;refine k _ _ _ (M.mutate x B hv (UD F) (Is.lst (by rw[L2.upd_ne (bO J)];exact d _ _ hp) E) I (λq t=>?_) (λj hj q t z=>r.dis i x j hj q (by rw[A];exact t) z) bS) Pd;refine⟨(r.own i x q (by rw[A];exact t)).1,?_⟩;by_cases e:q=g
 ·subst e;rw[Zi];exact bS
 ·rw[L2.upd_ne e];exact(M.own i x q (by rw[A];exact t)).2
noncomputable def Zdt(i:Nat)(g:PV->PV->Option PV)(f:XE):XS:=λs=>match s[i]? with | some (ax a)=>(f s).bind λb=>(g a b).map λl=>.nx (s.set i (ax l)) | _=>aA
theorem Ak{X:Cx}{O:List Nat}{i:Nat}{st:bp}{f:XE}{g:Int->Int->Int}(h:PS X st (Zfs i (tF X.K f) (ipI g))):VS X O [i] st (Zdt i (gI g) f):=PS.imp h λD B H ⟨A,fps,s,out,r,e,k⟩=>by
 unfold Zdt at e;split at e
 case h_2=>cases e
 rename_i a ea;obtain⟨b,q,e⟩:=Zc e;obtain⟨l,x,rfl⟩:=map_some e;obtain⟨m,n,rfl,rfl,rfl⟩:=Hw x;obtain⟨v,t,w⟩:=r.is i _ ea;refine⟨v,t,λ_=>False,s,_,λ_ z=>z.elim,r.env,q,λy o C s1 d _=>⟨m,n,w.int_inv.1,d.int_inv.1,?_⟩⟩;refine k _ _ o ((r.grow s1).set (Is.int _) (λ_=>⟨bu,λp c=>by simp at c⟩) λj _ _ p c=>by simp at c) λj u=>?_;have:j≠i:=by simpa using u
 exact⟨by rw[bQ,m9 (bO this)],.inl (Z6 this)⟩
end VL
namespace VL
open PySem PySem.Spec PyProof.Rows L2
variable {K:aF}
noncomputable def OZ:PV->Option Yp
 | .int i=>ax (.inl i)
 | .str x=>ax (.inr x)
 | _=>aA
noncomputable def NC:List PV->Option (List Yp)
 | []=>ax []
 | a::r=>(OZ a).bind λk=>(NC r).map (k::·)
noncomputable def My:PV->Option (List Yp)
 | .tup l=>NC l
 | _=>aA
theorem Qr{H:Hp}{a:PV}{k:Yp}{v:V}{b:List aL}(e:OZ a=ax k)(h:Is K H a v b):v=kV k/\b=[]:=by
 cases a with
 | int i=>cases e;exact h.int_inv
 | str x=>cases e;exact h.str_inv
 | _=>cases e
theorem Kk{H:Hp}:∀{l:List PV}{ks:List Yp}{xs:List V}{fp:List aL},NC l=ax ks->Iss K H l xs fp->xs=ks.map kV/\fp=[]
 | [],ks,xs,fp,e,h=>by cases e;simpa only[eR,Iss] using h
 | a::r,ks,xs,fp,e,h=>by obtain⟨k,d,e⟩:=Zc (show(OZ a).bind (λk=>(NC r).map (k::·))=ax ks from e);obtain⟨i,c,rfl⟩:=map_some e;obtain⟨x,j,f1,g,rfl,b,f,rfl⟩:=h.inv;obtain⟨rfl,rfl⟩:=Qr d b;obtain⟨rfl,rfl⟩:=Kk c f;exact⟨rfl,rfl⟩
theorem HG{H:Hp}{a:PV}{k:List Yp}{v:V}{c:List aL}(e:My a=ax k)(h:Is K H a v c):∃b,v = .ref b/\H b=ax (.tup (k.map kV)):=by
 cases a with
 | tup l=>
  obtain⟨p,xs,rfl,d,f⟩:=h.tup_inv;obtain⟨rfl,_⟩:=Kk (e) f;exact⟨p,rfl,d⟩
 | _=>cases e
section
variable {κ:Type} [DecidableEq κ]
noncomputable def WL(ks:List κ)(vs:List PV)(k:κ):Option PV:=((ks.zip vs).find? λz=>decide (z.1=k)).map (·.2)
noncomputable def Pe(ks:List κ)(k:κ):List κ:=if k∈ks then ks else ks++[k]
noncomputable def Pf(ks:List κ)(vs:List PV)(k:κ)(v:PV):List PV:=if k∈ks then(ks.zip vs).map λz=>if z.1=k then v else z.2 else vs++[v]
theorem Pg{H:Hp}:∀{m4:List (κ×V)}{l:List PV}{fq:List aL}(k:κ),Iss K H l (m4.map (·.2)) fq->
  (WL (m4.map (·.1)) l k=aA/\TC m4 k=aA)\/∃a x f,WL (m4.map (·.1)) l k=ax a/\TC m4 k=ax x/\Is K H a x f/\∀p∈f,p∈fq
 | [],l,fq,k,h=>.inl ⟨by unfold WL;simp,rfl⟩
 | kv::r,[],fq,k,h=>by have:=h.len;simp at this
 | kv::r,a::l,fq,k,h=>by
  obtain⟨x,s,f1,t,e,q,m,rfl⟩:=h.inv;cases e;by_cases c:kv.1=k
  ·refine .inr ⟨a,kv.2,f1,?_,TF c,q,λp d=>bC _ d⟩;unfold WL;rw[af,cQ,cf];simp[c]
  ·have j:WL ((kv::r).map (·.1)) (a::l) k=WL (r.map (·.1)) l k:=by unfold WL;rw[af,cQ,cf];simp[c]
   rw[j,TH c];rcases Pg (l:=l) k m with z | ⟨b,y,f,n,g,o,i⟩
   ·exact .inl z
   ·exact .inr ⟨b,y,f,n,g,o,λp d=>aq _ (i p d)⟩
theorem any_mem{a:List (κ×V)}{k:κ}:(a.any λb=>decide (b.1=k))=aC↔k∈a.map (·.1):=by simp
theorem HH{a:List (κ×V)}{k:κ}{x:V}:(VU a k x).map (·.1)=Pe (a.map (·.1)) k:=by
 unfold VU Pe;by_cases h:k∈a.map (·.1)
 ·rw[m7 (any_mem.mpr h),m7 h,bh];apply ar;intro z _;show(if z.1=k then(z.1,x) else z).1=z.1;split<;>rfl
 ·rw[m9 (λz=>h (any_mem.mp z)),m9 h,bP];rfl
theorem HI{H:Hp}{d:List (κ×V)}{l:List PV}{k:κ}{a:PV}{x:V}(h:Iss K H l (d.map (·.2)) [])(g:ZC l=aC)(m:Is K H a x [])(p:ZI a=aC):Iss K H (Pf (d.map (·.1)) l k a) ((VU d k x).map (·.2)) []:=by
 unfold VU Pf;by_cases c:k∈d.map (·.1)
 ·rw[m7 (any_mem.mpr c),m7 c];clear c
  induction d generalizing l with
  | nil=>
   have:=h.len
   cases l with
   | nil=>exact Iss.nil
   | cons _ _=>simp at this
  | cons kv r f=>
   cases l with
   | nil=>have:=h.len;simp at this
   | cons b l=>
    obtain⟨y,q,f1,t,e,i,j,s⟩:=h.inv;cases e;simp only[ZC,ao] at g;have o:=Is.pure _ _ _ g.1 i;have n:=Iss.pure _ _ _ g.2 j;subst o n;have f:=f j g.2;rw[af,cQ,af,af];by_cases e:kv.1=k
    ·rw[m7 e,m7 e];exact Iss.cons m f
    ·rw[m9 e,m9 e];exact Iss.cons i f
 ·rw[m9 (λz=>c (any_mem.mp z)),m9 c,bP];exact h.append (Iss.one m)
end
noncomputable def V5:PV->PV->Option PV
 | .dK ks vs,k=>(OZ k).bind λk=>WL ks vs k
 | .dT ks vs,k=>(My k).bind λk=>WL ks vs k
 | _,_=>aA
noncomputable def dIn:PV->PV->Option Bool
 | .dK ks vs,k=>(OZ k).map λk=>(WL ks vs k).isSome
 | .dT ks vs,k=>(My k).map λk=>(WL ks vs k).isSome
 | _,_=>aA
theorem Mz{H:Hp}{d k:PV}{x y:V}{B C:List aL}(hd:Is K H d x B)(A:Is K H k y C){b:Bool}(e:dIn d k=ax b):∃a o,x = .ref a/\L3 H a y o/\o.isSome=b/\((V5 d k=aA/\o=aA)\/∃c v f,V5 d k=ax c/\o=ax v/\Is K H c v f/\∀p∈f,p∈B):=by
 cases d with
 | dK ks vs=>
  obtain⟨g,l,rfl⟩:=map_some (e);obtain⟨p,i,E,rfl,s,rfl,m,rfl⟩:=hd.dK_inv;obtain⟨rfl,_⟩:=Qr l A;refine⟨p,TC i g,rfl,.inl ⟨i,g,s,rfl,rfl⟩,?_,?_⟩
  ·rcases Pg g m with⟨j,h⟩ | ⟨a,v,f,j,h,_⟩<;>rw[j,h]<;>rfl
  ·show(V5 (.dK _ vs) k=aA/\_)\/_;have t:V5 (.dK (i.map (·.1)) vs) k=WL (i.map (·.1)) vs g:=by show(OZ k).bind _=_;rw[l];rfl
   rw[t];rcases Pg g m with z | ⟨a,v,f,j,h,u,n⟩
   ·exact .inl z
   ·exact .inr ⟨a,v,f,j,h,u,λq w=>aQ _ (n q w)⟩
 | dT ks vs=>
  obtain⟨g,l,rfl⟩:=map_some (e);obtain⟨p,i,E,rfl,s,rfl,m,rfl⟩:=hd.dT_inv;obtain⟨b,rfl,D⟩:=HG l A;refine⟨p,TC i g,rfl,.inr ⟨i,g,b,s,rfl,D,rfl⟩,?_,?_⟩
  ·rcases Pg g m with⟨j,h⟩ | ⟨a,v,f,j,h,_⟩<;>rw[j,h]<;>rfl
  ·have t:V5 (.dT (i.map (·.1)) vs) k=WL (i.map (·.1)) vs g:=by show(My k).bind _=_;rw[l];rfl
   rw[t];rcases Pg g m with z | ⟨a,v,f,j,h,u,n⟩
   ·exact .inl z
   ·exact .inr ⟨a,v,f,j,h,u,λq w=>aQ _ (n q w)⟩
 | _=>cases e
theorem Al{d k c:PV}(h:V5 d k=ax c):dIn d k=ax aC:=by
 cases d with
 | dK ks vs=>
  obtain⟨a,e,b⟩:=Zc (h);show(OZ k).map _=_;rw[e];show ax ((WL ks vs a).isSome)=_;rw[b];rfl
 | dT ks vs=>
  obtain⟨a,e,b⟩:=Zc (h);show(My k).map _=_;rw[e];show ax ((WL ks vs a).isSome)=_;rw[b];rfl
 | _=>cases h
section
variable {X:Cx} {o i e f:bH} {fd fk fx:XE} {pos apos cpos:dz}
theorem Dl:∀g H Q,tF K (Zl V5 fd fk) g H Q->Zbd (tF K fd) (tF K fk) g H Q:=λg H Q ⟨i,s,l,hd,env,e,k⟩=>by
 obtain⟨d,m,o,B,b⟩:=W0 e;refine⟨i,s,d,hd,env,o,λx E f1 s1 j w=>⟨i,s,m,λp f=>Same.mut s1 (hd p f),env.mono s1,B,λy t G s2 C F=>?_⟩⟩;obtain⟨a,D,rfl,u,_,h⟩:=Mz (j.mono s2) C (Al b);rcases h with⟨z,_⟩ | ⟨c,v,fv,q,rfl,A,n⟩
 ·rw[z] at b;cases b
 ·rw[q] at b;cases b;exact⟨a,v,rfl,u,k v t fv (s1.trans s2) A λp f=>w p (n p f)⟩
theorem HJ(b:X.A.units+1<dc)(a:VE X o fd)(c:VE X i fk)(d:Zc6 i:=by exact λ_ _=>rfl):VE X (.Subscript o i pos) (Zl V5 fd fk):=PE.imp (BW b a c d) Dl
noncomputable def JV(neg:Bool)(fk fd:XE):XE:=λs=>(fk s).bind λk=>(fd s).bind λd=>(dIn d k).map λb=>.bl (if neg then !b else b)
theorem Am:∀f H Q,tF K (JV aB fk fd) f H Q->Zf9 (tF K fk) (tF K fd) f H Q:=λf H Q ⟨g,s,l,hd,env,e,k⟩=>by obtain⟨i,m,e⟩:=Zc e;obtain⟨d,t,e⟩:=Zc e;obtain⟨b,n,rfl⟩:=map_some e;refine⟨g,s,i,hd,env,m,λy v f1 s1 h A=>⟨g,s,d,λp c=>Same.mut s1 (hd p c),env.mono s1,t,λx o z s2 u w=>?_⟩⟩;obtain⟨a,j,rfl,q,rfl,_⟩:=Mz u (h.mono s2) n;exact⟨a,j,rfl,q,k _ o [] (s1.trans s2) (Is.bl _) λp c=>by simp at c⟩
theorem JW:∀f H Q,tF K (JV aC fk fd) f H Q->Hq (tF K fk) (tF K fd) f H Q:=λf H Q ⟨g,s,l,hd,env,e,k⟩=>by obtain⟨i,m,e⟩:=Zc e;obtain⟨d,t,e⟩:=Zc e;obtain⟨b,n,rfl⟩:=map_some e;refine⟨g,s,i,hd,env,m,λy v f1 s1 h A=>⟨g,s,d,λp c=>Same.mut s1 (hd p c),env.mono s1,t,λx o z s2 u w=>?_⟩⟩;obtain⟨a,j,rfl,q,rfl,_⟩:=Mz u (h.mono s2) n;exact⟨a,j,rfl,q,k _ o [] (s1.trans s2) (Is.bl _) λp c=>by simp at c⟩
theorem Zdv(c:X.A.units+1<dc)(d:VE X i fk)(b:VE X o fd)(e:cJ .In o=aB:=by with_unfolding_all rfl):VT X (.Compare i [.In] [o] pos) (xB (JV aB fk fd)):=PT.imp (Jr (Zc7 c d b) e) λa H Q h=>Mp Am a H Q (Dc a H Q h)
theorem Fp(c:X.A.units+1<dc)(d:VE X i fk)(b:VE X o fd)(e:cJ .NotIn o=aB:=by with_unfolding_all rfl):VT X (.Compare i [.NotIn] [o] pos) (xB (JV aC fk fd)):=PT.imp (Jr (G8 c d b) e) λa H Q h=>Mp JW a H Q (Dc a H Q h)
end
noncomputable def An(d k v:PV):Option PV:=match d with
 | .dT ks vs=>(gd (ZC vs&&ZI v&&decide (ks.length<=10000))).bind λ_=>(My k).map λk=>.dT (Pe ks k) (Pf ks vs k v)
 | .dK ks vs=>(gd (ZC vs&&ZI v&&decide (ks.length<=10000))).bind λ_=>(OZ k).map λk=>.dK (Pe ks k) (Pf ks vs k v)
 | _=>aA
noncomputable def sDPut(i:Nat)(fk fv:XE):XS:=λs=>(fv s).bind λv=>(fk s).bind λk=>((s[i]?).join).bind λd=>(An d k v).map λd=>.nx (s.set i (ax d))
theorem MA{X:Cx}{O:List Nat}{i:Nat}{st:bp}{U fv:XE}(h:PS X st (L2.sDPut (QM i) (tF X.K U) (tF X.K fv)))(l:i∈O:=by decide):VS X O [i] st (sDPut i U fv):=PS.imp h λD σ H ⟨H0,fps,s,out,r,e,k⟩=>by
 obtain⟨v,T,e⟩:=Zc e;obtain⟨S,W,e⟩:=Zc e;obtain⟨d,t,e⟩:=Zc e;obtain⟨d',n,rfl⟩:=map_some e;have t:=Nx t
 cases d with
 | dT ks vs=>
  obtain⟨_,N,n⟩:=Zc (n);have B:=Vt N;simp only[ao,decide_eq_true_eq] at B;obtain⟨⟨m,A⟩,g⟩:=B;obtain⟨I,L,rfl⟩:=map_some n;obtain⟨p,P,fq,w,G,rfl,E,x⟩:=r.dT_at l t;refine⟨λ_=>False,s,v,λ_ z=>z.elim,r.env,T,λy Y fy s1 u _=>⟨.ref p,w,λ_=>False,s,S,λ_ z=>z.elim,r.env.mono s1,W,λz H2 fz s2 R _=>?_⟩⟩;have c:=s1.trans s2;obtain⟨b,rfl,Z⟩:=HG L R;have Q:=Is.pure _ _ _ A u;subst Q;have o:=(E.mono c).pureEq m;have F:=Iss.pure _ _ _ m E;subst F;have C:=r.grow c;have a:p∈fps i:=by rw[x];exact ag
  have J:=(C.own i l p a).2;refine⟨p,_,rfl,.inr ⟨P,I,b,c _ _ G,rfl,Z,by rw[<-aK (·.1)];exact lt_size g,rfl⟩,?_⟩;refine k _ _ _ (C.mutate l a w (UD t) (Is.dT Zi HH (Iss.tr (TK.upd' J) _ _ _ (λq f=>by simp at f) (HI o m (u.mono s2) A))) (by simp) (λq f=>?_) (λj M q f z=>r.dis i l j M q (by rw[x];exact f) z) bS) Pd;rw[aN.mp f];exact⟨(r.own i l p a).1,by rw[Zi];exact bS⟩
 | dK ks vs=>
  obtain⟨_,N,n⟩:=Zc (n);have B:=Vt N;simp only[ao,decide_eq_true_eq] at B;obtain⟨⟨m,A⟩,g⟩:=B;obtain⟨I,L,rfl⟩:=map_some n;obtain⟨p,P,fq,w,G,rfl,E,x⟩:=r.dK_at l t;refine⟨λ_=>False,s,v,λ_ z=>z.elim,r.env,T,λy Y fy s1 u _=>⟨.ref p,w,λ_=>False,s,S,λ_ z=>z.elim,r.env.mono s1,W,λz H2 fz s2 R _=>?_⟩⟩;have c:=s1.trans s2;obtain⟨rfl,_⟩:=Qr L R;have Q:=Is.pure _ _ _ A u;subst Q;have o:=(E.mono c).pureEq m;have F:=Iss.pure _ _ _ m E;subst F;have C:=r.grow c;have a:p∈fps i:=by rw[x];exact ag
  have J:=(C.own i l p a).2;refine⟨p,_,rfl,.inl ⟨P,I,c _ _ G,rfl,by rw[<-aK (·.1)];exact lt_size g,rfl⟩,?_⟩;refine k _ _ _ (C.mutate l a w (UD t) (Is.dK Zi HH (Iss.tr (TK.upd' J) _ _ _ (λq f=>by simp at f) (HI o m (u.mono s2) A))) (by simp) (λq f=>?_) (λj M q f z=>r.dis i l j M q (by rw[x];exact f) z) bS) Pd;rw[aN.mp f];exact⟨(r.own i l p a).1,by rw[Zi];exact bS⟩
 | _=>cases n
end VL
namespace VL
open PySem PySem.Spec PyProof.Rows L2
variable {K:aF}
section
variable {X:Cx} {a b c d:bH} {fa fb fc fd:XE} {pos:dz}
theorem Zbi(d:X.A.units+64<dc)(c:VE X a fa)(e:VE X b fb):VE X (.Compare a [.Eq] [b] pos) (Zl (WU aB) fa fb):=Mk (Dg d) (JO aB) c e (V0 _)
theorem V6(d:X.A.units+64<dc)(c:VE X a fa)(e:VE X b fb):VT X (.Compare a [.Eq] [b] pos) (xB (Zl (WU aB) fa fb)):=Td (Dg d) (JO aB) c e (V0 _)
theorem RI(d:X.A.units+64<dc)(c:VE X a fa)(e:VE X b fb):VT X (.Compare a [.NotEq] [b] pos) (xB (Zl (WU aC) fa fb)):=Td (Zdp d) (JO aC) c e (V0 _)
theorem Zbj(d:X.A.units+64<dc)(c:VE X a fa)(f:VE X b fb)(e:cJ .In b=aB:=by with_unfolding_all rfl):VE X (.Compare a [.In] [b] pos) (Zl (Qp aB) fa fb):=Mk (Dh d) (JP aB) c f e
theorem Dm(d:X.A.units+64<dc)(c:VE X a fa)(f:VE X b fb)(e:cJ .In b=aB:=by with_unfolding_all rfl):VT X (.Compare a [.In] [b] pos) (xB (Zl (Qp aB) fa fb)):=Td (Dh d) (JP aB) c f e
theorem Ph(d:X.A.units+64<dc)(c:VE X a fa)(f:VE X b fb)(e:cJ .NotIn b=aB:=by with_unfolding_all rfl):VT X (.Compare a [.NotIn] [b] pos) (xB (Zl (Qp aC) fa fb)):=Td (Fi d) (JP aC) c f e
noncomputable def blO:PV->Option Bool
 | .bl c=>ax c
 | _=>aA
end
section
variable {X:Cx} {a b:bH} {fa fb:XE} {pos:dz}
noncomputable def Dp:PV->PV->Option PV
 | .lst m,.lst n=>if m.length+n.length<=10000 then ax (.lst (m++n)) else aA
 | _,_=>aA
noncomputable def HK:PV->PV->Option PV
 | .lst m,.lst n=>if m.length+n.length<=10000/\ZC m=aC/\ZC n=aC then ax (.lst (m++n)) else aA
 | _,_=>aA
theorem HL(B:VE X a fa)(A:VE X b fb):VM X (.BinOp a .Add b pos) (Zl HK fa fb):=PE.imp (Hi EJ B A) λI H Q ⟨s,l,env,e,k⟩=>by
 obtain⟨h,i,v,C,e⟩:=W0 e;refine⟨λ_=>False,s,h,λ_ z=>z.elim,env,v,λx G f1 s1 t _=>⟨λ_=>False,s,i,λ_ z=>z.elim,env.mono s1,C,λy L J s2 D _=>?_⟩⟩
 cases h with
 | lst m=>cases i with
  | lst n=>
   have e:(if m.length+n.length<=10000/\ZC m=aC/\ZC n=aC then ax (PV.lst (m++n)) else aA)=ax l:=e;split at e
   case isFalse=>cases e
   rename_i f;cases e;obtain⟨p,xs,M,rfl,u,j,rfl⟩:=t.lst_inv;obtain⟨F,o,E,rfl,d,c,rfl⟩:=D.lst_inv;refine⟨p,F,xs,o,rfl,rfl,s2 _ _ u,d,by rw[j.len,c.len];exact bz (lt_size f.1),λq g=>?_⟩;refine k _ _ [q] (s1.trans (s2.trans (Same.new g _))) (Is.lst Zi ((((j.mono s2).pureEq f.2.1).append (c.pureEq f.2.2)).mono (Same.new g _))) (by simp) λr w=>?_;rw[aN.mp w];exact⟨Same.off (s1.trans s2) g,by rw[Zi];exact bS⟩
  | _=>cases e
 | _=>cases e
noncomputable def Fq:PV->PV->Option PV
 | .lst m,.int k=>if ZC m=aC/\-1000000<=k/\k<=1000000/\m.length*k.toNat<=10000 then ax (.lst (aT k.toNat m).flatten) else aA
 | _,_=>aA
theorem Iss.rep{H:Hp}{m:List PV}{xs:List V}(h:Iss K H m xs []):∀k:Nat,Iss K H (aT k m).flatten (aT k xs).flatten []
 | 0=>Iss.nil
 | k+1=>by rw[dD,dD,fC,fC];exact h.append (Iss.rep h k)
theorem JX(v:VE X a fa)(u:VE X b fb):VM X (.BinOp a .Mult b pos) (Zl Fq fa fb):=PE.imp (Hi Zc5 v u) λC H Q ⟨s,l,env,e,k⟩=>by
 obtain⟨d,g,o,w,e⟩:=W0 e;refine⟨λ_=>False,s,d,λ_ z=>z.elim,env,o,λx B f1 s1 i _=>⟨λ_=>False,s,g,λ_ z=>z.elim,env.mono s1,w,λy E D s2 A _=>?_⟩⟩
 cases d with
 | lst m=>cases g with
  | int n=>
   have e:(if ZC m=aC/\-1000000<=n/\n<=1000000/\m.length*n.toNat<=10000 then ax (PV.lst (aT n.toNat m).flatten) else aA)=ax l:=e;split at e
   case isFalse=>cases e
   rename_i f;cases e;obtain⟨p,xs,F,rfl,j,h,rfl⟩:=i.lst_inv;refine⟨p,n,xs,rfl,A.int_inv.1,s2 _ _ j,by omega,by omega,by rw[h.len];exact bz (lt_size f.2.2.2),λq c=>?_⟩;refine k _ _ [q] (s1.trans (s2.trans (Same.new c _))) (Is.lst Zi ((Iss.rep ((h.mono s2).pureEq f.1) n.toNat).mono (Same.new c _))) (by simp) λr t=>?_;rw[aN.mp t];exact⟨Same.off (s1.trans s2) c,by rw[Zi];exact bS⟩
  | _=>cases e
 | _=>cases e
end
theorem Iss.fps{H:Hp}:∀{ls:List PV}{vs:List V}{fp:List aL},Iss K H ls vs fp->∃fps:Nat->List aL,(∀(i:Nat) l,ls[i]?=ax l->∃v,vs[i]?=ax v/\Is K H l v (fps i))/\∀i,ls.length<=i->fps i=[]
 | [],vs,fp,h=>⟨λ_=>[],λi l e=>by simp at e,λ_ _=>rfl⟩
 | a::ls,vs,fp,h=>by
  obtain⟨x,r,f1,j,rfl,d,g,rfl⟩:=h.inv;obtain⟨fps,f,p2⟩:=g.fps;refine⟨λi=>match i with | 0=>f1 | k+1=>fps k,λi l e=>?_,λi c=>?_⟩
  ·cases i with
   | zero=>simp at e;subst e;exact⟨x,rfl,d⟩
   | succ k=>
    obtain⟨v,a,b⟩:=f k l (by simpa using e);exact⟨v,by simpa using a,b⟩
  ·cases i with
   | zero=>simp at c
   | succ k=>exact p2 k (by simpa using c)
noncomputable def ZH(m:Nat)(ls:List PV):ZE:=ls.map ax++aT (m-ls.length) aA
noncomputable def Tf:Out->Option PV
 | .rt v=>ax v
 | .nx _=>ax .non
 | _=>aA
noncomputable def YG(m:Nat)(f:XS):List PV->Option PV:=λls=>(f (ZH m ls)).bind Tf
theorem HM{N:List ay}{n:Nat}{O W:List Nat}{f:XS}{vs:List V}{H:Hp}{Q:VK}{E:XK}(w:∀i∈O,n<=i)(h:YX K (YG N.length f) n vs H Q E):tFS K O W f { nx:=λ_ o=>Q .non o,rt:=Q } (L2.start N vs) H:=by
 obtain⟨J,ls,y,l,g,e,q⟩:=h;obtain⟨out,B,t⟩:=Zc e;obtain⟨fps,C,p2⟩:=g.fps;have k:=g.len
 have s:∀i:Nat,ls.length<=i->∀l,(ZH N.length ls)[i]?≠ax (ax l):=λi g l z=>by
  unfold ZH at z;rw[bA (by simpa using g),bU] at z;split at z<;>cases z
 have u:Rel K O H fps (ZH N.length ls) (L2.start N vs) H:=by
  refine⟨Same.refl H,?_,λi a z=>?_,λi x=>?_,λi g=>?_,λi g p m=>?_,λi g j I p m=>?_⟩
  ·unfold ZH L2.start;simp[k]
  ·by_cases c:i<ls.length
   ·unfold ZH at z;rw[ah (by simpa using c),aW] at z
    cases q:ls[i]? with
    | none=>rw[q] at z;cases z
    | some b=>
     rw[q] at z;cases z;obtain⟨v,A,b1⟩:=C i a q;refine⟨v,?_,b1⟩;unfold L2.start;rw[ah (by simpa [k] using c),aW,A];rfl
   ·exact absurd z (s i (by omega) a)
  ·by_cases c:i<ls.length
   ·exact absurd (by unfold ZH;rw[ah (by simpa using c),aW,aH c];rfl) (x ls[i])
   ·exact p2 i (by omega)
  ·rw[p2 i (by have:=w i g;omega)];exact bu
  ·rw[p2 i (by have:=w i g;omega)] at m;simp at m
  ·rw[p2 i (by have:=w i g;omega)] at m;simp at m
 refine⟨H,fps,ZH N.length ls,out,u,B,?_⟩
 cases out with
 | nx s'=>
  cases t;exact λL D o G _=>q .non o [] G.same Is.non bu λp m=>by simp at m
 | rt v=>
  cases t;exact λv y o F i d n=>q v o y F i d n
 | bk s'=>cases t
 | ct s'=>cases t
section
variable {P:bB} {w:b8} {mg:ay->Option aI} {base:bW}
theorem MB{x:ay}{st:bp}{N ps:List ay}{k n:Nat}{O W:List Nat}(m:Nat)(f:XS)(D:Def K mg x st)(S:Zp N ps (Zf st))
  (g:∀(kV doc pm:aI)(an:Option aL)(b ct:aI)(us:List aI),us.length=ps.length->hU (cw x x (Y1 st) (Yd st) (Zf st) .none kV doc pm an b ct) ⟨us,[]⟩=pure (ps.zip us))
  (l:ps.length=n) (o:N.length=m) (j:∀i∈O,n<=i)
  (c:∀(d:aL)(b:aI)(A:ba)(a:List kM)(s:aM)(H:Hp)(E:XK),Room k (A.deeper (gL x (Zf st) s.heap.objs.size d b))->VSs (QP L5 P w K mg base N x (Zf st) d b A a s H E).nox O W (Yd st) f) :
  Y9 P w K mg base x ps (YX K (YG m f) n) (k+1):=by
 subst o;refine D.cal S g (λvs H Q E h=>by rw[l];exact h.1) λd b A a s H vs Q E e h=>⟨_,c d b A a s H E e,HM j h⟩
end
end VL
namespace VL
open PySem PySem.Spec PyProof.Rows L2
variable {K:aF}
section
variable {X:Cx} {O:List Nat} {tg elt iter:bH} {ifs:List bH} {scope:e7} {pos:dz} {fi:XL} {T:Tgt} {ft:XT} {fe:XE}
theorem WA(own fr:List ay)(f:List Nat){i:Nat}{y:ay}{g b:dz}(h:X.N.Nodup)(l:X.N[i]?=ax y)(d:X.env.scope.names.lookup y=ax .local)(c:X.calm=aC)(m:VI X tg iter fi)(S:Vm X.N X.env.scope scope own fr f=aC)
  (p:∀cl C s H a,PG (ZD X (own++fr) scope cl C s H a) tg (gT X.K T)) (j:∀cl C s H a,VTs (ZD X (own++fr) scope cl C s H a) ifs ft) (o:∀cl C s H a,VM (ZD X (own++fr) scope cl C s H a) elt fe)
  (k:∀i∈T.slots,i<own.length:=by decide)
  (e:fu (.ListComp elt [⟨tg,iter,ifs,0⟩] scope pos) (ax (.Name y g)) b.line X.env=pure aC:=by rfl)
  (n:∀x,bt iter X.env x=pure x:=by intro _;rfl):VS X O [i] (.Assign [.Name y g] (.ListComp elt [⟨tg,iter,ifs,0⟩] scope pos) b) (Zs i (Zu own.length f fi T ft fe)):=
 PS.imp (EU own fr f h l d c m S p (λcl C s H a=>(show Eo (ZD X (own++fr) scope cl C s H a) ifs (Jo X.K ft) from j cl C s H a)) (λcl C s H a=>(show PE (ZD X (own++fr) scope cl C s H a) elt (tM X.K fe) from o cl C s H a)) e n) (HF (HD k))
end
section
variable {P:bB} {w:b8} {mg:ay->Option aI} {base:bW}
theorem Zdw{x:ay}{st:bp}{N ps:List ay}{k n:Nat}{O W:List Nat}{d:aL}{e:eJ}(m:Nat)(f:XS)(F:Fun K x x st d e)(S:Zp N ps (Zf st))
  (l:ps.length=n) (o:N.length=m) (j:∀i∈O,n<=i)
  (c:∀(d:aL)(b:aI)(A:ba)(a:List kM)(s:aM)(H:Hp)(E:XK),Room k (A.deeper (gL x (Zf st) s.heap.objs.size d b))->VSs (QP L5 P w K mg base N x (Zf st) d b A a s H E).nox O W (Yd st) f) :
  RW P w K mg base L5 (k+1) d e ps (YX K (YG m f) n):=by
 subst o;refine F.ok S (λvs H Q E h=>by rw[l];exact h.1) λb A a s H vs Q E g h=>⟨_,c d b A a s H E g,?_⟩;exact HM j h
theorem Dq{st:bp}{x:ay}{D:List PV->Option PV}{k:Nat}{i:aL}(o:Def K mg "law" st)(h:mg "law" = ax (.ref i))
  (m:∀(kV c g:aI)(j:Option aL)(d ct u:aI),hU (cw "law" "law" (Y1 st) (Yd st) (Zf st) .none kV c g j d ct) ⟨[u],[]⟩=pure [(x,u)])
  (H:∀(a:bW)(f:aL)(b:eJ),K.In a->a.Ns cE mg->Fun K "law" "law" st f b->RW P w K mg a L5 k f b [x] (YX K D 1)) :
  ∃b:eJ,(∀(s:aM)(u:aI),k9 s b ⟨[u],[]⟩ [(x,u)])/\∀a:bW,K.In a->a.Ns cE mg->RW P w K mg a L5 k i b [x] (YX K D 1):=by
 obtain⟨f,b,q,F⟩:=o.ex;have e:=h.symm.trans q;cases e;refine⟨b,?_,λa t n=>H a i b t n F⟩;obtain⟨v,y,kV,c,g,j,d,ct,l,rfl,z,p⟩:=F.ex;exact λs u=>.of_eq (m kV c g j d ct u)
end
end VL
namespace VL
open PySem L2
@[simp] theorem eVar_def(i:Nat)(s:ZE):Za i s=(s[i]?).join:=rfl
@[simp] theorem eC_def(l:PV)(s:ZE):eC l s=ax l:=rfl
@[simp] theorem WB(g:PV->PV->Option PV)(a b:XE)(s:ZE):Zl g a b s=(a s).bind λx=>(b s).bind λy=>g x y:=rfl
@[simp] theorem eUn_def(g:PV->Option PV)(a:XE)(s:ZE):Ff g a s=(a s).bind g:=rfl
@[simp] theorem SR(f:XE)(s:ZE):eP f s=(f s).bind λl=>if ZI l=aC then ax l else aA:=rfl
@[simp] theorem HN(s:ZE):Qm [] s=ax []:=rfl
@[simp] theorem Zx(f:XE)(fs:List XE)(s:ZE):Qm (f::fs) s=(f s).bind λx=>(Qm fs s).map (x::·):=rfl
@[simp] theorem YB(D:List PV->Option PV)(fs:List XE)(s:ZE):Ze D fs s=(Qm fs s).bind D:=rfl
@[simp] theorem TZ(fs:List XE)(s:ZE):Wd fs s=(Qm fs s).map .tup:=rfl
@[simp] theorem Dr(fs:List XE)(s:ZE):WK fs s=(Qm fs s).map .lst:=rfl
@[simp] theorem Qs(g:PV->Option Int->Option Int->Option PV)(a:XE)(lo hi:XO)(s:ZE):OO g a lo hi s=(a s).bind λx=>(lo s).bind λl=>(hi s).bind λu=>g x l u:=rfl
@[simp] theorem HP(s:ZE):OY s=ax aA:=rfl
@[simp] theorem gI_ii(g:Int->Int->Int)(i j:Int):gI g (.int i) (.int j)=ax (.int (g i j)):=rfl
@[simp] theorem gB_ii(g:Int->Int->Bool)(i j:Int):gB g (.int i) (.int j)=ax (.bl (g i j)):=rfl
@[simp] theorem Zdx(C:Int->Int->Prop)[∀i j,Decidable (C i j)](g:Int->Int->Int)(i j:Int):Ep C g (.int i) (.int j)=if C i j then ax (.int (g i j)) else aA:=rfl
@[simp] theorem gIx_ti(l:List PV)(i:Int):ZW (.tup l) (.int i)=SD l i:=rfl
@[simp] theorem gIx_li(l:List PV)(i:Int):ZW (.lst l) (.int i)=SD l i:=rfl
@[simp] theorem gIx_ci(l:List PV)(i:Int):ZW (.cst l) (.int i)=SD l i:=rfl
@[simp] theorem MC(f:XE)(s:ZE):xB f s=(f s).bind blO:=by
 unfold xB
 cases f s with
 | none=>rfl
 | some a=>cases a<;>rfl
@[simp] theorem Zdy(b:Bool):blO (.bl b)=ax b:=rfl
@[simp] theorem Ds(a b:XT)(s:ZE):R1 a b s=(a s).bind λc=>if c=aC then b s else ax aB:=rfl
@[simp] theorem HQ(a b:XT)(s:ZE):E5 a b s=(a s).bind λc=>if c=aC then ax aC else b s:=rfl
@[simp] theorem Kl(a:XT)(s:ZE):Ka a s=(a s).map not:=rfl
@[simp] theorem Dt(a b:XE)(s:ZE):JJ a b s=(xB a s).bind λc=>if c=aC then b s else ax (.bl aB):=rfl
@[simp] theorem eOr_def(a b:XE)(s:ZE):eOr a b s=(xB a s).bind λc=>if c=aC then ax (.bl aC) else b s:=rfl
@[simp] theorem eNot_def(a:XE)(s:ZE):Ae a s=(xB a s).map λc=>.bl !c:=rfl
@[simp] theorem Qt(c:XT)(a b:XE)(s:ZE):LJ c a b s=(c s).bind λk=>if k=aC then a s else b s:=rfl
@[simp] theorem eIsN_def(neg:Bool)(a:XE)(s:ZE):OU neg a s=(a s).bind (Af neg):=rfl
@[simp] theorem sNext_def(s:ZE):YH s=ax (.nx s):=rfl
@[simp] theorem Pj(f g:XS)(s:ZE):Zn f g s=(f s).bind λo=>match o with | .nx s'=>g s' | r=>ax r:=rfl
@[simp] theorem T1(c:XT)(f g:XS)(s:ZE):Qq c f g s=(c s).bind λk=>if k=aC then f s else g s:=rfl
@[simp] theorem Du(f:XE)(s:ZE):ZL f s=(f s).map .rt:=rfl
@[simp] theorem YI(i:Nat)(f:XE)(s:ZE):Zs i f s=(f s).map λl=>.nx (s.set i (ax l)):=rfl
@[simp] theorem retO_rt(v:PV):Tf (.rt v)=ax v:=rfl
@[simp] theorem pureV_int(i:Int):ZI (.int i)=aC:=rfl
@[simp] theorem pureV_bl(i:Bool):ZI (.bl i)=aC:=rfl
@[simp] theorem pureV_str(i:ay):ZI (.str i)=aC:=rfl
@[simp] theorem pureV_non:ZI .non=aC:=rfl
@[simp] theorem pureV_tup(l:List PV):ZI (.tup l)=ZC l:=by rw[ZI]
@[simp] theorem pureL_nil:ZC []=aC:=rfl
@[simp] theorem pureL_cons(a:PV)(l:List PV):ZC (a::l)=(ZI a&&ZC l):=rfl
theorem UH{b:Type}{l:List b}{f:b->PV}(h:∀a∈l,ZI (f a)=aC):ZC (l.map f)=aC:=by rw[WZ,jR,au];exact h
@[simp] theorem pureL_iL(l:List Int):ZC (l.map PV.int)=aC:=Yb l
abbrev pP(l:List Int):PV:=.tup (iL l)
abbrev wP(W:List (List Int)):PV:=.tup (W.map pP)
@[simp] theorem Km(W:List (List Int)):ZC (W.map pP)=aC:=UH λa _=>by simp
theorem Dv{l:List PV}{k:Nat}{a:PV}(h:l[k]?=ax a):SD l (k:Int)=ax a:=Uz h
theorem MD{l:List Int}{k:Nat}(h:k<l.length):(iL l)[k]?=ax (.int (Zq l k)):=by simp[Zq,aH h]
theorem Xi{l:List Int}{k:Nat}(h:k<l.length):SD (iL l) (k:Int)=ax (.int (Zq l k)):=Uz (MD h)
theorem T2{W:List (List Int)}{k:Nat}(h:k<W.length):SD (W.map pP) (k:Int)=ax (pP (Zw W k)):=by refine Uz ?_;rw[aW,Q0 h];rfl
@[simp] theorem gSum_t(l:List Int):Q6 [.tup (l.map PV.int)]=ax (.int l.sum):=by simp[Q6,R3,Yf l]
@[simp] theorem Dw(l:List Int):Q6 [.lst (l.map PV.int)]=ax (.int l.sum):=by simp[Q6,R3,Yf l]
@[simp] theorem Zdz(l:List Bool):Fh [.lst (l.map PV.bl)]=ax (.bl (l.all id)):=by simp[Fh,R3,Ta l]
@[simp] theorem gLen_t(l:List PV):ZQ [.tup l]=ax (.int l.length):=rfl
@[simp] theorem gLen_l(l:List PV):ZQ [.lst l]=ax (.int l.length):=rfl
@[simp] theorem gLen_c(l:List PV):ZQ [.cst l]=ax (.int l.length):=rfl
@[simp] theorem T3(l:List PV):ZX [.lst l]=ax (.tup l):=rfl
@[simp] theorem gTuple_t(l:List PV):ZX [.tup l]=ax (.tup l):=rfl
@[simp] theorem Dx(l:List PV):SM [.tup l]=if ZC l=aC then ax (.lst l) else aA:=rfl
@[simp] theorem Dy(l:List PV):SM [.lst l]=if ZC l=aC then ax (.lst l) else aA:=rfl
@[simp] theorem gMin2_ii(i j:Int):Zgo [.int i,.int j]=ax (.int (if j<i then j else i)):=rfl
@[simp] theorem gMax2_ii(i j:Int):HA [.int i,.int j]=ax (.int (if j>i then j else i)):=rfl
@[simp] theorem gInt1_b(c:Bool):Q7 [.bl c]=ax (.int (if c then 1 else 0)):=rfl
@[simp] theorem gInt1_i(c:Int):Q7 [.int c]=ax (.int c):=rfl
@[simp] theorem gInst_ii(i:Int):VP [.int i,.ty "int"]=ax (.bl aC):=rfl
@[simp] theorem gInst_ib(i:Int):VP [.int i,.ty "bool"]=ax (.bl aB):=rfl
@[simp] theorem gInst_tt(l:List PV):VP [.tup l,.ty "tuple"]=ax (.bl aC):=rfl
@[simp] theorem gInst_ll(l:List PV):VP [.lst l,.ty "list"]=ax (.bl aC):=rfl
theorem HR(n:Nat)(i j:Int):Vq (n+1) (.int i) (.int j)=aC:=rfl
theorem RJ{d c:Type}{f:d->PV}{g:c->PV}{p:PV->PV->Bool}(h:∀a b,p (f a) (g b)=aC):∀(l:List d)(m:List c),((l.map f).zip (m.map g)).all (λz=>p z.1 z.2)=aC
 | [],_=>by simp
 | _::_,[]=>by simp
 | a::l,b::m=>by rw[af,af,cQ,gU,RJ h l m,h a b];rfl
theorem Ao(n:Nat)(l m:List Int):Vq (n+2) (pP l) (pP m)=aC:=RJ (λa b=>HR n a b) l m
theorem Zd0{l m:List Int}:iL l=iL m↔l=m:=by
 constructor
 ·intro h;exact(List.map_inj_right (λa b e=>PV.int.inj e)).mp h
 ·intro h;rw[h]
theorem pP_inj{l m:List Int}:pP l=pP m↔l=m:=by rw[PV.tup.injEq];exact Zd0
@[simp] theorem ME(neg:Bool)(i j:Int):WU neg (.int i) (.int j)=ax (.bl (if neg then !decide (i=j) else decide (i=j))):=by
 unfold WU;rw[m7 (HR 7 i j)];congr 2;cases neg<;>simp
@[simp] theorem gEq_pp(neg:Bool)(l m:List Int):WU neg (.tup (l.map PV.int)) (.tup (m.map PV.int))=ax (.bl (if neg then !decide (l=m) else decide (l=m))):=by unfold WU;rw[m7 (Ao 6 l m)];have:decide ((PV.tup (l.map PV.int)) = .tup (m.map PV.int))=decide (l=m):=decide_eq_decide.mpr pP_inj;rw[this]
theorem ND{c:Type}{T:Tgt}{e:XT}{d:XE}{f:ZE}{q g:c->PV}:∀{ls:List c},(∀a∈ls,∃s1,Xf T (q a) f=ax s1/\e s1=ax aC/\d s1=ax (g a))->Ww T e d f (ls.map q)=ax (ls.map g)
 | [],_=>rfl
 | a::r,h=>by obtain⟨s1,m,l,i⟩:=h a ag;have k:=ND (ls:=r) λb j=>h b (aQ _ j);rw[af,af];unfold Ww;rw[m];simp only[aZ,l,if_true,i,k,cS]
theorem T4{d:Type}{T:Tgt}{i:XT}{f:XE}{j:ZE}{q g:d->PV}{c:d->Bool}:∀{ls:List d},(∀a∈ls,∃s1,Xf T (q a) j=ax s1/\i s1=ax (c a)/\(c a=aC->f s1=ax (g a)))->Ww T i f j (ls.map q)=ax ((ls.filter c).map g)
 | [],_=>rfl
 | a::r,h=>by
  obtain⟨s1,n,m,k⟩:=h a ag;have e:=T4 (ls:=r) λb l=>h b (aQ _ l);rw[af];unfold Ww;rw[n];simp only[aZ,m]
  cases hc:c a with
  | true=>simp[k hc,e,hc]
  | false=>simp[e,hc]
theorem ZM{e:Type}{n:Nat}{d:List Nat}{i:XL}{T:Tgt}{c:XT}{f:XE}{s:ZE}(ls:List e)(q g:e->PV)(b:i s=ax (ls.map q))(j:ls.length<=10000)
  (h:∀a∈ls,∃s1,Xf T (q a) (ZG n d s)=ax s1/\c s1=ax aC/\f s1=ax (g a)):Zu n d i T c f s=ax (.lst (ls.map g)):=by
 unfold Zu;rw[b];simp only[aZ,aK,m7 j,ND h,cS]
theorem Xj{d:Type}{n:Nat}{f:List Nat}{j:XL}{T:Tgt}{e:XT}{i:XE}{s:ZE}(ls:List d)(q g:d->PV)(c:d->Bool)(b:j s=ax (ls.map q))(k:ls.length<=10000)
  (h:∀a∈ls,∃s1,Xf T (q a) (ZG n f s)=ax s1/\e s1=ax (c a)/\(c a=aC->i s1=ax (g a))):Zu n f j T e i s=ax (.lst ((ls.filter c).map g)):=by
 unfold Zu;rw[b];simp only[aZ,aK,m7 k,T4 h,cS]
theorem T5{T:Tgt}{fb:XS}:∀{ls:List PV}{s:ZE}(Jv:Nat->ZE->Prop),Jv 0 s->(∀(i:Nat) l st,ls[i]?=ax l->Jv i st->∃s1 s2,Xf T l st=ax s1/\fb s1=ax (.nx s2)/\Jv (i+1) s2)->
  ∃f,W8 T fb ls s=ax (.nx f)/\Jv ls.length f
 | [],s,Jv,h0,_=>⟨s,rfl,h0⟩
 | l::r,s,Jv,h0,h=>by obtain⟨s1,s2,a,b,c⟩:=h 0 l s rfl h0;obtain⟨f,d,e⟩:=T5 (ls:=r) (s:=s2) (λi=>Jv (i+1)) c λi j st k g=>h (i+1) j st (by simpa using k) g;refine⟨f,?_,e⟩;unfold W8;rw[a];simp only[aZ,b];exact d
theorem Dz{n i:Nat}{l:PV}(h:(Mv n)[i]?=ax l):i<n/\l = .int (i:Int):=by have a:=(aO.mp h).1;unfold Mv at a h;rw[aK,bw] at a;rw[aW,br a] at h;exact⟨a,(bJ h).symm⟩
theorem Kn{lo:Int}{n i:Nat}{l:PV}(h:(Te lo n)[i]?=ax l):i<n/\l = .int (lo+(i:Int)):=by have a:=(aO.mp h).1;unfold Te at a h;rw[aK,bw] at a;rw[aW,br a] at h;exact⟨a,(bJ h).symm⟩
@[simp] theorem DA(n:Nat):(Mv n).length=n:=by unfold Mv;simp
@[simp] theorem Ko(lo:Int)(n:Nat):(Te lo n).length=n:=by unfold Te;simp
@[simp] theorem bindT_one(i:Nat)(l:PV)(s:ZE):Xf (.one i) l s=ax (s.set i (ax l)):=rfl
theorem Fs(i j:Nat)(a b:PV)(s:ZE):Xf (.many [i,j]) (.tup [a,b]) s=ax ((s.set i (ax a)).set j (ax b)):=rfl
theorem YJ(m:List PV):Y5 m=(aD m.length).map λ(i:Nat)=>.tup [.int (i:Int),m.getD i .non]:=by
 apply gG;intro i;rw[aW];by_cases h:i<m.length
 ·have:(Y5 m)[i]?=ax (.tup [.int (i:Int),m[i]]):=by unfold Y5;simp
  rw[this,br h];simp[aH h]
 ·rw[cZ (by rw[X5];omega),cZ (by simpa using h)];rfl
theorem Vu(m n:List PV)(h:n.length=m.length):SN m n=(aD m.length).map λ(i:Nat)=>.tup [m.getD i .non,n.getD i .non]:=by
 apply gG;intro i;rw[aW];by_cases a:i<m.length
 ·have:(SN m n)[i]?=ax (.tup [m[i],n[i]]):=by unfold SN;rw[aW,iH (z:=(m[i],n[i])) |>.mpr ⟨aH a,aH (by omega)⟩];rfl
  rw[this,br a];simp[aH a,aH (show i<n.length by omega)]
 ·rw[cZ (by rw[Kg];omega),cZ (by simpa using a)];rfl
theorem Xk(l:List Int)(i:Nat)(h:i<l.length):(iL l).getD i .non = .int (Zq l i):=by rw[aG,MD h];rfl
theorem DB(W:List (List Int))(i:Nat)(h:i<W.length):(W.map pP).getD i .non=pP (Zw W i):=by rw[aG,aW,Q0 h];rfl
@[simp] theorem Ap(f:XE)(s:ZE):Z1 [f] s=(f s).bind λa=>(Er a).bind λj=>if -1000000<=j/\j<=1000000 then ax (Mv j.toNat) else aA:=by
 unfold Z1
 cases h:f s with
 | none=>simp[h]
 | some a=>cases a<;>simp[h,Er]
@[simp] theorem Aq(f g:XE)(s:ZE):W5 [f,g] s=(f s).bind λa=>(g s).bind λb=>(Er a).bind λi=>(Er b).bind λj=>if -1000000<=i/\i<=1000000/\-1000000<=j/\j<=1000000 then ax (Te i (j-i).toNat) else aA:=by
 unfold W5
 cases h:f s with
 | none=>simp[h]
 | some a=>cases h2:g s with
  | none=>simp[h,h2]
  | some b=>cases a<;>cases b<;>simp[h,h2,Er]
@[simp] theorem T6(i:Int):Er (.int i)=ax i:=rfl
@[simp] theorem HS(i:List PV):asL (.lst i)=ax i:=rfl
@[simp] theorem xEnum_def(b:Bool)(f:XE)(s:ZE):YV b [f] s=(f s).bind λl=>(seqB b l).map Y5:=by
 unfold YV;cases h:f s<;>simp[h]
@[simp] theorem xZip_def(b1 b2:Bool)(f g:XE)(s:ZE):OX b1 b2 [f,g] s=(f s).bind λl=>(g s).bind λr=>(seqB b1 l).bind λm=>(seqB b2 r).map λn=>SN m n:=by
 unfold OX;cases h:f s<;>cases h2:g s<;>simp[h,h2]
@[simp] theorem seqB_f(l:List PV):seqB aB (.tup l)=ax l:=rfl
@[simp] theorem seqB_t(l:List PV):seqB aC (.lst l)=ax l:=rfl
@[simp] theorem seqB_c(l:List PV):seqB aC (.cst l)=ax l:=rfl
@[simp] theorem xLst_def(f:XE)(s:ZE):YY f s=(f s).bind asS:=rfl
@[simp] theorem asS_l(l:List PV):asS (.lst l)=ax l:=rfl
@[simp] theorem asS_c(l:List PV):asS (.cst l)=ax l:=rfl
theorem Pk{f:XE}{s:ZE}{l:List PV}(h:f s=ax (.tup l)):OW f s=ax l:=by unfold OW;rw[h]
@[simp] theorem DC(O:List Nat)(fi:XL)(T:Tgt)(fb:XS)(s:ZE):YF O fi T fb s=(fi (Xg O s)).bind λls=>W8 T fb ls s:=rfl
@[simp] theorem xTrue_def(s:ZE):ZF s=ax aC:=rfl
theorem Y6{f:XE}{s:ZE}{n:Nat}(h:f s=ax (.int (n:Int)))(a:n<=10000):Z1 [f] s=ax (Mv n):=by rw[Ap,h];simp only[aZ,T6];rw[m7 ⟨by omega,by omega⟩,bc]
theorem NF{f g:XE}{s:ZE}{i j:Int}(h:f s=ax (.int i))(h':g s=ax (.int j))(b : -10000<=i/\i<=10000)(a : -10000<=j/\j<=10000):W5 [f,g] s=ax (Te i (j-i).toNat):=by rw[Aq,h,h'];simp only[aZ,T6];rw[m7 ⟨by omega,by omega,by omega,by omega⟩]
theorem Zd1{i j:Int}(a : -10000<=i)(h:i<=10000):CMul i j:=by
 refine .inl ?_;have e:(2^64:Int)=18446744073709551616:=by decide
 rw[e];omega
theorem T7{c:Bool}(h:c=aC):gd c=ax ():=by unfold gd;rw[m7 h]
theorem JY{i:Nat}{f:XE}{s:ZE}{m n:List PV}(h:f s=ax (.lst n))(a:LK s i=ax m)(b:m.length+n.length<=10000):Wz i f s=ax (.nx (s.set i (ax (.lst (m++n))))):=by unfold Wz;rw[h];simp only[aZ,HS,a,T7 (decide_eq_true b)]
theorem Tg{i:Nat}{f:XE}{s:ZE}{m:List PV}{l:PV}(h:f s=ax l)(a:LK s i=ax m)(b:m.length<=10000):YE i f s=ax (.nx (s.set i (ax (.lst (m++[l]))))):=by unfold YE;rw[h];simp only[aZ,a,T7 (decide_eq_true b)]
theorem JZ{i:Nat}{a f:XE}{s:ZE}{m:List PV}{l:PV}{k:Int}(d:a s=ax (.int k))(h:f s=ax l)(n:LK s i=ax m)(j:ZC m=aC)(b:ZI l=aC)(o:0<=k)(e:k<=1000000)(g:m.length<=10000) :
  UE i a f s=ax (.nx (s.set i (ax (.lst (m.take k.toNat++l::m.drop k.toNat))))):=by
 unfold UE;rw[d,h];have c:(ZC m&&ZI l&&decide (0<=k/\k<=1000000/\m.length<=10000))=aC:=by rw[j,b,decide_eq_true ⟨o,e,g⟩];rfl
 simp only[aZ,T6,n,T7 c]
theorem Ft{i:Nat}{a f:XE}{s:ZE}{m:List PV}{l:PV}{k:Int}{j:Nat}(h:f s=ax l)(e:a s=ax (.int k))(n:LK s i=ax m)(g:ZC m=aC)(b:ZI l=aC)(d:LW m.length k=ax j) :
  SQ i a f s=ax (.nx (s.set i (ax (.lst (m.set j l))))):=by
 unfold SQ;rw[e,h];have c:(ZC m&&ZI l)=aC:=by rw[g,b];rfl
 simp only[aZ,T6,n,T7 c,d,cS]
theorem Pl{i:Nat}{d fb f:XE}{s:ZE}{m n:List PV}{l:PV}{a b:Int}{j c:Nat}(h:f s=ax l)(u:d s=ax (.int a))(o:fb s=ax (.int b))(v:LK s i=ax m)(p:LW m.length a=ax j)(t:m[j]?=ax (.lst n))(k:ZC n=aC)(e:ZI l=aC)(q:LW n.length b=ax c) :
  X3 i d fb f s=ax (.nx (s.set i (ax (.lst (m.set j (.lst (n.set c l))))))):=by
 unfold X3;rw[h,u,o];have g:(ZC n&&ZI l)=aC:=by rw[k,e];rfl
 simp only[aZ,T6,HS,v,p,t,T7 g,q,cS]
theorem T8{n k:Nat}(h:k<n):LW n (k:Int)=ax k:=by unfold LW;rw[m7 (by omega),m7 (by omega)];rfl
theorem Zd2{i j:Int}(a:0<j)(h:j<=10000):EC i j:=⟨a,by omega⟩
end VL
namespace VL
open PySem PySem.Spec PyProof.Rows L2
variable {K:aF}
noncomputable def Zbk(K:aF):R2:=λx y H Q=>∃a b xs ys,x = .ref a/\y = .ref b/\SqT K H a xs/\SqT K H b ys/\xs.length+ys.length<=sizeLine/\
 (xs=[]->Q (.ref b) H)/\(ys=[]->Q (.ref a) H)/\∀p,H p=aA->Q (.ref p) (upd H p (.tup (xs++ys)))
theorem MF{X:Cx}:U6 X (dN .Add) (Zbk X.K):=by
 intro O s P H x y v u Q I o k h;obtain⟨a,b,xs,w,rfl,rfl,q,l,L,N,B,D⟩:=h;by_cases g:xs=[]
 ·cases o;cases k;obtain⟨J,z,F,_⟩:=I.tuple q;obtain⟨d,R,p2,_⟩:=I.tuple l;obtain⟨⟨M,E,m,A⟩,t,G,n,hd⟩:=id F;obtain⟨⟨p,e,data2,j⟩,c,f,C,i⟩:=id p2;subst G hd f i
  exact jI ⟨_,t,rfl⟩ ⟨_,c,rfl⟩ ik kH gE gA (fU _ _)
   (tuple_addW0 a b J.toArray d.toArray n C E e A j (by simp[z.nil_iff.mpr g])) ⟨t,c,.ref b,H,I,rfl,N g⟩
 ·exact BR _ _ _ _ _ _ _ _ _ I o k ⟨a,b,xs,w,rfl,rfl,q,l,g,L,B,λ_=>D⟩
noncomputable def NG:PV->PV->Option PV
 | .tup m,.tup n=>if m.length+n.length<=10000 then ax (.tup (m++n)) else aA
 | _,_=>aA
theorem MG:RB K (Zbk K) NG:=λH x y a b l i fb j h e Q k=>by
 cases a with
 | tup m=>cases b with
  | tup n=>
   have e:(if m.length+n.length<=10000 then ax (PV.tup (m++n)) else aA)=ax l:=e;split at e
   case isFalse=>cases e
   rename_i u;cases e;obtain⟨p,xs,rfl,t,g⟩:=j.tup_inv;obtain⟨v,s,rfl,f,c⟩:=h.tup_inv;refine⟨p,v,xs,s,rfl,rfl,SqT.of t,SqT.of f,by rw[g.len,c.len];exact bz (lt_size u),λz=>?_,λz=>?_,λq o=>?_⟩
   ·have:=bj.mp (by rw[<-g.len,z];rfl);subst this;exact k _ _ fb (Same.refl _) h λr d=>.inr (.inl d)
   ·have:=bj.mp (by rw[<-c.len,z];rfl);subst this;rw[dG] at k;exact k _ _ i (Same.refl _) j λr d=>.inl d
   ·exact k _ _ (i++fb) (Same.new o _) (Is.tup Zi ((g.append c).mono (Same.new o _))) λr d=>(ak.mp d).elim .inl λz=>.inr (.inl z)
  | _=>cases e
 | _=>cases e
end VL
namespace VL
open PySem
open PySem.Sem (wp)
open PySem.Builtin
theorem SS:fillsNumberSlot (.type "tuple") "mul" = pure aB:=rfl
theorem MH:seqRepeat? (.type "tuple")=pure (ax (.builtin "tuple.__mul__")):=rfl
theorem Pn(a:Int)(t:Tok)(l:aL)(b:Array aI)(n:Nat)(e:Option aL)(c:Array (Option aI)) :
  Meets (gn.«int.__rmul__» ⟨[.int a t,.ref l],[]⟩) (λ_ R s=>s.heap.get? l=ax { cls:=.type "tuple",dict:=e,data:=.seq b n,slots:=c }/\R (.ok (.ret aI.notImplemented)) s):=
 .of_wp λprog w A R s h=>by obtain⟨f,g,d,tk,os⟩:=s;obtain⟨i,h⟩:=h;wp_walk;exact⟨_,rfl,h⟩
theorem Po(l:aL)(a:Array aI)(n:Nat)(j:Option aL)(i:Array (Option aI))(x:Int)(u:Tok)(z:1<x)(t:x<2^63)(e:a.isEmpty=aB)(p:a.size*x.toNat<=sizeLine)
  (b:Array aI) (f:kT (λk m=>k++m) #[] (aT x.toNat a)=b) (y:b.size<=sizeLine) :
  Meets (gn.«tuple.__mul__» ⟨[.ref l,.int x u],[]⟩) (λ_ R s=>s.heap.get? l=ax { cls:=.type "tuple",dict:=j,data:=.seq a n,slots:=i }/\R (.ok (.ret (b7 s.heap.objs.size))) { s with heap:=s.heap.push { cls:=l4 "tuple",data:=Data.seq b },toks:=s.toks }):=
 .of_wp λprog w A R s h=>by
  obtain⟨q,g,d,tk,os⟩:=s;obtain⟨v,h⟩:=h;have c:a.size*x.toNat<=2^40:=by rw[cj] at p;omega
  have o:(a.size:Int)*x=((a.size*x.toNat:Nat):Int):=by rw[Int.natCast_mul,fQ (by omega)]
  wp_walk
  refine fY (by simp;omega) ?_
  wp_walk
  refine fY (by simp[e];omega) ?_
  wp_walk
  refine fY (by simp[e];omega) ?_
  wp_walk
  refine fY (decide_eq_false (by omega)) ?_
  wp_walk
  refine fY (decide_eq_false (by rw[o];unfold Tuple.tupleTooMany;simp only[decide_eq_true_eq];omega)) ?_
  wp_walk
  rw[f];exact⟨_,rfl,h⟩
theorem O0(l:aL)(a:Array aI)(n:Nat)(c:Option aL)(b:Array (Option aI))(u:Tok) :
  Meets (gn.«tuple.__mul__» ⟨[.ref l,.int 1 u],[]⟩) (λ_ R s=>s.heap.get? l=ax { cls:=.type "tuple",dict:=c,data:=.seq a n,slots:=b }/\R (.ok (.ret (b7 l))) s):=
 .of_wp λprog w A R s h=>by
  obtain⟨e,g,d,tk,os⟩:=s;obtain⟨f,h⟩:=h
  wp_walk
  exact⟨_,rfl,h⟩
end VL
namespace VL
open PySem PySem.Spec PyProof.Rows L2
noncomputable def Zbl(K:aF):R2:=λx y H Q=>∃a k xs,x = .ref a/\y = .int k/\SqT K H a xs/\xs≠[]/\1<=k/\k<2^62/\xs.length*k.toNat<=sizeLine/\
 (k=1->Q (.ref a) H)/\∀p,H p=aA->Q (.ref p) (upd H p (.tup (aT k.toNat xs).flatten))
theorem Ar{X:Cx}:U6 X (dN .Mult) (Zbl X.K):=by
 intro U s W H x y v u Q I J w h;obtain⟨a,k,xs,rfl,rfl,O,N,S,Y,l,A,B⟩:=h;cases J;obtain⟨t,rfl⟩:=w;obtain⟨c,f,C,_⟩:=I.tuple O;obtain⟨⟨R,i,m,g⟩,d,E,n,hd⟩:=id C;subst E hd;have p:=f.length
 refine iD rfl ⟨_,d,rfl⟩ (λM=>jM M k t) SS F.fills_int_mul F.slot_int_rmul MH F.slot_int_index.lookup
  (fF F.slot_int_rmul (jM s k t) F.entry_int_rmul (F.args_int_rmul_2 _ _) (Pn k t a c.toArray n i g) ⟨d,rfl,⟨_,d,rfl⟩,?_⟩)
 by_cases G:k=1
 ·subst G;exact fF F.slot_tuple_mul ⟨_,d,rfl⟩ F.entry_tuple_mul (F.args_tuple_mul_2 _ _) (O0 a c.toArray n i g t) ⟨d,.ref a,H,I,rfl,A rfl⟩
 ·have j:c.toArray.isEmpty=aB:=by
   cases c with
   | nil=>exact absurd (f.nil_iff.mp rfl) N
   | cons _ _=>rfl
  have z:kT (λD L=>D++L) #[] (aT k.toNat c.toArray)=(aT k.toNat c).flatten.toArray:=by have:=SE c k.toNat [];exact this
  have P:(aT k.toNat c).flatten.length<=sizeLine:=by rw[Ma,kc,<-p];exact l
  refine fF F.slot_tuple_mul ⟨_,d,rfl⟩ F.entry_tuple_mul (F.args_tuple_mul_2 _ _) (Po a c.toArray n i g k t (by omega) (by omega) j (by rw[aS,<-p];exact l) _ z (by rw[aS];exact P)) ⟨d,?_⟩;refine⟨.ref s.heap.objs.size,_,I.laid (λb T q=>aJ _ q) (aX _) ?_,rfl,B _ (I.hok.fresh (aX _))⟩;exact⟨⟨by rw[Ma,kc];exact l,λo e=>QL e⟩,_,f.rep k.toNat,lA _ _⟩
noncomputable def DD:PV->PV->Option PV
 | .tup m,.int k=>if ZC m=aC/\m≠[]/\1<=k/\k<=1000000/\m.length*k.toNat<=10000 then ax (.tup (aT k.toNat m).flatten) else aA
 | _,_=>aA
theorem As{K:aF}:RB K (Zbl K) DD:=λH x y a b l s fb g o e Q k=>by
 cases a with
 | tup m=>cases b with
  | int n=>
   unfold DD at e;simp only at e;split at e
   case isFalse=>cases e
   rename_i c;cases e;obtain⟨p,xs,rfl,i,f⟩:=g.tup_inv;refine⟨p,n,xs,rfl,o.int_inv.1,SqT.of i,λz=>c.2.1 (bj.mp (by rw[<-f.len,z];rfl)),c.2.2.1,by omega,by rw[f.len];exact bz (lt_size c.2.2.2.2),λz=>?_,λq h=>?_⟩
   ·subst z;have j:(aT (mP 1) m).flatten=m:=by simp
    rw[j] at k;exact k _ _ s (Same.refl _) g λr d=>.inl d
   ·exact k _ _ [] (Same.new h _) (Is.tup Zi ((Iss.rep (f.pureEq c.1) n.toNat).mono (Same.new h _))) λr d=>by simp at d
  | _=>cases e
 | _=>cases e
end VL
namespace PW
open PySem L2 VL
noncomputable def SU:XS:=(ZL (eP (Ze Q6 [Zl ZW (Za 0) (Za 1)])))
noncomputable def X6:List PV->Option PV:=YG 2 SU
noncomputable def SV:XS:=(Zn (Zs 1 (WK []))
  (Zn (YF [1] (YV aB [Za 0]) (.many [2,3]) (YF [1] (W5 [Zl Yt (Za 2) (eC (.int 1)),Ze ZQ [Za 0]]) (.one 4) (Wz 1 (Zu 1 [2,4] (Z1 [Zl ZW (Za 3) (Za 4)]) (.one 0) ZF (eP (Wd [Za 1,Za 2,Za 0]))))))
  (ZL (Za 1))))
noncomputable def Va:List PV->Option PV:=YG 5 SV
noncomputable def HU:XS:=(ZL (eP (Zl Yt (Zl W3 (Ze ZQ [Ze Va [Za 0]]) (Ze ZQ [Za 0])) (eC (.int 1)))))
noncomputable def T9:List PV->Option PV:=YG 1 HU
noncomputable def HV:XS:=(ZL (eP (Ze Q6 [Za 0])))
noncomputable def Qu:List PV->Option PV:=YG 1 HV
noncomputable def DE:XS:=(ZL (eP (Ze Q6 [Zu 2 [1,2] (YV aB [Zl ZW (Za 0) (Za 2)]) (.many [0,1]) ZF (Zl Ml (Za 1) (Zl W3 (Zl ZW (Za 2) (Za 0)) (Zl ZW (Za 2) (Za 3))))])))
noncomputable def Pp:List PV->Option PV:=YG 3 DE
noncomputable def Zbm:XS:=(ZL (eP (Ze ZX [Zu 2 [0,2] (YV aB [Za 1]) (.many [0,1]) ZF (Zl Yt (Za 1) (Ze Pp [Za 2,Za 3,Za 0]))])))
noncomputable def Vb:List PV->Option PV:=YG 3 Zbm
noncomputable def DF:XS:=(ZL (eP (Ze ZX [Zu 2 [] (OX aB aB [Za 0,Za 1]) (.many [0,1]) ZF (Zl Yt (Za 0) (Za 1))])))
noncomputable def WM:List PV->Option PV:=YG 2 DF
noncomputable def HW:XS:=(ZL (eP (Ze ZX [Zu 2 [] (OX aB aB [Za 0,Za 1]) (.many [0,1]) ZF (Zl W3 (Za 0) (Za 1))])))
noncomputable def Sa:List PV->Option PV:=YG 2 HW
noncomputable def NH:XS:=(ZL (eP (JJ (Ze VP [Za 0,eC (.ty "int")]) (Ae (Ze VP [Za 0,eC (.ty "bool")])))))
noncomputable def Vc:List PV->Option PV:=YG 1 NH
end PW
set_option maxHeartbeats 1000000
namespace VL
open PySem PySem.Spec PyProof.Rows L2
noncomputable def Au(f:XE):XL:=λs=>match YY f s with
 | some m=>ax m
 | none=>OW f s
theorem Zgq{f:XE}{s:ZE}{l:List PV}(q:f s=ax (.lst l)):Au f s=ax l:=by unfold Au YY;rw[q];rfl
theorem Zgr{f:XE}{s:ZE}{l:List PV}(q:f s=ax (.tup l)):Au f s=ax l:=by unfold Au YY;rw[q];exact Pk q
noncomputable def Vv:List Int->Int
 | []=>0
 | [x]=>x
 | x::y::r=>if Vv (y::r)<x then Vv (y::r) else x
theorem SW:∀{l:List Int},l≠[]->Vv l∈l/\∀x∈l,Vv l<=x
 | [],h=>absurd rfl h
 | [x],_=>by simp[Vv]
 | x::y::r,_=>by
  obtain⟨a,b⟩:=SW (l:=y::r) (by simp);unfold Vv;split
  ·rename_i h;refine⟨aQ _ a,λz c=>?_⟩;rcases aa.mp c with rfl | c
   ·omega
   ·exact b z c
  ·rename_i h;refine⟨by simp,λz c=>?_⟩;rcases aa.mp c with rfl | c
   ·omega
   ·have:=b z c;omega
theorem Av{l:List Int}{m:Int}(h:m∈l)(g:∀x∈l,m<=x):Vv l=m:=by obtain⟨a,b⟩:=SW (l:=l) (by intro z;subst z;simp at h);have:=b m h;have:=g _ a;omega
theorem Pq(val:Nat->Int):∀k,argBest (λi j=>decide (val i<val j)) k<=k/\∀j,j<=k->val (argBest (λi j=>decide (val i<val j)) k)<=val j
 | 0=>⟨aX _,λj c=>by rw[Nat.le_zero.mp c];exact dR _⟩
 | k+1=>by
  obtain⟨a,b⟩:=Pq val k;unfold argBest;split
  ·rename_i h;have h:=of_decide_eq_true h;refine⟨aX _,λj c=>?_⟩;by_cases e:j=k+1
   ·subst e;exact dR _
   ·have:=b j (by omega);omega
  ·rename_i h;have h:¬_:=λz=>h (decide_eq_true z);refine⟨by omega,λj c=>?_⟩;by_cases e:j=k+1
   ·subst e;omega
   ·exact b j (by omega)
noncomputable def DG(f:List Int->Int)(K:aF):List V->Hp->VK->Prop:=λxs H Q=>∃(b:Bool) (p:aL) (ns:List Int),xs=[.ref p]/\ns≠[]/\OM b K H p (ns.map V.int)/\Q (.int (f ns)) H
section
variable {X:Cx}
theorem Fu(J:X.calm=aC):Xb X (.builtin "min") (DG Vv X.K):=by
 intro S s T H xs U Q I r h;obtain⟨b,p,ns,rfl,w,R,q⟩:=h;obtain⟨u,rfl,M⟩:=V1 r;cases M;obtain⟨m,z,a,W⟩:=I.seqB R;have y:=let⟨_,e⟩:=a.has;aV e;have l:=z.length;rw[aK] at l;have n:=fR.mpr w
 have d:∀(i:Nat)(v:aI),m.toArray[i]?=ax v->∃t,v=gu (ns.getD i 0) t:=λi v k=>by
  have k:m[i]?=ax v:=by simpa using k
  have N:i<ns.length:=by rw[l];exact(aO.mp k).1
  obtain⟨u,C,F⟩:=z.get (i:=i) (x:=.int ns[i]) (by simp);rw[k] at C;cases C;obtain⟨t,rfl⟩:=F;refine⟨t,?_⟩;rw[aG,aH N];rfl
 refine call_min_walk (Yq a ?_);refine⟨_,_,_,_,_,_,λi j=>decide (ns.getD i 0<ns.getD j 0),rfl,Walks.seqB (A:=X.A.in1) b (I.ok.hd J) s.heap.objs.size p (bG y) m.toArray,⟨IterB.new (a9 _ rfl),a.at λo e=>aJ _ e⟩,λc g=>?_,by rw[aS,<-l];exact n,CmpOf.ints_lt (λi=>ns.getD i 0) d,λv h' tk k L=>?_⟩
 ·show c<(s.heap.push _).objs.size;rw[cz];rcases aa.mp g with rfl | g
  ·exact eM _
  ·rw[aN.mp g];exact dA y
 ·obtain⟨t,rfl⟩:=d _ _ k;obtain⟨D,B⟩:=Pq (λi=>ns.getD i 0) (m.toArray.size-1);rw[aS,<-l] at D B
  have e:Vv ns=ns.getD (argBest (λi j=>decide (ns.getD i 0<ns.getD j 0)) (m.toArray.size-1)) 0:=by
   rw[aS,<-l];refine Av ?_ λx O=>?_
   ·rw[aG,aH (by omega)];exact cD _
   ·obtain⟨j,G,P⟩:=dE O;have:=B j (by omega);rw[aG (i:=j),aH G,P] at this;exact this
  refine⟨.int (Vv ns),H,I.kept (λc o f=>L c o ?_ (aJ _ f)),⟨t,by rw[e]⟩,q⟩;intro E;rw[aN.mp E] at f;exact absurd (aV f) (cI _)
end
noncomputable def HX(f:List Int->Int):List PV->Option PV
 | [l]=>(R3 l).bind λm=>(Yn m).bind λns=>if ns=[] then aA else ax (.int (f ns))
 | _=>aA
abbrev Zbn:List PV->Option PV:=HX Vv
theorem Aw{K:aF}(f:List Int->Int):RC K (DG f K) (HX f):=λH vs ls l w h e Q k=>by
 unfold HX at e;split at e
 ·obtain⟨m,g,s⟩:=Zc e;obtain⟨ns,n,c⟩:=Zc s;split at c
  ·cases c
  ·rename_i d;cases c;obtain⟨v,rfl,i⟩:=h.one_inv;obtain⟨p,xs,u,rfl,a,q,t⟩:=Vp i g;have o:=Z7 n;subst o;obtain⟨rfl,rfl⟩:=q.iL;obtain⟨b,j⟩:=JM a;exact⟨b,p,ns,rfl,d,j,k _ H [] (Same.refl H) (Is.int _) λp a=>by simp at a⟩
 ·cases e
theorem Ax{K:aF}:RC K (DG Vv K) Zbn:=Aw Vv
theorem Ay(f:List Int->Int){l:List Int}(h:l≠[]):HX f [pP l]=ax (.int (f l)):=by show(Yn (iL l)).bind _=_;rw[Yf];simp only[aZ];rw[m9 h]
noncomputable def WC(l:List Int):List Int:=l.mergeSort λa b=>decide (a<=b)
theorem Th(l:List Int):(WC l).Perm l:=kE l _
theorem MI(l:List Int):(WC l).Pairwise (·<=·):=by have:=iu (le:=λa b:Int=>decide (a<=b)) (λa b c e d=>by simp only[decide_eq_true_eq] at *;omega) (λa b=>by simp only[j8,decide_eq_true_eq];omega) l;exact this.imp λh=>of_decide_eq_true h
theorem DH{l m:List Int}(d:m.Perm l)(e:m.Pairwise (·<=·)):m=WC l:=
 iX (λa b _ _ c f=>Int.le_antisymm c f) e (MI l) (d.trans (Th l).symm)
theorem Sb:∀{us:List aI}{ns:List Int},gS us ns->Vals (ns.map V.int) us
 | _,_,.nil=>.nil
 | _,_,.cons n t h=>.cons ⟨t,rfl⟩ (Sb h)
noncomputable def MJ(K:aF):List V->Hp->VK->Prop:=λxs H Q=>∃p ns,xs=[.ref p]/\SqL K H p (ns.map V.int)/\ns.length<64/\∀l,H l=aA->Q (.ref l) (upd H l (.lst ((WC ns).map V.int)))
theorem MK{X:Cx}:Xb X (.builtin "sorted") (MJ X.K):=by
 intro w s x H xs z Q I r h;obtain⟨p,ns,rfl,t,y,q⟩:=h;obtain⟨u,rfl,k⟩:=V1 r;cases k;obtain⟨v,d,i,f⟩:=I.list t;have a:=d.length;rw[aK] at a f;refine sorted_ints i.isList (QR d) (by omega) λout n g l j=>?_;obtain⟨e,m⟩:=sortedAll_at s.heap v out;have c:=DH l j;subst c;refine⟨.ref (s.heap.objs.size+1),_,I.laid (λb o=>sortedAll_old) (jq _) (show ObjOk X.prog X.w _ _ _ (.lst ((WC ns).map V.int)) from⟨?_,out.toList,e,Sb g,?_⟩),rfl,q _ (I.hok.fresh (jq _))⟩
 ·rw[aK,(Th ns).length_eq];exact f
 ·rw[js];exact m
noncomputable def Qv:List PV->Option PV
 | [.lst l]=>(Yn l).bind λns=>if ns.length<64 then ax (.lst (iL (WC ns))) else aA
 | [.cst l]=>(Yn l).bind λns=>if ns.length<64 then ax (.lst (iL (WC ns))) else aA
 | _=>aA
theorem J0{K:aF}:RCM K (MJ K) Qv:=λH vs ls l s h e Q k=>by
 have c:∀(p:aL)(ns:List Int),SqL K H p (ns.map V.int)->ns.length<64->l = .lst (iL (WC ns))->MJ K [.ref p] H Q:=by rintro p ns b n rfl;refine⟨p,ns,rfl,b,n,λq j=>k _ _ [q] (Same.new j _) (Is.lst Zi (Iss.ofInts _)) (by simp) λr m=>?_⟩;rw[aN.mp m];exact⟨j,by rw[Zi];exact bS⟩
 unfold Qv at e;split at e
 ·obtain⟨ns,d,a⟩:=Zc e;split at a
  ·cases a;obtain⟨v,rfl,i⟩:=h.one_inv;have f:=Z7 d;subst f;obtain⟨p,xs,o,rfl,b,g,_⟩:=i.lst_inv;obtain⟨rfl,rfl⟩:=g.iL;exact c p ns (.inl (.inl b)) (by assumption) rfl
  ·cases a
 ·obtain⟨ns,d,a⟩:=Zc e;split at a
  ·cases a;obtain⟨v,rfl,i⟩:=h.one_inv;have f:=Z7 d;subst f;obtain⟨p,xs,rfl,b,g⟩:=i.cst_inv;obtain⟨rfl,rfl⟩:=g.iL;exact c p ns b.sq (by assumption) rfl
  ·cases a
 ·cases e
noncomputable def DI:XS:=λ_=>aA
theorem DJ{X:Cx}{O W:List Nat}{st:bp}:VS X O W st DI:=by intro a s b H D I h;obtain⟨_,_,_,_,_,q,_⟩:=h;cases q
theorem Pr:∀(us:List aI)(k:Nat),(∀(i:Nat)(v:aI),us[i]?=ax v->∃t,v=gu ((k+i:Nat):Int) t)->Vals ((aD us.length).map λi=>V.int ((k+i:Nat):Int)) us
 | [],k,_=>.nil
 | u::us,k,h=>by
  obtain⟨t,rfl⟩:=h 0 u rfl;rw[bM,jQ,af,bh];refine .cons ⟨t,rfl⟩ ?_;have:=Pr us (k+1) λi v a=>by obtain⟨t,e⟩:=h (i+1) v (by simpa using a);exact⟨t,by rw[e];congr 2;omega⟩
  refine Eq.mp (congrArg (λl=>Vals l us) (ar λi _=>?_)) this;show V.int _=V.int _;congr 2;omega
noncomputable def tLR(ta:TA):TE:=λσ H Q=>ta σ H λvs H1=>∃j:Nat,vs=[.int (j:Int)]/\j<=10000/\∀l,H1 l=aA->Q (.ref l) (upd H1 l (.lst ((aD j).map λ(i:Nat)=>V.int (i:Int))))
section
variable {X:Cx} {a:bH} {ta:TA} {p p2 pos pos2:dz}
theorem ML(E:X.calm=aC)(m:Gl X "list")(k:X.mg "list" = aA)(u:Gl X "range")(g:X.mg "range" = aA)(J:PA X [a] ta)(G:aR [a] X.env=[(aB,eval a X.env)]:=by rfl)
  (L:aR [.Call (.Name "range" p2) [a] [] pos2] X.env=(aB,eval (.Call (.Name "range" p2) [a] [] pos2) X.env)::aR [] X.env:=by rfl) (f:(dX pos (aR [] X.env)).any (·.1)=aB:=by rfl) :
  PE X (.Call (.Name "list" p) [.Call (.Name "range" p2) [a] [] pos2] [] pos) (tLR ta):=by
 intro B s C H Q I h;refine df (Vj I m k rfl ?_);refine bx ?_ L f;refine kQ ?_;refine Call_ (Vj I u g lg (bx (Yl (J pos2 B s C H _ I h) λP s1 ⟨vs,N,M,y,A⟩=>?_) G rfl));obtain⟨j,e,O,q⟩:=A;subst e
 cases y with
 | cons r rr=>
  cases rr;obtain⟨t,rfl⟩:=r;refine call_range_1 (k8 ?_);have sz:sizeLine=2^24:=rfl;refine call_list_range (n:=j) (I.ok.hd E) (mT ..) (small_one (by omega) (by omega) (by omega) (by omega)) (by rw[rangeSize_one];split<;>omega) (by omega) λh' tk c D F x d=>?_;have w:=M.kept (t':=s1.toks+1+1) (h':=s1.heap.push { cls:=.type "range",data:=.fields #[.int 0 s1.toks,.int (j:Int) t,.int 1 (s1.toks+1)] }) λb o e=>aJ _ e;refine⟨.ref _,_,w.laid F (aX _) (show ObjOk X.prog X.w _ _ _ (.lst ((aD j).map λ(i:Nat)=>V.int (i:Int))) from⟨by simp;omega,c.toList,D,?_,?_⟩),rfl,q _ (w.hok.fresh (aX _))⟩
  ·have:=Pr c.toList 0 λi v z=>by obtain⟨t',e⟩:=d.2 i v (by simpa using z);exact⟨t',by rw[e];congr 1;omega⟩
   rw[cA,d.1] at this;refine Eq.mp (congrArg (λl=>Vals l c.toList) (ar λi _=>?_)) this;congr 2;omega
  ·rw[js];exact x
end
noncomputable def J1:PV->Option PV
 | .int k=>if 0<=k/\k<=10000 then ax (.lst (iL ((aD k.toNat).map λ(i:Nat)=>(i:Int)))) else aA
 | _=>aA
theorem MM{X:Cx}{a:bH}{d:XE}{p p2 pos b:dz}(A:X.calm=aC)(j:Gl X "list")(h:X.mg "list" = aA)(m:Gl X "range")(g:X.mg "range" = aA)(C:VE X a d)(n:aR [a] X.env=[(aB,eval a X.env)]:=by rfl)
  (D:aR [.Call (.Name "range" p2) [a] [] b] X.env=(aB,eval (.Call (.Name "range" p2) [a] [] b) X.env)::aR [] X.env:=by rfl) (f:(dX pos (aR [] X.env)).any (·.1)=aB:=by rfl) :
  VM X (.Call (.Name "list" p) [.Call (.Name "range" p2) [a] [] b] [] pos) (Ff J1 d):=
 PE.imp (ML A j h m g (Vo C Mr n) n D f) λF H Q ⟨s,l,env,e,k⟩=>by
  obtain⟨x,u,c⟩:=Zc e;refine⟨λ_=>False,s,[x],λ_ z=>z.elim,env,by show(d s).bind _=_;rw[u];rfl,λvs E I s1 t _=>?_⟩;obtain⟨w,rfl,B⟩:=t.one_inv
  cases x with
  | int kk=>
   unfold J1 at c;simp only at c;split at c
   case isFalse=>cases c
   rename_i G;cases c;refine⟨kk.toNat,by rw[B.int_inv.1];congr 2;omega,by omega,λq o=>?_⟩;have v:(aD kk.toNat).map (λ(i:Nat)=>V.int (i:Int))=((aD kk.toNat).map λ(i:Nat)=>(i:Int)).map V.int:=by rw[bh];rfl
   rw[v];refine k _ _ [q] (s1.trans (Same.new o _)) (Is.lst Zi (Iss.ofInts _)) (by simp) λr y=>?_;rw[aN.mp y];exact⟨Same.off s1 o,by rw[Zi];exact bS⟩
  | _=>cases c
variable {K:aF}
noncomputable def Cst(mg:ay->Option aI)(x:ay)(k:Int):Prop:=∃t,mg x=ax (gu k t)
theorem J2{X:Cx}{x:ay}{k:Int}{pos:dz}(b:Gl X x)(a:Cst X.mg x k)(hd:(x==("__debug__" : ay))=aB:=by decide):VE X (.Name x pos) (eC (.int k)):=by obtain⟨t,e⟩:=a;exact EX (BB b e (v:=.int k) ⟨t,rfl⟩ hd) λ_=>Is.int k
end VL
namespace VL
open PySem PySem.Spec PyProof.Rows L2
variable {K:aF}
noncomputable def CMulW(i j:Int):Prop:=i.natAbs.log2<67108863/\j.natAbs.log2<67108863
noncomputable def Pu(i j:Int):Prop:=j≠0/\j.natAbs.log2<9000
instance (i j:Int):Decidable (CMulW i j):=by unfold CMulW;infer_instance
instance (i j:Int):Decidable (Pu i j):=by unfold Pu;infer_instance
theorem HY(i:Int):fS i<=i.natAbs.log2+1:=by
 unfold fS;split
 ·exact dH _
 ·exact aX _
theorem CMulW.ok{i j:Int}(h:CMulW i j):IntMulOk i j:=by
 unfold IntMulOk gn.Int.intTooBig;have d:=HY i;have b:=HY j;have a:=h.1;have c:=h.2
 have:decide (((fS i:Int)+(fS j:Int))>(bitsLine:Int))=aB:=decide_eq_false (by
  have e:(bitsLine:Int)=134217728:=rfl;rw[e];omega)
 rw[this];simp
section
variable {X:Cx} {a b:bH} {fa fb:XE} {pos:dz}
theorem Az:U6 X (dN .Mult) (rI CMulW λi j=>.int (i*j)):=opI λ_ _ _ _ _ _ _ a q=>mul_int q a.ok
theorem DK:U6 X (dN .FloorDiv) (rI Pu λi j=>.int (i.fdiv j)):=opI λ_ _ _ _ _ _ _ a q=>floordiv_int a.1 q (.inl (PyProof.noPylong_of_log2 a.2))
abbrev DL:=Ep CMulW (· * ·)
abbrev DM:=Ep Pu mX
theorem HZ(c:VE X a fa)(d:VE X b fb):VE X (.BinOp a .Mult b pos) (Zl DL fa fb):=Wc Az (Q2 _ _) c d
theorem Kp(c:VE X a fa)(d:VE X b fb):VE X (.BinOp a .FloorDiv b pos) (Zl DM fa fb):=Wc DK (Q2 _ _) c d
end
theorem Pw:∀{ns:List Int}{n:Int},n∈ns->n.natAbs.log2<=jA (ns.map .int)
 | m::r,n,h=>by
  rw[af];simp only[jA,PySem.W.WData.weight];rcases aa.mp h with rfl | h
  ·by_cases a:n=0
   ·subst a;have:Nat.log2 (Int.natAbs 0)=0:=by decide +kernel
    omega
   ·rw[m9 (by simpa using a)];omega
  ·have:=Pw h;omega
end VL
namespace VL
open PySem PySem.Spec PyProof.Rows L2
variable {K:aF}
noncomputable def Zd3(K:aF)(H0:Hp)(D:YW):Out->Prop
 | .nx _=>∀σ' H',Same H0 H'->D.nx σ' H'
 | .rt l=>∀v fp H',Same H0 H'->Is K H' l v fp->fp.Nodup->(∀p∈fp,H0 p=aA/\VZ (H' p))->D.rt v H'
 | _=>False
noncomputable def Zgt(K:aF)(O:List Nat)(f:XS):TS:=λD σ H=>∃H0 fps s out,Rel K O H0 fps s σ H/\f s=ax out/\Zd3 K H0 D out
noncomputable def Fv(X:Cx)(O:List Nat)(st:List bp)(f:XS):Prop:=PSs X st (Zgt X.K O f)
section
variable {X:Cx} {O O' W:List Nat} {st:bp} {Yj:List bp} {f g:XS}
theorem VSs.r(h:VSs X O W Yj f):Fv X O Yj f:=PSs.imp h λD i H ⟨b,fps,s,out,r,e,k⟩=>⟨b,fps,s,out,r,e,by
 cases out with
 | nx s'=>exact λg a d c _=>k a d c.same
 | rt l=>exact k
 | bk s'=>exact k.elim
 | ct s'=>exact k.elim⟩
theorem YC(m:VS X O W st f)(j:Fv X O Yj g):Fv X O (st::Yj) (Zn f g):=PSs.imp (LP m j) λD o H ⟨b,fps,s,out,r,e,k⟩=>by
 obtain⟨c,i,e⟩:=Zc e;refine⟨b,fps,s,c,r,i,?_⟩
 cases c with
 | nx s1=>exact λa d n h _=>⟨b,a,s1,out,h,e,k⟩
 | bk s1=>cases e;exact k.elim
 | ct s1=>cases e;exact k.elim
 | rt l=>cases e;exact k
theorem Fw(h:Fv X O' Yj g)(b:∀i∈O',i∈O:=by decide):Fv X O Yj g:=PSs.imp h λD c H ⟨a,fps,s,out,r,e,k⟩=>⟨a,fps,s,out,r.weak b,e,k⟩
end
theorem Fx{N:List ay}{n:Nat}{O:List Nat}{vs:List V}{H:Hp}{ls:List PV}{s:List aL}(h:∀i∈O,n<=i)(u:vs.length=n)(d:Iss K H ls vs s):∃fps,Rel K O H fps (ZH N.length ls) (L2.start N vs) H:=by
 obtain⟨fps,o,p2⟩:=d.fps;have e:=d.len
 have g:∀i:Nat,ls.length<=i->∀l,(ZH N.length ls)[i]?≠ax (ax l):=λi d l z=>by
  unfold ZH at z;rw[bA (by simpa using d),bU] at z;split at z<;>cases z
 refine⟨fps,Same.refl H,?_,λi a z=>?_,λi k=>?_,λi d=>?_,λi d p f=>?_,λi d j t p f=>?_⟩
 ·unfold ZH L2.start;simp[e]
 ·by_cases c:i<ls.length
  ·unfold ZH at z;rw[ah (by simpa using c),aW] at z
   cases q:ls[i]? with
   | none=>rw[q] at z;cases z
   | some b=>
    rw[q] at z;cases z;obtain⟨v,m,b1⟩:=o i a q;refine⟨v,?_,b1⟩;unfold L2.start;rw[ah (by simpa [e] using c),aW,m];rfl
  ·exact absurd z (g i (by omega) a)
 ·by_cases c:i<ls.length
  ·exact absurd (by unfold ZH;rw[ah (by simpa using c),aW,aH c];rfl) (k ls[i])
  ·exact p2 i (by omega)
 ·rw[p2 i (by have:=h i d;omega)];exact bu
 ·rw[p2 i (by have:=h i d;omega)] at f;simp at f
 ·rw[p2 i (by have:=h i d;omega)] at f;simp at f
theorem DN{N:List ay}{n:Nat}{O:List Nat}{f:XS}{vs:List V}{H:Hp}{Q:VK}{E:XK}(o:∀i∈O,n<=i)(h:YX K (YG N.length f) n vs H Q E):Zgt K O f { nx:=λ_ a=>Q .non a,rt:=Q } (L2.start N vs) H:=by
 obtain⟨t,ls,j,l,u,e,q⟩:=h;obtain⟨out,m,b⟩:=Zc e;obtain⟨fps,c⟩:=Fx o t u;refine⟨H,fps,ZH N.length ls,out,c,m,?_⟩
 cases out with
 | nx s'=>
  cases b;exact λs a g=>q .non a [] g Is.non bu λp k=>by simp at k
 | rt v=>
  cases b;exact λv j a g i d n=>q v a j g i d n
 | bk s'=>cases b
 | ct s'=>cases b
end VL
namespace VL
open PySem PySem.Spec PyProof.Rows L2
noncomputable def DO(i:Nat)(f0:XE):XS:=λs=>(f0 s).bind λl0=>match s[i]? with
 | some (ax l)=>if ZI l0=aC then ax (.rt (.tup [l0,l])) else aA
 | _=>aA
theorem DP{X:Cx}{O:List Nat}{e:bH}{i:Nat}{f:XE}{pos:dz}(t:PE X e (Zf1 (QO (tF X.K f) (QO (QM i) EF))))(g:i∈O:=by decide):VS X O [] (.Return (ax e) pos) (DO i f):=PS.imp (Js t) λD B H ⟨A,fps,s,out,r,e,k⟩=>by
 obtain⟨h,o,e⟩:=Zc e;split at e
 case h_2=>cases e
 rename_i l p;split at e
 case isFalse=>cases e
 rename_i u;cases e;obtain⟨v,j,n⟩:=r.is i _ p;refine⟨λ_=>False,s,h,λ_ z=>z.elim,r.env,o,λm c f1 s1 b _=>?_⟩;have:=Is.pure _ _ _ u b;subst this;refine⟨v,j,(by show 2<=sizeLine;decide),λq x=>?_⟩;have a:Same c (upd c q (.tup [m,v])):=Same.new x _;have d:=r.grow s1;refine k _ (fps i) _ (d.same.trans a) (Is.tup Zi ?_) (r.nd i g) λz w=>?_
 ·have y:=Iss.cons (b.mono a) (Iss.one ((n.mono s1).mono a));simpa using y
 ·have:=d.own i g z w;exact⟨this.1,Same.mut a this.2⟩
end VL
namespace PW
open PySem L2 VL
noncomputable def Fy:XS:=(ZL (eP (Ze Q6 [Zu 1 [0,1] (Au (Za 2)) (.one 0) ZF (Zl ZW (Zl ZW (Za 1) (Za 2)) (Za 0))])))
noncomputable def Xw:List PV->Option PV:=YG 3 Fy
noncomputable def R8:XS:=(Zn (YF [] (YV aB [Za 1]) (.many [3,4]) (Qq (R1 (xB (Zl (Qp aC) (Za 3) (Za 2))) (xB (Zl Hx (Za 4) (Ze Xw [Za 0,Za 3,Za 2])))) (ZL (eP (Za 3))) YH))
  (ZL (eP (eC .non))))
noncomputable def ZS:List PV->Option PV:=YG 5 R8
noncomputable def AA:XS:=(Zn (Zs 3 (WK [eP (Za 2)]))
  (Zn (Zs 4 (Ze ZS [Za 0,Za 1,Za 3]))
  (Zn (Xh (xB (OU aC (Za 4))) (Zn (YE 3 (eP (Za 4)))
  (Zs 4 (Ze ZS [Za 0,Za 1,Za 3]))))
  (ZL (Za 3)))))
noncomputable def Qw:List PV->Option PV:=YG 5 AA
noncomputable def Fz:XS:=(ZL (Zu 2 [1] (YV aB [Za 0]) (.many [0,1]) (R1 (xB (Zl (WU aC) (Za 0) (Za 2))) (xB (Zl Hx (Za 1) (eC (.int 0))))) (eP (Za 0))))
noncomputable def YN:List PV->Option PV:=YG 2 Fz
noncomputable def NI:XS:=(ZL (eP (Ze ZX [Zu 2 [3,1,2,0] (OX aB aB [Za 0,Za 1]) (.many [0,1]) ZF (Zl DM (Zl W3 (Zl DL (Zl ZW (Za 3) (Za 4)) (Za 0)) (Zl DL (Zl ZW (Za 5) (Za 4)) (Za 1))) (Za 2))])))
noncomputable def UI:List PV->Option PV:=YG 4 NI
noncomputable def Px:XS:=(Zn (Zs 1 (Ze SM [Za 0]))
  (Zn (Zs 2 (eP (eC (.int 1))))
  (Zn (YF [1] (Z1 [Ze ZQ [Za 0]]) (.one 3) (Zn (Zs 4 (eP (Zl ZW (Za 1) (Za 3))))
  (Zn (Zs 1 (Zu 2 [3,4,2] (YV aC [Za 1]) (.many [0,1]) ZF (eP (LJ (xB (Zl (WU aB) (Za 0) (Za 2))) (Za 1) (Ze UI [Za 1,Za 3,Za 2,Za 4])))))
  (Zs 2 (eP (Zl ZW (Za 4) (Za 3)))))))
  (DO 1 (Za 2)))))
noncomputable def V7:List PV->Option PV:=YG 5 Px
noncomputable def Py:XS:=(Zn (Zs 2 (Ze V7 [Zu 2 [] (OX aB aB [Za 0,Za 1]) (.many [0,1]) ZF (Zl NG (Za 0) (Wd [Za 1]))]))
  (ZL (Zu 1 [2] (YY (Zl ZW (Za 2) (eC (.int 1)))) (.one 0) ZF (eP (Zl DM (Zl ZW (Za 0) (Ff Kc (eC (.int 1)))) (Zl ZW (Za 1) (eC (.int 0))))))))
noncomputable def Wf:List PV->Option PV:=YG 3 Py
noncomputable def Kq:XS:=(ZL (eP (Ze ZX [Zu 1 [1,0] (YY (Za 2)) (.one 0) ZF (LJ (xB (Zl (WU aB) (Za 0) (Za 1))) (Ze X6 [Za 2,Za 1]) (Ff Kc (Zl ZW (Zl ZW (Za 2) (Za 1)) (Za 0))))])))
noncomputable def Sd:List PV->Option PV:=YG 3 Kq
noncomputable def Vd:XS:=(Zn (Zs 2 (Zu 1 [1] (Z1 [Ze ZQ [Za 0]]) (.one 0) (xB (Zl (WU aC) (Za 0) (Za 1))) (eP (Za 0))))
  (ZL (eP (Ze ZX [Zu 1 [0,2] (YY (Za 2)) (.one 0) ZF (Ze Sd [Za 1,Za 0,Za 2])]))))
noncomputable def Yo:List PV->Option PV:=YG 3 Vd
noncomputable def FA:XS:=(Zn (Zs 3 (eP (Zl NG (OO R5 (Za 1) OY (R4 (Za 2))) (OO R5 (Za 1) (R4 (Zl Yt (Za 2) (eC (.int 1)))) OY))))
  (Zn (Zs 4 (Ze Wf [Ze Yo [Za 0,Za 2],Za 3]))
  (Zn (UE 4 (Za 2) (eC (.int 0)))
  (ZL (eP (Ze ZX [Za 4]))))))
noncomputable def Xx:List PV->Option PV:=YG 5 FA
noncomputable def Kr:XS:=(ZL (eP (Ze ZX [Zu 1 [1] (Z1 [Ze ZQ [Za 0]]) (.one 0) ZF (LJ (xB (Zl (Qp aB) (Za 0) (Za 1))) (Ff Kc (eC (.int 1))) (eC (.int 0)))])))
noncomputable def Yi:List PV->Option PV:=YG 2 Kr
noncomputable def H9:XS:=(Zn (Zs 1 (eP (Ze Zbn [Za 0])))
  (ZL (eP (Ze ZX [Zu 1 [1] (OW (Za 0)) (.one 0) ZF (Zl W3 (Za 0) (Za 1))]))))
noncomputable def UJ:List PV->Option PV:=YG 2 H9
noncomputable def DQ:XS:=(Zn (Zs 3 (Ze Xx [Za 0,Za 1,Za 2]))
  (Zn (Zs 4 (Ze Vb [Za 0,Za 1,Za 3]))
  (Zn (Zs 5 (Ze YN [Za 4,Za 2]))
  (Zn (Xh (xB (Zl Hy (Ze ZQ [Za 5]) (eC (.int 0)))) (Zn (Zs 6 (Ze Yi [Za 0,Za 5]))
  (Zn (Zs 3 (Ze WM [Za 3,Za 6]))
  (Zn (Zs 4 (Ze Vb [Za 0,Za 4,Za 6]))
  (Zs 5 (Ze YN [Za 4,Za 2]))))))
  (ZL (Wd [Ze UJ [Za 3],eP (Za 4),Ze Qw [Za 0,Za 4,Za 2]]))))))
noncomputable def Se:List PV->Option PV:=YG 7 DQ
end PW
namespace L2
open PySem PySem.Spec PyProof.Rows
abbrev WJ:=aL->dI->List (List Yp×V)->It
end L2
namespace VL
open PySem PySem.Spec PyProof.Rows L2
variable {K:aF}
theorem NJ{κ:Type}[DecidableEq κ]{a:List κ}{k:κ}(h:k∉a):Pe a k=a++[k]:=m9 h
theorem NK{κ:Type}[DecidableEq κ]{a:List κ}{vs:List PV}{k:κ}{v:PV}(h:k∉a):Pf a vs k v=vs++[v]:=m9 h
end VL
namespace VL
open PySem PySem.Spec PyProof.Rows L2
section
variable {K:aF} {P:bB} {w:b8} {mg:ay->Option aI} {base:bW}
theorem AB{x:ay}{st:bp}{N ps:List ay}{k n:Nat}{O:List Nat}(m:Nat)(f:XS)(D:Def K mg x st)(S:Zp N ps (Zf st))
  (g:∀(kV doc pm:aI)(an:Option aL)(b ct:aI)(us:List aI),us.length=ps.length->hU (cw x x (Y1 st) (Yd st) (Zf st) .none kV doc pm an b ct) ⟨us,[]⟩=pure (ps.zip us))
  (l:ps.length=n) (o:N.length=m) (j:∀i∈O,n<=i)
  (c:∀(d:aL)(b:aI)(A:ba)(a:List kM)(s:aM)(H:Hp)(E:XK),Room k (A.deeper (gL x (Zf st) s.heap.objs.size d b))->Fv (QP L5 P w K mg base N x (Zf st) d b A a s H E).nox O (Yd st) f) :
  Y9 P w K mg base x ps (YX K (YG m f) n) (k+1):=by
 subst o;refine D.cal S g (λvs H Q E h=>by rw[l];exact h.1) λd b A a s H vs Q E e h=>⟨_,c d b A a s H E e,DN j h⟩
end
theorem AD{K:aF}:RB K Zf6 Dp:=λH x y a b l z fb u s e Q k=>by
 cases a with
 | lst m=>cases b with
  | lst n=>
   have e:(if m.length+n.length<=10000 then ax (PV.lst (m++n)) else aA)=ax l:=e;split at e
   case isFalse=>cases e
   rename_i t;cases e;obtain⟨p,xs,v,rfl,o,i,rfl⟩:=u.lst_inv;obtain⟨w,j,g,rfl,f,d,rfl⟩:=s.lst_inv;refine⟨p,w,xs,j,rfl,rfl,o,f,by rw[i.len,d.len];exact bz (lt_size t),λq h=>?_⟩;refine k _ _ (q::(v++g)) (Same.new h _) (Is.lst Zi ((i.append d).mono (Same.new h _))) λr c=>?_;rcases aa.mp c with rfl | c
   ·exact .inr (.inr h)
   ·rcases ak.mp c with c | c
    ·exact .inl (aQ _ c)
    ·exact .inr (.inl (aQ _ c))
  | _=>cases e
 | _=>cases e
theorem AE{X:Cx}{a b:bH}{c fb:XE}{pos:dz}(d:VE X a c)(e:VE X b fb):VE X (.BinOp a .Add b pos) (Zl Dp c fb):=Wc EJ AD d e
end VL
namespace PW
open PySem L2 VL
noncomputable def DR:XS:=(Zn (Zs 3 (eP (Zl W4 (Zl Ml (Zl Yt (Zl W4 (Za 0) (eC (.int 999983))) (Za 1)) (Zl Yt (Za 1) (eC (.int 389)))) (eC (.int 999983)))))
  (Zn (Zs 3 (eP (Zl W4 (Zl Yt (Zl Yt (Zl Ml (Za 3) (Za 3)) (Zl R0 (Za 0) (eC (.int 999983)))) (Za 1)) (eC (.int 999979)))))
  (ZL (eP (Zl W4 (Zl R0 (Za 3) (eC (.int 3))) (Za 2))))))
noncomputable def Xl:List PV->Option PV:=YG 4 DR
noncomputable def Vw:XS:=(Zn (Zs 3 (eP (Zl ZW (Za 1) (Zl W4 (Za 0) (Ze ZQ [Za 1])))))
  (Zn (Zs 0 (eP (Zl R0 (Za 0) (Ze ZQ [Za 1]))))
  (Zn (Zs 4 (WK []))
  (Zn (Zs 5 (WK []))
  (Zn (YF [4,5,9] (Z1 [Za 3]) (.one 6) (Zn (UE 4 (Zl W4 (Za 0) (Zl Yt (Za 6) (eC (.int 1)))) (Za 6))
  (Zs 0 (eP (Zl R0 (Za 0) (Zl Yt (Za 6) (eC (.int 1))))))))
  (Zn (YF [4,5,9] (W5 [eC (.int 1),Za 3]) (.one 6) (Zn (YE 5 (eP (Wd [Za 6,Zl W4 (Za 0) (Za 6)])))
  (Zs 0 (eP (Zl R0 (Za 0) (Za 6))))))
  (Zn (Zs 7 (eP (Zl Ml (Ze Q7 [Zl Hy (Za 3) (eC (.int 1))]) (Zl W4 (Za 0) (Zl Yt (Zl W3 (Za 2) (Za 3)) (eC (.int 2)))))))
  (Zn (Zs 0 (eP (Zl R0 (Za 0) (Zl Yt (Zl W3 (Za 2) (Za 3)) (eC (.int 2))))))
  (Zn (YF [4,5,9] (Z1 [Za 7]) (.one 6) (Zn (Zs 8 (eP (Zl W4 (Za 0) (Za 3))))
  (Zn (Zs 0 (eP (Zl R0 (Za 0) (Za 3))))
  (Zn (YE 5 (eP (Wd [Za 8,Zl W4 (Zl Yt (Zl Yt (Za 8) (eC (.int 1))) (Zl W4 (Za 0) (Zl W3 (Za 3) (eC (.int 1))))) (Za 3)])))
  (Zs 0 (eP (Zl R0 (Za 0) (Zl W3 (Za 3) (eC (.int 1))))))))))
  (Zn (Zs 9 (Zu 1 [3] (Z1 [Za 3]) (.one 0) ZF (Zl Fq (WK [eC (.int 0)]) (Za 1))))
  (Zn (YF [9] (YY (Za 5)) (.many [8,10]) (Zn (Zs 11 (eP (Zl Yt (Zl ZW (Zl ZW (Za 9) (Zl ZW (Za 4) (Za 8))) (Zl ZW (Za 4) (Za 10))) (eC (.int 1)))))
  (Zn (X3 9 (Zl ZW (Za 4) (Za 8)) (Zl ZW (Za 4) (Za 10)) (Za 11))
  (X3 9 (Zl ZW (Za 4) (Za 10)) (Zl ZW (Za 4) (Za 8)) (Za 11)))))
  (ZL (eP (Ze ZX [Zu 1 [] (YY (Za 9)) (.one 0) ZF (Ze ZX [Za 0])]))))))))))))))
noncomputable def Vx:List PV->Option PV:=YG 12 Vw
noncomputable def Zd4:XS:=(ZL (eP (LJ (xB (Zl Hx (Za 1) (Ze ZQ [Za 0]))) (Zl ZW (Za 0) (Za 1)) (eC (.int 0)))))
noncomputable def V8:List PV->Option PV:=YG 2 Zd4
noncomputable def Ga:XS:=(Zn (Qq (xB (Zl (WU aB) (Zl W4 (Ze V8 [Za 0,eC (.int 0)]) (eC (.int 2))) (eC (.int 1)))) (ZL (Ze Vx [Ze V8 [Za 0,eC (.int 1)],Za 1,Za 2])) YH)
  (Zn (Zs 3 (eP (Zl ZW (Za 1) (Ze Xl [Ze V8 [Za 0,eC (.int 0)],eC (.int 1),Ze ZQ [Za 1]]))))
  (Zn (Zs 4 (Zu 1 [3] (Z1 [Za 3]) (.one 0) ZF (Zl Fq (WK [eC (.int 0)]) (Za 1))))
  (Zn (Zs 5 (eP (eC (.int 0))))
  (Zn (YF [4] (W5 [eC (.int 1),eC (.int 13)]) (.one 6) (Zn (Zs 7 (Ze V8 [Za 0,Za 6]))
  (Zn (Zs 8 (Ze Xl [Za 7,eC (.int 13),Za 3]))
  (Zn (Zs 9 (eP (Zl W4 (Zl Yt (Zl Yt (Za 8) (eC (.int 1))) (Ze Xl [Za 7,eC (.int 17),Ze HA [eC (.int 1),Zl W3 (Za 3) (eC (.int 1))]])) (Za 3))))
  (Zn (Qq (xB (Zl Hx (Za 6) (Za 3))) (Zn (Zs 8 (eP (Za 6)))
  (Zs 9 (Ze Xl [Za 7,eC (.int 5),Za 6]))) YH)
  (Zn (Zs 10 (eP (JJ (Zl Hy (Za 3) (eC (.int 1))) (JJ (Zl Hx (Za 5) (Za 2)) (Zl Hy (Ze Xl [Za 7,eC (.int 3),eC (.int 3)]) (eC (.int 0)))))))
  (Qq (E5 (xB (Zl Hx (Za 6) (Za 3))) (xB (Za 10))) (Zn (X3 4 (Za 8) (Za 9) (Zl Yt (Zl ZW (Zl ZW (Za 4) (Za 8)) (Za 9)) (eC (.int 1))))
  (Zn (X3 4 (Za 9) (Za 8) (Zl ZW (Zl ZW (Za 4) (Za 8)) (Za 9)))
  (Zs 5 (eP (Zl Yt (Za 5) (eC (.int 1))))))) YH)))))))
  (Zn (Zs 11 (Ze Xl [Ze V8 [Za 0,eC (.int 0)],eC (.int 7),Za 3]))
  (Zn (Zs 4 (Zu 1 [11] (YY (Zl Dp (OO TV (Za 4) (R4 (Za 11)) OY) (OO TV (Za 4) OY (R4 (Za 11))))) (.one 0) ZF (Zl HK (OO TV (Za 0) (R4 (Za 1)) OY) (OO TV (Za 0) OY (R4 (Za 1))))))
  (ZL (eP (Ze ZX [Zu 1 [] (YY (Za 4)) (.one 0) ZF (Ze ZX [Za 0])]))))))))))
noncomputable def MN:List PV->Option PV:=YG 12 Ga
noncomputable def DS:XS:=(ZL (eP (Ze ZX [Zu 1 [1] (Z1 [Ze ZQ [Za 0]]) (.one 0) ZF (LJ (xB (Zl (WU aB) (Za 0) (Za 1))) (eC (.int 1)) (eC (.int 0)))])))
noncomputable def Pz:List PV->Option PV:=YG 2 DS
noncomputable def Ti:XS:=(Zn (Qq (E5 (Ka (xB (Ze VP [Za 0,eC (.ty "tuple")]))) (xB (Zl (WU aC) (Ze ZQ [Za 0]) (Za 1)))) (ZL (eP (eC (.bl aB)))) YH)
  (ZL (eP (Ze Fh [Zu 1 [] (OW (Za 0)) (.one 0) ZF (Ze Vc [Za 0])]))))
noncomputable def Tj:List PV->Option PV:=YG 2 Ti
end PW
namespace VL
open PySem PySem.W PyProof.Rows
noncomputable def Ws(r:Nat->Int)(n:Nat){α:Type}:KasT α->(α->Prop)->Prop
 | .ret a,Q=>Q a
 | .ask i j k,Q=>i<n/\j<n/\Ws r n (k (decide (r i<r j))) Q
theorem X7{r:Nat->Int}{n:Nat}{c b:Type}{g:c->KasT b}{Q:b->Prop}:∀{t:KasT c},Ws r n t (λa=>Ws r n (g a) Q)->Ws r n (t.bind g) Q
 | .ret a,h=>h
 | .ask i j k,h=>⟨h.1,h.2.1,X7 h.2.2⟩
theorem Y7{r:Nat->Int}{n:Nat}{d:Type}{Q c:d->Prop}(b:∀a,Q a->c a):∀{t:KasT d},Ws r n t Q->Ws r n t c
 | .ret a,h=>b a h
 | .ask i j k,h=>⟨h.1,h.2.1,Y7 b h.2.2⟩
theorem Gb{r:Nat->Int}{n:Nat}{c:Type}{b:Nat->Nat->(Bool->aM->Prop)->aM->Prop}{Q:c->Prop}{e:c->aM->Prop}{s:aM}
  (f:∀i j,i<n->j<n->∀C:Bool->aM->Prop,C (decide (r i<r j)) s->b i j C s) (d:∀a,Q a->e a s):∀{t:KasT c},Ws r n t Q->t.kasWp b e s
 | .ret a,h=>d a h
 | .ask i j k,h=>f i j h.1 h.2.1 _ (Gb f d h.2.2)
section
variable {r:Nat->Int} {n:Nat}
noncomputable def Y8(p:Array Nat)(i:Nat):Nat:=p.getD i 0
structure Pm(n:Nat)(p:Array Nat):Prop where
 sz:p.size=n
 lt:∀i,i<n->Y8 p i<n
 inj:∀i j,i<n->j<n->Y8 p i=Y8 p j->i=j
noncomputable def Up(r:Nat->Int)(p:Array Nat)(m:Nat):Prop:=∀i j,i<j->j<m->r (Y8 p i)<r (Y8 p j)
noncomputable def Dn(r:Nat->Int)(p:Array Nat)(m:Nat):Prop:=∀i j,i<j->j<m->r (Y8 p j)<r (Y8 p i)
theorem YO(p:Array Nat)(i:Nat):Y8 p i=(p[i]?).getD 0:=by unfold Y8;exact Array.getD_eq_getD_getElem?
theorem Pm.ne{p:Array Nat}(h:Pm n p)(d:∀i j,i<n->j<n->r i=r j->i=j){i j:Nat}(c:i<n)(b:j<n)(a:i≠j):r (Y8 p i)≠r (Y8 p j):=λz=>a (h.inj i j c b (d _ _ (h.lt i c) (h.lt j b) z))
theorem Up.snoc{p:Array Nat}{m:Nat}(h:Up r p m)(d:1<=m)(b:r (Y8 p (m-1))<r (Y8 p m)):Up r p (m+1):=λi j a c=>by
 by_cases q:j<m
 ·exact h i j a q
 ·have:j=m:=by omega
  subst this;by_cases z:i=j-1
  ·subst z;exact b
  ·have:=h i (j-1) (by omega) (by omega);omega
theorem Dn.snoc{p:Array Nat}{m:Nat}(h:Dn r p m)(d:1<=m)(b:r (Y8 p m)<r (Y8 p (m-1))):Dn r p (m+1):=λi j a c=>by
 by_cases q:j<m
 ·exact h i j a q
 ·have:j=m:=by omega
  subst this;by_cases z:i=j-1
  ·subst z;exact b
  ·have:=h i (j-1) (by omega) (by omega);omega
theorem MO{p:Array Nat}(b:Pm n p)(c:∀i j,i<n->j<n->r i=r j->i=j):∀(f m:Nat),1<=m->m+f=n->Up r p m->Ws r n (kas_asc p f m) λa=>m<=a/\a<=n/\Up r p a/\(a=n\/r (Y8 p a)<r (Y8 p (a-1)))
 | 0,m,h1,hm,hu=>⟨aX _,by omega,hu,.inl (by omega)⟩
 | f+1,m,h1,hm,hu=>by
  refine⟨b.lt m (by omega),b.lt (m-1) (by omega),?_⟩;show Ws r n (if decide (r (Y8 p m)<r (Y8 p (m-1)))=aC then mY m else kas_asc p f (m+1)) _;by_cases q:r (Y8 p m)<r (Y8 p (m-1))
  ·rw[m7 (decide_eq_true q)];exact⟨aX _,by omega,hu,.inr q⟩
  ·rw[m9 (by rw[decide_eq_false q];exact bN)];have ne:=b.ne c (show m<n by omega) (show m-1<n by omega) (by omega);exact Y7 (λa h=>⟨by omega,h.2⟩) (MO b c f (m+1) (by omega) (by omega) (hu.snoc h1 (by omega)))
theorem Ks{p:Array Nat}(a:Pm n p)(b:∀i j,i<n->j<n->r i=r j->i=j):∀(f m:Nat),1<=m->m+f=n->Dn r p m->Ws r n (kas_desc f p m 0) λx=>x.1=p/\x.2.2=0/\m<=x.2.1/\x.2.1<=n/\Dn r p x.2.1
 | 0,m,h1,hm,hu=>⟨rfl,rfl,aX _,by show m<=n;omega,hu⟩
 | f+1,m,h1,hm,hu=>by
  refine⟨a.lt m (by omega),a.lt (m-1) (by omega),?_⟩;have ne:=a.ne b (show m<n by omega) (show m-1<n by omega) (by omega);by_cases q:r (Y8 p m)<r (Y8 p (m-1))
  ·show Ws r n (if decide (r (Y8 p m)<r (Y8 p (m-1)))=aC then(if 0>0 then _ else kas_desc f p (m+1) 0) else _) _;rw[m7 (decide_eq_true q),m9 (by omega)];exact Y7 (λx h=>⟨h.1,h.2.1,by omega,h.2.2.2⟩) (Ks a b f (m+1) (by omega) (by omega) (hu.snoc h1 q))
  ·have c:r (Y8 p (m-1))<r (Y8 p m):=by omega
   show Ws r n (if decide (r (Y8 p m)<r (Y8 p (m-1)))=aC then _ else KasT.ask (p.getD (m-1) 0) (p.getD m 0) λd=>if d=aC then .ret (p,m,0) else kas_desc f p (m+1) (0+1)) _;rw[m9 (by rw[decide_eq_false q];exact bN)];refine⟨a.lt (m-1) (by omega),a.lt m (by omega),?_⟩;show Ws r n (if decide (r (Y8 p (m-1))<r (Y8 p m))=aC then mY (p,m,0) else _) _;rw[m7 (decide_eq_true c)];exact⟨rfl,rfl,aX _,by show m<=n;omega,hu⟩
theorem Gd{p:Array Nat}{m:Nat}(a:m<=p.size)(i:Nat):Y8 (kas_rev p 0 m) i=if i<m then Y8 p (m-1-i) else Y8 p i:=by
 rw[YO];unfold kas_rev;rw[getElem?_mirror_all a];by_cases q:i<m
 ·rw[m7 ⟨dH _,q⟩,m7 q,YO,Nat.zero_add]
 ·rw[m9 (by omega),m9 q,YO]
theorem Pm.rev{p:Array Nat}(h:Pm n p){m:Nat}(d:m<=n):Pm n (kas_rev p 0 m):=by
 have e:=λi=>Gd (p:=p) (m:=m) (by rw[h.sz];exact d) i;refine⟨by rw[kas_rev_size];exact h.sz,λi b=>?_,λi j b c a=>?_⟩
 ·rw[e];split
  ·exact h.lt _ (by omega)
  ·exact h.lt _ b
 ·rw[e,e] at a;split at a
  ·split at a
   ·have:=h.inj _ _ (by omega) (by omega) a;omega
   ·have:=h.inj _ _ (by omega) (by omega) a;omega
  ·split at a
   ·have:=h.inj _ _ (by omega) (by omega) a;omega
   ·exact h.inj _ _ b c a
theorem Dn.rev{p:Array Nat}(h:Pm n p){m:Nat}(c:m<=n)(hd:Dn r p m):Up r (kas_rev p 0 m) m:=λi j a b=>by have e:=λi=>Gd (p:=p) (m:=m) (by rw[h.sz];exact c) i;rw[e,e,m7 b,m7 (by omega)];exact hd _ _ (by omega) (by omega)
noncomputable def Zd5(r:Nat->Int)(n:Nat)(x:Nat×Array Nat):Prop:=1<=x.1/\x.1<=n/\Pm n x.2/\Up r x.2 x.1
theorem FC{p:Array Nat}(b:Pm n p)(d:∀i j,i<n->j<n->r i=r j->i=j){m:Nat}(e:1<=m)(a:m<=n)(hd:Dn r p m):Ws r n (kas_tail3 m n p) (Zd5 r n):=by unfold kas_tail3;refine X7 (Y7 (λc h=>?_) (MO (b.rev a) d (n-m) m e (by omega) (Dn.rev b a hd)));exact⟨by show 1<=c;omega,h.2.1,b.rev a,h.2.2.1⟩
theorem MP{p:Array Nat}(b:Pm n p)(c:∀i j,i<n->j<n->r i=r j->i=j)(m:2<=n)(hd:r (Y8 p 1)<r (Y8 p 0)):Ws r n (kas_descPart 1 n p) (Zd5 r n):=by
 unfold kas_descPart
 have f:Dn r p 2:=λi j e k=>by
  have:i=0:=by omega
  have:j=1:=by omega
  subst i j;exact hd
 refine X7 (Y7 (λx h=>?_) (Ks b c (n-(1+1)) (1+1) (by omega) (by omega) f));obtain⟨rfl,d,l,g,a⟩:=h;rw[d];show Ws r n (if 0>0 then _ else kas_tail3 x.2.1 n x.1) _;rw[m9 (by omega)];exact FC b c (by omega) g a
theorem FD{p:Array Nat}(a:Pm n p)(k:∀i j,i<n->j<n->r i=r j->i=j)(s:1<=n):Ws r n (kas_count n p) (Zd5 r n):=by
 unfold kas_count;refine X7 (Y7 (λm h=>?_) (MO a k (n-1) 1 (by omega) (by omega) λi j l o=>by omega));obtain⟨e,f,d,b⟩:=h;by_cases q:m=n
 ·rw[m7 (by simp[q])];exact⟨e,f,a,d⟩
 ·rw[m9 (by simp[q])];have c:r (Y8 p m)<r (Y8 p (m-1)):=by exact b.resolve_left q
  by_cases g:m>1
  ·rw[m7 g];refine⟨a.lt 0 (by omega),a.lt (m-1) (by omega),?_⟩;show Ws r n (if decide (r (Y8 p 0)<r (Y8 p (m-1)))=aC then mY (m,p) else _) _;rw[m7 (decide_eq_true (d 0 (m-1) (by omega) (by omega)))];exact⟨e,f,a,d⟩
  ·rw[m9 g];have:m=1:=by omega
   subst this;exact MP a k (by omega) c
theorem SX{p:Array Nat}(e:Pm n p)(s:∀i j,i<n->j<n->r i=r j->i=j){k:Nat}(g:k<n)(o:Up r p k):∀(f a b:Nat),a<=b->b<=k->b-a<=f->(∀i,i<a->r (Y8 p i)<r (Y8 p k))->(∀i,b<=i->i<k->r (Y8 p k)<r (Y8 p i))->
   Ws r n (lH p k f a b) λl=>l<=k/\(∀i,i<l->r (Y8 p i)<r (Y8 p k))/\∀i,l<=i->i<k->r (Y8 p k)<r (Y8 p i)
 | 0,a,b,hab,hb,hf,lo,hi=>⟨by omega,lo,λi h=>hi i (by omega)⟩
 | f+1,a,b,hab,hb,hf,lo,hi=>by
  unfold lH;by_cases q:a ≥ b
  ·rw[m7 q];exact⟨by omega,lo,λi h=>hi i (by omega)⟩
  ·rw[m9 q];have d:(a+b)/2<k:=by omega
   refine⟨e.lt k g,e.lt _ (by omega),?_⟩;show Ws r n (if decide (r (Y8 p k)<r (Y8 p ((a+b)/2)))=aC then lH p k f a ((a+b)/2) else lH p k f ((a+b)/2+1) b) _;generalize u:(a+b)/2=m at d;by_cases c:r (Y8 p k)<r (Y8 p m)
   ·rw[m7 (decide_eq_true c)];refine SX e s g o f a m (by omega) (by omega) (by omega) lo λi v t=>?_;by_cases z:i=m
    ·subst z;exact c
    ·have:=o m i (by omega) t;omega
   ·rw[m9 (by rw[decide_eq_false c];exact bN)];have ne:=e.ne s g (show m<n by omega) (by omega);refine SX e s g o f (m+1) b (by omega) hb (by omega) (λi v=>?_) hi;by_cases z:i=m
    ·subst z;omega
    ·have:=o i m (by omega) d;omega
theorem J3{p:Array Nat}{k l:Nat}(a:k<p.size)(b:l<=k)(i:Nat):Y8 (bubble p k (k-l)) i=if i=l then Y8 p k else if l<i/\i<=k then Y8 p (i-1) else Y8 p i:=by
 rw[YO,getElem?_bubble a (k-l) (by omega)];have e:k-(k-l)=l:=by omega
 rw[e];by_cases q:i=l
 ·rw[m7 q,m7 q,YO]
 ·rw[m9 q,m9 q];by_cases z:l<i/\i<=k
  ·rw[m7 z,m7 z,YO]
  ·rw[m9 z,m9 z,YO]
theorem Ge(d:∀i j,i<n->j<n->r i=r j->i=j):∀(f:Nat)(p:Array Nat)(k:Nat),Pm n p->k+f=n->Up r p k->Ws r n (kas_bin f p k) λs=>Pm n s/\Up r s n
 | 0,p,k,hp,hk,hu=>by
  have e:k=n:=by omega
  subst e;exact⟨hp,hu⟩
 | f+1,p,k,hp,hk,hu=>by
  unfold kas_bin;have b:k<n:=by omega
  refine X7 (Y7 (λl h=>?_) (SX hp d b hu k 0 k (by omega) (by omega) (by omega) (λi h=>by omega) λi x w=>by omega));obtain⟨u,lo,v⟩:=h;have e:=λi=>J3 (p:=p) (k:=k) (l:=l) (by rw[hp.sz];exact b) u i;refine Ge d f _ (k+1) ⟨by rw[bubble_size];exact hp.sz,λi c=>?_,λi j c o a=>?_⟩ (by omega) λi j a o=>?_
  ·rw[e];split
   ·exact hp.lt _ b
   ·split
    ·exact hp.lt _ (by omega)
    ·exact hp.lt _ c
  ·rw[e,e] at a;split at a
   ·split at a
    ·omega
    ·split at a
     ·have:=hp.inj _ _ (by omega) (by omega) a;omega
     ·have:=hp.inj _ _ (by omega) (by omega) a;omega
   ·split at a
    ·split at a
     ·have:=hp.inj _ _ (by omega) (by omega) a;omega
     ·split at a
      ·have:=hp.inj _ _ (by omega) (by omega) a;omega
      ·have:=hp.inj _ _ (by omega) (by omega) a;omega
    ·split at a
     ·have:=hp.inj _ _ (by omega) (by omega) a;omega
     ·split at a
      ·have:=hp.inj _ _ (by omega) (by omega) a;omega
      ·exact hp.inj _ _ c o a
  ·rw[e,e];by_cases g:i=l
   ·rw[m7 g,m9 (by omega),m7 (by omega)];exact v _ (by omega) (by omega)
   ·rw[m9 g];by_cases m:j=l
    ·rw[m7 m,m9 (by omega)];exact lo _ (by omega)
    ·rw[m9 m];by_cases q:l<i/\i<=k
     ·rw[m7 q,m7 (by omega)];exact hu _ _ (by omega) (by omega)
     ·rw[m9 q];by_cases t:l<j/\j<=k
      ·rw[m7 t];exact hu _ _ (by omega) (by omega)
      ·rw[m9 t];exact hu _ _ a (by omega)
theorem Kt(n:Nat):Pm n (eY (aD n)):=by
 have e:∀i,i<n->Y8 (eY (aD n)) i=i:=λi a=>by rw[YO];simp[a]
 refine⟨by simp,λi a=>by rw[e i a];exact a,λi j a b h=>?_⟩;rw[e i a,e j b] at h;exact h
theorem DT(c:∀i j,i<n->j<n->r i=r j->i=j)(d:1<=n):Ws r n (kas_sort n) λp=>Pm n p/\Up r p n:=by
 unfold kas_sort;refine X7 (Y7 (λx h=>?_) (FD (Kt n) c d));obtain⟨f,g,b,a⟩:=h;have e:max x.1 1=x.1:=by omega
 by_cases q:x.1<n
 ·rw[m7 q,e];exact Ge c (n-x.1) x.2 x.1 b (by omega) a
 ·rw[m9 q];have:x.1=n:=by omega
  rw[this] at a;exact⟨b,a⟩
end
section
variable {prog:bB} {w:b8} {A:ba} {E:aI->aM->Prop} {s:aM}
theorem Ku{l:aL}{vs:List aI}{Q:List aI->aM->Prop}(d:l6 s.heap l vs.toArray)
  (h:Q vs { s with heap:=(s.heap.push (dC "list" #[] 0)).update s.heap.objs.size (cV (·++vs.toArray)) }) (c:vs.length<=sizeLine:=by size_fits) :
  aw (model prog w) A (collect (.ref l)) Q E s:=by
 obtain⟨o,b,e,n,hd⟩:=id d;refine aE (wpAny_runValue (codeAny_builtin entry_proto_collect' ?_));refine aE (iY (aU ⟨Code.quiet_builtin _ (by simp),codeAny_builtin entry_list_iadd' ?_⟩));show aw _ _ (gn.List.listExtendWith (.ref s.heap.objs.size) (.ref l) (.ref s.heap.objs.size)) _ _ { s with heap:=s.heap.push (dC "list" #[] 0) };have a:(s.heap.push (dC "list" #[] 0)).get? l=ax o:=aJ _ b;refine aE (wpAny_typeOf ⟨o,a,e⟩ ?_);rw[m7 (by simp)];refine aE (kh a hd ?_);refine aE (kh (a9 _ rfl) rfl ?_);refine aE (iZ (a9 _ rfl) rfl ?_ (dH _) (by show(#[]++vs.toArray).size<=sizeLine+1;simp only[Array.size_append,aS,j3];omega));refine aU ?_
 show aw (model prog w) A (do
   let o <-load s.heap.objs.size
   match o.data with
   | .seq xs _=>pure xs.toList
   | _=>unsupported "internal:collect") Q E { s with heap:=(s.heap.push (dC "list" #[] 0)).update s.heap.objs.size (cV (·++vs.toArray)) }
 refine aE (wpAny_load (get?_update_seq (a9 _ rfl) _) ?_);show aw _ _ (pure ((#[]:Array aI)++vs.toArray).toList) Q E _;rw[show((#[]:Array aI)++vs.toArray).toList=vs by simp];exact aU h
theorem sorted_intsT{l:aL}{vs:List aI}{ns:List Int}{Q:aI->aM->Prop}(i:l6 s.heap l vs.toArray)(j:gS vs ns)(d:vs.length<64)
  (h:∀(out:Array aI)(a:List Int),gS out.toList a->a.Perm ns->a.Pairwise (·<=·)->Q (.ref (s.heap.objs.size+1)) { s with heap:=sortedAll s.heap vs out }) :
  aw (model prog w) A (call (.builtin "sorted") [.ref l]) Q E s:=by
 refine iI kind_sorted plain_sorted entry_sorted (args_sorted1 _) ?_;refine aE (aU ?_);refine aE (Ku i ?_ (by rw[cj];omega));refine aE (iY ?_ (by rw[cj];omega));have b:((s.heap.push (dC "list" #[] 0)).update s.heap.objs.size (cV (·++vs.toArray))).objs.size=s.heap.objs.size+1:=by rw[jB,mF]
 have c:(((s.heap.push (dC "list" #[] 0)).update s.heap.objs.size (cV (·++vs.toArray))).push (dC "list" vs.toArray 0)).get? (s.heap.objs.size+1)=ax (dC "list" vs.toArray 0):=by rw[<-b];exact a9 _ rfl
 rw[b];refine aE (eB (cT slot_list_sort ⟨_,c,rfl⟩ entry_list_sort (list_sort_tree c j d λout a f g e=>⟨_,rfl,?_⟩) (args_list_sort _)));exact aU ⟨_,rfl,h out a f g e⟩
theorem O1{a:aL}{vs:List aI}{n:Nat}{r:Nat->Int}{κ:SortKind}{P:PySem.Fin->aM->Prop}(v:s.heap.get? a=ax (dC "list" vs.toArray n))(z:vs.length<64)
  (J:∀i j,i<vs.length->j<vs.length->r i=r j->i=j)
  (R:2<=vs.length->∀h':bW,(∀b o,b≠a->s.heap.get? b=ax o->h'.get? b=ax o)->∀Q:SortKind->aM->Prop,Q κ { s with heap:=h' }->aw (model prog w) A (keyKind' vs.toArray) Q (λ_ _=>False) { s with heap:=h' })
  (N:∀h':bW,(∀b o,b≠a->s.heap.get? b=ax o->h'.get? b=ax o)->∀i j,i<vs.length->j<vs.length->∀C:Bool->aM->Prop,C (decide (r i<r j)) { s with heap:=h' }->kas_ask prog w A κ vs i j C { s with heap:=h' })
  (h:∀p:Array Nat,Pm vs.length p->Up r p vs.length->P (.done (.ret .none)) { s with heap:=sortedHeap s.heap a vs (eY (p.toList.map λi=>vs.getD i dP)) }) :
  aw (model prog w) A (gn.«list.sort» ⟨[.ref a],[]⟩) P E s:=by
 have F:a<s.heap.objs.size:=aV v;rw[list_sort_plain];refine aE (kh v rfl ?_);refine aE (iZ v rfl ?_ (by rw[aS,cj];omega) (dH _));obtain⟨y,m⟩:∃y,(s.heap.update a (cV λ_=>#[])).get? a=ax (dC "list" #[] y):=⟨_,get?_update_seq v (λ_=>#[])⟩;refine aE (lU m rfl ?_);refine aE (wpAny_newTuple ?_ (by show vs.length<=_;rw[cj];omega));refine aE (iY ?_ (dH _));refine eB ?_;have c:(((s.heap.update a (cV λ_=>#[])).push (dC "tuple" vs.toArray 0)).push (dC "list" #[] 0)).get? a=ax (dC "list" #[] y):=by rw[kj _ _ _ (by rw[mF,jB];exact bG (dA F)),kj _ _ _ (by rw[jB];exact bG F)];exact m
 have keep:∀b o,b≠a->s.heap.get? b=ax o->(((s.heap.update a (cV λ_=>#[])).push (dC "tuple" vs.toArray 0)).push (dC "list" #[] 0)).get? b=ax o:=λb o L q=>
  aJ _ (aJ _ (by rw[bW.get?_update_ne _ _ _ _ L];exact q))
 show aw (model prog w) A _ P E { s with heap:=((s.heap.update a (cV λ_=>#[])).push (dC "tuple" vs.toArray 0)).push (dC "list" #[] 0) }
 dsimp only
 by_cases k:vs.toArray.size<2
 ·rw[m7 k,m7 k];refine aE (aU ?_);rw[StateT.run_pure];refine aE (aU ?_)
  dsimp only
  refine aE (lU c rfl ?_);refine aE (iZ c rfl ?_ (hsz2:=by rw[Array.size_map];show(pairsOf vs).size<=_;rw[pairsOf_size,cj];omega));simp only[bne_self_eq_false,eV,if_false];have l:=h (eY (aD vs.length)) (Kt _) λi j M Y=>by rw[aS] at k;omega
  have e:((vs.toArray.zip vs.toArray).map (·.2))=eY ((eY (aD vs.length)).toList.map λi=>vs.getD i dP):=by
   apply kz.mp;apply fK
   ·simp
   ·intro i W k;have T:i<vs.length:=by simpa using W
    simp[T]
  refine aU ?_;show P _ { s with heap:=(((s.heap.update a (cV λ_=>#[])).push (dC "tuple" vs.toArray 0)).push (dC "list" #[] 0)).update a (cV λ_=>(vs.toArray.zip vs.toArray).map (·.2)) };rw[e];exact l
 ·rw[m9 k,m9 k];have t:2<=vs.length:=by rw[aS] at k;omega
  refine aE (cB (R t _ keep (λg f=>g=κ/\f={ s with heap:=((s.heap.update a (cV λ_=>#[])).push (dC "tuple" vs.toArray 0)).push (dC "list" #[] 0) }) ⟨rfl,rfl⟩) ?_ λ_ _ x=>x.elim);rintro g f ⟨rfl,rfl⟩
  refine aE (cB (kat_run (κ:=g) (Q:=λd f=>∃p:Array Nat,arrOf d=p.map (kas_item (vs.toArray.zip vs.toArray))/\failedOf d=aA/\f={ s with heap:=((s.heap.update a (cV λ_=>#[])).push (dC "tuple" vs.toArray 0)).push (dC "list" #[] 0) }/\Pm vs.length p/\Up r p vs.length)
   (G:=λp f=>f={ s with heap:=((s.heap.update a (cV λ_=>#[])).push (dC "tuple" vs.toArray 0)).push (dC "list" #[] 0) }/\Pm vs.length p/\Up r p vs.length)
   rfl t z (λU d f X S O H=>⟨U,S,O,H⟩) (Gb (N _ keep) (λp l=>⟨rfl,l⟩) (DT J (by omega)))) ?_ λ_ _ e=>e)
  rintro⟨⟨⟩,d⟩ f ⟨p,D,I,rfl,l,B⟩
  dsimp only
  have u:=kat_snds rfl D;rw[u];refine aE (lU c rfl ?_);refine aE (iZ c rfl ?_ (dH _) (by rw[aS,aK,cA,l.sz,cj];omega));rw[I];simp only[bne_self_eq_false,eV,if_false];exact aU (h p l B)
end
end VL
namespace VL
open PySem PySem.W PyProof.Rows L2
theorem FE{prog:bB}{w:b8}{A:ba}{c d:aL}{o:dI}{a:Array gx}{ep:Nat}(s:A.handled=aA)(l:d≠c)(hd:o.data = .dict a ep) :
  Walks prog w A c [c,d] [c] a.size (λi v=>∃e,a[i]?=ax e/\v=e.key) (λi h=>h.IsKeyIter c d i a.size ep/\h.get? d=ax o) where
 sub:=λb f=>by rw[aN.mp f];exact ag
 frame:=λ_ _ _ st m=>⟨st.1.at λo e=>m _ (by simp) o e,m d (by simp) o st.2⟩
 item:=λi k Q E n st g=>by refine TL st.1 st.2 hd (e:=a[i]) (by simp[n]) λh' j p=>?_;exact g _ h' k.toks ⟨a[i],by simp[n],rfl⟩ ⟨j,p.extBut d o l st.2⟩ λb o f e=>p.extBut b o (λh=>f (by simp[h])) e
 done:=λk Q E st g=>SI s st.1 st.2 hd λh' q=>g h' k.toks λb o f e=>q b o (λh=>f (by simp[h])) e
 self:=λ_ _ _ _ st g=>wpAny_pyIter_keyiter st.1 g
theorem AF{prog:bB}{w:b8}{d:aL}{o:dI}{b:Array gx}{ep:Nat}(lo:(d==dU)=aB)(c:o.ExactDict)(hd:o.data = .dict b ep) :
  KdlSrc prog w "dict" d d b.size (λi v=>∃e,b[i]?=ax e/\v=e.key) (λh=>h.get? d=ax o) where
 type:=λ_ a=>⟨o,a,c.1⟩
 there:=λ_ a=>⟨aV a,aV a⟩
 keep:=λ_ _ a g=>g d (.inl rfl) o a
 notList:=by decide
 notTuple:=by decide
 hint:=λ_ _ _ _ a f=>kdl_hint_dict ⟨o,a,c.1⟩ f
 iter:=λA s j a=>⟨_,λi h=>h.IsKeyIter s.heap.objs.size d i b.size ep/\h.get? d=ax o,(λ_ _ f=>Mg lo a c hd f),FE j (bG (aV a)) hd,⟨⟨_,a9 _ rfl,rfl,rfl⟩,aJ _ a⟩⟩
theorem DU{a:Type}(f:a->aI)(l:List a)(d:a){i:Nat}(b:i<l.length):(l.map f).getD i dP=f (l.getD i d):=by simp[b]
theorem RK:∀{l m:List Nat},l.Nodup->(∀x∈l,x∈m)->m.length<=l.length->l.Perm m
 | [],m,_,_,hl=>by have:m=[]:=bj.mp (by simpa using hl);subst this;exact .nil
 | x::l,m,nd,sub,hl=>by
  have a:=av.mp nd;have c:=sub x (by simp);have d:=List.perm_cons_erase c;refine List.Perm.trans ?_ d.symm;refine .cons x (RK a.2 (λy b=>?_) ?_)
  ·have ne:y≠x:=λz=>a.1 (z▸b);exact(ju ne).mpr (sub y (by simp[b]))
  ·rw[i5 c];simp only[bM] at hl;omega
theorem Zbo{n:Nat}{p:Array Nat}(a:Pm n p):∀j∈p.toList,j<n:=λj c=>by
 obtain⟨i,b,e⟩:=dE c;rw[cA,a.sz] at b;have:=a.lt i b;rw[YO] at this;have d:p[i]?=ax j:=by rw[<-Array.getElem?_toList,<-e];simp[a.sz,b]
 rw[d] at this;exact this
theorem J4{f:Type}{l:List f}{d:f}{p:Array Nat}(a:Pm l.length p):(p.toList.map λi=>l.getD i d).Perm l:=by
 have m:p.toList.Nodup:=by
  refine iJ.mpr λi j c b g e=>?_;rw[cA,a.sz] at c b
  have:=a.inj i j c b (by
   rw[YO,YO];simp only[jv] at e;simp[a.sz,c,b,e])
  omega
 have sub:p.toList.Perm (aD l.length):=RK m (λx k=>aY.mpr (Zbo a x k)) (by simp[a.sz])
 have e:(aD l.length).map (λi=>l.getD i d)=l:=by
  apply fK
  ·simp
  ·intro i n h;simp[h]
 have:=sub.map λi=>l.getD i d
 rwa [e] at this
theorem NL:∀cs:List aL,Vals (cs.map V.ref) (cs.map b7)
 | []=>.nil
 | c::cs=>.cons rfl (NL cs)
end VL
namespace VL
open PySem PySem.Spec PyProof.Rows L2
variable {K:aF}
instance (x:ay) (n:Int):Decidable (MulOk x n):=by unfold MulOk;infer_instance
end VL
set_option maxHeartbeats 3200000
namespace VX
open PySem PySem.Spec PyProof.Rows L2 VL
abbrev XR:=ZE->Option ay
noncomputable def tFX(K:aF)(O:List Nat)(fx:XR)(E:XK):TS:=λ_ σ H=>∃H0 fps s n,Rel K O H0 fps s σ H/\fx s=ax n/\∀C H',gp K cE n=ax (ax (.ref C))->Same H0 H'->E (.ref C) aA H'
noncomputable def VX(X:Cx)(O:List Nat)(E:XK)(st:bp)(fx:XR):Prop:=PS X st (tFX X.K O fx E)
abbrev XF:=ZE->Option (ay×PV)
noncomputable def sEx(f:XE):XS:=λs=>(f s).map λ_=>.nx s
theorem Zgu{X:Cx}{O:List Nat}{e:bH}{f:XE}{pos:dz}(h:VE X e f)(g:fu e aA pos.line X.env=pure aB:=by rfl):VS X O [] (.Expr e pos) (sEx f):=PS.imp (Y0 h g) λD b H ⟨i,fps,s,out,r,e,k⟩=>by obtain⟨l,a,rfl⟩:=map_some e;exact⟨λ_=>False,s,l,λ_ z=>z.elim,r.env,a,λv d m c is _=>k fps b d (r.grow c) λj _=>⟨rfl,Kep.refl _⟩⟩
end VX
namespace VL
open PySem PySem.Spec PyProof.Rows L2
theorem Zgv{X:Cx}{d e:bH}{f:XE}(h:VE X e f):VI X d e (Au f):=by
 intro a s b H R I ⟨c,st,ls,hd,env,e,k⟩;unfold Au at e
 cases q:YY f st with
 | some m=>
  rw[q] at e;cases e;exact Yg h a s b H R I ⟨c,st,_,hd,env,q,k⟩
 | none=>
  rw[q] at e;exact JQ h a s b H R I ⟨c,st,ls,hd,env,e,k⟩
end VL
namespace PW
open PySem L2 VL
noncomputable def Kv:XS:=(Zn (Zs 1 (WK []))
  (Zn (YF [1] (Z1 [Ze ZQ [Za 0]]) (.one 2) (YF [1] (W5 [Zl Yt (Za 2) (eC (.int 1)),Ze ZQ [Za 0]]) (.one 3) (Wz 1 (Zu 1 [2,3] (Z1 [Zl ZW (Zl ZW (Za 0) (Za 2)) (Za 3)]) (.one 0) ZF (eP (Wd [Za 1,Za 2]))))))
  (ZL (Za 1))))
noncomputable def PB:List PV->Option PV:=YG 4 Kv
end PW
namespace VL
open PySem PySem.W PySem.Spec PyProof.Rows L2
noncomputable def WV(ns:List Int):Int:=ns.foldl (λa x=>a*100+x) 0
noncomputable def V9(m:Nat)(ns:List Int):Bool:=decide (ns.length=m)&&ns.all λx=>decide (0<=x)&&decide (x<100)
theorem Ua{m:Nat}{x:Int}{ns:List Int}(h:V9 (m+1) (x::ns)=aC):0<=x/\x<100/\V9 m ns=aC:=by unfold V9 at *;simp only[ao,decide_eq_true_eq,bM,gU] at *;exact⟨h.2.1.1,h.2.1.2,by omega,h.2.2⟩
noncomputable def Gf(a:Int)(ns:List Int):Int:=ns.foldl (λa x=>a*100+x) a
theorem UK:∀(ns:List Int)(a:Int),∃p:Int,0<p/\∀b,Gf b ns-Gf a ns=(b-a)*p/\(p:Int)=100^ns.length
 | [],a=>⟨1,by decide,λb=>⟨by show b-a=(b-a)*1;omega,rfl⟩⟩
 | x::ns,a=>by obtain⟨p,e,h⟩:=UK ns (a*100+x);refine⟨100*p,by omega,λb=>?_⟩;obtain⟨d,c⟩:=h (b*100+x);refine⟨?_,by rw[bM,Int.pow_succ,c];omega⟩;show Gf (b*100+x) ns-Gf (a*100+x) ns=_;rw[d,show b*100+x-(a*100+x)=(b-a)*100 by omega,cL]
theorem DV{m:Nat}:∀{ns:List Int},V9 m ns=aC->0<=Gf 0 ns/\Gf 0 ns<100^ns.length:=by
 induction m with
 | zero=>
  intro ns h;have:ns=[]:=by unfold V9 at h;simp only[ao,decide_eq_true_eq] at h;exact bj.mp h.1
  subst this;exact⟨by decide,by decide⟩
 | succ m ih=>
  intro ns h
  cases ns with
  | nil=>unfold V9 at h;simp at h
  | cons x ns=>
   obtain⟨f,l,d⟩:=Ua h;obtain⟨i,a⟩:=ih d;obtain⟨p,j,c⟩:=UK ns 0;obtain⟨s1,s2⟩:=c x;have e:Gf 0 (x::ns)=Gf (0*100+x) ns:=rfl;rw[e,show(0:Int)*100+x=x by omega,bM,Int.pow_succ];have b:(x-0)*p=x*p:=by rw[kl]
   rw[b] at s1;rw[<-s2] at a ⊢;have g:0<=x*p:=dj f (by omega);have k:x*p<=99*p:=gO (by omega) (by omega);omega
theorem Qx{m:Nat}{x y:Int}{ns a:List Int}(c:V9 m ns=aC)(b:V9 m a=aC):(x<y->WV (x::ns)<WV (y::a))/\(x=y->WV (x::ns)-WV (y::a)=WV ns-WV a):=by
 obtain⟨p,u,n⟩:=UK ns 0;obtain⟨q,z,g⟩:=UK a 0;have o:ns.length=m:=by unfold V9 at c;simp only[ao,decide_eq_true_eq] at c;exact c.1
 have j:a.length=m:=by unfold V9 at b;simp only[ao,decide_eq_true_eq] at b;exact b.1
 obtain⟨v,f⟩:=DV c;obtain⟨w,b1⟩:=DV b;obtain⟨s1,s2⟩:=n x;obtain⟨i,e⟩:=g y;have d:q=p:=by rw[e,s2,o,j]
 subst d;rw[<-s2] at f;rw[<-e] at b1;have s:WV (x::ns)=Gf x ns:=by show Gf (0*100+x) ns=_;rw[show(0:Int)*100+x=x by omega]
 have t:WV (y::a)=Gf y a:=by show Gf (0*100+y) a=_;rw[show(0:Int)*100+y=y by omega]
 have k:WV ns=Gf 0 ns:=rfl;have l:WV a=Gf 0 a:=rfl;rw[s,t,k,l];rw[kl] at s1 i;refine⟨λh=>?_,λh=>by subst h;omega⟩;have:x*q+q<=y*q:=by have:=gO (show x+1<=y by omega) (show 0<=q by omega);rw[iQ] at this;omega
 omega
theorem MQ:∀{m:Nat}{ns ms:List Int},V9 m ns=aC->V9 m ms=aC->WV ns=WV ms->ns=ms
 | 0,ns,ms,h1,h2,_=>by unfold V9 at h1 h2;simp only[ao,decide_eq_true_eq] at h1 h2;rw[bj.mp h1.1,bj.mp h2.1]
 | m+1,[],_,h1,_,_=>by unfold V9 at h1;simp at h1
 | m+1,_::_,[],_,h2,_=>by unfold V9 at h2;simp at h2
 | m+1,x::ns,y::ms,h1,h2,e=>by
  obtain⟨l,k,c⟩:=Ua h1;obtain⟨j,i,b⟩:=Ua h2;obtain⟨f,g⟩:=Qx (x:=x) (y:=y) c b;obtain⟨d,_⟩:=Qx (x:=y) (y:=x) b c
  have a:x=y:=by
   rcases km x y with h | h | h
   ·have:=f h;omega
   ·exact h
   ·have:=d h;omega
  have:=g a;rw[a,MQ c b (by omega)]
noncomputable def NM(l:List (List Int)):List (List Int):=l.mergeSort λa b=>decide (WV a<=WV b)
theorem PD(l:List (List Int)):(NM l).Perm l:=kE l _
theorem MR(l:List (List Int)):(NM l).Pairwise λa b=>WV a<=WV b:=by have:=iu (le:=λa b:List Int=>decide (WV a<=WV b)) (λa b c e d=>by simp only[decide_eq_true_eq] at *;omega) (λa b=>by simp only[j8,decide_eq_true_eq];omega) l;exact this.imp λh=>of_decide_eq_true h
theorem Kw{n:Nat}{l m:List (List Int)}(ok:∀p∈l,V9 n p=aC)(c:m.Perm l)(e:m.Pairwise λa b=>WV a<=WV b):m=NM l:=
 iX (le:=λa b=>WV a<=WV b) (λa b f d g h=>MQ (ok a (c.mem_iff.mp f)) (ok b ((PD l).mem_iff.mp d)) (by omega)) e (MR l) (c.trans (PD l).symm)
noncomputable def TtAt(h:bW)(b:aL)(ns:List Int):Prop:=∃m6:List aI,gS m6 ns/\l6 h b m6.toArray
theorem TtAt.keep{h h':bW}{b:aL}{p:List Int}(x:TtAt h b p)(k:∀o,h.get? b=ax o->h'.get? b=ax o):TtAt h' b p:=by obtain⟨t,u,o,e,c⟩:=x;exact⟨t,u,o,k o e,c⟩
section
variable {prog:bB} {w:b8} {A:ba} {E:aI->aM->Prop} {s:aM}
theorem Kx{Q:Bool->aM->Prop}:∀{m i:Nat}{vs ws:List aI}{ns ms:List Int},gS vs ns->gS ws ms->V9 m ns=aC->V9 m ms=aC->Q (decide (WV ns<WV ms)) s->KatLex prog w A aC aB Q (vs.zip ws) i s
 | 0,i,vs,ws,ns,ms,hv,hw,h1,h2,h=>by
  have a:ns=[]:=by unfold V9 at h1;simp only[ao,decide_eq_true_eq] at h1;exact bj.mp h1.1
  have e:ms=[]:=by unfold V9 at h2;simp only[ao,decide_eq_true_eq] at h2;exact bj.mp h2.1
  subst a e;cases hv;cases hw;exact kat_nil h
 | m+1,i,_,_,_,_,.nil,_,h1,_,_=>by unfold V9 at h1;simp at h1
 | m+1,i,_,_,_,_,.cons _ _ _,.nil,_,h2,_=>by unfold V9 at h2;simp at h2
 | m+1,i,_,_,_,_,.cons (ns:=ns) x t hv,.cons (ns:=ms) y u hw,h1,h2,h=>by
  obtain⟨n,l,c⟩:=Ua h1;obtain⟨k,j,b⟩:=Ua h2;obtain⟨f,g⟩:=Qx (x:=x) (y:=y) c b;obtain⟨d,_⟩:=Qx (x:=y) (y:=x) b c;rw[cQ];refine kat_cons (wpAny_eqBool_int (kat_go (λa=>kat_yes (Kx hv hw c b ?_)) λa=>kat_no ?_))
  ·have a:x=y:=by simpa using a
   have:=g a;rw[show decide (WV ns<WV ms)=decide (WV (x::ns)<WV (y::ms)) from decide_eq_decide.mpr (by omega)];exact h
  ·have a:x≠y:=by simpa using a
   have:decide (WV (x::ns)<WV (y::ms))=decide (x<y):=decide_eq_decide.mpr ⟨λz=>by
    rcases km x y with q | q | q
    ·exact q
    ·exact absurd q a
    ·have:=d q;omega,f⟩
   rw[this] at h
   cases i with
   | zero=>exact oneLt_int h
   | succ i=>exact kat_one _ _ (lt_int h)
theorem AG{m:Nat}{x y:aL}{p q:List Int}{Q:Bool->aM->Prop}(f:TtAt s.heap x p)(d:TtAt s.heap y q)(op:V9 m p=aC)(b:V9 m q=aC)(h:Q (decide (WV p<WV q)) s) :
  aw (model prog w) A (keyLt' (tuples' aC) (.ref x) (.ref y)) Q E s:=by
 obtain⟨t,c,z,i,v,nx,k⟩:=f;obtain⟨t',a,n,j,C,o,g⟩:=d;have u:=c.length;have l:=a.length;have B:p.length=m:=by unfold V9 at op;simp only[ao,decide_eq_true_eq] at op;exact op.1
 have o2:q.length=m:=by unfold V9 at b;simp only[ao,decide_eq_true_eq] at b;exact b.1
 refine kat_lt i k j g ?_;have e:decide (t.toArray.size<t'.toArray.size)=aB:=decide_eq_false (by rw[aS,aS];omega);rw[e];exact Kx c a op b h
theorem NN{m:Nat}:∀{bs:List aL}{ps:List (List Int)},(∀(i:Nat)(b:aL)(p:List Int),bs[i]?=ax b->ps[i]?=ax p->TtAt s.heap b p)->(∀p∈ps,V9 (m+1) p=aC)->bs.length=ps.length->∃fs:List aI,KatTups s.heap (bs.map b7) fs/\fs.length=bs.length/\∀v∈fs,∃n t,v = .int n t
 | [],[],_,_,_=>⟨[],KatTups.nil,rfl,by simp⟩
 | b::bs,p::ps,h,ho,hl=>by
  obtain⟨fs,g,k,u⟩:=NN (bs:=bs) (ps:=ps) (λi l y j w=>h (i+1) l y (by simpa using j) (by simpa using w)) (λq z=>ho q (by simp[z])) (by simpa using hl);obtain⟨A,f,o,e,c,n,d⟩:=h 0 b p rfl rfl
  cases f with
  | nil=>have:=ho [] (by simp);unfold V9 at this;simp at this
  | cons x t f=>
   refine⟨.int x t::fs,KatTups.cons e c d rfl g,by simp[k],λv a=>?_⟩;rcases aa.mp a with rfl | a
   ·exact⟨_,_,rfl⟩
   ·exact u v a
end
structure RfT(H:Hp)(bs:List aL)(ps:List (List Int)):Prop where
 len:bs.length=ps.length
 at':∀(i:Nat)(b:aL)(p:List Int),bs[i]?=ax b->ps[i]?=ax p->H b=ax (.tup (p.map V.int))
theorem Zgw{P:bB}{w:b8}{H:Hp}{h:bW}{b:aL}{p:List Int}(ok:HOk P w H h)(e:H b=ax (.tup (p.map V.int))):TtAt h b p:=by obtain⟨_,a,r,q⟩:=(show ObjOk P w H h b (.tup (p.map V.int)) from ok b _ e);exact⟨a,QR r,q⟩
noncomputable def J5:List PV->Option (List (List Int))
 | []=>ax []
 | .tup l::r=>(Yn l).bind λns=>(J5 r).map (ns::·)
 | _=>aA
theorem RL:∀{l:List PV}{ps:List (List Int)},J5 l=ax ps->l=ps.map λp=>.tup (iL p)
 | [],ps,h=>by cases h;rfl
 | .tup l::r,ps,h=>by obtain⟨ns,d,a⟩:=Zc (show(Yn l).bind _=_ from h);obtain⟨e,b,c⟩:=map_some a;subst c;rw[af,<-RL b,Z7 d]
theorem DW{K:aF}{H:Hp}:∀{cs:List aL}{qs:List (List Int)},RfT H cs qs->Iss K H (qs.map λp=>.tup (iL p)) (cs.map V.ref) []
 | [],[],_=>by simp[Iss]
 | [],_::_,h=>by have:=h.len;simp at this
 | _::_,[],h=>by have:=h.len;simp at this
 | c::cs,q::qs,h=>by have f:=h.at' 0 c q rfl rfl;have e:RfT H cs qs:=⟨by have:=h.len;simpa using this,λi b p d a=>h.at' (i+1) b p (by simpa using d) (by simpa using a)⟩;rw[af,af];unfold Iss;refine⟨_,_,[],[],rfl,?_,DW e,rfl⟩;unfold Is;exact⟨c,_,rfl,f,Iss.ofInts _⟩
theorem RfT.upd{H:Hp}{c:List aL}{a:List (List Int)}(h:RfT H c a){l:aL}(f:H l=aA)(o:HO):RfT (upd H l o) c a:=
 ⟨h.len,λi b p e d=>by
  have:=h.at' i b p e d;rw[upd_ne (Zm this f)];exact this⟩
end VL
namespace VL
open PySem PySem.Spec PyProof.Rows L2
noncomputable def AH(K:aF):V->List V->Hp->VK->Prop:=λx vs H Q=>∃(p:aL) (ns:List Int) (k:Int),x = .ref p/\vs=[.int k]/\SqL K H p (ns.map V.int)/\Q (.int ((ns.count k:Nat):Int)) H
noncomputable def eqK(k:Int):aI->Bool
 | .int c _=>c==k
 | _=>aB
theorem PF:∀{ns:List Int}{m6:List aI},Vals (ns.map V.int) m6->∀k:Int,m6.countP (eqK k)=ns.count k
 | [],m6,r,k=>by cases r;rfl
 | n::ns,m6,r,k=>by
  rw[af] at r
  cases r with
  | cons r1 r2=>
   obtain⟨t,rfl⟩:=r1;rw[List.countP_cons,PF r2 k,gg];rfl
theorem FF{X:Cx}:MtR X "list.count" (AH X.K):=by
 intro L s N H x vs v O Q I C w h;obtain⟨p,ns,k,rfl,rfl,J,q⟩:=h;cases C;obtain⟨u,rfl,a⟩:=V1 w;obtain⟨t,rfl⟩:=a;obtain⟨g,r,z,S⟩:=I.list J;obtain⟨o,n,f,B,hd,E⟩:=z;obtain⟨G,M,d,l⟩:=o;subst B hd E;refine fF F.slot_list_count ⟨_,f,rfl⟩ F.entry_list_count (F.args_list_count_2 _ _) (SeqAt.list_countAt p g.toArray n aA l (.int k t) (eqK k)) ⟨f,λy D=>?_,?_⟩
 ·have b:y∈g:=by simpa using D
  obtain⟨j,m,e⟩:=dE b;have A:=r.length;rw[aK] at A;obtain⟨P,c,a⟩:=r.get (i:=j) (x:=.int ns[j]) (by simp);obtain⟨R,rfl⟩:=a;rw[aH m,e] at c;cases c;exact kW _ _ _ _
 ·rw[PF r k];exact⟨.int _,H,I.tok _,⟨_,rfl⟩,q⟩
noncomputable def UL:PV->PV->Option PV
 | .lst l,.int k=>(Yn l).map λns=>PV.int ((ns.count k:Nat):Int)
 | _,_=>aA
section
variable {X:Cx} {o e:bH} {fo fe:XE} {apos cpos:dz}
theorem NO(C:VE X o fo)(A:VE X e fe)
  (b:attributeBase o "count" X.env (eval o X.env)=eval o X.env:=by rfl)
  (d:((dX cpos (aR [e] X.env)).all (λx=>!x.1)&&(backToKw cpos (lM [] X.env)).all (λx=>x.1.isSome)
   &&decide (([e]:List bH).length+([]:List l3).length+(if([]:List l3).isEmpty then 0 else 1)<30))=aC:=by rfl)
  (c:(apos.endLine==cpos.line)=aC:=by rfl) (h:aR [e] X.env=(aB,eval e X.env)::aR [] X.env:=by rfl) (a:(dX cpos (aR [] X.env)).any (·.1)=aB:=by rfl) :
  VE X (.Call (.Attribute o "count" apos) [e] [] cpos) (Zl UL fo fe):=
 PE.imp (VJ F.plainAttrs_list F.slot_list_count F.type_list_count FF C (Vo A Mr h) b d c h a) λL H Q ⟨f,s,l,hd,env,e,k⟩=>by
  obtain⟨t,M,j,D,e⟩:=W0 e;refine⟨f,s,t,hd,env,j,λv I P s1 i O=>?_⟩;unfold UL at e;split at e
  ·obtain⟨ns,n,rfl⟩:=map_some e;have y:=Z7 n;subst y;obtain⟨p,xs,B,rfl,g,z,_⟩:=i.lst_inv;obtain⟨rfl,rfl⟩:=z.iL;refine⟨.inl ⟨rfl,_,.inl (.inl g)⟩,f,s,[_],λq G=>Same.mut s1 (hd q G),env.mono s1,by show(fe s).bind _=_;rw[D];rfl,λvs N B s2 E J=>?_⟩;obtain⟨w,rfl,u⟩:=E.one_inv;obtain⟨rfl,_⟩:=u.int_inv;exact⟨p,ns,_,rfl,rfl,.inl (.inl (s2 _ _ g)),k _ _ [] (s1.trans s2) (Is.int _) λr m=>by simp at m⟩
  ·cases e
end
theorem Inv.freezeL{X:Cx}{h:List (aL×dI)}{i:RZ}{H:Hp}{s:aM}{d:aL}{xs:List V}{o:dI}(I:L2.Inv X h i H s)(hd:H d=ax (.lst xs))(l:s.heap.get? d=ax o) :
  L2.Inv X h i (upd H d (.frz o (.lst xs))) s:=by
 have ne:∀b u,H b=ax u->(∀k,u≠.lst k)->b≠d:=λb u q n z=>by rw[z,hd] at q;exact n _ (bJ q).symm
 have j:∀b,H b=aA->b≠d:=λb q z=>by rw[z,hd] at q;cases q
 have un:Un X.fs [] H (upd H d (.frz o (.lst xs))) s.heap s.heap:=
  ⟨λb o q _ _ _=>q,λb o q _ _ _=>⟨o.slots,q⟩,λb o q n _=>by rw[upd_ne (j b n)];exact n,λb o q _=>⟨o,q⟩,
   λb xs q=>by rw[upd_ne (ne b _ q λ_ z=>nomatch z)];exact q,λb o u q=>by rw[upd_ne (ne b _ q λ_ z=>nomatch z)];exact q,λb ps q=>⟨#[],by rw[upd_ne (ne b _ q λ_ z=>nomatch z),q];simp⟩⟩
 have f:HOk X.prog X.w (upd H d (.frz o (.lst xs))) s.heap:=λb u q=>by
  have e:∀c y,H c=ax (.own y)->upd H d (.frz o (.lst xs)) c=ax (.own y):=λc y z=>by rw[upd_ne (ne c _ z λ_ z=>nomatch z)];exact z
  have a:∀c xs',H c=ax (.tup xs')->upd H d (.frz o (.lst xs)) c=ax (.tup xs'):=λc y z=>by rw[upd_ne (ne c _ z λ_ z=>nomatch z)];exact z
  by_cases g:b=d
  ·subst g;rw[Zi] at q;cases q;exact⟨l,(I.hok b _ hd).stay (λ_ _ _ z=>z) (λc z=>e c _ z) a λc u z=>by rw[upd_ne (ne c _ z λ_ z=>nomatch z)];exact z⟩
  ·rw[upd_ne g] at q;exact(I.hok b u q).stay (λ_ _ _ z=>z) (λc z=>e c _ z) a λc u z=>by rw[upd_ne (ne c _ z λ_ z=>nomatch z)];exact z
 have:=I.un (t':=s.toks) un f;exact this
noncomputable def FG(f:XE):XE:=λs=>(f s).bind λl=>match l with
 | .lst m=>(Yn m).map λns=>.cst (iL ns)
 | _=>aA
theorem J6{X:Cx}{e:bH}{f:XE}(h:VM X e f):VE X e (FG f):=by
 intro y s B H Q I ⟨L,st,l,hd,env,G,k⟩;obtain⟨m,t,i⟩:=Zc (G)
 cases m with
 | lst ms=>
  obtain⟨ns,A,D⟩:=map_some (i);subst D;have E:=Z7 A;subst E;refine Yl (h y s B H (λv c=>∃p,v = .ref p/\c p=ax (.lst (ns.map V.int))/\Same H c/\H p=aA) I ⟨st,.lst (iL ns),env.free,t,λv M R d is O j=>?_⟩) λu s1 ⟨v,c,g,J,p,x,a,d,C⟩=>?_
  ·obtain⟨p,xs,P,rfl,a,F,rfl⟩:=is.lst_inv;obtain⟨rfl,rfl⟩:=F.iL;exact⟨p,rfl,a,d,(j p (by simp)).1⟩
  ·subst x;obtain⟨z,S,n,r,N,e⟩:=g.lstM a;refine⟨.ref p,_,Inv.freezeL g a e,J,k _ _ [] (λb o q=>?_) ?_ (by simp)⟩
   ·rw[upd_ne (λw=>by rw[w,C] at q;cases q)];exact d b o q
   ·unfold Is;exact⟨p,_,rfl,.inl ⟨_,Zi⟩,Iss.ofInts _⟩
 | _=>cases i
noncomputable def Zgx(K:aF):R2:=λx y H Q=>∃l b xs zs,x = .ref l/\y = .ref b/\SqL K H l xs/\SqL K H b zs/\xs.length+zs.length<=sizeLine/\∀p,H p=aA->Q (.ref p) (upd H p (.lst (xs++zs)))
theorem AI{X:Cx}:U6 X (dN .Add) (Zgx X.K):=by
 intro O s R H x y v u Q I C p h;obtain⟨l,b,xs,T,rfl,rfl,D,E,U,q⟩:=h;cases C;cases p;obtain⟨i,r,A,z⟩:=I.list D;obtain⟨a,o,d,M⟩:=I.list E;obtain⟨⟨J,P,j,N⟩,n,m,B,hd,F⟩:=A;obtain⟨⟨k,t,data2,L⟩,w,c,e,g,f⟩:=d;have S:=r.length;have G:=o.length;subst B hd F e g f;refine jI ⟨_,m,rfl⟩ ⟨_,c,rfl⟩ noFill_list_add seq_list_add PySem.F.slot_list_add PySem.F.entry_list_add (PySem.F.args_list_add_2 _ _) (list_addW l b i.toArray a.toArray n w _ _ _ _ (by rw[aS,aS];omega)) ⟨m,c,?_⟩;have ea:i.toArray++a.toArray=(i++a).toArray:=by simp
 rw[ea];exact⟨.ref _,_,I.lnew (r.append o) (by rw[aj];omega),rfl,q _ I.fresh⟩
noncomputable def DX:PV->PV->Option PV
 | .cst m,.lst n=>(Yn m).bind λns=>(Yn n).bind λms=>if ns.length+ms.length<=10000 then ax (.lst (iL (ns++ms))) else aA
 | _,_=>aA
theorem AJ{X:Cx}{a b:bH}{g fb:XE}{pos:dz}(D:VE X a g)(w:VM X b fb):VM X (.BinOp a .Add b pos) (Zl DX g fb):=PE.imp (Hi AI D w) λO H Q ⟨s,l,env,e,k⟩=>by
 obtain⟨f,h,t,E,e⟩:=W0 e;refine⟨λ_=>False,s,f,λ_ z=>z.elim,env,t,λx M f1 s1 j _=>⟨s,h,env.mono s1,E,λy R P s2 F L N=>?_⟩⟩
 cases f with
 | cst m=>cases h with
  | lst n=>
   obtain⟨ns,B,e⟩:=Zc (e);obtain⟨S,o,e⟩:=Zc e;split at e
   case isFalse=>cases e
   rename_i A;cases e;have:=Z7 B;subst this;have:=Z7 o;subst this;obtain⟨p,xs,rfl,u,C⟩:=j.cst_inv;obtain⟨I,J,G,rfl,c,d,rfl⟩:=F.lst_inv;obtain⟨rfl,rfl⟩:=C.iL;obtain⟨rfl,rfl⟩:=d.iL;refine⟨p,I,_,_,rfl,rfl,(u.tr (Same.tk2 s2)).sq,.inl (.inl c),by simp only[aK];exact bz (lt_size A),λq i=>?_⟩;refine k _ _ [q] (s1.trans (s2.trans (Same.new i _))) ?_ (by simp) λr v=>?_
   ·rw[<-bP];exact Is.lst Zi (Iss.ofInts _)
   ·rw[aN.mp v];exact⟨Same.off (s1.trans s2) i,by rw[Zi];exact bS⟩
  | _=>cases e
 | _=>cases e
noncomputable def DY(fk fv:XE):XE:=λs=>(fk s).bind λk=>(fv s).bind λv=>(OZ k).bind λkt=>if ZI v=aC then ax (.dK [kt] [v]) else aA
theorem DZ{X:Cx}{e f:bH}{pos:dz}{h fv:XE}(B:VE X e h)(t:VE X f fv):VM X (.Dict [ax e] [f] pos) (DY h fv):=PE.imp (BY (EO B t BX) rfl rfl (λz=>nomatch z) (by simp)) λI H Q ⟨s,l,env,e,k⟩ p c=>by
 obtain⟨n,D,e⟩:=Zc e;obtain⟨v,o,e⟩:=Zc e;obtain⟨i,x,e⟩:=Zc e;split at e
 case isFalse=>cases e
 rename_i A;cases e;have d:Same H (upd H p (.dK [])):=Same.new c _;refine⟨λ_=>False,s,n,λ_ z=>z.elim,env.mono d,D,λz G L s1 F _=>⟨λ_=>False,s,v,λ_ z=>z.elim,env.mono (d.trans s1),o,λy m J s2 g _=>?_⟩⟩;obtain⟨rfl,rfl⟩:=Qr x F;have C:=Is.pure _ _ _ A g;subst C;have b:=s1.trans s2;have j:=b _ _ Zi;refine⟨j,[(i,y)],rfl,by simp,?_⟩;have w:VZ (m p):=by rw[j];exact bS
 have E:Same H (upd m p (.dK [(i,y)])):=λq u a=>by
  have ne:q≠p:=λz=>by rw[z,c] at a;cases a
  rw[upd_ne ne];exact b q u (d q u a)
 refine k (.ref p) _ [p] E (Is.dK Zi rfl ?_) (by simp) λq a=>?_
 ·exact Iss.one (Is.tr (TK.upd' w) _ _ _ (λq a=>by simp at a) g)
 ·rw[aN.mp a];exact⟨c,by rw[Zi];exact bS⟩
end VL
namespace VL
open PySem PySem.W PySem.Spec PyProof.Rows L2
section
variable {prog:bB} {w:b8} {A:ba} {E:aI->aM->Prop} {s:aM}
theorem MS{m:Nat}{d:aL}{o:dI}{G:Array gx}{ep:Nat}{bs:List aL}{ps:List (List Int)}{Q:aI->aM->Prop}(hh:A.handled=aA)(lo:(d==dU)=aB)(ho:s.heap.get? d=ax o)(hx:o.ExactDict)(hd:o.data = .dict G ep)
  (Y:∀i:Nat,(G[i]?).map (·.key)=(bs[i]?).map b7) (M:bs.length=ps.length) (R:ps.length<64) (ht:∀(i:Nat)(b:aL)(p:List Int),bs[i]?=ax b->ps[i]?=ax p->TtAt s.heap b p) (x:∀p∈ps,V9 (m+1) p=aC) (P:ps.Nodup)
  (h:∀(D:aL)(l h':bW)(tk:Nat)(p:Array Nat)(e:Nat),(∀b o,s.heap.get? b=ax o->l.get? b=ax o)->l.objs.size<=D->(∀b o,l.get? b=ax o->h'.get? b=ax o)->h'.get? D=ax (dC "list" (eY (p.toList.map λi=>(bs.map b7).getD i dP)) e)->
   Pm ps.length p->Up (λi=>WV (ps.getD i [])) p ps.length->Q (.ref D) { s with heap:=h',toks:=tk }) :
  aw (model prog w) A (call (.builtin "sorted") [.ref d]) Q E s:=by
 have O:G.size=bs.length:=by
  have L:∀i,i<G.size↔i<bs.length:=λi=>by
   have e:=Y i;by_cases q1:i<G.size<;>by_cases q2:i<bs.length<;>simp[q1,q2] at e ⊢
  have a:=L bs.length;have b:=L G.size;omega
 refine iI kind_sorted plain_sorted entry_sorted (args_sorted1 _) ?_;unfold gn.«sorted»;refine aE (m:=checkCount "sorted" 1 1 _) (aU ?_);refine aE (kdu_collect (A:=A.in1) (AF lo hx hd) hh ho (by rw[O,M,cj];omega) λl tk g W B=>?_)
 have N:g.toList=bs.map b7:=by
  apply gG;intro i;rw[aW,<-Y i];by_cases q:i<g.size
  ·have u:g.toList[i]?=ax g[i]:=by simp[q]
   obtain⟨e,z,e3⟩:=B.2 i g[i] (by simp[q]);rw[u,z,e3];rfl
  ·have u:g.toList[i]?=aA:=by simp;omega
   have z:G[i]?=aA:=by have:=B.1;simp;omega
   rw[u,z];rfl
 rw[N];refine aE (iY ?_ (by rw[aK,M,cj];omega));have J:(l.push (dC "list" (bs.map b7).toArray 0)).get? l.objs.size=ax (dC "list" (bs.map b7).toArray 0):=a9 _ rfl
 have I:∀h':bW,(∀b o,b≠l.objs.size->(l.push (dC "list" (bs.map b7).toArray 0)).get? b=ax o->h'.get? b=ax o)->∀(i:Nat)(b:aL)(p:List Int),bs[i]?=ax b->ps[i]?=ax p->TtAt h' b p:=λh' k i b p u z=>
  (ht i b p u z).keep λo e=>k b o (bG (aV (W b o e))) (aJ _ (W b o e))
 have f:(bs.map b7).length=ps.length:=by rw[aK,M]
 have c:∀i,i<ps.length->ps[i]?=ax (ps.getD i []):=λi y=>by simp[y]
 have F:∀i,i<ps.length->∃b,bs[i]?=ax b/\(bs.map b7).getD i dP = .ref b:=λi y=>⟨bs[i]'(by omega),by simp[show i<bs.length by omega],by simp[show i<bs.length by omega]⟩;show aw _ _ _ _ _ { s with heap:=l.push (dC "list" (bs.map b7).toArray 0),toks:=tk };refine aE (eB (cT slot_list_sort ⟨_,J,rfl⟩ entry_list_sort ?body (args_list_sort _)))
 case body=>
  refine O1 (r:=λi=>WV (ps.getD i [])) (κ:=tuples' aC) J (by rw[f];exact R) (λi j y H e=>?_) (λh2 h' k Q hq=>?_) (λh' k i j y H C hC=>?_) λp X Z=>⟨_,rfl,?_⟩
  ·rw[f] at y H;have u:=c i y;have z:=c j H;have:=MQ (x _ (bK u)) (x _ (bK z)) e;rw[this] at u;obtain⟨h1',S⟩:=aO.mp u;obtain⟨h2',U⟩:=aO.mp z;exact(gK P).mp (S.trans U.symm)
  ·obtain⟨fs,f1,f2,f3⟩:=NN (s:={ s with heap:=h',toks:=tk }) (I h' k) x M;exact kat_kind (T:=.type "int") f1 (by rw[aK] at h2;omega) (λv hv=>by obtain⟨n,t,rfl⟩:=f3 v hv;exact .now) rfl hq
  ·rw[f] at y H;obtain⟨b1,u,g1⟩:=F i y;obtain⟨b2,z,g2⟩:=F j H;unfold kas_ask;rw[g1,g2];exact AG (I h' k i b1 _ u (c i y)) (I h' k j b2 _ z (c j H)) (x _ (bK (c i y))) (x _ (bK (c j H))) hC
  ·rw[f] at X Z;obtain⟨e,he⟩:=sortedHeap_at (out:=eY (p.toList.map λi=>(bs.map b7).getD i dP)) J;refine aU ⟨_,rfl,h l.objs.size l _ tk p e W (aX _) (λb o q=>?_) he X Z⟩;rw[sortedHeap_old (bG (aV q)) (by rw[mF];exact dA (aV q))];exact aJ _ q
end
theorem Gg{H:Hp}:∀{m4:List (List Yp×V)}{xs:List (List Yp×aL×aI)}{ps:List (List Int)},KT H m4 xs->m4.map (·.1)=ps.map (λp=>(p.map gR:List Yp))->
  xs.length=ps.length/\xs.map (·.1)=ps.map (λp=>(p.map gR:List Yp))/\∀(i:Nat)(b:aL)(p:List Int),(xs.map (·.2.1))[i]?=ax b->ps[i]?=ax p->H b=ax (.tup (p.map V.int))
 | [],[],[],_,_=>⟨rfl,rfl,λi b p h=>by simp at h⟩
 | [],_,_::_,_,h=>by simp at h
 | _::_,_,[],_,h=>by simp at h
 | kv::m4,x::xs,p::ps,.cons r t,h=>by
  rw[af,af,j6] at h;obtain⟨f,e,d⟩:=Gg t h.2;refine⟨by simp[f],?_,λi b q c a=>?_⟩
  ·rw[af,af,e,<-r.1,h.1]
  ·match i,c,a with
   | 0,c,a=>
    simp at c a;subst c a;rw[r.2.1,h.1,bh];rfl
   | i+1,c,a=>exact d i b q (by simpa using c) (by simpa using a)
noncomputable def NP(K:aF):List V->Hp->VK->Prop:=λxs H Q=>∃(d:aL) (m4:List (List Yp×V)) (ps:List (List Int)) (m:Nat),xs=[.ref d]/\Rd H d (.dT m4)/\m4.map (·.1)=ps.map (λp=>(p.map gR:List Yp))/\(∀p∈ps,V9 (m+1) p=aC)/\ps.length<64/\
 ∀(l:aL)(bs:List aL),H l=aA->RfT H bs (NM ps)->Q (.ref l) (upd H l (.lst (bs.map V.ref)))
theorem O2{X:Cx}(W:X.calm=aC):Xb X (.builtin "sorted") (NP X.K):=by
 intro O s S H xs us Q I r h;obtain⟨d,m4,ps,m,rfl,hd,hk,v,U,q⟩:=h;obtain⟨u,rfl,rx⟩:=V1 r;cases rx;obtain⟨z,y,xs,P,o,es,ep,L,Y,h3,h4,h5,G⟩:=Nl I.hok hd;obtain⟨B,M,E⟩:=Gg P hk;have Z:ps.Nodup:=by rw[M] at G;exact(List.pairwise_map.mp G).imp λh z=>h (by rw[z])
 refine MS (bs:=xs.map (·.2.1)) (ps:=ps) (I.ok.hd W) y L Y h3 (λi=>?_) (by rw[aK,B]) U (λi b p c g=>Zgw I.hok (E i b p c g)) v Z λD w hp2 tk p e f1 C R f4 t T=>?_
 ·rw[entry_at h4,aW];cases xs[i]?<;>rfl
 ·have J:Inv X O S H { s with heap:=w,toks:=tk }:=I.kept (t':=tk) f1;have lx:(xs.map (·.2.1)).length=ps.length:=by rw[aK,B]
  let a:List aL:=p.toList.map λi=>(xs.map (·.2.1)).getD i 0;let k:List (List Int):=p.toList.map λi=>ps.getD i [];have n:∀j∈p.toList,j<ps.length:=Zbo t
  have A:k=NM ps:=Kw v (J4 t) (by
   rw[iJ];intro i j F f x;simp only[k,aK,cA,t.sz] at F f;have:=T i j x f;simp only[k,lI,jv];rw[YO,YO] at this;simp only[t.sz,F,f,iG,Option.getD_some] at this;exact Int.le_of_lt this)
  have N:RfT H a (NM ps):=by
   rw[<-A];refine⟨by simp[a,k],λi b q c g=>?_⟩;simp only[a,k,aW] at c g
   cases e3:p.toList[i]? with
   | none=>rw[e3] at c;cases c
   | some j=>
    rw[e3] at c g;simp only[cS,Option.some.injEq] at c g;have f:=n j (bK e3);refine E j b q ?_ ?_
    ·rw[<-c];simp[show j<xs.length by omega]
    ·rw[<-g];simp[f]
  have ev:(p.toList.map λi=>((xs.map (·.2.1)).map b7).getD i dP)=a.map b7:=by show _=(p.toList.map λi=>(xs.map (·.2.1)).getD i 0).map b7;rw[bh (l:=p.toList)];refine ar λj f=>?_;have:=n j f;show _=b7 ((xs.map (·.2.1)).getD j 0);rw[DU b7 (xs.map (·.2.1)) 0 (by omega)]
  refine⟨.ref D,upd H D (.lst (a.map V.ref)),J.laid (t':=tk) R C (show ObjOk X.prog X.w _ _ _ (.lst (a.map V.ref)) from⟨?_,a.map b7,e,?_,?_⟩),rfl,q D a (J.hok.fresh C) N⟩
  ·simp only[a,aK,cA,t.sz];rw[cj];omega
  ·exact NL a
  ·rw[<-ev];exact f4
noncomputable def inT(a:List Int):List (List Int)->List (List Int)
 | []=>[a]
 | b::l=>if WV a<=WV b then a::b::l else b::inT a l
noncomputable def isT:List (List Int)->List (List Int)
 | []=>[]
 | a::l=>inT a (isT l)
theorem PH(a:List Int):∀l:List (List Int),(inT a l).Perm (a::l)
 | []=>.refl _
 | b::l=>by
  unfold inT;split
  ·exact .refl _
  ·exact((PH a l).cons b).trans (.swap a b l)
theorem Ky:∀l:List (List Int),(isT l).Perm l
 | []=>.refl _
 | a::l=>(PH a (isT l)).trans ((Ky l).cons a)
theorem D3(a:List Int):∀{l:List (List Int)},(l.Pairwise λa b=>WV a<=WV b)->(inT a l).Pairwise λa b=>WV a<=WV b
 | [],_=>List.pairwise_singleton _ _
 | b::l,h=>by
  have h':=iA.mp h;unfold inT;split
  ·rename_i q
   exact iA.mpr ⟨λc d=>by
    rcases aa.mp d with rfl | d
    ·exact q
    ·exact Int.le_trans q (h'.1 c d),h⟩
  ·refine iA.mpr ⟨λc d=>?_,D3 a h'.2⟩;rcases aa.mp ((PH a l).mem_iff.mp d) with rfl | d
   ·omega
   ·exact h'.1 c d
theorem D4:∀l:List (List Int),(isT l).Pairwise λa b=>WV a<=WV b
 | []=>.nil
 | a::l=>D3 a (D4 l)
noncomputable def Kz:List Yp->Option (List Int)
 | []=>ax []
 | .inl x::r=>(Kz r).map (x::·)
 | _=>aA
theorem PJ:∀{k:List Yp}{p:List Int},Kz k=ax p->k=p.map gR
 | [],p,h=>by cases h;rfl
 | .inl x::r,p,h=>by obtain⟨q,e,rfl⟩:=map_some (show(Kz r).map _=_ from h);rw[af,<-PJ e]
noncomputable def D5:List (List Yp)->Option (List (List Int))
 | []=>ax []
 | k::r=>(Kz k).bind λp=>(D5 r).map (p::·)
theorem PL:∀{ks:List (List Yp)}{ps:List (List Int)},D5 ks=ax ps->ks=ps.map λp=>(p.map gR:List Yp)
 | [],ps,h=>by cases h;rfl
 | k::r,ps,h=>by obtain⟨p,b,h⟩:=Zc (show(Kz k).bind _=_ from h);obtain⟨q,a,rfl⟩:=map_some h;rw[af,<-PL a,PJ b]
noncomputable def MT:List PV->Option PV
 | [.dT ks _]=>(D5 ks).bind λps=>if ps.length<64/\ps.all (V9 ((ps.headD []).length-1+1))=aC then ax (.lst ((isT ps).map λp=>.tup (iL p))) else aA
 | _=>aA
theorem MU{K:aF}:RCM K (NP K) MT:=λH vs ls l w h e Q k=>by
 unfold MT at e;split at e
 ·rename_i o s;obtain⟨ps,f,b⟩:=Zc e;split at b
  ·rename_i a;cases b;obtain⟨v,rfl,i⟩:=h.one_inv;obtain⟨p,n,u,rfl,d,m,t,_⟩:=i.dT_inv;refine⟨p,n,ps,_,rfl,d,by rw[m,<-PL f],au.mp a.2,a.1,λq bs c g=>k _ _ [q] (Same.new c _) (Is.lst Zi (DW (RfT.upd (by rw[Kw (au.mp a.2) (Ky ps) (D4 ps)];exact g) c _))) (by simp) λr j=>?_⟩;rw[aN.mp j];exact⟨c,by rw[Zi];exact bS⟩
  ·cases b
 ·cases e
end VL
namespace L2
open PySem PySem.Spec PyProof.Rows
theorem PM{x y:ay}{a c:aL}(h:([(x,a)]:List (ay×aL)).lookup y=ax c):c=a:=by grind
theorem RM{x y:ay}{a c:aL}(h:([(x,a)]:List (ay×aL)).lookup y=ax c):y=x:=by grind
end L2
namespace VL
open PySem PySem.Spec PyProof.Rows L2
variable {K:aF}
noncomputable def PN(H:Hp)(e:aL):Hp:=λb=>if b=e then aA else H b
theorem MV{H:Hp}{e:aL}:PN H e e=aA:=by unfold PN;rw[m7 rfl]
theorem Xq{H:Hp}{e b:aL}(h:b≠e):PN H e b=H b:=by unfold PN;rw[m9 h]
theorem UM{H:Hp}{e b:aL}(h:H b=aA):PN H e b=aA:=by
 unfold PN;split
 ·rfl
 ·exact h
theorem AK{H:Hp}{e b:aL}{o:HO}(h:PN H e b=ax o):b≠e/\H b=ax o:=by
 unfold PN at h;split at h
 ·cases h
 ·rename_i n;exact⟨n,h⟩
theorem Wg{H:Hp}{e b:aL}{o u:HO}(a:H e=ax o)(c:H b=ax u)(d:u≠o):b≠e:=by grind
section
variable {P:bB} {w:b8} {H H':Hp} {h h':bW} {e:aL} {eo:dI} {fs:List aL}
theorem D6(x:HOk P w H h)(d:H e=ax (.frz eo (.own 1))):HOk P w (PN H e) h:=λa o c=>by
 obtain⟨ne,c⟩:=AK c
 exact(x a o c).stay (λ_ _ _ q=>q) (λb q=>by rw[Xq (Wg d q (by nofun))];exact q) (λb xs q=>by rw[Xq (Wg d q (by nofun))];exact q)
  λb u q=>by rw[Xq (Wg d q (by simp))];exact q
theorem Gh(x:HOk P w H h)(a:H e=aA)(d:h.get? e=ax eo):HOk P w (upd H e (.frz eo (.own 1))) h:=λb u q=>by
 by_cases z:b=e
 ·subst z;rw[Zi] at q;cases q;exact⟨d,_,d⟩
 ·rw[upd_ne z] at q;exact(x b u q).stay (λ_ _ _ r=>r) (λc r=>by rw[upd_ne (Zm r a)];exact r) (λc xs r=>by rw[upd_ne (Zm r a)];exact r) λc v r=>by rw[upd_ne (Zm r a)];exact r
theorem TabsH.rm{mg:ay->Option aI}{a:bW}(t:TabsH K mg a H)(i:H e=ax (.frz eo (.own 1))):TabsH K mg a (PN H e):=λq c d j=>by obtain⟨Pt,ps,tk,h,b,f,g⟩:=t q c d j;exact⟨Pt,ps,tk,h,by rw[Xq (Wg i b (by nofun))];exact b,f,g⟩
theorem TabsH.add{mg:ay->Option aI}{a:bW}(t:TabsH K mg a H)(i:H e=aA):TabsH K mg a (upd H e (.frz eo (.own 1))):=λq c d j=>by obtain⟨Pt,ps,tk,h,b,f,g⟩:=t q c d j;exact⟨Pt,ps,tk,h,by rw[upd_ne (Zm b i)];exact b,f,g⟩
theorem AL(u:Un fs [] (PN H e) H' h h')(a:H e=ax (.frz eo (.own 1)))(c:H' e=aA):Un fs [] H (upd H' e (.frz eo (.own 1))) h h' where
 keep b o q n hf hx:=u.keep b o q (UM n) hf hx
 slot b o q n hf hx:=u.slot b o q (UM n) hf hx
 free b o q n hx:=by rw[upd_ne (λz=>by rw[z,a] at n;cases n)];exact u.free b o q (UM n) hx
 there:=u.there
 tups b xs q:=by have ne:=Wg a q (by nofun);rw[upd_ne ne];exact u.tups b xs (by rw[Xq ne];exact q)
 frzs b o v q:=by
  by_cases z:b=e
  ·subst z;rw[a] at q;cases q;exact Zi
  ·rw[upd_ne z];exact u.frzs b o v (by rw[Xq z];exact q)
 tbls b ps q:=by have ne:=Wg a q (by nofun);obtain⟨more,z⟩:=u.tbls b ps (by rw[Xq ne];exact q);exact⟨more,by rw[upd_ne ne];exact z⟩
theorem Zd6(u:Un fs [] (upd H e (.frz eo (.own 1))) H' h h')(f:H e=aA)(j:h.get? e=ax eo)(g:e∉fs)(d:HOk P w H' h'):Un fs [] H (PN H' e) h h':=by
 have k:=u.frzs e eo _ Zi;have i:=(d e _ k).1;refine⟨λb o q n c a=>?_,λb o q n c a=>?_,λb o q n a=>?_,u.there,λb xs q=>?_,λb o v q=>?_,λb ps q=>?_⟩
 ·by_cases z:b=e
  ·subst z;rw[j] at q;cases q;exact i
  ·exact u.keep b o q (by rw[upd_ne z];exact n) c a
 ·have z:b≠e:=λz=>g (z▸c);exact u.slot b o q (by rw[upd_ne z];exact n) c a
 ·by_cases z:b=e
  ·subst z;exact MV
  ·exact UM (u.free b o q (by rw[upd_ne z];exact n) a)
 ·have z:=Zm q f;rw[Xq z];exact u.tups b xs (by rw[upd_ne z];exact q)
 ·have z:=Zm q f;rw[Xq z];exact u.frzs b o v (by rw[upd_ne z];exact q)
 ·have z:=Zm q f;obtain⟨more,y⟩:=u.tbls b ps (by rw[upd_ne z];exact q);exact⟨more,by rw[Xq z];exact y⟩
end
mutual
def YD:PV->Bool
 | .non=>aC
 | .bl _=>aC
 | .int _=>aC
 | .str _=>aC
 | .ty _=>aC
 | .exc _=>aB
 | .exf _ _=>aB
 | .clo _ _=>aB
 | .tup l=>Xm l
 | .lst l=>Xm l
 | .cst l=>Xm l
 | .dK _ l=>Xm l
 | .dT _ l=>Xm l
def Xm:List PV->Bool
 | []=>aC
 | x::r=>YD x&&Xm r
end
theorem Rd.rm{H:Hp}{e:aL}{b:dI}(a:H e=ax (.frz b (.own 1))){p:aL}{u:HO}(d:u≠.own 1)(c:∀o v,u≠.frz o v)(r:Rd H p u):Rd (PN H e) p u:=by
 rcases r with r | ⟨o,r⟩
 ·exact .inl (by rw[Xq (Wg a r (c _ _))];exact r)
 ·exact .inr ⟨o,by rw[Xq (Wg a r (by intro z;cases z;exact d rfl))];exact r⟩
mutual
theorem Is.rm{H:Hp}{e:aL}{k:dI}(b:H e=ax (.frz k (.own 1))):∀(l:PV)(v:V)(fp:List aL),YD l=aC->Is K H l v fp->Is K (PN H e) l v fp
 | .non,_,_,_,h=>by simpa only[Is] using h
 | .bl _,_,_,_,h=>by simpa only[Is] using h
 | .int _,_,_,_,h=>by simpa only[Is] using h
 | .str _,_,_,_,h=>by simpa only[Is] using h
 | .ty _,_,_,_,h=>by simpa only[Is] using h
 | .exc _,_,_,hp,_=>by simp[YD] at hp
 | .exf _ _,_,_,hp,_=>by simp[YD] at hp
 | .clo _ _,_,_,hp,_=>by simp[YD] at hp
 | .tup l,v,fp,hp,h=>by simp only[Is] at h ⊢;obtain⟨p,xs,c,a,d⟩:=h;exact⟨p,xs,c,by rw[Xq (Wg b a (by nofun))];exact a,Iss.rm b l xs fp (by simpa only[YD] using hp) d⟩
 | .lst l,v,fp,hp,h=>by simp only[Is] at h ⊢;obtain⟨p,xs,f,c,a,d,g⟩:=h;exact⟨p,xs,f,c,by rw[Xq (Wg b a (by nofun))];exact a,Iss.rm b l xs f (by simpa only[YD] using hp) d,g⟩
 | .cst l,v,fp,hp,h=>by
  simp only[Is] at h ⊢;obtain⟨p,xs,c,a,d⟩:=h;refine⟨p,xs,c,?_,Iss.rm b l xs fp (by simpa only[YD] using hp) d⟩;rcases a with⟨o,a⟩ | a
  ·exact .inl ⟨o,by rw[Xq (Wg b a (by intro z;cases z))];exact a⟩
  ·exact .inr a
 | .dK ks l,v,fp,hp,h=>by simp only[Is] at h ⊢;obtain⟨p,j,f,c,a,i,d,g⟩:=h;exact⟨p,j,f,c,Rd.rm b (λz=>HO.noConfusion z) (λ_ _ z=>HO.noConfusion z) a,i,Iss.rm b l _ f (by simpa only[YD] using hp) d,g⟩
 | .dT ks l,v,fp,hp,h=>by simp only[Is] at h ⊢;obtain⟨p,j,f,c,a,i,d,g⟩:=h;exact⟨p,j,f,c,Rd.rm b (λz=>HO.noConfusion z) (λ_ _ z=>HO.noConfusion z) a,i,Iss.rm b l _ f (by simpa only[YD] using hp) d,g⟩
theorem Iss.rm{H:Hp}{e:aL}{b:dI}(a:H e=ax (.frz b (.own 1))):∀(l:List PV)(xs:List V)(fp:List aL),Xm l=aC->Iss K H l xs fp->Iss K (PN H e) l xs fp
 | [],_,_,_,h=>by simpa only[Iss] using h
 | l::ls,xs,fp,hp,h=>by simp only[Xm,ao] at hp;obtain⟨x,r,f1,c,g,d,i,f⟩:=h.inv;subst g f;exact Iss.cons (Is.rm a l x f1 hp.1 d) (Iss.rm a ls r c hp.2 i)
end
structure PQ(N ps:List ay)(L:ON):Prop where
 kind:L.scope.kind = .function
 co:L.scope.isCoroutine=aB
 gen:L.scope.isGenerator=aB
 nocell:∀y∈L.scope.names,y.2≠.cell
 nd:N.Nodup
 eq:N=ps++[L.free]
 par:∀x∈ps,L.scope.names.lookup x=ax .local
 fre:L.scope.names.lookup L.free=ax .free
 one:∀y∈L.scope.names,y.2 = .free->y.1=L.free
 qn:RV L.qual=aB
noncomputable def D7(P:bB)(w:b8)(K:aF)(mg:ay->Option aI)(base:bW)(N:List ay)(L:ON)(f c e:aL)(A:ba)(outer:List kM)(s:aM)(H:Hp):Cx where
 prog:=P
 w:=w
 K:=K
 mg:=mg
 base:=base
 A:=A.deeper (jS L.qual L.scope s.heap.objs.size f (.ref c) [(L.free,e)])
 N:=N
 s₀:=s
 H₀:=H
 env:=jS L.qual L.scope s.heap.objs.size f (.ref c) [(L.free,e)]
 outer:=outer
 stack:=jS L.qual L.scope s.heap.objs.size f (.ref c) [(L.free,e)]::outer
 ex:=[]
 calm:=aC
 fn:=λ_=>aB
 pn:=[]
 xe:=λ_ _=>False
theorem D8:∀{ps:List ay}{a:List aI}{i:Nat}{x:ay}{u:aI},ps.Nodup->ps[i]?=ax x->a[i]?=ax u->(ps.zip a).reverse.lookup x=ax u:=by
 intro ps
 induction ps with
 | nil=>intro a i x u _ h _;simp at h
 | cons p r ih=>
  intro a i x u c d b
  cases a with
  | nil=>simp at b
  | cons v a=>
   rw[cQ,List.reverse_cons,List.lookup_append]
   cases i with
   | zero=>
    have f:p=x:=by simpa using d
    have e:v=u:=by simpa using b
    subst f e
    have g:(r.zip a).reverse.lookup p=aA:=by
     rw[List.lookup_eq_none_iff];intro q j;have:=(fX (List.mem_reverse.mp j)).1
     first
      | (intro z;rw[<-z] at this;exact(av.mp c).1 this)
      | (simp;intro z;rw[<-z] at this;exact(av.mp c).1 this)
    rw[g];simp[bY]
   | succ i=>
    rw[ih (av.mp c).2 (by simpa using d) (by simpa using b)];rfl
end VL
namespace VL
open PySem PySem.Spec PyProof.Rows L2
variable {K:aF}
section
variable {P:bB} {w:b8} {mg:ay->Option aI} {base:bW}
theorem AM{N ps:List ay}{L:ON}{f c e:aL}{A:ba}{d:List kM}{s:aM}{H:Hp}{E:List aI}{vs:List V}{x:V}{u:aI}{h₁:bW}{tk:Nat}
  (S:PQ N ps L) (hd:A.handled=aA) (k:Env0 P w K mg base A d s H) (Q:vs.length=ps.length) (r:Vals vs E) (W:H e=aA) (R:s.heap.IsCell e (ax u)) (T:RelV x u)
  (D:h₁.Ns s.heap.objs.size (λy=>(ps.zip E).reverse.lookup y)) (m:∀b o,s.heap.get? b=ax o->h₁.get? b=ax o) :
  Inv (D7 P w K mg base N L f c e A d s H) [] (vs.map ax++[ax x]) H { s with heap:=h₁,toks:=tk }:=by
 have l:∀b:aL,b∉(D7 P w K mg base N L f c e A d s H).ex:=λb z=>absurd (show b∈([]:List aL) from z) (by simp);have C:ps.Nodup:=by have:=S.nd;rw[S.eq] at this;exact(dB.mp this).1
 have B:=R.keeps m
 refine⟨⟨k.mod,S.kind,rfl,rfl,aX _,λy z a j g=>(RM j).trans (RM g).symm,λy t=>?_,λy a z=>(by cases z),λ_=>hd,jj k.frames,.inr ⟨rfl,rfl⟩,λb z=>absurd z (l b),k.bs,k.bsz,λb _ _=>l b,λb z=>absurd z (l b),k.funs,k.frf,k.tab,λq _ hq F=>?_⟩,
  rfl,k.bare,Un.kept m,⟨_,D,λi y v j g h3=>?_⟩,λy a h=>?_,k.hok.fresh (aX _),λy a h=>?_,λp I=>absurd (show p∈([]:List (aL×dI)) from I) (by simp),k.hok.kept m,?_⟩
 ·have t:=t;rcases t with t | t
  ·exact absurd rfl (S.nocell _ (cU t))
  ·have Z:y=L.free:=S.one _ (cU t) rfl;refine⟨e,?_⟩;show([(L.free,e)]:List (ay×aL)).lookup y=_;rw[Z];simp[bY]
 ·have:=(Hk (hq)).symm;rw[this,S.qn] at F;cases F
 ·have j:N[i]?=ax y:=j;rw[S.eq] at j;by_cases G:i<vs.length
  ·rw[ah (by simpa using G),aW] at g;rw[ah (by omega)] at j
   cases q:vs[i]? with
   | none=>rw[q] at g;cases g
   | some a=>
    rw[q] at g;cases g;obtain⟨z,X,M⟩:=r.get q;exact⟨z,M,.inl ⟨S.par y (bK j),D8 C j X⟩⟩
  ·rw[bA (by simpa using G),aK] at g;rw[bA (by omega)] at j
   have J:i-vs.length=0:=by
    cases q:i-vs.length with
    | zero=>rfl
    | succ n=>rw[q] at g;simp at g
   have Y:i-ps.length=0:=by omega
   rw[J] at g;rw[Y] at j;have O:x=v:=by simpa using g
   have U:L.free=y:=by simpa using j
   subst O U;refine⟨u,T,.inr ⟨.inr S.fre,e,?_,B⟩⟩;show([(L.free,e)]:List (ay×aL)).lookup L.free=_;simp[bY]
 ·have h:=h;rw[PM h];exact⟨_,B⟩
 ·have h:=h;rw[PM h];exact W
 ·show _=N.length;rw[S.eq];simp[Q]
noncomputable def spL(K:aF)(L:ON)(f:aL)(D:PV->List PV->Option PV)(n:Nat):Sp:=λvs H Q _=>vs.length=n/\∃l ls u x fp fps r,CloAt H L (.ref f) u/\RelV x u/\Is K H l x fp/\YD l=aC/\Iss K H ls vs fps/\Xm ls=aC/\D l ls=ax r/\ZI r=aC/\
 ∀v H',Same H H'->Is K H' r v []->Q v H'
noncomputable def Gi(P:bB)(w:b8)(K:aF)(mg:ay->Option aI)(base:bW)(k:Nat)(L:ON)(D:PV->List PV->Option PV)(n:Nat):Prop:=
 ∀(A:ba)(outer:List kM)(s:aM)(H:Hp)(f:aL)(us:List aI)(vs:List V)(Q:VK)(E:XK),Room k A->Env0 P w K mg base A outer s H->Vals vs us->spL K L f D n vs H Q E->
  jG (model P w) A (.call (.ref f) ⟨us,[]⟩) (CR L5 outer P w H s Q E) s
theorem Env0.rm{A:ba}{a:List kM}{s:aM}{H:Hp}{e:aL}{f:dI}(c:Env0 P w K mg base A a s H)(d:H e=ax (.frz f (.own 1))):Env0 P w K mg base A a s (PN H e):=
 ⟨c.frames,c.mod,λb o q=>⟨(c.bs b o q).1,UM (c.bs b o q).2⟩,c.bsz,c.funs,λb g=>UM (c.frf b g),TabsH.rm c.tab d,D6 c.hok d,c.bare⟩
theorem Zd7{N ps:List ay}{L:ON}{k n:Nat}(f:XE)(S:PQ N ps L)
  (T:∀(cl:List (ay×aL))(pm cdv ct:aI)(F:List aI),F.length=ps.length->hU (fH "<lambda>" L.qual L.params L.body L.scope cl pm cdv ct) ⟨F,[]⟩=pure (ps.zip F)) (hn:ps.length=n)
  (t:∀(D c e:aL)(A:ba)(d:List kM)(s:aM)(H:Hp),Room k (A.deeper (jS L.qual L.scope s.heap.objs.size D (.ref c) [(L.free,e)]))->VE (D7 P w K mg base N L D c e A d s H) L.body f) :
  Gi P w K mg base (k+1) L (λl ls=>f (ls.map ax++[ax l])) n:=by
 intro A d s H D F vs Q E hr p rv hsp;obtain⟨hl,l,ls,u,x,fp,fps,r,⟨fa',fo,c,oc,e,eo,pm,ct,hv,hf,Z,hc,hco,h,heo⟩,rx,il,pl,is,Y,hD,pr,q⟩:=hsp;cases hv;have ho:=(p.hok D _ hf).1;have hoc:=(p.hok c _ hc).1;have G:=(p.hok e _ h).1;obtain⟨cvs,ctk,hcd,hcq⟩:=hco;have U:vs.length=ps.length:=by rw[hl,hn]
 have lim:=p.mod.nolimit.keeps λb o e=>(p.bs b o e).1;refine PySem.W.kla_callFunE hr.depth ho Z S.co S.gen rfl ⟨c,oc,cvs,ctk,rfl,hoc,hcd,hcq⟩ ?_;rw[T _ _ _ _ F (by rw[<-rv.length];exact U)];refine aU (jm S.nocell (λy B=>S.par y.1 (fX B).1) (λh₁ hns hsb=>?_) S.kind);have R:=λb o q=>hsb.extBut b o (bG (aV q)) (aJ _ q);refine⟨lim.keeps R,?_⟩;refine PySem.W.kla_codeExpr ?_;have e1:=Env0.rm p h;have I:=AM (f:=D) (c:=c) (tk:=s.toks+(ps.zip F).length) S hr.hd e1 U rv MV ⟨eo,G,heo⟩ rx hns R
 have env:EnvIs K (λ_=>False) (PN H e) (ls.map ax++[ax l]) (vs.map ax++[ax x]):=⟨λi a g=>by
  have hlv:=is.len;by_cases O:i<ls.length
  ·rw[ah (by simpa using O),aW] at g
   cases z:ls[i]? with
   | none=>rw[z] at g;cases g
   | some b=>
    rw[z] at g;cases g;obtain⟨v,f1,h1,h2,_⟩:=is.get z;refine⟨v,f1,?_,Is.rm h _ _ _ ?_ h2,λ_ _ z=>z⟩
    ·rw[ah (by rw[aK];omega),aW,h1];rfl
    ·have all:∀(m:List PV),Xm m=aC->∀y∈m,YD y=aC:=by
      intro m
      induction m with
      | nil=>intro _ y B;simp at B
      | cons a r ih=>
       intro hm y B;simp only[Xm,ao] at hm;rcases aa.mp B with rfl | B
       ·exact hm.1
       ·exact ih hm.2 y B
     exact all ls Y _ (bK z)
  ·rw[bA (by simpa using O),aK] at g
   have z:i-ls.length=0:=by
    cases q:i-ls.length with
    | zero=>rfl
    | succ n=>rw[q] at g;simp at g
   rw[z] at g;have e3:l=a:=by simpa using g
   subst e3;refine⟨x,fp,?_,Is.rm h _ _ _ pl il,λ_ _ z=>z⟩;rw[bA (by rw[aK];omega),aK,show i-vs.length=0 by omega];rfl⟩
 refine cB (t D c e A d s (PN H e) (hr.deeper _) [] _ _ _ (λv C=>Same (PN H e) C/\∃W,Is K C r v W) I ⟨λ_=>False,_,r,λ_ z=>z.elim,env,hD,λv C W sm i _=>⟨sm,W,i⟩⟩) (λy s' hs=>?_) λ_ _ hs=>hs.elim;obtain⟨v,C,J,ry,sm,W,i⟩:=hs;have j:=J.freeC L.free e (by show([(L.free,e)]:List (ay×aL)).lookup L.free=_;simp[bY]);have M:Un (N3 d) [] (PN H e) C s.heap s'.heap:=J.base;have X:e∉N3 d:=λz=>by rw[p.frf e z] at h;cases h
 have he':=M.keep e eo G MV X (by simp);have i2:=Is.pure _ _ _ pr i;subst i2
 have sm2:Same H (upd C e (.frz eo (.own 1))):=λb o T=>by
  by_cases z:b=e
  ·subst z;rw[h] at T;cases T;exact Zi
  ·rw[upd_ne z];exact sm b o (by rw[Xq z];exact T)
 exact⟨v,_,J.os,J.bare,AL M h j,Gh J.hok j he',ry,q v _ sm2 (i.mono (Same.new j _))⟩
end
noncomputable def D9(T:ON->PV->List PV->Option PV)(i:Nat)(fs:List XE):XE:=λs=>match s[i]? with
 | some (ax (.clo L l))=>(Qm fs s).bind λls=>if(YD l&&Xm ls)=aC then(T L l ls).bind (λr=>if ZI r=aC then ax r else aA) else aA
 | _=>aA
section
variable {X:Cx} {x:ay} {k:Nat} {e:bH} {es:List bH} {fs:List XE} {p pos:dz}
theorem Zd8(i:Nat){T:ON->PV->List PV->Option PV}{n:Nat}(hN:X.N[i]?=ax x)(hv:Vis X.env.scope x)(hT:∀L,(∃l ls r,T L l ls=ax r)->Gi X.prog X.w X.K X.mg X.base k L (T L) n)(hr:Room k X.A)(ha:VA X (e::es) fs)(hn:fs.length=n:=by rfl)
  (C:(x==("__debug__" : ay))=aB:=by decide) (S:(x==("__classdict__" : ay))=aB:=by decide) (he:aR (e::es) X.env=(aB,eval e X.env)::aR es X.env:=by rfl) (M:(dX pos (aR es X.env)).any (·.1)=aB:=by rfl) :
  VM X (.Call (.Name x p) (e::es) [] pos) (D9 T i fs):=by
 intro N s O H Q I ⟨st,r,env,o,q⟩;unfold D9 at o;split at o
 ·rename_i L l hs;obtain⟨ls,Z,R⟩:=Zc o;split at R
  ·rename_i m;simp only[ao] at m;obtain⟨r',e3,B⟩:=Zc R;split at B
   ·rename_i A;cases B;obtain⟨v,fp,J,hi,_⟩:=env.is i _ hs;have E:=hi;obtain⟨u,y,b,ry,il⟩:=E;obtain⟨f,Y,c,oc,ce,eo,pm,ct,F,U,D,_⟩:=id b;subst F;have a:∀{s1:aM}{d:Hp},Inv X N O d s1->d f=ax (.frz Y (.own 0))->PySem.W.FnAt f s1.heap:=λ{s1 d} w h1=>by have:=(w.hok f _ h1).1;obtain⟨oc',od',dat,sl'⟩:=Y;cases (D);exact⟨_,_,_,_,this⟩
    refine df (Yl (Ex hN hv C S N s O H (λW d=>W = .ref f/\d=H) I ⟨_,J,rfl,rfl⟩) λuf s1 ⟨W,d,w,r1,ef,eH⟩=>?_);subst ef eH;obtain rfl:=r1;refine PySem.W.callWith_F (a w U) (Yl (ha pos N s1 O d (λvs h=>Same d h/\∃fps,Iss X.K h ls vs fps) w ⟨λ_=>False,st,ls,λ_ z=>z.elim,env,Z,λvs h fps g t _=>⟨g,fps,t⟩⟩) λus s2 ⟨vs,h,G,rv,g,fps,t⟩=>⟨a G (g f _ U),?_⟩) he M;refine lu (gm (hT L ⟨l,ls,r,e3⟩ X.A X.stack s2 h f us vs Q E0 hr G.env0 rv ⟨by rw[t.len,Vn Z,hn],l,ls,u,y,fp,fps,r,b.tr (Same.tk2 g),ry,il.mono g,m.1,t,m.2,e3,A,λv H' P i'=>q v H' [] (g.trans P) i' bu λp m=>by simp at m⟩) λrr s' j=>?_)
    cases rr with
    | error er=>exact(j).elim
    | ok fl=>
     cases fl with
     | ret u'=>exact G.after j
     | next=>exact cg j
     | brk=>exact cg j
     | cont=>exact cg j
   ·cases B
  ·cases R
 ·cases o
end
end VL
namespace VL
open PySem PySem.Spec PyProof.Rows L2
variable {K:aF}
theorem J7{pos pos':dz}{c v:aI}{a b:Int}(l:List aI)(h:TriplesOk l)(d:gv pos (l++[fA a,fA b,c])=ax v):gv pos l=ax v\/v=c:=by
 fun_induction TriplesOk l with
 | case1=>
  simp only[jZ,gv,fA] at d;split at d
  ·exact .inr (bJ d).symm
  ·cases d
 | case2 a' t b' u x Yj ih=>
  simp only[lJ,gv] at d ⊢;split at d
  ·rename_i e;rw[m7 e];exact .inl d
  ·rename_i e;rw[m9 e];exact ih h d
 | case3 l h1 h2=>exact h.elim
noncomputable def Zis(X:Cx)(L:ON):TE:=λ_ H Q=>∀f fo c oc e pm ct H1,Same H H1->H1 f=ax (.frz fo (.own 0))->fo.data = .func (fH "<lambda>" L.qual L.params L.body L.scope [(L.free,e)] pm (.ref c) ct)->
 H1 c=ax (.frz oc (.own 0))->Jq oc L.qual->X.env.cells.lookup L.free=ax e->Q (.ref f) H1
section
variable {X:Cx}
theorem Zd9{q:ay}{L:ON}{f:dz}(hfn:X.env.func≠aA)(hq:X.env.qual=q++".<locals>.")(hlm:RV q=aC)(hL:L.qual=QK q)(hdef:mG L.params X.env=([],[]))
  (y:∃e,X.env.cells.lookup L.free=ax e/\jO L.scope X.env=pure [(L.free,e)]):PE X (.Lambda L.params L.body L.scope f) (Zis X L):=by
 intro m3 s σ H Q I h;obtain⟨e,hce,y⟩:=y;have j:=I.ok.cod q hfn hq hlm
 obtain⟨p,i⟩:∃p,X.env.code = .ref p:=by
  cases z:X.env.code with
  | ref c=>exact⟨c,rfl⟩
  | _=>rw[z] at j;simp[cq] at j
 rw[i] at j;obtain⟨Pt,ps,tk,hC,Y,R,hB⟩:=(TabsH.un I.ok.tab I.base) q p hlm j;obtain⟨q',tk',W,eq,hg,x,N⟩:=(show ObjOk X.prog X.w H s.heap Pt (.tbl ps) from I.hok Pt _ Y);rw[R] at eq;cases eq;have F:s.heap.Ns cE X.mg:=I.mod.glob.keeps I.bk;have hgP:cE≠Pt:=λz=>by obtain⟨o,es,ep,J,hd,_⟩:=F;rw[z,hg] at J;cases J;cases hd
 have U:s.heap.BuiltinsAt X.mg Pt:=by obtain⟨bm,ob,b1,b2,b3,b4,b5,b6⟩:=hB;exact⟨bm,ob,b1,b2,b3,b4,I.bk _ _ b5,b6⟩
 have A:X.env.qual++"<lambda>" = L.qual:=by rw[hq,hL];rfl
 have fresh:∀b,s.heap.objs.size<=b->H b=aA:=λb a=>I.hok.fresh a;refine PySem.W.kla_eval hdef ?_;rw[A]
 cases hf:gv f W.toList with
 | none=>
  refine PySem.W.kla_makeFunction (mg:=X.mg) y I.ok.glob F i (hC.keeps I.bk) hg x hf hgP U λd g h' tk2 hx E T O htb=>?_;obtain⟨c2,w,vs,t,e2,hoc,hd,hv⟩:=O;cases e2;generalize m:PySem.W.kla_obj "<lambda>" L.qual L.params L.body L.scope [(L.free,e)] ((X.mg "__name__").getD .none) d g=fo;have G:fo.data = .func (fH "<lambda>" L.qual L.params L.body L.scope [(L.free,e)] ((X.mg "__name__").getD .none) (.ref d) g):=by rw[<-m]
  have P:h'.objs.size≠d:=fJ T;have k:s.heap.objs.size<=h'.objs.size:=bg E (bz T);have nc:H d=aA:=fresh _ E;have nf:H h'.objs.size=aA:=fresh _ k;have hP1:Pt<s.heap.objs.size:=aV hg;have up:∀b o,H b=ax o->upd (upd H d (.frz w (.own 0))) h'.objs.size (.frz fo (.own 0)) b=ax o:=λb o a=>by rw[upd_ne (Zm a nf),upd_ne (Zm a nc)];exact a
  have C:∀b o,b≠Pt->s.heap.get? b=ax o->(h'.push fo).get? b=ax o:=λb o a D=>aJ _ (hx b o a D);have gP:(h'.push fo).get? Pt=ax (fI (W++#[fA f.line,fA f.col,.ref d])):=aJ _ htb
  have un:Un X.fs [] H (upd (upd H d (.frz w (.own 0))) h'.objs.size (.frz fo (.own 0))) s.heap (h'.push fo):=by
   refine⟨λb o a n _ _=>C b o (λz=>by rw[z,Y] at n;cases n) a,λb o a n _ _=>⟨o.slots,C b o (λz=>by rw[z,Y] at n;cases n) a⟩,λb o a n _=>?_,λb o a _=>?_,λb xs a=>up b _ a,λb o u a=>up b _ a,λb ps a=>⟨#[],by rw[up b _ a];simp⟩⟩
   ·have Z:=aV a;rw[upd_ne (bG (az Z k)),upd_ne (bG (az Z E))];exact n
   ·by_cases z:b=Pt
    ·rw[z];exact⟨_,gP⟩
    ·exact⟨o,C b o z a⟩
  have gc:(h'.push fo).get? d=ax w:=aJ _ hoc;have S:(h'.push fo).get? h'.objs.size=ax fo:=a9 _ (by rw[<-m];rfl);have M:upd (upd H d (.frz w (.own 0))) h'.objs.size (.frz fo (.own 0)) d=ax (.frz w (.own 0)):=by rw[upd_ne (bO P),Zi]
  have B:HOk X.prog X.w (upd (upd H d (.frz w (.own 0))) h'.objs.size (.frz fo (.own 0))) (h'.push fo):=λb u a=>by
   by_cases z1:b=h'.objs.size
   ·subst z1;rw[Zi] at a;cases a;exact⟨S,_,S⟩
   ·rw[upd_ne z1] at a;by_cases z2:b=d
    ·subst z2;rw[Zi] at a;cases a;exact⟨gc,_,gc⟩
    ·rw[upd_ne z2] at a;by_cases z3:b=Pt
     ·subst z3;rw[Y] at a;cases a;refine⟨_,tk,_,R,gP,?_,λpos v l=>?_⟩
      ·rw[fM];exact TriplesOk_snoc _ _ _ _ x
      ·rw[fM] at l;rcases J7 (pos':=pos) _ x l with l | l
       ·obtain⟨c3,o3,J,e2,e3⟩:=N pos v l;exact⟨c3,o3,J,up _ _ e2,e3⟩
       ·exact⟨d,w,l,M,vs,t,hd,by rw[<-hL];exact hv⟩
     ·exact(I.hok b u a).stay (λb' o hb' q=>C b' o (by
       rcases hb' with z | z
       ·rw[z];exact z3
       ·exact λz'=>by rw[z',Y] at z;cases z) q) (λb' q=>up _ _ q) (λb' xs q=>up _ _ q) λb' u' q=>up _ _ q
  have I1:=I.un (t':=tk2) un B;exact⟨.ref h'.objs.size,_,I1,rfl,h _ fo d w e _ g _ up Zi G M ⟨vs,t,hd,hv⟩ hce⟩
 | some cv=>
  obtain⟨d,w,J,hc1,hc2⟩:=N f cv hf;subst J;refine PySem.W.kla_makeFunctionHit (mg:=X.mg) y I.ok.glob F i (hC.keeps I.bk) hg x hf U λg h' tk2 hk k=>?_;generalize m:({ cls:=.type "function",data:=.func (fH "<lambda>" L.qual L.params L.body L.scope [(L.free,e)] ((X.mg "__name__").getD .none) (.ref d) g) }:dI)=fo;have G:fo.data = .func (fH "<lambda>" L.qual L.params L.body L.scope [(L.free,e)] ((X.mg "__name__").getD .none) (.ref d) g):=by rw[<-m]
  have nf:H h'.objs.size=aA:=fresh _ k;have up:∀b o,H b=ax o->upd H h'.objs.size (.frz fo (.own 0)) b=ax o:=λb o a=>by rw[upd_ne (Zm a nf)];exact a
  have C:∀b o,s.heap.get? b=ax o->(h'.push fo).get? b=ax o:=λb o D=>aJ _ (hk b o D);have S:(h'.push fo).get? h'.objs.size=ax fo:=a9 _ (by rw[<-m];rfl);have un:Un X.fs [] H (upd H h'.objs.size (.frz fo (.own 0))) s.heap (h'.push fo):=Un.laid C k nf;have B:HOk X.prog X.w (upd H h'.objs.size (.frz fo (.own 0))) (h'.push fo):=I.hok.laid C k ⟨S,_,S⟩;have I1:=I.un (t':=tk2) un B;exact⟨.ref h'.objs.size,_,I1,rfl,h _ fo d w e _ g _ up Zi G (up _ _ hc1) (by rw[hL];exact hc2) hce⟩
end
section
variable {X:Cx} {x:ay} {ps:List ay} {sp:Sp} {k:Nat} {e:bH} {es:List bH} {t:TA} {p pos:dz}
noncomputable def Zea(X:Cx)(i:Nat)(y:ay)(sp:Sp)(t:TA):TE:=λσ H Q=>t σ H λvs H1=>∀ce eo u v,X.env.cells.lookup y=ax ce->H1 ce=aA->σ[i]?=ax (ax v)->RelV v u->eo.data = .cell (ax u)->
 ∃Q':VK,sp vs (upd H1 ce (.frz eo (.own 1))) Q' E0/\∀z H',H' ce=ax (.frz eo (.own 1))->Q' z H'->Q z (PN H' ce)
theorem Ca(C:Y9 X.prog X.w X.K X.mg X.base x ps sp k)(hr:Room k X.A)(hg:Gl X x)(i:Nat){y:ay}(hN:X.N[i]?=ax y)(hk:X.env.scope.names.lookup y=ax .cell)(T:X.fn y=aC)(W:∀w H Q,t w H Q->∃v,w[i]?=ax (ax v))(ha:PA X (e::es) t)
  (S:(x==("__debug__" : ay))=aB:=by decide) (he:aR (e::es) X.env=(aB,eval e X.env)::aR es X.env:=by rfl) (R:(dX pos (aR es X.env)).any (·.1)=aB:=by rfl) :
  PE X (.Call (.Name x p) (e::es) [] pos) (Zea X i y sp t):=by
 obtain⟨f,fd,hm,N,g,F⟩:=C.ex;intro m3 s w H Q I h;obtain⟨v,Z⟩:=W w H _ h;refine df (N4 I hg hm ?_ S);refine kR I.ok.mod.kin N (Yl (ha pos m3 s w H _ I h) λM s1 ⟨vs,H1,a,r,q⟩=>⟨a.kIn,?_⟩) he R;obtain⟨m,hns,hl⟩:=a.loc;obtain⟨u,ru,lk⟩:=hl i y v hN Z (.inr (.inl hk));rcases lk with⟨z,_⟩ | ⟨_,c,l,U,G,hd⟩
 ·have z:X.env.scope.names.lookup y=ax .local:=z;rw[hk] at z;cases z
 have j:=a.freeC y c l;obtain⟨Q',J,O⟩:=q c U u v l j Z ru hd;have D:=a.ok.cab y c T l
 have A:c∉N3 X.stack:=λz=>by
  rcases aa.mp (a.stkSub c z) with z | z
  ·exact a.cne y c l z
  ·obtain⟨_,o,ho,_⟩:=a.ok.funs.mem z;exact absurd (az (aV ho) D) (cI _)
 have d:=a.env0
 have e1:Env0 X.prog X.w X.K X.mg X.base X.A X.stack s1 (upd H1 c (.frz U (.own 1))):=by
  refine⟨d.frames,d.mod,λb o g=>⟨(d.bs b o g).1,?_⟩,d.bsz,d.funs,λb g=>?_,TabsH.add d.tab j,Gh d.hok j G,d.bare⟩
  ·have:b≠c:=λz=>by have:=aV g;have h2:=a.ok.bsz;rw[z] at this;exact absurd (az this (bg h2 D)) (cI _)
   rw[upd_ne this];exact(d.bs b o g).2
  ·have nb:b≠c:=λz=>by rw[z] at g;exact A g
   rw[upd_ne nb];exact d.frf b g
 have P:M.length=ps.length:=by rw[<-r.length];exact F.len _ _ _ _ J
 have L:=g s1 M a.kIn (by simpa using P);rw[dG] at L;refine lu (gm (F.run X.A X.stack s1 _ ⟨M,[]⟩ M vs Q' E0 hr e1 L r J) λrr s' n=>?_)
 cases rr with
 | error er=>exact(n).elim
 | ok fl=>
  cases fl with
  | ret u'=>
   obtain⟨v',H',os,E,un,B,rv,qq⟩:=(n);have Y:=un.frzs c U _ Zi;exact a.after ⟨v',PN H' c,os,E,Zd6 un j G A B,D6 B Y,rv,O v' H' Y qq⟩
  | next=>exact cg n
  | brk=>exact cg n
  | cont=>exact cg n
end
end VL
namespace VL
open PySem PySem.Spec PyProof.Rows L2
variable {K:aF}
noncomputable def J8(D:List PV->Option PV)(f1 f2:XE)(L:ON)(i:Nat):XE:=λs=>(f1 s).bind λl1=>(f2 s).bind λl2=>match s[i]? with
 | some (ax l)=>(D [l1,l2,.clo L l]).bind λr=>if YD r=aC then ax r else aA
 | _=>aA
section
variable {X:Cx} {x:ay} {ps:List ay} {k:Nat} {a b:bH} {f1 f2:XE} {p pos lpos:dz}
theorem Cb{q:ay}{L:ON}{D:List PV->Option PV}(C:Y9 X.prog X.w X.K X.mg X.base x ps (YX X.K D 3) k)(hr:Room k X.A)(hg:Gl X x)(i:Nat)(hN:X.N[i]?=ax L.free)(hk:X.env.scope.names.lookup L.free=ax .cell)(N:X.fn L.free=aC)
  (h1:VE X a f1) (h2:VE X b f2) (S:X.env.func≠aA) (hq:X.env.qual=q++".<locals>.") (hlm:RV q=aC) (hL:L.qual=QK q) (B:mG L.params X.env=([],[]))
  (hcl:∃e,X.env.cells.lookup L.free=ax e/\jO L.scope X.env=pure [(L.free,e)])
  (m:aR (a::b::[.Lambda L.params L.body L.scope lpos]) X.env=(aB,eval a X.env)::aR (b::[.Lambda L.params L.body L.scope lpos]) X.env) (hs2:aR (b::[.Lambda L.params L.body L.scope lpos]) X.env=(aB,eval b X.env)::aR [.Lambda L.params L.body L.scope lpos] X.env)
  (R:aR [.Lambda L.params L.body L.scope lpos] X.env=(aB,eval (.Lambda L.params L.body L.scope lpos) X.env)::aR [] X.env) (Z:(dX pos (aR (b::[.Lambda L.params L.body L.scope lpos]) X.env)).any (·.1)=aB)
  (M:(x==("__debug__" : ay))=aB:=by decide):VM X (.Call (.Name x p) (a::b::[.Lambda L.params L.body L.scope lpos]) [] pos) (J8 D f1 f2 L i):=by
 have pa:=ZZ h1 (ZZ h2 (ZZ (Zd9 S hq hlm hL B hcl) Y3 R) hs2) m;have J:=PA.imp pa (t':=λG H Q=>(∃v,G[i]?=ax (ax v))/\_) λG H Q z=>z.2;refine PE.imp (Ca C hr hg i hN hk N (λG H Q z=>z.1) J M m Z) λG H Q ⟨s,r,env,e,qq⟩=>?_;obtain⟨l1,e1,e⟩:=Zc e;obtain⟨l2,e2,e⟩:=Zc e;split at e
 ·rename_i lc hs;obtain⟨r',hD,e⟩:=Zc e;split at e
  ·rename_i I;cases e;obtain⟨v,U,hv,ic,_⟩:=env.is i _ hs;refine⟨⟨v,hv⟩,λ_=>False,s,l1,λ_ z=>z.elim,env,e1,λv1 H1 fp1 s1 i1 _=>⟨λ_=>False,s,l2,λ_ z=>z.elim,env.mono s1,e2,λv2 H2 fp2 s2 i2 _=>?_⟩⟩;intro f fo c oc d pm ct E w hf hfd hc P t ce l u v' hce hn A ru hd;have n:=bJ (t.symm.trans hce);subst n;rw[hv] at A;cases A;have j:Same E (upd E d (.frz l (.own 1))):=Same.new hn _;have W:Is X.K (upd E d (.frz l (.own 1))) (.clo L lc) (.ref f) U:=by exact⟨u,v,⟨f,fo,c,oc,d,l,pm,ct,rfl,j _ _ hf,hfd,j _ _ hc,P,Zi,hd⟩,ru,ic.mono (((s1.trans s2).trans w).trans j)⟩
   refine⟨λz h=>∃g,Same (upd E d (.frz l (.own 1))) h/\Is X.K h r z g/\g.Nodup/\∀p∈g,upd E d (.frz l (.own 1)) p=aA/\VZ (h p),?_,λz h hz ⟨g,T,Y,nd,O⟩=>?_⟩
   ·exact⟨rfl,[l1,l2,.clo L lc],_,r,Iss.cons (i1.mono ((s2.trans w).trans j)) (Iss.cons (i2.mono (w.trans j)) (Iss.one W)),hD,λz h g T Y nd O=>⟨g,T,Y,nd,O⟩⟩
   ·have s5:Same H (PN h d):=λy o hy=>by have h3:=((s1.trans s2).trans w) y o hy;rw[Xq (Zm h3 hn)];exact T y o (j y o h3)
    refine qq z _ g s5 (Is.rm hz _ _ _ I Y) nd λy hy=>?_;obtain⟨F,n2⟩:=O y hy;have ne:y≠d:=λz=>by rw[z,Zi] at F;cases F
    rw[upd_ne ne] at F;exact⟨Same.off ((s1.trans s2).trans w) F,by rw[Xq ne];exact n2⟩
  ·cases e
 ·cases e
theorem Cc{q:ay}{L:ON}{c:kA}{f:bH}{d:e7}{i:Nat}{D:List PV->Option PV}(n:L.params=c)(j:L.body=f)(s:L.scope=d)(C:Y9 X.prog X.w X.K X.mg X.base x ps (YX X.K D 3) k)(A:Room k X.A)(H:Gl X x)(B:X.N[i]?=ax L.free)(F:X.env.scope.names.lookup L.free=ax .cell)(u:X.fn L.free=aC)
  (I:VE X a f1) (E:VE X b f2) (l:X.env.func≠aA) (G:X.env.qual=q++".<locals>.") (y:RV q=aC) (z:L.qual=QK q) (g:mG c X.env=([],[]))
  (t:∃e,X.env.cells.lookup L.free=ax e/\jO d X.env=pure [(L.free,e)])
  (w:aR (a::b::[.Lambda c f d lpos]) X.env=(aB,eval a X.env)::aR (b::[.Lambda c f d lpos]) X.env) (v:aR (b::[.Lambda c f d lpos]) X.env=(aB,eval b X.env)::aR [.Lambda c f d lpos] X.env)
  (h:aR [.Lambda c f d lpos] X.env=(aB,eval (.Lambda c f d lpos) X.env)::aR [] X.env) (m:(dX pos (aR (b::[.Lambda c f d lpos]) X.env)).any (·.1)=aB)
  (o:(x==("__debug__" : ay))=aB:=by decide):VM X (.Call (.Name x p) (a::b::[.Lambda c f d lpos]) [] pos) (J8 D f1 f2 L i):=by
 subst n j s;exact Cb C A H i B F u I E l G y z g t w v h m o
end
end VL
namespace VL
open PySem PySem.Spec PyProof.Rows L2
variable {K:aF}
noncomputable def NQ(K:aF):List (ay×aL×aL):=(["tree_of","still_by","made_of"]:List ay).filterMap λx=>(gV K x).map λcp=>(x,cp)
noncomputable def Sf(K:aF)(q:bB):Bool:=
 mH K&&decide ((NQ K).map (·.2.2)).Nodup&&(NQ K).all (λr=>((recsOf q).find? (λe=>e.name==r.1)).isSome)&&
 K.all λp=>match p.2.data with
  | .fields vs=>(match vs.toList with
   | _::.str n _::_=>!(RV n) || (match gV K n with
    | some (c,_)=>c==p.1
    | none=>aB)
   | _=>aC)
  | _=>aC
theorem FH{x:ay}{c Pt:aL}(h:(x,c,Pt)∈NQ K):gV K x=ax (c,Pt)/\RV x=aC:=by
 obtain⟨y,a,e⟩:=fZ.mp h
 cases z:gV K y with
 | none=>rw[z] at e;cases e
 | some cp=>
  rw[z] at e;cases e;refine⟨z,?_⟩;simp only[aa,cC,or_false] at a;rcases a with rfl | rfl | rfl<;>decide
theorem Cd{x:ay}{c Pt:aL}(h:gV K x=ax (c,Pt))(a:RV x=aC):(x,c,Pt)∈NQ K:=by
 refine fZ.mpr ⟨x,?_,by rw[h];rfl⟩;unfold RV at a;simp only[j8,beq_iff_eq] at a;simp only[aa,cC,or_false];rcases a with(h | h) | h
 ·exact .inl h
 ·exact .inr (.inl h)
 ·exact .inr (.inr h)
theorem J9{q:bB}(g:Sf K q=aC){x:ay}{c:aL}(h:RV x=aC)(a:cq K (.ref c) x=aC):∃Pt,(x,c,Pt)∈NQ K:=by
 unfold Sf at g;simp only[ao] at g;have b:=g.2
 have a:(match K.lookup c with
   | some ⟨_,_,.fields vs,_⟩=>(match vs.toList with | _::.str n _::_=>n==x | _=>aB)
   | _=>aB)=aC:=a
 split at a
 ·rename_i l o vs m f;split at a
  ·rename_i y n t r e;have k:=beq_iff_eq.mp a;subst k;have d:=au.mp b (c,_) (jT f);simp only[e,h] at d;split at d
   ·rename_i c2 i j;have:=beq_iff_eq.mp d;subst this;exact⟨i,Cd j h⟩
   ·cases d
  ·cases a
 ·cases a
theorem KA:∀{l:List (ay×aL×aL)}{x:ay}{c Pt:aL},(l.map (·.2.2)).Nodup->(x,c,Pt)∈l->l.find? (λr=>r.2.2==Pt)=ax (x,c,Pt)
 | [],_,_,_,_,h=>by simp at h
 | r::l,x,c,Pt,nd,h=>by
  rw[af] at nd;rw[cf];rcases aa.mp h with e | h
  ·subst e;simp
  ·have:r.2.2≠Pt:=λz=>(av.mp nd).1 (bR.mpr ⟨_,h,z.symm⟩);have a:(r.2.2==Pt)=aB:=by simpa using this
   rw[a];exact KA (av.mp nd).2 h
noncomputable def Ia(l:List (ay×aL×aL))(H:Hp):Hp:=λb=>match l.find? (λr=>r.2.2==b) with
 | some r=>ax (.tbl #[.str (QK r.1) 0])
 | none=>H b
theorem FI{l:List (ay×aL×aL)}{H:Hp}{b:aL}(h:∀r∈l,r.2.2≠b):Ia l H b=H b:=by unfold Ia;rw[eZ.mpr λr a=>by simpa using h r a]
theorem Tn(l:List (ay×aL×aL))(H:Hp)(b:aL):(∃r∈l,r.2.2=b/\Ia l H b=ax (.tbl #[.str (QK r.1) 0]))\/((∀r∈l,r.2.2≠b)/\Ia l H b=H b):=by
 unfold Ia
 cases z:l.find? (λr=>r.2.2==b) with
 | some r=>exact .inl ⟨r,dJ z,by simpa using gh z,rfl⟩
 | none=>exact .inr ⟨λr a=>by simpa using eZ.mp z r a,rfl⟩
theorem FJ{P:bB}{w:b8}{mg mb:ay->Option aI}{k:Nat}{fa a:aL}{fd:eJ}{x:ay}{D:List PV->Option PV}{f:aM}{vs:List aI}{ns:List Int}{l:List (ay×aL×aL)}
  (KX:K.In f.heap) (Q:f.heap.Ns cE mg) (hb:f.heap.Ns jD mb) (hbb:∀x:ay,x≠"__name__"->mb x=c9 x) (hlim:f.heap.NoLimit) (hg:f.gens = #[])
  (hbm:∃bm R,mg "__builtins__" = ax (.ref bm)/\bm≠jD/\f.heap.get? bm=ax R/\R.cls = .type "module"/\R.dict=ax jD/\R.data = .plain)
  (hT:∀r∈l,je f.heap r.2.1 r.2.2/\f.heap.get? r.2.2=ax (fI #[])) (hK:mH K=aC) (hcov:∀(q:ay)(c:aL),RV q=aC->cq K (.ref c) q=aC->∃Pt,(q,c,Pt)∈l) (hnd:(l.map (·.2.2)).Nodup)
  (N:f.heap.get? a=ax { cls:=.type "list",data:=.seq vs.toArray }) (hi:gS vs ns) (hl:ns.length<=sizeLine) (p:Room k kn)
  (F:∀base:bW,K.In base->base.Ns cE mg->RW P w K mg base L5 k fa fd [x] (YX K D 1)) (O:∀(s:aM)(u:aI),k9 s fd ⟨[u],[]⟩ [(x,u)])
  (hD:D [.cst (iL ns)]=ax (.bl aC)) :
  jG (model P w) kn (.call (.ref fa) ⟨[.ref a],[]⟩) (λr t=>r = .ok (.ret (.bool aC))/\OldK f.heap t.heap/\t.os=f.os/\jE t.gens) f:=by
 have rv:=Nm hi;have Y:=hi.length
 have C6:∀j:Hp,CsK K j a (ns.map V.int)->(j a=aA\/(K.lookup a=aA/\∃xs,j a=ax (.frz { cls:=.type "list",data:=.seq vs.toArray } (.lst xs))/\ObjOk P w j f.heap a (.frz { cls:=.type "list",data:=.seq vs.toArray } (.lst xs))))->(∀b,b≠a->j b=aA)->
   jG (model P w) kn (.call (.ref fa) ⟨[.ref a],[]⟩) (λr t=>r = .ok (.ret (.bool aC))/\OldK f.heap t.heap/\t.os=f.os/\jE t.gens) f:=by
  intro j hS hA hO;have na:∀r∈l,r.2.2≠a:=λr p z=>by have e:=(hT r p).2;rw[z,N] at e;cases e
  generalize W:Ia l j=H;have tb:∀r∈l,H r.2.2=ax (.tbl #[.str (QK r.1) 0]):=λr p=>by rw[<-W];unfold Ia;rw[KA hnd p]
  have Ha:H a=j a:=by rw[<-W];exact FI na
  have free:∀{b:aL}{o:dI},f.heap.get? b=ax o->o≠fI #[]->b≠a->H b=aA:=λ{b o} e no nb=>by
   rw[<-W];rcases Tn l j b with⟨r,p,E,_⟩ | ⟨_,E⟩
   ·have B:=(hT r p).2;rw[E,e] at B;exact absurd (bJ B) no
   ·rw[E];exact hO b nb
  have g:∀{b:aL}{o:dI},f.heap.get? b=ax o->H b=aA->(N2 f.heap H).get? b=ax o:=λe n=>Eu e n;have C:∀{b:aL}{m:ay->Option aI},f.heap.Ns b m->(N2 f.heap H).Ns b m:=λ{b m} ⟨o,es,ep,e,d,r⟩=>⟨o,es,ep,g e (free e (λz=>by rw[z] at d;cases d) λz=>by rw[z,N] at e;cases e;cases d),d,r⟩
  have hKb:=λb o e=>g (KX b o e) (by
   by_cases z:b=a
   ·subst z;rw[Ha];rcases hA with h | ⟨h,_⟩
    ·exact h
    ·rw[e] at h;cases h
   ·refine free (KX b o e) (λz2=>?_) z;have G:=au.mp hK (b,o) (jT e);subst z2;exact absurd (G) bN)
  have hM:Mod K mg (N2 f.heap H):=⟨hKb,C Q,⟨mb,C hb,hbb⟩,let⟨mc,T,G⟩:=hlim;⟨mc,C T,G⟩⟩
  have Z:HOk P w H f.heap:=λb u e=>by
   rw[<-W] at e;rcases Tn l j b with⟨r,p,E,B⟩ | ⟨hn,B⟩
   ·rw[B] at e;cases e;refine⟨QK r.1,0,#[],rfl,?_,trivial,λpos v hv=>?_⟩
    ·rw[<-E];exact(hT r p).2
    ·simp[gv] at hv
   ·rw[B] at e;by_cases z:b=a
    ·subst z;rcases hA with h | ⟨_,xs,h,ok⟩
     ·rw[h] at e;cases e
     ·rw[h] at e;cases e;obtain⟨o1,o2⟩:=ok;exact⟨o1,o2⟩
    ·rw[hO b z] at e;cases e
  have tab:TabsH K mg (N2 f.heap H) H:=λq c T G=>by
   obtain⟨Pt,hm⟩:=hcov q c T G;obtain⟨⟨o,us,U,tf,M,tg,inF,text,tt,f1,S,f3,f4,f5,f6,f7,f8,f9,f10⟩,hP⟩:=hT _ hm;obtain⟨bm,R,b1,b2,I,L,b5,b6⟩:=hbm;refine⟨Pt,_,0,⟨o,us,U,tf,M,tg,inF,text,tt,g f1 (free f1 (λz=>by rw[z] at S;cases S) λz=>?_),S,f3,f4,f5,f6,f7,f8,f9,f10⟩,tb _ hm,rfl,bm,R,b1,b2,λz=>?_,λz=>?_,g I (free I (λz=>by rw[z] at L;cases L) λz=>?_),L,b5,b6⟩
   ·rw[z,N] at f1;cases f1;injection S with S;exact absurd S (by decide)
   ·obtain⟨o',es,ep,e',hd',_⟩:=Q;rw[z,e'] at I;cases I;rw[hd'] at b6;cases b6
   ·rw[z,hP] at I;cases I;cases L
   ·rw[z,N] at I;cases I;injection L with L;exact absurd L (by decide)
  have e0:Env0 P w K mg (N2 f.heap H) kn [] f H:=⟨rfl,hM,λb o e=>Bz e,Nat.le_of_eq (GS _ _),trivial,λb hb=>absurd (show b∈([]:List aL) from hb) (by simp),tab,Z,.of_eq hg⟩
  have hS':CsK K H a (ns.map V.int):=by
   rcases hS with⟨o,h⟩ | h
   ·exact .inl ⟨o,by rw[Ha];exact h⟩
   ·exact .inr h
  refine gm ((F _ hKb (C Q)).run kn [] f H ⟨[.ref a],[]⟩ [.ref a] [.ref a] (λv _=>v = .bl aC) E0 p e0 (O f (.ref a)) (.cons rfl .nil)
   ⟨rfl,[.cst (iL ns)],[],.bl aC,Iss.one (Is.cst hS' (Iss.ofInts ns)),hD,λv H' fq _ i _ _=>i.bl_inv.1⟩) λr t h=>?_
  cases r with
  | error e=>exact(h).elim
  | ok fl=>
   cases fl with
   | next=>exact cg h
   | brk=>exact cg h
   | cont=>exact cg h
   | ret u=>
    obtain⟨v,H',os,X,un,J,r',q⟩:=h;have q':=q;subst q';obtain rfl:=r'
    have key:∀b o,f.heap.get? b=ax o->t.heap.get? b=ax o\/(isCodeTable f.heap b/\o=fI #[]/\∃ps,t.heap.get? b=ax (fI ps)):=λb o e=>by
     cases z:H b with
     | none=>exact .inl (un.keep b o e z (by intro z;exact absurd (show b∈([]:List aL) from z) (by simp)) (by simp))
     | some u=>
      have A:=z;rw[<-W] at A;rcases Tn l j b with⟨r,p,E,B⟩ | ⟨hn,B⟩
      ·rw[B] at A;cases A;obtain⟨more,z4⟩:=un.tbls b _ z;obtain⟨_,_,ps',_,e4,_⟩:=(J b _ z4);have h5:=(hT r p);rw[E] at h5;refine .inr ⟨(h5.1.tab h5.2).isCodeTable,?_,ps',e4⟩;rw[e] at h5;exact bJ h5.2
      ·rw[B] at A;by_cases y:b=a
       ·subst y;rcases hA with h | ⟨_,xs,h,_⟩
        ·rw[h] at A;cases A
        ·rw[h] at A;cases A;have z2:=un.frzs b _ _ z;have e1:=(Z b _ z).1;have E:=(J b _ z2).1;rw[e] at e1;cases e1;exact .inl E
       ·rw[hO b y] at A;cases A
    refine⟨rfl,⟨λb o e=>?_,λb o e=>?_⟩,os,X⟩
    ·rcases key b o e with h | ⟨T,G,ps,h3⟩
     ·exact .inl h
     ·subst G;exact .inr (.inl ⟨T,rfl,#[],ps,rfl,by rw[Array.empty_append];exact h3⟩)
    ·rcases key b o e with h | ⟨T,G,ps,h3⟩
     ·exact⟨_,h⟩
     ·exact⟨_,h3⟩
 cases hk:K.lookup a with
 | some o=>
  have e:=KX a o hk;rw[N] at e;cases e;exact C6 (λ_=>aA) (.inr ⟨_,vs.toArray,_,hk,rfl,rfl,rfl,by rw[aS,Y];exact hl,by simpa using rv⟩) (.inl rfl) λ_ _=>rfl
 | none=>
  refine C6 (λb=>if b=a then ax (.frz { cls:=.type "list",data:=.seq vs.toArray } (.lst (ns.map V.int))) else aA) (.inl ⟨{ cls:=.type "list",data:=.seq vs.toArray },m7 rfl⟩) (.inr ⟨hk,_,m7 rfl,N,?_⟩) λb hb=>m9 hb;exact⟨by rw[aK];exact hl,vs,_,rv,N⟩
open PySem.W PySem.Calls in
theorem law_walkT{l:PySem.W.OpenLaw}{q:bB}{j:List ay}{XP:(ay->Option aI)->bW->Prop}{U:b8->bW->Prop}{d:DefRec}{KK:Params->aF}{x:ay}{D:List PV->Option PV}(k:Nat)(hn:l.most=ax 63)(N:d.params.defaults=[])
  (hr:Room k kn) (B:∀w:b8,Sf (KK w.params) q=aC) (hD:∀ns:List Int,ns.length<=63->(∀n∈ns,n.natAbs.log2<=1048576)->D [.cst (iL ns)]=ax (.bl aC))
  (hY:∀(w:b8)(h:bW),U w h->(KK w.params).In h)
  (F:∀(w:b8)(mg:ay->Option aI)(C:aL)(h:bW),(KK w.params).In h->h.Ns cE mg->mg d.name=ax (.ref C)->
   ∃Q:eJ,(∀(s:aM)(u:aI),k9 s Q ⟨[u],[]⟩ [(x,u)])/\∀base:bW,(KK w.params).In base->base.Ns cE mg->RW l.prog w (KK w.params) mg base L5 k C Q [x] (YX (KK w.params) D 1)) :
  PySem.W.WalkO q j XP U l.row.toRowW d [] (λf vs=>PySem.call f vs):=by
 intro w S e mg mb i yy C o pm cd doc dv kv ho hd hcd t P z T R as v A hrd O hlo;obtain rfl:dv = .none:=Dflts.none t N;obtain rfl:kv = .none:=Dflts.noKw t;obtain⟨a,vs,ns,rfl,rfl,y,m,b⟩:=Att.script_of hn v O
 have hw:∀n∈ns,n.natAbs.log2<=1048576:=λn h=>by
  have E:(WData.list (ns.map lE)).layable=aC:=au.mp A _ (aN.mpr rfl);unfold WData.layable at E;have p:=of_decide_eq_true (cF.mp E).2;have M:WData.weightAll (ns.map lE)<=1048576:=by simpa [WData.weight] using p
  exact bg (Pw h) M
 have I:=hY w _ yy;obtain⟨Q,hb,Y⟩:=F w mg C _ I i.T.g P;have g:=B w;have H:=g;unfold Sf at H;simp only[ao] at H;obtain⟨⟨⟨W,g2⟩,g3⟩,_⟩:=H;have hT:∀r∈NQ (KK w.params),je e.heap r.2.1 r.2.2/\e.heap.get? r.2.2=ax (fI #[]):=λr G=>by obtain⟨d',L⟩:=cK.mp (au.mp g3 r G);exact PySem.W.tab_of i.T I L (FH (x:=r.1) (c:=r.2.1) (Pt:=r.2.2) G).1
 have J:=i.T.bmain;refine enter_call (gm (FJ I i.T.g i.T.b i.T.builtins i.T.nolimit z (let⟨bm,ob,b1,b2,b3,X,b5,b6⟩:=J;⟨bm,ob,b1,b2,b3,X,b5,b6⟩) hT W (λq c E p=>J9 g E p) (of_decide_eq_true g2) y m (bg b (by decide)) hr Y hb (hD ns b hw)) λr s' hq=>?_);obtain⟨rfl,p,M,Z⟩:=hq;exact⟨.inl ⟨.bool aC,.bool aC,[],rfl,λ_=>rfl,.bool aC,Att.post_true l _,λ_=>⟨List.Pairwise.nil,λ_ G=>(nomatch G)⟩⟩,p,M,Z⟩
end VL
namespace VL
open PySem L2
noncomputable def Zgz:bp->Option (kA×bH×e7)
 | .Return (ax (.Call _ [_,_,.Lambda a b sc _] _ _)) _=>ax (a,b,sc)
 | .Assign _ (.Call _ [_,_,.Lambda a b sc _] _ _) _=>ax (a,b,sc)
 | _=>aA
noncomputable def Zg0(st:bp)(i:Nat)(q free:ay):ON:=match (Yd st)[i]? with
 | some s=>(match Zgz s with
  | some (a,b,sc)=>⟨QK q,a,b,sc,free⟩
  | none=>⟨QK q,Y1 st,.Name free ⟨0,0,0,0⟩,Zf st,free⟩)
 | none=>⟨QK q,Y1 st,.Name free ⟨0,0,0,0⟩,Zf st,free⟩
end VL
namespace PW
open PySem L2 VL VX
noncomputable def X8(i:Nat):bp:=gi.main.body.getD i (.Pass ⟨0,0,0,0⟩)
noncomputable def YQ:ON:=Zg0 (X8 45) 2 "made_of" "heads"
noncomputable def UN:XE:=(Zl (WU aB) (Zl ZW (Za 3) (Za 0)) (Za 1))
open Classical in
noncomputable def R9(L:ON)(l:PV)(ls:List PV):Option PV:=if L=YQ then UN (ls.map ax++[ax l]) else aA
noncomputable def NR:XS:=(Zn (Zs 2 (Ff J1 (Ze ZQ [Za 0])))
  (Zn (YF [] (YY (Za 1)) (.many [3,4]) (Zn (Qq (xB (Zl (WU aB) (Zl ZW (Za 2) (Za 3)) (Zl ZW (Za 2) (Za 4)))) (ZL (eP (eC (.bl aB)))) YH)
  (Zn (Zs 5 (eP (Zl ZW (Za 2) (Za 3))))
  (Zs 2 (Zu 1 [5,2,4] (YY (Za 2)) (.one 0) ZF (eP (LJ (xB (Zl (WU aB) (Za 0) (Za 1))) (Zl ZW (Za 2) (Za 3)) (Za 0))))))))
  (ZL (eP (Zl (WU aB) (Ze ZQ [Za 1]) (Zl W3 (Ze ZQ [Za 0]) (eC (.int 1))))))))
noncomputable def SY:List PV->Option PV:=YG 6 NR
noncomputable def Gj:XS:=(Zn (Zs 1 (Ze PB [Za 0]))
  (Zn (Zs 2 (eC (.dT [] [])))
  (Zn (YF [2,7] (Z1 [Zl Zdg (eC (.int 1)) (Ze ZQ [Za 1])]) (.one 3) (Zn (Zs 4 (Zu 1 [1,3] (Z1 [Ze ZQ [Za 1]]) (.one 0) (xB (Zl (WU aB) (Zl Ac (Zl Aa (Za 2) (Za 0)) (eC (.int 1))) (eC (.int 1)))) (eP (Zl ZW (Za 1) (Za 0)))))
  (Zn (Zs 5 (Zu 1 [1,3] (Z1 [Ze ZQ [Za 1]]) (.one 0) (xB (Zl (WU aB) (Zl Ac (Zl Aa (Za 2) (Za 0)) (eC (.int 1))) (eC (.int 0)))) (eP (Zl ZW (Za 1) (Za 0)))))
  (Qq (R1 (xB (Zl (WU aB) (Ze ZQ [Za 4]) (Zl W3 (Ze ZQ [Za 0]) (eC (.int 1))))) (xB (Ze SY [Za 0,Za 4]))) (YF [2,7] (Z1 [Zl Zdg (eC (.int 1)) (Ze ZQ [Za 5])]) (.one 6) (Zn (Zs 7 (Zl Fq (WK [eC (.int 0)]) (Ze ZQ [Za 0])))
  (Zn (YF [2,7] (Z1 [Ze ZQ [Za 5]]) (.one 8) (Zn (Zs 9 (eP (Zl ZW (Zl ZW (Za 5) (Za 8)) (Zl Ac (Zl Aa (Za 6) (Za 8)) (eC (.int 1))))))
  (SQ 7 (Za 9) (Zl Yt (Zl ZW (Za 7) (Za 9)) (eC (.int 1))))))
  (sDPut 2 (Ze ZX [Za 7]) (eC (.bl aC)))))) YH))))
  (ZL (Ze MT [Za 2])))))
noncomputable def Sg:List PV->Option PV:=YG 10 Gj
noncomputable def Tc:XS:=(ZL (eP (Zl ZW (Ze V7 [Za 0]) (eC (.int 0)))))
noncomputable def WN:List PV->Option PV:=YG 1 Tc
noncomputable def RN:XS:=(ZL (Ze Yo [Za 0,eC (.int 0)]))
noncomputable def Ub:List PV->Option PV:=YG 1 RN
noncomputable def Sh:XS:=(ZL (Ze WN [Ze Ub [Za 0]]))
noncomputable def Xn:List PV->Option PV:=YG 1 Sh
noncomputable def PR:XS:=(Qq (xB (Zl (WU aC) (Ze Qu [Za 1]) (Ze T9 [Za 0]))) DI YH)
noncomputable def Wh:List PV->Option PV:=YG 2 PR
noncomputable def Qa:XS:=(Zn (Zs 2 (WK [eP (Wd [Wd [],Ff Kc (eC (.int 1))])]))
  (Zn (YF [] (YV aB [Za 1]) (.many [3,4]) (Zs 2 (Zl HK (Za 2) (Zu 2 [3,0,4] (YY (Za 2)) (.many [0,1]) ZF (Wd [Zl NG (Za 0) (Wd [Za 2]),Zl W3 (Zl Yt (Zl Yt (Za 1) (Za 4)) (eC (.int 1))) (Ze Xw [Za 3,Za 2,Za 0])])))))
  (Zn (Zs 5 (Zu 2 [] (YY (OO TV (Za 2) (R4 (eC (.int 1))) OY)) (.many [0,1]) (xB (Zl Hx (Za 1) (eC (.int 0)))) (eP (Za 0))))
  (ZL (eP (LJ (xB (Zl Hy (Ze ZQ [Za 5]) (eC (.int 0)))) (Zl ZW (Za 5) (eC (.int 0))) (eC .non)))))))
noncomputable def Yy:List PV->Option PV:=YG 6 Qa
noncomputable def Ib:XS:=(Zn (YF [] (YV aB [Za 1]) (.many [2,3]) (Qq (xB (Zl Hy (Zl UL (Za 0) (Za 2)) (Za 3))) (ZL (eP (Za 2))) YH))
  (ZL (eP (eC .non))))
noncomputable def Wi:List PV->Option PV:=YG 4 Ib
noncomputable def KC:XS:=(ZL (eP (LJ (xB (Zl (WU aB) (Za 1) (Zl ZW (Za 0) (eC (.int 0))))) (Zl ZW (Za 0) (eC (.int 1))) (Zl ZW (Za 0) (eC (.int 0))))))
noncomputable def WD:List PV->Option PV:=YG 2 KC
noncomputable def NS:XS:=(Zn (Zs 4 (DY (Za 3) (FG (WK []))))
  (Zn (Zs 5 (WK [eP (Za 3)]))
  (Zn (Zs 6 (eP (eC (.int 0))))
  (Zn (Xh (xB (Zl oGe (Zl UL (Za 1) (Zl ZW (Za 5) (Za 6))) (Zl ZW (Za 2) (Zl ZW (Za 5) (Za 6))))) (Zn (Zs 7 (eP (Zl ZW (Za 5) (Za 6))))
  (Zn (YF [4,5] (YV aC [Za 1]) (.many [8,9]) (Zn (Zs 10 (Ze WD [Zl ZW (Za 0) (Za 8),Za 9]))
  (Qq (R1 (xB (Zl (WU aB) (Za 9) (Za 7))) (xB (JV aC (Za 10) (Za 4)))) (Zn (sDPut 4 (Za 10) (FG (Zl DX (Zl V5 (Za 4) (Za 7)) (WK [eP (Za 8)]))))
  (YE 5 (eP (Za 10)))) YH)))
  (Zdt 6 Yt (eC (.int 1))))))
  (ZL (eP (Zl V5 (Za 4) (Zl ZW (Za 5) (Za 6)))))))))
noncomputable def S1:List PV->Option PV:=YG 11 NS
noncomputable def RO:XS:=(Zn (Zs 2 (Ze Va [Za 0]))
  (Zn (Zs 3 (Zu 1 [] (YY (Za 2)) (.one 0) ZF (eP (Zl ZW (Za 0) (eC (.int 0))))))
  (Zn (Zs 4 (Ze Wi [Za 3,Za 1]))
  (Zn (Xh (xB (OU aC (Za 4))) (Zn (Zs 5 (Ze S1 [Za 2,Za 3,Za 1,Za 4]))
  (Zn (YF [3] (YY (Za 5)) (.one 6) (SQ 3 (Za 6) (Ze WD [Zl ZW (Za 2) (Za 6),Zl ZW (Za 3) (Za 6)])))
  (Zs 4 (Ze Wi [Za 3,Za 1])))))
  (ZL (Za 3))))))
noncomputable def Uc:List PV->Option PV:=YG 7 RO
noncomputable def S2:XS:=(Zn (YF [] (YV aC [Za 0]) (.many [3,4]) (Qq (R1 (xB (Zl (Qp aC) (Za 3) (Za 1))) (xB (Zl (WU aC) (Zl (Qp aB) (Zl ZW (Za 4) (eC (.int 0))) (Za 2)) (Zl (Qp aB) (Zl ZW (Za 4) (eC (.int 1))) (Za 2))))) (ZL (eP (Za 3))) YH))
  (ZL (eP (eC .non))))
noncomputable def YR:List PV->Option PV:=YG 5 S2
noncomputable def Ce:XS:=(Zn (Zs 3 (Ze Va [Za 0]))
  (Zn (Zs 4 (WK [eP (Za 1)]))
  (Zn (Zs 5 (WK []))
  (Zn (Zs 6 (WK []))
  (Zn (Zs 7 (Ze YR [Za 3,Za 5,Za 4]))
  (Zn (Xh (xB (OU aC (Za 7))) (Zn (YE 5 (eP (Za 7)))
  (Zn (Zs 8 (eP (LJ (xB (Zl (Qp aB) (Zl ZW (Zl ZW (Za 3) (Za 7)) (eC (.int 0))) (Za 4))) (Zl ZW (Zl ZW (Za 3) (Za 7)) (eC (.int 1))) (Zl ZW (Zl ZW (Za 3) (Za 7)) (eC (.int 0))))))
  (Zn (Zs 9 (eP (Ze ZQ [Zu 1 [8,3] (YY (Za 5)) (.one 0) (xB (Zl (Qp aB) (Za 1) (OO R5 (Zl ZW (Za 2) (Za 0)) OY (R4 (eC (.int 2)))))) (Za 0)])))
  (Zn (Qq (xV (D9 R9 2 [Za 7,Za 8,Za 9])) (Zn (YE 4 (eP (Za 8)))
  (YE 6 (eP (Wd [Za 7,Za 8,Za 9])))) YH)
  (Zs 7 (Ze YR [Za 3,Za 5,Za 4])))))))
  (ZL (Za 6))))))))
noncomputable def Si:List PV->Option PV:=YG 10 Ce
noncomputable def FK:XS:=(ZL (eP (Ze ZX [Ze Qv [Zu 1 [] (YY (Ze Si [Za 0,Za 1,Za 2])) (.one 0) ZF (Zl ZW (Za 0) (eC (.int 0)))]])))
noncomputable def UO:List PV->Option PV:=YG 3 FK
noncomputable def FL:XS:=(Zn (Zs 2 (Ze Sa [Ze WM [Za 1,Zl DD (Wd [eC (.int 1)]) (Ze ZQ [Za 0])],Ze Pz [Za 0,eC (.int 0)]]))
  (Zn (Zs 3 (eP (FG (Ze Uc [Za 0,Za 2]))))
  (Zn (Zs 4 (J8 UO (Za 0) (eC (.int 0)) YQ 3))
  (ZL (eP (Wd [Za 4,Ze ZX [Zu 2 [4] (YV aC [Za 3]) (.many [0,1]) (xB (Zl (Qp aC) (Za 0) (Za 2))) (Za 1)]]))))))
noncomputable def S3:List PV->Option PV:=YG 5 FL
noncomputable def Cf:XS:=(ZL (eP (Ze ZX [Zu 1 [0] (Z1 [Ze ZQ [Za 0]]) (.one 0) ZF (Zl W3 (Zl R0 (Ze X6 [Za 1,Za 0]) (eC (.int 2))) (eC (.int 1)))])))
noncomputable def PU:List PV->Option PV:=YG 1 Cf
noncomputable def KD:XS:=(Zn (sEx (Ze Wh [Za 0,Za 1]))
  (Zn (Zs 2 (Ze Xx [Za 0,Ze Sa [Za 1,Ze PU [Za 0]],eC (.int 0)]))
  (Zn (Zs 3 (Ze Vb [Za 0,Za 1,Za 2]))
  (Zn (Zs 4 (Ze Yy [Za 0,Za 3]))
  (Zn (Xh (xB (OU aC (Za 4))) (Zn (Zs 5 (Ze Yi [Za 0,Za 4]))
  (Zn (Zs 2 (Ze WM [Za 2,Za 5]))
  (Zn (Zs 3 (Ze Vb [Za 0,Za 3,Za 5]))
  (Zs 4 (Ze Yy [Za 0,Za 3]))))))
  (Zn (Zs 6 (Ze S3 [Za 0,Za 3]))
  (ZL (eP (Wd [Ze UJ [Za 2],Za 3,Zl ZW (Za 6) (eC (.int 0)),Zl ZW (Za 6) (eC (.int 1))])))))))))
noncomputable def Ud:List PV->Option PV:=YG 7 KD
noncomputable def Zbp:XS:=(Zn (Zs 1 (Ze MN [Za 0,WK [eC (.int 1),eC (.int 2),eC (.int 3),eC (.int 3),eC (.int 4)],eC (.int 5)]))
  (Zn (Zs 2 (Ze Xl [Ze V8 [Za 0,eC (.int 13)],eC (.int 157),Ze ZQ [Za 1]]))
  (Zn (Zs 3 (Ze Sg [Za 1]))
  (Zn (Qq (xB (Zl (WU aC) (Ze Xn [Za 1]) (Ze ZQ [Za 3]))) (ZL (eP (eC (.bl aB)))) YH)
  (Zn (Zs 4 (eC (.dT [] [])))
  (Zn (YF [4] (YY (Za 3)) (.one 5) (Zn (Zs 6 (Ze Se [Za 1,Za 5,Za 2]))
  (Zn (Qq (E5 (Ka (xB (Ze VP [Za 6,eC (.ty "tuple")]))) (E5 (xB (Zl (WU aC) (Ze ZQ [Za 6]) (eC (.int 3)))) (Ka (xB (Ze Tj [Zl ZW (Za 6) (eC (.int 1)),Ze ZQ [Za 1]]))))) (ZL (eP (eC (.bl aB)))) YH)
  (Zn (Qq (E5 (xB (JV aB (Zl ZW (Za 6) (eC (.int 1))) (Za 4))) (xB (Zl (WU aC) (Zl ZW (Ze Ud [Za 1,Zl ZW (Za 6) (eC (.int 1))]) (eC (.int 1))) (Za 5)))) (ZL (eP (eC (.bl aB)))) YH)
  (sDPut 4 (Zl ZW (Za 6) (eC (.int 1))) (eC (.bl aC)))))))
  (ZL (eP (eC (.bl aC))))))))))
noncomputable def D_law:List PV->Option PV:=YG 7 Zbp
end PW
namespace VL
open PySem PySem.Spec PyProof.Rows L2
theorem Wj{N P:List ay}{h:e7}(a:h.kind = .function:=by rfl)(b:h.isCoroutine=aB:=by rfl)(c:h.isGenerator=aB:=by rfl)(d:N.Nodup:=by decide +kernel)(e:N.take P.length=P:=by rfl)
  (f:∀x∈P,h.names.lookup x=ax .local\/h.names.lookup x=ax .cell:=by decide +kernel) (g:∀y∈h.names,y.2≠.free:=by decide +kernel):Zp N P h:=⟨a,b,c,d,e,f,g⟩
section
variable {X:Cx} {e e1 e2 e3 e4 e5:bH} {f f1 f2 f3 f4 f5:XE} {es:List bH} {fs:List XE} {x:ay} {p pos pos':dz} {k k' n:Nat} {O W:List Nat}
theorem vo(i:Nat)(b:X.N[i]?=ax x:=by rfl)(c:Vis X.env.scope x:=by first | exact iT rfl | exact kU (iT rfl) | exact kU (kU rfl))(hd:(x==("__debug__" : ay))=aB:=by decide)
  (a:(x==("__classdict__" : ay))=aB:=by decide):VE X (.Name x pos) (Za i):=Hu (pv i b c hd a)
theorem Y2(a:VE X e1 f1)(b:aR [e1] X.env=(aB,eval e1 X.env)::aR [] X.env:=by rfl):VA X [e1] [f1]:=Vo a Mr b
theorem X0(a:VE X e1 f1)(b:VE X e2 f2)(d:aR [e1,e2] X.env=(aB,eval e1 X.env)::aR [e2] X.env:=by rfl)(c:aR [e2] X.env=(aB,eval e2 X.env)::aR [] X.env:=by rfl):VA X [e1,e2] [f1,f2]:=Vo a (Y2 b c) d
theorem Tx(a:VE X e1 f1)(b:VE X e2 f2)(c:VE X e3 f3)(e:aR [e1,e2,e3] X.env=(aB,eval e1 X.env)::aR [e2,e3] X.env:=by rfl)(f:aR [e2,e3] X.env=(aB,eval e2 X.env)::aR [e3] X.env:=by rfl)(d:aR [e3] X.env=(aB,eval e3 X.env)::aR [] X.env:=by rfl):VA X [e1,e2,e3] [f1,f2,f3]:=Vo a (X0 b c f d) e
theorem va4(a:VE X e1 f1)(b:VE X e2 f2)(c:VE X e3 f3)(d:VE X e4 f4)(f:aR [e1,e2,e3,e4] X.env=(aB,eval e1 X.env)::aR [e2,e3,e4] X.env:=by rfl)(g:aR [e2,e3,e4] X.env=(aB,eval e2 X.env)::aR [e3,e4] X.env:=by rfl)(e:aR [e3,e4] X.env=(aB,eval e3 X.env)::aR [e4] X.env:=by rfl)(h:aR [e4] X.env=(aB,eval e4 X.env)::aR [] X.env:=by rfl):VA X [e1,e2,e3,e4] [f1,f2,f3,f4]:=Vo a (Tx b c d g e h) f
theorem WO{ps:List ay}{D:List PV->Option PV}(C:Y9 X.prog X.w X.K X.mg X.base x ps (YX X.K D n) k)(f:Room k' X.A)(d:VA X (e::es) fs)(h:k<=k':=by decide)(g:Gl X x:=by rfl)(c:fs.length=n:=by rfl)
  (b:(x==("__debug__" : ay))=aB:=by decide) (i:aR (e::es) X.env=(aB,eval e X.env)::aR es X.env:=by rfl) (a:(dX pos (aR es X.env)).any (·.1)=aB:=by rfl) :
  VM X (.Call (.Name x p) (e::es) [] pos) (Ze D fs):=Hz C (f.mono h) g d c b i a
theorem UP{ps:List ay}{D:List PV->Option PV}(C:Y9 X.prog X.w X.K X.mg X.base x ps (YX X.K D n) k)(f:Room k' X.A)(d:VA X (e::es) fs)(h:k<=k':=by decide)(g:Gl X x:=by rfl)(c:fs.length=n:=by rfl)
  (b:(x==("__debug__" : ay))=aB:=by decide) (i:aR (e::es) X.env=(aB,eval e X.env)::aR es X.env:=by rfl) (a:(dX pos (aR es X.env)).any (·.1)=aB:=by rfl) :
  VE X (.Call (.Name x p) (e::es) [] pos) (Ze D fs):=VM.ve (Hz C (f.mono h) g d c b i a)
theorem vb{id:String}{r:List V->Hp->VK->Prop}{g:List PV->Option PV}(k:Xb X (.builtin id) r)(i:RC X.K r g)(c:X.mg x=aA)(f:VA X (e::es) fs)(j:Gl X x:=by rfl)(h:c9 x=ax (.builtin id):=by decide +kernel)(d:x≠"__name__":=by decide)(b:(x==("__debug__" : ay))=aB:=by decide)
  (l:aR (e::es) X.env=(aB,eval e X.env)::aR es X.env:=by rfl) (a:(dX pos (aR es X.env)).any (·.1)=aB:=by rfl):VE X (.Call (.Name x p) (e::es) [] pos) (Ze g fs):=Ke k i j c h f d b l a
theorem vmb{id:String}{r:List V->Hp->VK->Prop}{g:List PV->Option PV}(k:Xb X (.builtin id) r)(i:RCM X.K r g)(c:X.mg x=aA)(f:VA X (e::es) fs)(j:Gl X x:=by rfl)(h:c9 x=ax (.builtin id):=by decide +kernel)(d:x≠"__name__":=by decide)(b:(x==("__debug__" : ay))=aB:=by decide)
  (l:aR (e::es) X.env=(aB,eval e X.env)::aR es X.env:=by rfl) (a:(dX pos (aR es X.env)).any (·.1)=aB:=by rfl):VM X (.Call (.Name x p) (e::es) [] pos) (Ze g fs):=Dd k i j c h f d b l a
theorem UQ(d:X.mg "len" = aA)(c:VE X e f)(g:Gl X "len":=by rfl)(b:aR [e] X.env=(aB,eval e X.env)::aR [] X.env:=by rfl)(a:(dX pos (aR [] X.env)).any (·.1)=aB:=by rfl):VE X (.Call (.Name "len" p) [e] [] pos) (Ze ZQ [f]):=
 Ke EE Zdl g d (by decide +kernel) (Y2 c b) (by decide) (by decide) b a
theorem Yk{a:XE}(i:Nat)(c:X.N.Nodup)(h:VM X e a)(d:X.N[i]?=ax x:=by rfl)(f:Ew X.env.scope x:=by first | exact iT rfl | exact kU rfl)(g:fu e (ax (.Name x pos')) pos.line X.env=pure aB:=by rfl)(b:X.fn x=aC\/X.env.scope.names.lookup x=ax .local:=by first | exact .inl rfl | exact .inr rfl | assumption) :
  VS X O [i] (.Assign [.Name x pos'] e pos) (Zs i a):=Zdr c d f h g b
theorem Sj(i:Nat)(b:X.N.Nodup)(c:X.N[i]?=ax x:=by rfl)(d:Ew X.env.scope x:=by first | exact iT rfl | exact kU rfl)(a:X.fn x=aC\/X.env.scope.names.lookup x=ax .local:=by first | exact .inl rfl | exact .inr rfl | assumption):PG X (.Name x pos) (TB i):=Qk b c d a
theorem U3(i:Nat){N:List ay}{a:e7}{cl:List (ay×aL)}{C:aL}{s:aM}{H:Hp}{b:List aL}(c:N.Nodup:=by decide +kernel)(e:N[i]?=ax x:=by rfl)(f:Ew (ZD X N a cl C s H b).env.scope x:=by exact iT rfl)(d:(ZD X N a cl C s H b).env.scope.names.lookup x=ax .local:=by rfl):PG (ZD X N a cl C s H b) (.Name x pos) (TB i):=Qk c e f (.inr d)
end
section
variable {X:Cx} {tg iter elt e1 e2:bH} {fi:XL} {T:Tgt} {ft:XT} {fe f1 f2:XE} {p pos pos':dz} {O W:List Nat} {body:List bp} {fb:XS} {scope:e7}
theorem O3(c:VI X tg iter fi)(e:PG X tg (gT X.K T))(g:VSs X O W body fb)(b:jz (model X.prog X.w) X.A X.env X.xe:=by exact dt)(f:X.calm=aC:=by rfl)(a:∀i∈T.slots,i∉O:=by decide)
  (d:∀x,bt iter X.env x=pure x:=by intro _;rfl):VS X O (T.slots++W) (.For tg iter body [] pos) (YF O fi T fb):=Zds b f c e g a d
theorem KG(b:X.mg "range" = aA)(d:VE X e1 f1)(c:Gl X "range":=by rfl)(a:aR [e1] X.env=[(aB,eval e1 X.env)]:=by rfl):VI X tg (.Call (.Name "range" p) [e1] [] pos) (Z1 [f1]):=Fl c b (Y2 d (by rw[a];rfl)) a
theorem vr2(d:X.mg "range" = aA)(c:VE X e1 f1)(f:VE X e2 f2)(e:Gl X "range":=by rfl)(b:aR [e1,e2] X.env=[(aB,eval e1 X.env),(aB,eval e2 X.env)]:=by rfl)(a:aR [e2] X.env=[(aB,eval e2 X.env)]:=by rfl):VI X tg (.Call (.Name "range" p) [e1,e2] [] pos) (W5 [f1,f2]):=Fm e d (X0 c f (by rw[b,a]) (by rw[a];rfl)) b a
theorem Cg(o:ay)(fr:List ay)(b:List Nat)(a:VI X (.Name o pos') iter fi)(e:∀{cl C s H ex},VE (ZD X ([o]++fr) scope cl C s H ex) elt fe)(S:Vm X.N X.env.scope scope [o] fr b=aC:=by kernel_rfl)
  (j:([o]++fr).Nodup:=by decide +kernel) (f:∀cl C s H ex,Ew (ZD X ([o]++fr) scope cl C s H ex).env.scope o:=by intro _ _ _ _ _;exact iT rfl) (c:∀cl C s H ex,(ZD X ([o]++fr) scope cl C s H ex).env.scope.names.lookup o=ax .local:=by intro _ _ _ _ _;rfl) (g:X.calm=aC:=by rfl) (d:∀x,bt iter X.env x=pure x:=by intro _;rfl) :
  VE X (.ListComp elt [⟨.Name o pos',iter,[],0⟩] scope pos) (Zu 1 b fi (.one 0) ZF fe):=XG [o] fr b g a S (λ_ _ _ _ _=>Qk (i:=0) j rfl (f _ _ _ _ _) (.inr (c _ _ _ _ _))) (λ_ _ _ _ _=>Yh) (λ_ _ _ _ _=>e) (λi a=>by cases a with | head=>exact j9 | tail _ h=>cases h) d
theorem vcq{a:List bH}(o:ay)(fr:List ay)(c:List Nat)(b:VI X (.Name o pos') iter fi)(e:∀{cl C s H ex},VTs (ZD X ([o]++fr) scope cl C s H ex) a ft)(g:∀{cl C s H ex},VE (ZD X ([o]++fr) scope cl C s H ex) elt fe)(S:Vm X.N X.env.scope scope [o] fr c=aC:=by kernel_rfl)
  (l:([o]++fr).Nodup:=by decide +kernel) (j:∀cl C s H ex,Ew (ZD X ([o]++fr) scope cl C s H ex).env.scope o:=by intro _ _ _ _ _;exact iT rfl) (d:∀cl C s H ex,(ZD X ([o]++fr) scope cl C s H ex).env.scope.names.lookup o=ax .local:=by intro _ _ _ _ _;rfl) (k:X.calm=aC:=by rfl) (f:∀x,bt iter X.env x=pure x:=by intro _;rfl) :
  VE X (.ListComp elt [⟨.Name o pos',iter,a,0⟩] scope pos) (Zu 1 c fi (.one 0) ft fe):=XG [o] fr c k b S (λ_ _ _ _ _=>Qk (i:=0) l rfl (j _ _ _ _ _) (.inr (d _ _ _ _ _))) (λ_ _ _ _ _=>e) (λ_ _ _ _ _=>g) (λi b=>by cases b with | head=>exact j9 | tail _ h=>cases h) f
end
section
variable {K:aF} {P:bB} {w:b8} {mg:ay->Option aI} {base:bW} {x a b c d e:ay} {st:bp} {N:List ay} {k m:Nat} {O W:List Nat} {f:XS}
abbrev BdA(x:ay)(st:bp)(us:List aI)(r:List (ay×aI)):Prop:=∀(kV doc pm:aI)(an:Option aL)(cdv ct:aI),hU (cw x x (Y1 st) (Yd st) (Zf st) .none kV doc pm an cdv ct) ⟨us,[]⟩=pure r
abbrev AN(P:bB)(w:b8)(K:aF)(mg:ay->Option aI)(base:bW)(N:List ay)(x:ay)(st:bp)(k:Nat)(O W:List Nat)(f:XS):Prop:=∀{fa:aL}{cdv:aI}{A:ba}{outer:List kM}{s:aM}{H:Hp}{E:XK},Room k (A.deeper (gL x (Zf st) s.heap.objs.size fa cdv))->VSs (QP L5 P w K mg base N x (Zf st) fa cdv A outer s H E).nox O W (Yd st) f
theorem Es(O:List Nat)(D:Def K mg x st)(S:Zp N [a] (Zf st))(q:AN P w K mg base N x st k O W f)(h:∀t,BdA x st [t] [(a,t)]:=by intro _ _ _ _ _ _ _;rfl)(g:N.length=m:=by rfl)(d:∀i∈O,1<=i:=by decide):Y9 P w K mg base x [a] (YX K (YG m f) 1) (k+1):=
 MB m f D S (λ_ _ _ _ _ _ c e=>match c,e with | [t],_=>h t _ _ _ _ _ _) rfl g d λ_ _ _ _ _ _ _ b=>q b
theorem LL(O:List Nat)(D:Def K mg x st)(S:Zp N [a,b] (Zf st))(q:AN P w K mg base N x st k O W f)(j:∀t u,BdA x st [t,u] [(a,t),(b,u)]:=by intro _ _ _ _ _ _ _ _;rfl)(h:N.length=m:=by rfl)(e:∀i∈O,2<=i:=by decide):Y9 P w K mg base x [a,b] (YX K (YG m f) 2) (k+1):=
 MB m f D S (λ_ _ _ _ _ _ d g=>match d,g with | [t,u],_=>j t u _ _ _ _ _ _) rfl h e λ_ _ _ _ _ _ _ c=>q c
theorem FN(O:List Nat)(D:Def K mg x st)(S:Zp N [a,b,c] (Zf st))(q:AN P w K mg base N x st k O W f)(l:∀t u v,BdA x st [t,u,v] [(a,t),(b,u),(c,v)]:=by intro _ _ _ _ _ _ _ _ _;rfl)(j:N.length=m:=by rfl)(g:∀i∈O,3<=i:=by decide):Y9 P w K mg base x [a,b,c] (YX K (YG m f) 3) (k+1):=
 MB m f D S (λ_ _ _ _ _ _ e h=>match e,h with | [t,u,v],_=>l t u v _ _ _ _ _ _) rfl j g λ_ _ _ _ _ _ _ d=>q d
theorem dk4(O:List Nat)(D:Def K mg x st)(S:Zp N [a,b,c,d] (Zf st))(q:AN P w K mg base N x st k O W f)(n:∀t u v y,BdA x st [t,u,v,y] [(a,t),(b,u),(c,v),(d,y)]:=by intro _ _ _ _ _ _ _ _ _ _;rfl)(l:N.length=m:=by rfl)(h:∀i∈O,4<=i:=by decide):Y9 P w K mg base x [a,b,c,d] (YX K (YG m f) 4) (k+1):=
 MB m f D S (λ_ _ _ _ _ _ g j=>match g,j with | [t,u,v,y],_=>n t u v y _ _ _ _ _ _) rfl l h λ_ _ _ _ _ _ _ e=>q e
end
end VL
namespace PW
open PySem L2 VL VX
section
variable (P:bB) (w:b8) (K:aF) (mg:ay->Option aI) (base:bW)
abbrev Sk:Prop:=Y9 P w K mg base "_law_pick" ["_law_cell","_law_salt","_law_many"] (YX K Xl 3) 1
abbrev Vy:Prop:=Y9 P w K mg base "_law_read_web" ["_law_number","_law_sizes","_law_most"] (YX K Vx 3) 1
abbrev MW:Prop:=Y9 P w K mg base "_law_at" ["_law_script","_law_k"] (YX K V8 2) 1
abbrev MX:Prop:=Y9 P w K mg base "_law_web" ["_law_script","_law_sizes","_law_most"] (YX K MN 3) 2
abbrev PX:Prop:=Y9 P w K mg base "_law_ties" ["_law_web_here"] (YX K PB 1) 1
abbrev S4:Prop:=Y9 P w K mg base "_law_joins" ["_law_web_here","_law_some"] (YX K SY 2) 1
abbrev MY:Prop:=Y9 P w K mg base "_law_all" ["_law_web_here"] (YX K Sg 1) 2
abbrev S5:Prop:=Y9 P w K mg base "reduced" ["row","by","place","divisor"] (YX K UI 4) 1
abbrev Sl:Prop:=Y9 P w K mg base "evened" ["rows"] (YX K V7 1) 2
abbrev WQ:Prop:=Y9 P w K mg base "determinant" ["square"] (YX K WN 1) 3
abbrev UR:Prop:=Y9 P w K mg base "ties_at" ["web","house"] (YX K X6 2) 1
abbrev PY:Prop:=Y9 P w K mg base "row_of" ["web","house","others"] (YX K Sd 3) 2
abbrev YS:Prop:=Y9 P w K mg base "square_without" ["web","base"] (YX K Yo 2) 3
abbrev Ue:Prop:=Y9 P w K mg base "square_of" ["web"] (YX K Ub 1) 4
abbrev Vz:Prop:=Y9 P w K mg base "tree_count" ["web"] (YX K Xn 1) 5
abbrev Wk:Prop:=Y9 P w K mg base "solved_below" ["square","column"] (YX K Wf 2) 3
abbrev US:Prop:=Y9 P w K mg base "nearing" ["web","purse","base"] (YX K Xx 3) 4
abbrev Ic:Prop:=Y9 P w K mg base "gain" ["web","script","house"] (YX K Pp 3) 1
abbrev Gk:Prop:=Y9 P w K mg base "run" ["web","purse","script"] (YX K Vb 3) 2
abbrev S6:Prop:=Y9 P w K mg base "in_debt" ["purse","base"] (YX K YN 2) 1
abbrev WE:Prop:=Y9 P w K mg base "borrowing" ["web","houses"] (YX K Yi 2) 1
abbrev PZ:Prop:=Y9 P w K mg base "plus" ["one","other"] (YX K WM 2) 1
abbrev Qy:Prop:=Y9 P w K mg base "least" ["script"] (YX K UJ 1) 1
abbrev UT:Prop:=Y9 P w K mg base "ties_to" ["web","house","others"] (YX K Xw 3) 1
abbrev XU:Prop:=Y9 P w K mg base "house_to_burn" ["web","purse","fire"] (YX K ZS 3) 2
abbrev MZ:Prop:=Y9 P w K mg base "burnt" ["web","purse","base"] (YX K Qw 3) 3
abbrev P0:Prop:=Y9 P w K mg base "settle" ["web","purse","base"] (YX K Se 3) 5
abbrev S7:Prop:=Y9 P w K mg base "_law_whole" ["_law_found"] (YX K Vc 1) 1
abbrev To:Prop:=Y9 P w K mg base "_law_wholes" ["_law_found","_law_many"] (YX K Tj 2) 2
abbrev M0:Prop:=Y9 P w K mg base "total" ["purse"] (YX K Qu 1) 1
abbrev Ve:Prop:=Y9 P w K mg base "ties_of" ["web"] (YX K Va 1) 1
abbrev M1:Prop:=Y9 P w K mg base "loops" ["web"] (YX K T9 1) 2
abbrev Wl:Prop:=Y9 P w K mg base "refuse_total" ["web","purse"] (YX K Wh 2) 3
abbrev XW:Prop:=Y9 P w K mg base "lacking_among" ["web","purse"] (YX K Yy 2) 2
abbrev Qz:Prop:=Y9 P w K mg base "minus" ["one","other"] (YX K Sa 2) 1
abbrev Tp:Prop:=Y9 P w K mg base "overfull" ["heads","wanted"] (YX K Wi 2) 1
abbrev WG:Prop:=Y9 P w K mg base "other_end" ["tie","end"] (YX K WD 2) 1
abbrev S8:Prop:=Y9 P w K mg base "way_out" ["ties","heads","wanted","house"] (YX K S1 4) 2
abbrev Ug:Prop:=Y9 P w K mg base "heads_for" ["web","wanted"] (YX K Uc 2) 3
abbrev Xy:Prop:=Y9 P w K mg base "tie_to_look_at" ["ties","looked","fire"] (YX K YR 3) 1
abbrev P5:Prop:=Y9 P w K mg base "walked" ["web","base","burns"] (YX K Si 3) 2
abbrev S9:Prop:=Y9 P w K mg base "tree_by" ["web","base","burns"] (YX K UO 3) 3
abbrev P6:Prop:=Y9 P w K mg base "one_at" ["web","house"] (YX K Pz 2) 1
abbrev Ra:Prop:=Y9 P w K mg base "made_of" ["web","purse"] (YX K S3 2) 4
abbrev P7:Prop:=Y9 P w K mg base "middle" ["web"] (YX K PU 1) 2
abbrev P8:Prop:=Y9 P w K mg base "broken" ["web","purse"] (YX K Ud 2) 5
end
section
variable {P:bB} {w:b8} {K:aF} {mg:ay->Option aI} {base:bW}
theorem Ie:PQ (["tie","house","seen","heads"]:List ay) (["tie","house","seen"]:List ay) YQ:=⟨rfl,rfl,rfl,by decide +kernel,by decide +kernel,rfl,by decide +kernel,rfl,by decide +kernel,by decide +kernel⟩
theorem Ig(B:XZ mg):Gi P w K mg base 1 YQ (λl ls=>UN (ls.map ax++[ax l])) 3:=
 Zd7 (k:=0) UN Ie (λ_ _ _ _ b d=>match b,d with | [_,_,_],_=>rfl) rfl (λg c e A a s H f=>(Zbi f.units (Zk (Hu (pv 3)) (Hu (pv 0))) (Hu (pv 1))))
theorem AO(B:XZ mg):∀L,(∃l ls r,R9 L l ls=ax r)->Gi P w K mg base 1 L (R9 L) 3:=by
 intro L ⟨l,ls,r,h⟩;by_cases a:L=YQ
 ·have q:R9 L=λl ls=>UN (ls.map ax++[ax l]):=by funext l ls;unfold R9;rw[m7 a]
  rw[q,a];exact Ig B
 unfold R9 at h;rw[m9 a] at h;cases h
abbrev P9:bp:=X8 52
theorem sc_l_pick:Zp ["_law_cell","_law_salt","_law_many","_law_number"] ["_law_cell","_law_salt","_law_many"] (Zf P9):=Wj
theorem FO(a:Def K mg "_law_pick" P9)(B:XZ mg):Sk P w K mg base:=
 FN [] a sc_l_pick λb=>
  (Zd (Yk 3 sc_l_pick.nd (VE.pure (Xt (Mm (Z5 (Xt (vo 0) Zh) (vo 1)) (Z5 (vo 1) Zh)) Zh)))
  (Zd (Yk 3 sc_l_pick.nd (VE.pure (Xt (Z5 (Z5 (Mm (vo 3) (vo 3)) (X2 (vo 0) Zh)) (vo 1)) Zh)))
  (Zg (Zy (VE.pure (Xt (X2 (vo 3) Zh) (vo 2)))))))
abbrev VB:bp:=X8 53
theorem sc_l_read_web:Zp ["_law_number","_law_sizes","_law_most","_law_many","_law_order","_law_pairs","_law_k","_law_more","_law_one","_law_rows","_law_other","_law_times"] ["_law_number","_law_sizes","_law_most"] (Zf VB):=Wj
theorem O4(b:Def K mg "_law_read_web" VB)(B:XZ mg):Vy P w K mg base:=
 AB (O:=[4,5,9]) (k:=0) 12 Vw b sc_l_read_web (λ_ _ _ _ _ _ c d=>match c,d with | [_,_,_],_=>rfl) rfl rfl (by decide) (λf e A a s H E g=>
  (YC (Yk 3 sc_l_read_web.nd (VE.pure (Zk (vo 1) (Xt (vo 0) (UQ B.len (vo 1))))))
  (YC (Yk 0 sc_l_read_web.nd (VE.pure (X2 (vo 0) (UQ B.len (vo 1)))))
  (YC (Yk 4 sc_l_read_web.nd (XQ YL))
  (YC (Yk 5 sc_l_read_web.nd (XQ YL))
  (YC (O3 (KG B.range (vo 3)) (Sj 6 sc_l_read_web.nd) (Zd (NB (Y0 (VJ bV i6 i7 Nq (pv 4) (ZZ (Xt (vo 0) (Z5 (vo 6) Zh)) (ZZ (vo 6) Y3)))))
  (Zg (Yk 0 sc_l_read_web.nd (VE.pure (X2 (vo 0) (Z5 (vo 6) Zh)))))))
  (YC (O3 (vr2 B.range Zh (vo 3)) (Sj 6 sc_l_read_web.nd) (Zd (Xv (Y0 (VJ bV cM cN Xs (pv 5) (ZZ (VE.pure (Xu (X0 (vo 6) (Xt (vo 0) (vo 6))))) Y3))))
  (Zg (Yk 0 sc_l_read_web.nd (VE.pure (X2 (vo 0) (vo 6)))))))
  (YC (Yk 7 sc_l_read_web.nd (VE.pure (Mm (ZK G0 Ah rfl B.int (by decide +kernel) (Y2 (E2 (vo 3) Zh))) (Xt (vo 0) (Z5 (Xd (vo 2) (vo 3)) Zh)))))
  (YC (Yk 0 sc_l_read_web.nd (VE.pure (X2 (vo 0) (Z5 (Xd (vo 2) (vo 3)) Zh))))
  (YC (O3 (KG B.range (vo 7)) (Sj 6 sc_l_read_web.nd) (Zd (Yk 8 sc_l_read_web.nd (VE.pure (Xt (vo 0) (vo 3))))
  (Zd (Yk 0 sc_l_read_web.nd (VE.pure (X2 (vo 0) (vo 3))))
  (Zd (Xv (Y0 (VJ bV cM cN Xs (pv 5) (ZZ (VE.pure (Xu (X0 (vo 8) (Xt (Z5 (Z5 (vo 8) Zh) (Xt (vo 0) (Xd (vo 3) Zh))) (vo 3))))) Y3))))
  (Zg (Yk 0 sc_l_read_web.nd (VE.pure (X2 (vo 0) (Xd (vo 3) Zh)))))))))
  (YC (WA (["_law_house"]:List ay) (["_law_many"]:List ay) [3] (i:=9) sc_l_read_web.nd rfl rfl rfl (KG B.range (vo 3)) (by kernel_rfl) (λ_ _ _ _ _=>(U3 0)) (λ_ _ _ _ _=>Yh) (λ_ _ _ _ _=>(JX (Ms (Y2 Zh)) (vo 1))))
  (Fw (O':=[9]) (VSs.r (Zd (O3 (Yg (vo 5)) (Ys (n:=2) rfl (Zt (Sj 8 sc_l_read_web.nd) (Zt (Sj 10 sc_l_read_web.nd) Z3))) (Zd (Yk 11 sc_l_read_web.nd (VE.pure (Z5 (Zk (Zk (vo 9) (Zk (vo 4) (vo 8))) (Zk (vo 4) (vo 10))) Zh)))
  (Zd (UG (Sy (vo 11) (Sx (LX ix_list (pv 9) (Zk (vo 4) (vo 8)) (λ_ _=>rfl)) (Zk (vo 4) (vo 10)) WX)))
  (Zg (UG (Sy (vo 11) (Sx (LX ix_list (pv 9) (Zk (vo 4) (vo 10)) (λ_ _=>rfl)) (Zk (vo 4) (vo 8)) WX)))))))
  (Zg (Zy (VE.pure (ZK Zv ZV rfl B.tuple (by decide +kernel) (Y2 (Cg "_law_row" [] [] (Yg (vo 9)) (ZK Zv ZV rfl B.tuple (by decide +kernel) (Y2 (vo 0)))))))))))))))))))))))
abbrev Ih:bp:=X8 51
theorem AQ:Zp ["_law_script","_law_k"] ["_law_script","_law_k"] (Zf Ih):=Wj
theorem AR(a:Def K mg "_law_at" Ih)(B:XZ mg):MW P w K mg base:=
 LL [] a AQ λb=>
  (Zg (Zy (VE.pure (TQ (Nv (vo 1) (UQ B.len (vo 0))) (Zk (vo 0) (vo 1)) Zh))))
abbrev M3:bp:=X8 54
theorem sc_p_web:Zp ["_law_script","_law_sizes","_law_most","_law_many","_law_rows","_law_ties_here","_law_k","_law_cell","_law_one","_law_other","_law_more","_law_by"] ["_law_script","_law_sizes","_law_most"] (Zf M3):=Wj
theorem Ci(e:Def K mg "_law_web" M3)(B:XZ mg)(b:MW P w K mg base)(c:Vy P w K mg base)(a:Sk P w K mg base):MX P w K mg base:=
 FN [4] e sc_p_web λd=>
  (Zd (We (V6 d.units (Xt (UP b d (X0 (vo 0) Zh)) Zh) Zh) (Zg (Zy (WO c d (Tx (UP b d (X0 (vo 0) Zh)) (vo 1) (vo 2))))) Yu)
  (Zd (Yk 3 sc_p_web.nd (VE.pure (Zk (vo 1) (UP a d (Tx (UP b d (X0 (vo 0) Zh)) Zh (UQ B.len (vo 1)))))))
  (Zd (WA (["_law_house"]:List ay) (["_law_many"]:List ay) [3] (i:=4) sc_p_web.nd rfl rfl rfl (KG B.range (vo 3)) (by kernel_rfl) (λ_ _ _ _ _=>(U3 0)) (λ_ _ _ _ _=>Yh) (λ_ _ _ _ _=>(JX (Ms (Y2 Zh)) (vo 1))))
  (Zd (Yk 5 sc_p_web.nd (VE.pure Zh))
  (Zd (O3 (vr2 B.range Zh Zh) (Sj 6 sc_p_web.nd) (Zd (Yk 7 sc_p_web.nd (WO b d (X0 (vo 0) (vo 6))))
  (Zd (Yk 8 sc_p_web.nd (WO a d (Tx (vo 7) Zh (vo 3))))
  (Zd (Yk 9 sc_p_web.nd (VE.pure (Xt (Z5 (Z5 (vo 8) Zh) (UP a d (Tx (vo 7) Zh (vb (GZ rfl) Ag B.max (X0 Zh (Xd (vo 3) Zh)))))) (vo 3))))
  (Zd (We (Nv (vo 6) (vo 3)) (Zd (Yk 8 sc_p_web.nd (VE.pure (vo 6)))
  (Zg (Yk 9 sc_p_web.nd (WO a d (Tx (vo 7) Zh (vo 6)))))) Yu)
  (Zd (Yk 10 sc_p_web.nd (VE.pure (JK (E2 (vo 3) Zh) (JK (Zgj (vo 5) (vo 2)) (E7 (E2 (UP a d (Tx (vo 7) Zh Zh)) Zh))))))
  (Zg (We (VW.vt (Kb (Nv (vo 6) (vo 3)) (Mo (Q3 (vo 10))))) (Zd (UG (Sy (Z5 (Zk (Zk (vo 4) (vo 8)) (vo 9)) Zh) (Sx (LX ix_list (pv 4) (vo 8) (λ_ _=>rfl)) (vo 9) WX)))
  (Zd (UG (Sy (Zk (Zk (vo 4) (vo 8)) (vo 9)) (Sx (LX ix_list (pv 4) (vo 9) (λ_ _=>rfl)) (vo 8) WX)))
  (Zg (Yk 5 sc_p_web.nd (VE.pure (Z5 (vo 5) Zh)))))) Yu))))))))
  (Zd (Yk 11 sc_p_web.nd (WO a d (Tx (UP b d (X0 (vo 0) Zh)) Zh (vo 3))))
  (Zd (WA (["_law_row"]:List ay) (["_law_by"]:List ay) [11] (i:=4) sc_p_web.nd rfl rfl rfl (Yg (AE (W7 (vo 4) (Wy (vo 11)) Wx) (W7 (vo 4) Wx (Wy (vo 11))))) (by kernel_rfl) (λ_ _ _ _ _=>(U3 0)) (λ_ _ _ _ _=>Yh) (λ_ _ _ _ _=>(HL (W7 (vo 0) (Wy (vo 1)) Wx) (W7 (vo 0) Wx (Wy (vo 1))))))
  (Zg (Zy (VE.pure (ZK Zv ZV rfl B.tuple (by decide +kernel) (Y2 (Cg "_law_row" [] [] (Yg (vo 4)) (ZK Zv ZV rfl B.tuple (by decide +kernel) (Y2 (vo 0))))))))))))))))
abbrev Oa:bp:=X8 59
theorem sc_l_ties:Zp ["_law_web_here","_law_found","_law_one","_law_other"] ["_law_web_here"] (Zf Oa):=Wj
theorem FP(a:Def K mg "_law_ties" Oa)(B:XZ mg):PX P w K mg base:=
 Es [1] a sc_l_ties λb=>
  (Zd (Yk 1 sc_l_ties.nd (XQ YL))
  (Zd (O3 (KG B.range (UQ B.len (vo 0))) (Sj 2 sc_l_ties.nd) (Zg (O3 (vr2 B.range (Z5 (vo 2) Zh) (UQ B.len (vo 0))) (Sj 3 sc_l_ties.nd) (Zg (NA (Y0 (VJ bV i8 i9 Ni (pv 1) (ZZ (UC (["_law_nth"]:List ay) (["_law_one","_law_other"]:List ay) [2,3] rfl (KG B.range (Zk (Zk (vo 0) (vo 2)) (vo 3))) (by kernel_rfl) (λ_ _ _ _ _=>(U3 0)) (λ_ _ _ _ _=>Yh) (λ_ _ _ _ _=>(VE.pure (Xu (X0 (vo 1) (vo 2)))))) Y3))))))))
  (Zg (TX (pv 1)))))
abbrev Rc:bp:=X8 60
theorem sc_l_joins:Zp ["_law_web_here","_law_some","_law_marks","_law_one","_law_other","_law_gone"] ["_law_web_here","_law_some"] (Zf Rc):=Wj
theorem Ii(b:Def K mg "_law_joins" Rc)(B:XZ mg):S4 P w K mg base:=
 LL [] b sc_l_joins λa=>
  (Zd (Yk 2 sc_l_joins.nd (MM rfl rfl B.list rfl B.range (UQ B.len (vo 0))))
  (Zd (O3 (Yg (vo 1)) (Ys (n:=2) rfl (Zt (Sj 3 sc_l_joins.nd) (Zt (Sj 4 sc_l_joins.nd) Z3))) (Zd (We (V6 a.units (Zk (vo 2) (vo 3)) (Zk (vo 2) (vo 4))) (Zg (Zy (VE.pure RH))) Yu)
  (Zd (Yk 5 sc_l_joins.nd (VE.pure (Zk (vo 2) (vo 3))))
  (Zg (Yk 2 sc_l_joins.nd (UC (["_law_mark"]:List ay) (["_law_gone","_law_marks","_law_other"]:List ay) [5,2,4] rfl (Yg (vo 2)) (by kernel_rfl) (λ_ _ _ _ _=>(U3 0)) (λ_ _ _ _ _=>Yh) (λ_ _ _ _ _=>(VE.pure (TQ (V6 a.units (vo 0) (vo 1)) (Zk (vo 2) (vo 3)) (vo 0))))))))))
  (Zg (Zy (VE.pure (Zbi a.units (UQ B.len (vo 1)) (Xd (UQ B.len (vo 0)) Zh)))))))
abbrev M4:bp:=X8 61
theorem sc_l_all:Zp ["_law_web_here","_law_ties_here","_law_found","_law_mask","_law_inside","_law_beside","_law_ways","_law_coins","_law_k","_law_end"] ["_law_web_here"] (Zf M4):=Wj
theorem Cj(d:Def K mg "_law_all" M4)(B:XZ mg)(b:PX P w K mg base)(a:S4 P w K mg base):MY P w K mg base:=
 Es [2,7] d sc_l_all λc=>
  (Zd (Yk 1 sc_l_all.nd (WO b c (Y2 (vo 0))))
  (Zd (Yk 2 sc_l_all.nd Kd)
  (Zd (O3 (KG B.range (E1 Zh (UQ B.len (vo 1)))) (Sj 3 sc_l_all.nd) (Zd (WA (["_law_k"]:List ay) (["_law_ties_here","_law_mask"]:List ay) [1,3] (i:=4) sc_l_all.nd rfl rfl rfl (KG B.range (UQ B.len (vo 1))) (by kernel_rfl) (λ_ _ _ _ _=>(U3 0)) (λ_ _ _ _ _=>(Vs (V6 c.units (Mn (JF (vo 2) (vo 0)) Zh) Zh))) (λ_ _ _ _ _=>(VE.pure (Zk (vo 1) (vo 0)))))
  (Zd (WA (["_law_k"]:List ay) (["_law_ties_here","_law_mask"]:List ay) [1,3] (i:=5) sc_l_all.nd rfl rfl rfl (KG B.range (UQ B.len (vo 1))) (by kernel_rfl) (λ_ _ _ _ _=>(U3 0)) (λ_ _ _ _ _=>(Vs (V6 c.units (Mn (JF (vo 2) (vo 0)) Zh) Zh))) (λ_ _ _ _ _=>(VE.pure (Zk (vo 1) (vo 0)))))
  (Zg (We (VW.vt (Q4 (V6 c.units (UQ B.len (vo 4)) (Xd (UQ B.len (vo 0)) Zh)) (TN (Q3 (UP a c (X0 (vo 0) (vo 4))))))) (Zg (O3 (KG B.range (E1 Zh (UQ B.len (vo 5)))) (Sj 6 sc_l_all.nd) (Zd (Yk 7 sc_l_all.nd (JX (Ms (Y2 Zh)) (UQ B.len (vo 0))))
  (Zd (O3 (KG B.range (UQ B.len (vo 5))) (Sj 8 sc_l_all.nd) (Zd (Yk 9 sc_l_all.nd (VE.pure (Zk (Zk (vo 5) (vo 8)) (Mn (JF (vo 6) (vo 8)) Zh))))
  (Zg (Kj (Sy (Z5 (Zk (vo 7) (vo 9)) Zh) (Sx (pv 7) (vo 9) WX))))))
  (Zg (MA (Md (QV c) (pv 2) (ZK Zv ZV rfl B.tuple (by decide +kernel) (Y2 (vo 7))) RH rfl))))))) Yu)))))
  (Zg (Zy (vmb (O2 rfl) MU B.sorted (Y2 (vo 2))))))))
abbrev Rf:bp:=X8 24
theorem Ij:Zp ["row","by","place","divisor"] ["row","by","place","divisor"] (Zf Rf):=Wj
theorem Ik(a:Def K mg "reduced" Rf)(B:XZ mg):S5 P w K mg base:=
 dk4 [] a Ij λb=>
  (Zg (Zy (VE.pure (ZK Zv ZV rfl B.tuple (by decide +kernel) (Y2 (XG (["number","other"]:List ay) (["divisor","by","place","row"]:List ay) [3,1,2,0] rfl (Mx aB aB rfl B.zip (X0 (vo 0) (vo 1))) (by kernel_rfl) (λ_ _ _ _ _=>(Ys (n:=2) rfl (Zt (U3 0) (Zt (U3 1) Z3)))) (λ_ _ _ _ _=>Yh) (λ_ _ _ _ _=>(Kp (Xd (HZ (Zk (vo 3) (vo 4)) (vo 0)) (HZ (Zk (vo 5) (vo 4)) (vo 1))) (vo 2)))))))))
abbrev Ob:bp:=X8 23
theorem sc_evened:Zp ["rows","left","divisor","place","by"] ["rows"] (Zf Ob):=Wj
theorem FQ(c:Def K mg "evened" Ob)(B:XZ mg)(a:S5 P w K mg base):Sl P w K mg base:=
 Es [1] c sc_evened λb=>
  (Zd (Yk 1 sc_evened.nd (Fg N9 De rfl B.list (by decide +kernel) (Y2 (vo 0))))
  (Zd (Yk 2 sc_evened.nd (VE.pure Zh))
  (Zd (O3 (KG B.range (UQ B.len (vo 0))) (Sj 3 sc_evened.nd) (Zd (Yk 4 sc_evened.nd (VE.pure (Zk (vo 1) (vo 3))))
  (Zd (WA (["at","row"]:List ay) (["place","by","divisor"]:List ay) [3,4,2] (i:=1) sc_evened.nd rfl rfl rfl (Xe aC rfl B.enumerate (Y2 (vo 1))) (by kernel_rfl) (λ_ _ _ _ _=>(Ys (n:=2) rfl (Zt (U3 0) (Zt (U3 1) Z3)))) (λ_ _ _ _ _=>Yh) (λ_ _ _ _ _=>(VE.pure (TQ (V6 b.units (vo 0) (vo 2)) (vo 1) (UP a b (va4 (vo 1) (vo 3) (vo 2) (vo 4)))))))
  (Zg (Yk 2 sc_evened.nd (VE.pure (Zk (vo 4) (vo 3))))))))
  (Zg (DP (Jz (ZZ (vo 2) (ZZ (pv 1) Y3))))))))
abbrev WR:bp:=X8 22
theorem Oc:Zp ["square"] ["square"] (Zf WR):=Wj
theorem Od(b:Def K mg "determinant" WR)(B:XZ mg)(a:Sl P w K mg base):WQ P w K mg base:=
 Es [] b Oc λc=>
  (Zg (Zy (VE.pure (Zk (UP a c (Y2 (vo 0))) Zh))))
abbrev Rh:bp:=X8 9
theorem Il:Zp ["web","house"] ["web","house"] (Zf Rh):=Wj
theorem Im(a:Def K mg "ties_at" Rh)(B:XZ mg):UR P w K mg base:=
 LL [] a Il λb=>
  (Zg (Zy (VE.pure (vb (UA rfl) Mu B.sum (Y2 (Zk (vo 0) (vo 1)))))))
abbrev Oe:bp:=X8 28
theorem FR:Zp ["web","house","others"] ["web","house","others"] (Zf Oe):=Wj
theorem FT(c:Def K mg "row_of" Oe)(B:XZ mg)(a:UR P w K mg base):PY P w K mg base:=
 FN [] c FR λb=>
  (Zg (Zy (VE.pure (ZK Zv ZV rfl B.tuple (by decide +kernel) (Y2 (Cg "other" ["house","web"] [1,0] (Yg (vo 2)) (TQ (V6 b.units (vo 0) (vo 1)) (UP a b (X0 (vo 2) (vo 1))) (Mq (Zk (Zk (vo 2) (vo 1)) (vo 0))))))))))
abbrev Xz:bp:=X8 27
theorem sc_square_without:Zp ["web","base","others"] ["web","base"] (Zf Xz):=Wj
theorem Sm(c:Def K mg "square_without" Xz)(B:XZ mg)(a:PY P w K mg base):YS P w K mg base:=
 LL [] c sc_square_without λb=>
  (Zd (Yk 2 sc_square_without.nd (UC (["house"]:List ay) (["base"]:List ay) [1] rfl (KG B.range (UQ B.len (vo 0))) (by kernel_rfl) (λ_ _ _ _ _=>(U3 0)) (λ_ _ _ _ _=>(Vs (RI b.units (vo 0) (vo 1)))) (λ_ _ _ _ _=>(VE.pure (vo 0)))))
  (Zg (Zy (VE.pure (ZK Zv ZV rfl B.tuple (by decide +kernel) (Y2 (Cg "house" ["web","others"] [0,2] (Yg (vo 2)) (UP a b (Tx (vo 1) (vo 0) (vo 2))))))))))
abbrev Uh:bp:=X8 26
theorem M5:Zp ["web"] ["web"] (Zf Uh):=Wj
theorem M6(b:Def K mg "square_of" Uh)(B:XZ mg)(a:YS P w K mg base):Ue P w K mg base:=
 Es [] b M5 λc=>
  (Zg (Zy (WO a c (X0 (vo 0) Zh))))
abbrev VC:bp:=X8 34
theorem O5:Zp ["web"] ["web"] (Zf VC):=Wj
theorem O6(d:Def K mg "tree_count" VC)(B:XZ mg)(a:WQ P w K mg base)(b:Ue P w K mg base):Vz P w K mg base:=
 Es [] d O5 λc=>
  (Zg (Zy (WO a c (Y2 (UP b c (Y2 (vo 0)))))))
abbrev Wm:bp:=X8 21
theorem sc_solved_below:Zp ["square","column","told"] ["square","column"] (Zf Wm):=Wj
theorem Qb(b:Def K mg "solved_below" Wm)(B:XZ mg)(a:Sl P w K mg base):Wk P w K mg base:=
 LL [] b sc_solved_below λc=>
  (Zd (Yk 2 sc_solved_below.nd (WO a c (Y2 (XG (["row","number"]:List ay) ([]:List ay) [] rfl (Mx aB aB rfl B.zip (X0 (vo 0) (vo 1))) (by kernel_rfl) (λ_ _ _ _ _=>(Ys (n:=2) rfl (Zt (U3 0) (Zt (U3 1) Z3)))) (λ_ _ _ _ _=>Yh) (λ_ _ _ _ _=>(Wc MF MG (vo 0) (Xu (Y2 (vo 1)))))))))
  (Zg (Zy (UC (["row"]:List ay) (["told"]:List ay) [2] rfl (Yg (Zk (vo 2) Zh)) (by kernel_rfl) (λ_ _ _ _ _=>(U3 0)) (λ_ _ _ _ _=>Yh) (λ_ _ _ _ _=>(VE.pure (Kp (Zk (vo 0) (Mq Zh)) (Zk (vo 1) Zh))))))))
abbrev Rj:bp:=X8 31
theorem sc_nearing:Zp ["web","purse","base","column","script"] ["web","purse","base"] (Zf Rj):=Wj
theorem Io(d:Def K mg "nearing" Rj)(B:XZ mg)(b:Wk P w K mg base)(a:YS P w K mg base):US P w K mg base:=
 FN [4] d sc_nearing λc=>
  (Zd (Yk 3 sc_nearing.nd (VE.pure (Wc MF MG (SO (vo 1) Wx (Wy (vo 2))) (SO (vo 1) (Wy (Z5 (vo 2) Zh)) Wx))))
  (Zd (Yk 4 sc_nearing.nd (WO b c (X0 (UP a c (X0 (vo 0) (vo 2))) (vo 3))))
  (Zd (NB (Y0 (VJ bV i6 i7 Nq (pv 4) (ZZ (vo 2) (ZZ Zh Y3)))))
  (Zg (Zy (VE.pure (ZK Zv ZV rfl B.tuple (by decide +kernel) (Y2 (vo 4)))))))))
abbrev Ip:bp:=X8 16
theorem AS:Zp ["web","script","house"] ["web","script","house"] (Zf Ip):=Wj
theorem AU(a:Def K mg "gain" Ip)(B:XZ mg):Ic P w K mg base:=
 FN [] a AS λb=>
  (Zg (Zy (VE.pure (vb (UA rfl) Mu B.sum (Y2 (XG (["other","times"]:List ay) (["script","house"]:List ay) [1,2] rfl (Xe aB rfl B.enumerate (Y2 (Zk (vo 0) (vo 2)))) (by kernel_rfl) (λ_ _ _ _ _=>(Ys (n:=2) rfl (Zt (U3 0) (Zt (U3 1) Z3)))) (λ_ _ _ _ _=>Yh) (λ_ _ _ _ _=>(Mm (vo 1) (Xd (Zk (vo 2) (vo 0)) (Zk (vo 2) (vo 3)))))))))))
abbrev Ck:bp:=X8 15
theorem Zeb:Zp ["web","purse","script"] ["web","purse","script"] (Zf Ck):=Wj
theorem Zec(b:Def K mg "run" Ck)(B:XZ mg)(a:Ic P w K mg base):Gk P w K mg base:=
 FN [] b Zeb λc=>
  (Zg (Zy (VE.pure (ZK Zv ZV rfl B.tuple (by decide +kernel) (Y2 (XG (["house","coins"]:List ay) (["web","script"]:List ay) [0,2] rfl (Xe aB rfl B.enumerate (Y2 (vo 1))) (by kernel_rfl) (λ_ _ _ _ _=>(Ys (n:=2) rfl (Zt (U3 0) (Zt (U3 1) Z3)))) (λ_ _ _ _ _=>Yh) (λ_ _ _ _ _=>(Z5 (vo 1) (UP a c (Tx (vo 2) (vo 3) (vo 0)))))))))))
abbrev Rk:bp:=X8 7
theorem Iq:Zp ["purse","base"] ["purse","base"] (Zf Rk):=Wj
theorem Ir(a:Def K mg "in_debt" Rk)(B:XZ mg):S6 P w K mg base:=
 LL [] a Iq λb=>
  (Zg (Zy (UC (["house","coins"]:List ay) (["base"]:List ay) [1] rfl (Xe aB rfl B.enumerate (Y2 (vo 0))) (by kernel_rfl) (λ_ _ _ _ _=>(Ys (n:=2) rfl (Zt (U3 0) (Zt (U3 1) Z3)))) (λ_ _ _ _ _=>(Vs (VW.vt (Q4 (RI b.units (vo 0) (vo 2)) (TN (Nv (vo 1) Zh)))))) (λ_ _ _ _ _=>(VE.pure (vo 0))))))
abbrev Ui:bp:=X8 32
theorem M7:Zp ["web","houses"] ["web","houses"] (Zf Ui):=Wj
theorem M8(a:Def K mg "borrowing" Ui)(B:XZ mg):WE P w K mg base:=
 LL [] a M7 λb=>
  (Zg (Zy (VE.pure (ZK Zv ZV rfl B.tuple (by decide +kernel) (Y2 (Cg "house" ["houses"] [1] (KG B.range (UQ B.len (vo 0))) (TQ (Dm b.units (vo 0) (vo 1)) (Mq Zh) Zh)))))))
abbrev Iu:bp:=X8 18
theorem AV:Zp ["one","other"] ["one","other"] (Zf Iu):=Wj
theorem AW(a:Def K mg "plus" Iu)(B:XZ mg):PZ P w K mg base:=
 LL [] a AV λb=>
  (Zg (Zy (VE.pure (ZK Zv ZV rfl B.tuple (by decide +kernel) (Y2 (XG (["first","second"]:List ay) ([]:List ay) [] rfl (Mx aB aB rfl B.zip (X0 (vo 0) (vo 1))) (by kernel_rfl) (λ_ _ _ _ _=>(Ys (n:=2) rfl (Zt (U3 0) (Zt (U3 1) Z3)))) (λ_ _ _ _ _=>Yh) (λ_ _ _ _ _=>(Z5 (vo 0) (vo 1)))))))))
abbrev M9:bp:=X8 17
theorem sc_least:Zp ["script","lowest"] ["script"] (Zf M9):=Wj
theorem Cm(a:Def K mg "least" M9)(B:XZ mg):Qy P w K mg base:=
 Es [] a sc_least λb=>
  (Zd (Yk 1 sc_least.nd (VE.pure (vb (Fu rfl) Ax B.min (Y2 (vo 0)))))
  (Zg (Zy (VE.pure (ZK Zv ZV rfl B.tuple (by decide +kernel) (Y2 (Cg "often" ["lowest"] [1] (JQ (vo 0)) (Xd (vo 0) (vo 1)))))))))
abbrev Rl:bp:=X8 6
theorem Iv:Zp ["web","house","others"] ["web","house","others"] (Zf Rl):=Wj
theorem Iw(a:Def K mg "ties_to" Rl)(B:XZ mg):UT P w K mg base:=
 FN [] a Iv λb=>
  (Zg (Zy (VE.pure (vb (UA rfl) Mu B.sum (Y2 (Cg "other" ["web","house"] [0,1] (Zgv (vo 2)) (Zk (Zk (vo 1) (vo 2)) (vo 0))))))))
abbrev XX:bp:=X8 5
theorem sc_house_to_burn:Zp ["web","purse","fire","house","coins"] ["web","purse","fire"] (Zf XX):=Wj
theorem Rq(c:Def K mg "house_to_burn" XX)(B:XZ mg)(a:UT P w K mg base):XU P w K mg base:=
 FN [] c sc_house_to_burn λb=>
  (Zd (O3 (Xe aB rfl B.enumerate (Y2 (vo 1))) (Ys (n:=2) rfl (Zt (Sj 3 sc_house_to_burn.nd) (Zt (Sj 4 sc_house_to_burn.nd) Z3))) (Zg (We (VW.vt (Q4 (Ph b.units (vo 3) (vo 2)) (TN (Nv (vo 4) (UP a b (Tx (vo 0) (vo 3) (vo 2))))))) (Zg (Zy (VE.pure (vo 3)))) Yu)))
  (Zg (Zy (VE.pure Mj))))
abbrev La:bp:=X8 4
theorem sc_burnt:Zp ["web","purse","base","fire","house"] ["web","purse","base"] (Zf La):=Wj
theorem Cn(c:Def K mg "burnt" La)(B:XZ mg)(a:XU P w K mg base):MZ P w K mg base:=
 FN [3] c sc_burnt λb=>
  (Zd (Yk 3 sc_burnt.nd (XQ (XH (VE.pure (vo 2)) YL)))
  (Zd (Yk 4 sc_burnt.nd (WO a b (Tx (vo 0) (vo 1) (vo 3))))
  (Zd (W9 dt (Ql (vo 4)) (Zd (Xv (Y0 (VJ bV cM cN Xs (pv 3) (ZZ (VE.pure (vo 4)) Y3))))
  (Zg (Yk 4 sc_burnt.nd (WO a b (Tx (vo 0) (vo 1) (vo 3)))))))
  (Zg (TX (pv 3))))))
abbrev Of:bp:=X8 30
theorem sc_settle:Zp ["web","purse","base","script","near","indebted","step"] ["web","purse","base"] (Zf Of):=Wj
theorem FU(i:Def K mg "settle" Of)(B:XZ mg)(c:US P w K mg base)(f:Gk P w K mg base)(a:S6 P w K mg base)(b:WE P w K mg base)(h:PZ P w K mg base)(d:MZ P w K mg base)(e:Qy P w K mg base):P0 P w K mg base:=
 FN [] i sc_settle λg=>
  (Zd (Yk 3 sc_settle.nd (WO c g (Tx (vo 0) (vo 1) (vo 2))))
  (Zd (Yk 4 sc_settle.nd (WO f g (Tx (vo 0) (vo 1) (vo 3))))
  (Zd (Yk 5 sc_settle.nd (WO a g (X0 (vo 4) (vo 2))))
  (Zd (W9 dt (E4 (UQ B.len (vo 5)) Zh) (Zd (Yk 6 sc_settle.nd (WO b g (X0 (vo 0) (vo 5))))
  (Zd (Yk 3 sc_settle.nd (WO h g (X0 (vo 3) (vo 6))))
  (Zd (Yk 4 sc_settle.nd (WO f g (Tx (vo 0) (vo 4) (vo 6))))
  (Zg (Yk 5 sc_settle.nd (WO a g (X0 (vo 4) (vo 2)))))))))
  (Zg (Zy (Zdj (XH (WO e g (Y2 (vo 3))) (XH (VE.pure (vo 4)) (XH (WO d g (Tx (vo 0) (vo 4) (vo 2))) YL))))))))))
abbrev Rr:bp:=X8 55
theorem Iy:Zp ["_law_found"] ["_law_found"] (Zf Rr):=Wj
theorem Iz(a:Def K mg "_law_whole" Rr)(B:XZ mg):S7 P w K mg base:=
 Es [] a Iy λb=>
  (Zg (Zy (VE.pure (JK (vb Wv Qn B.isinstance (X0 (vo 0) (HB rfl B.int (by decide +kernel)))) (E7 (Zdi (vb Wv Qn B.isinstance (X0 (vo 0) (HB rfl B.bool (by decide +kernel))))))))))
abbrev Tq:bp:=X8 56
theorem KH:Zp ["_law_found","_law_many"] ["_law_found","_law_many"] (Zf Tq):=Wj
theorem KI(c:Def K mg "_law_wholes" Tq)(B:XZ mg)(a:S7 P w K mg base):To P w K mg base:=
 LL [] c KH λb=>
  (Zd (We (VW.vt (Kb (JI (Q3 (vb Wv Qn B.isinstance (X0 (vo 0) (HB rfl B.tuple (by decide +kernel)))))) (Mo (RI b.units (UQ B.len (vo 0)) (vo 1))))) (Zg (Zy (VE.pure RH))) Yu)
  (Zg (Zy (VE.pure (vb (Fd rfl) Zdm B.all (Y2 (Cg "_law_one" [] [] (JQ (vo 0)) (UP a b (Y2 (vo 0))))))))))
abbrev Lb:bp:=X8 13
theorem Co:Zp ["purse"] ["purse"] (Zf Lb):=Wj
theorem Cp(a:Def K mg "total" Lb)(B:XZ mg):M0 P w K mg base:=
 Es [] a Co λb=>
  (Zg (Zy (VE.pure (vb (UA rfl) Mu B.sum (Y2 (vo 0))))))
abbrev Rt:bp:=X8 10
theorem sc_ties_of:Zp ["web","ties","a","row","b"] ["web"] (Zf Rt):=Wj
theorem IA(a:Def K mg "ties_of" Rt)(B:XZ mg):Ve P w K mg base:=
 Es [1] a sc_ties_of λb=>
  (Zd (Yk 1 sc_ties_of.nd (XQ YL))
  (Zd (O3 (Xe aB rfl B.enumerate (Y2 (vo 0))) (Ys (n:=2) rfl (Zt (Sj 2 sc_ties_of.nd) (Zt (Sj 3 sc_ties_of.nd) Z3))) (Zg (O3 (vr2 B.range (Z5 (vo 2) Zh) (UQ B.len (vo 0))) (Sj 4 sc_ties_of.nd) (Zg (NA (Y0 (VJ bV i8 i9 Ni (pv 1) (ZZ (UC (["nth"]:List ay) (["a","b"]:List ay) [2,4] rfl (KG B.range (Zk (vo 3) (vo 4))) (by kernel_rfl) (λ_ _ _ _ _=>(U3 0)) (λ_ _ _ _ _=>Yh) (λ_ _ _ _ _=>(VE.pure (Xu (Tx (vo 1) (vo 2) (vo 0)))))) Y3))))))))
  (Zg (TX (pv 1)))))
abbrev Lc:bp:=X8 11
theorem Cq:Zp ["web"] ["web"] (Zf Lc):=Wj
theorem Cr(b:Def K mg "loops" Lc)(B:XZ mg)(a:Ve P w K mg base):M1 P w K mg base:=
 Es [] b Cq λc=>
  (Zg (Zy (VE.pure (Z5 (Xd (UQ B.len (UP a c (Y2 (vo 0)))) (UQ B.len (vo 0))) Zh))))
abbrev Wn:bp:=X8 41
theorem Qc:Zp ["web","purse"] ["web","purse"] (Zf Wn):=Wj
theorem Qd(d:Def K mg "refuse_total" Wn)(B:XZ mg)(b:M0 P w K mg base)(a:M1 P w K mg base):Wl P w K mg base:=
 LL [] d Qc λc=>
  (Zg (We (RI c.units (UP b c (Y2 (vo 1))) (UP a c (Y2 (vo 0)))) (Zg (DJ (W:=[]))) Yu))
abbrev XY:bp:=X8 42
theorem sc_lacking_among:Zp ["web","purse","groups","house","coins","lacks"] ["web","purse"] (Zf XY):=Wj
theorem Ru(b:Def K mg "lacking_among" XY)(B:XZ mg)(a:UT P w K mg base):XW P w K mg base:=
 LL [] b sc_lacking_among λc=>
  (Zd (Yk 2 sc_lacking_among.nd (XQ (XH (VE.pure (Xu (X0 (Xu Mr) (Mq Zh)))) YL)))
  (Zd (O3 (Xe aB rfl B.enumerate (Y2 (vo 1))) (Ys (n:=2) rfl (Zt (Sj 3 sc_lacking_among.nd) (Zt (Sj 4 sc_lacking_among.nd) Z3))) (Zg (Yk 2 sc_lacking_among.nd (HL (vo 2) (XG (["group","over"]:List ay) (["house","web","coins"]:List ay) [3,0,4] rfl (Yg (vo 2)) (by kernel_rfl) (λ_ _ _ _ _=>(Ys (n:=2) rfl (Zt (U3 0) (Zt (U3 1) Z3)))) (λ_ _ _ _ _=>Yh) (λ_ _ _ _ _=>(Xu (X0 (Wc MF MG (vo 0) (Xu (Y2 (vo 2)))) (Xd (Z5 (Z5 (vo 1) (vo 4)) Zh) (UP a c (Tx (vo 3) (vo 2) (vo 0))))))))))))
  (Zd (WA (["group","over"]:List ay) ([]:List ay) [] (i:=5) sc_lacking_among.nd rfl rfl rfl (Yg (W7 (vo 2) (Wy Zh) Wx)) (by kernel_rfl) (λ_ _ _ _ _=>(Ys (n:=2) rfl (Zt (U3 0) (Zt (U3 1) Z3)))) (λ_ _ _ _ _=>(Vs (Nv (vo 1) Zh))) (λ_ _ _ _ _=>(VE.pure (vo 0))))
  (Zg (Zy (VE.pure (TQ (E4 (UQ B.len (vo 5)) Zh) (Zk (vo 5) Zh) Mj)))))))
abbrev Ld:bp:=X8 19
theorem Cs:Zp ["one","other"] ["one","other"] (Zf Ld):=Wj
theorem Ct(a:Def K mg "minus" Ld)(B:XZ mg):Qz P w K mg base:=
 LL [] a Cs λb=>
  (Zg (Zy (VE.pure (ZK Zv ZV rfl B.tuple (by decide +kernel) (Y2 (XG (["first","second"]:List ay) ([]:List ay) [] rfl (Mx aB aB rfl B.zip (X0 (vo 0) (vo 1))) (by kernel_rfl) (λ_ _ _ _ _=>(Ys (n:=2) rfl (Zt (U3 0) (Zt (U3 1) Z3)))) (λ_ _ _ _ _=>Yh) (λ_ _ _ _ _=>(Xd (vo 0) (vo 1)))))))))
abbrev Tr:bp:=X8 47
theorem sc_overfull:Zp ["heads","wanted","house","many"] ["heads","wanted"] (Zf Tr):=Wj
theorem KJ(a:Def K mg "overfull" Tr)(B:XZ mg):Tp P w K mg base:=
 LL [] a sc_overfull λb=>
  (Zd (O3 (Xe aB rfl B.enumerate (Y2 (vo 1))) (Ys (n:=2) rfl (Zt (Sj 2 sc_overfull.nd) (Zt (Sj 3 sc_overfull.nd) Z3))) (Zg (We (E4 (NO (vo 0) (vo 2)) (vo 3)) (Zg (Zy (VE.pure (vo 2)))) Yu)))
  (Zg (Zy (VE.pure Mj))))
abbrev Uj:bp:=X8 49
theorem Lf:Zp ["tie","end"] ["tie","end"] (Zf Uj):=Wj
theorem Lg(a:Def K mg "other_end" Uj)(B:XZ mg):WG P w K mg base:=
 LL [] a Lf λb=>
  (Zg (Zy (VE.pure (TQ (V6 b.units (vo 1) (Zk (vo 0) Zh)) (Zk (vo 0) Zh) (Zk (vo 0) Zh)))))
abbrev Rv:bp:=X8 48
theorem sc_way_out:Zp ["ties","heads","wanted","house","ways","found","looked","here","tie","head","there"] ["ties","heads","wanted","house"] (Zf Rv):=Wj
theorem IB(c:Def K mg "way_out" Rv)(B:XZ mg)(a:WG P w K mg base):S8 P w K mg base:=
 dk4 [4,5] c sc_way_out λb=>
  (Zd (Yk 4 sc_way_out.nd (DZ (vo 3) (J6 (XQ YL))))
  (Zd (Yk 5 sc_way_out.nd (XQ (XH (VE.pure (vo 3)) YL)))
  (Zd (Yk 6 sc_way_out.nd (VE.pure Zh))
  (Zd (W9 dt (Zgm (NO (vo 1) (Zk (vo 5) (vo 6))) (Zk (vo 2) (Zk (vo 5) (vo 6)))) (Zd (Yk 7 sc_way_out.nd (VE.pure (Zk (vo 5) (vo 6))))
  (Zd (O3 (Xe aC rfl B.enumerate (Y2 (vo 1))) (Ys (n:=2) rfl (Zt (Sj 8 sc_way_out.nd) (Zt (Sj 9 sc_way_out.nd) Z3))) (Zd (Yk 10 sc_way_out.nd (WO a b (X0 (Zk (vo 0) (vo 8)) (vo 9))))
  (Zg (We (VW.vt (Q4 (V6 b.units (vo 9) (vo 7)) (TN (Fp (QV b) (vo 10) (vo 4))))) (Zd (MA (Md (QV b) (pv 4) (vo 10) (J6 (AJ (HJ (QV b) (vo 4) (vo 7)) (XQ (XH (VE.pure (vo 8)) YL)))) rfl))
  (Zg (Xv (Y0 (VJ bV cM cN Xs (pv 5) (ZZ (VE.pure (vo 10)) Y3)))))) Yu))))
  (Zg (Ak (Zch (i:=6) sc_way_out.nd rfl (iT rfl) Zh Zci))))))
  (Zg (Zy (VE.pure (HJ (QV b) (vo 4) (Zk (vo 5) (vo 6))))))))))
abbrev Uk:bp:=X8 46
theorem sc_heads_for:Zp ["web","wanted","ties","heads","full","way","tie"] ["web","wanted"] (Zf Uk):=Wj
theorem Lh(f:Def K mg "heads_for" Uk)(B:XZ mg)(c:Ve P w K mg base)(a:Tp P w K mg base)(d:S8 P w K mg base)(b:WG P w K mg base):Ug P w K mg base:=
 LL [3] f sc_heads_for λe=>
  (Zd (Yk 2 sc_heads_for.nd (WO c e (Y2 (vo 0))))
  (Zd (WA (["tie"]:List ay) ([]:List ay) [] (i:=3) sc_heads_for.nd rfl rfl rfl (Yg (vo 2)) (by kernel_rfl) (λ_ _ _ _ _=>(U3 0)) (λ_ _ _ _ _=>Yh) (λ_ _ _ _ _=>(VE.pure (Zk (vo 0) Zh))))
  (Zd (Yk 4 sc_heads_for.nd (WO a e (X0 (vo 3) (vo 1))))
  (Zd (W9 dt (Ql (vo 4)) (Zd (Yk 5 sc_heads_for.nd (WO d e (va4 (vo 2) (vo 3) (vo 1) (vo 4))))
  (Zd (O3 (Yg (vo 5)) (Sj 6 sc_heads_for.nd) (Zg (Kj (Sy (UP b e (X0 (Zk (vo 2) (vo 6)) (Zk (vo 3) (vo 6)))) (Sx (pv 3) (vo 6) WX)))))
  (Zg (Yk 4 sc_heads_for.nd (WO a e (X0 (vo 3) (vo 1))))))))
  (Zg (TX (pv 3)))))))
abbrev XA:bp:=X8 38
theorem sc_tie_to_look_at:Zp ["ties","looked","fire","tie","ends"] ["ties","looked","fire"] (Zf XA):=Wj
theorem Sn(b:Def K mg "tie_to_look_at" XA)(B:XZ mg):Xy P w K mg base:=
 FN [] b sc_tie_to_look_at λa=>
  (Zd (O3 (Xe aC rfl B.enumerate (Y2 (vo 0))) (Ys (n:=2) rfl (Zt (Sj 3 sc_tie_to_look_at.nd) (Zt (Sj 4 sc_tie_to_look_at.nd) Z3))) (Zg (We (VW.vt (Q4 (Ph a.units (vo 3) (vo 1)) (TN (RI a.units (Zbj a.units (Zk (vo 4) Zh) (vo 2)) (Zbj a.units (Zk (vo 4) Zh) (vo 2)))))) (Zg (Zy (VE.pure (vo 3)))) Yu)))
  (Zg (Zy (VE.pure Mj))))
abbrev Og:bp:=X8 37
theorem sc_walked:Zp ["web","base","burns","ties","fire","looked","burning","tie","house","seen"] ["web","base","burns"] (Zf Og):=Wj
theorem FV(d:Def K mg "walked" Og)(B:XZ mg)(b:Ve P w K mg base)(a:Xy P w K mg base):P5 P w K mg base:=
 FN [4,5,6] d sc_walked λc=>
  (Zd (Yk 3 sc_walked.nd (WO b c (Y2 (vo 0))))
  (Zd (Yk 4 sc_walked.nd (XQ (XH (VE.pure (vo 1)) YL)))
  (Zd (Yk 5 sc_walked.nd (XQ YL))
  (Zd (Yk 6 sc_walked.nd (XQ YL))
  (Zd (Yk 7 sc_walked.nd (WO a c (Tx (vo 3) (vo 5) (vo 4))))
  (Zd (W9 dt (Ql (vo 7)) (Zd (Xv (Y0 (VJ bV cM cN Xs (pv 5) (ZZ (VE.pure (vo 7)) Y3))))
  (Zd (Yk 8 sc_walked.nd (VE.pure (TQ (Dm c.units (Zk (Zk (vo 3) (vo 7)) Zh) (vo 4)) (Zk (Zk (vo 3) (vo 7)) Zh) (Zk (Zk (vo 3) (vo 7)) Zh))))
  (Zd (Yk 9 sc_walked.nd (VE.pure (UQ B.len (vcq "other" ["house","ties"] [8,3] (Yg (vo 5)) (Vs (Dm c.units (vo 1) (SO (Zk (vo 2) (vo 0)) Wx (Wy Zh)))) (vo 0)))))
  (Zd (We (E6 (VM.ve (Zd8 2 rfl (iT rfl) (AO B) (c.mono (by decide)) (Tx (vo 7) (vo 8) (vo 9))))) (Zd (Xv (Y0 (VJ bV cM cN Xs (pv 4) (ZZ (VE.pure (vo 8)) Y3))))
  (Zg (Xv (Y0 (VJ bV cM cN Xs (pv 6) (ZZ (VE.pure (Xu (Tx (vo 7) (vo 8) (vo 9)))) Y3)))))) Yu)
  (Zg (Yk 7 sc_walked.nd (WO a c (Tx (vo 3) (vo 5) (vo 4))))))))))
  (Zg (TX (pv 6)))))))))
abbrev Rw:bp:=X8 36
theorem IC:Zp ["web","base","burns"] ["web","base","burns"] (Zf Rw):=Wj
theorem ID(b:Def K mg "tree_by" Rw)(B:XZ mg)(a:P5 P w K mg base):S9 P w K mg base:=
 FN [] b IC λc=>
  (Zg (Zy (VE.pure (ZK Zv ZV rfl B.tuple (by decide +kernel) (Y2 (VM.ve (vmb MK J0 B.sorted (Y2 (Cg "burnt_by" [] [] (Yg (UP a c (Tx (vo 0) (vo 1) (vo 2)))) (Zk (vo 0) Zh))))))))))
abbrev Oh:bp:=X8 14
theorem FW:Zp ["web","house"] ["web","house"] (Zf Oh):=Wj
theorem FX(a:Def K mg "one_at" Oh)(B:XZ mg):P6 P w K mg base:=
 LL [] a FW λb=>
  (Zg (Zy (VE.pure (ZK Zv ZV rfl B.tuple (by decide +kernel) (Y2 (Cg "other" ["house"] [1] (KG B.range (UQ B.len (vo 0))) (TQ (V6 b.units (vo 0) (vo 1)) Zh Zh)))))))
abbrev Rx:bp:=X8 45
theorem sc_made_of:Zp ["web","purse","wanted","heads","tree"] ["web","purse"] (Zf Rx):=Wj
theorem IE(h:Def K mg "made_of" Rx)(B:XZ mg)(c:Cst mg "BASE" 0)(e:Qz P w K mg base)(d:P6 P w K mg base)(f:PZ P w K mg base)(a:Ug P w K mg base)(b:S9 P w K mg base):Ra P w K mg base:=
 LL [] h sc_made_of λg=>
  (Zd (Yk 2 sc_made_of.nd (WO e g (X0 (UP f g (X0 (vo 1) (Wc Ar As (Xu (Y2 Zh)) (UQ B.len (vo 0))))) (UP d g (X0 (vo 0) (J2 rfl c))))))
  (Zd (Yk 3 sc_made_of.nd (VE.pure (J6 (WO a g (X0 (vo 0) (vo 2))))))
  (Zd (Yk 4 sc_made_of.nd (Cc (q:="made_of") (L:=YQ) (i:=3) rfl rfl rfl b (g.mono (by decide)) rfl rfl rfl rfl (vo 0) (J2 rfl c) (Option.some_ne_none _) rfl (by decide) rfl rfl ⟨_,rfl,rfl⟩ rfl rfl rfl rfl))
  (Zg (Zy (VE.pure (Xu (X0 (vo 4) (ZK Zv ZV rfl B.tuple (by decide +kernel) (Y2 (XG (["tie","head"]:List ay) (["tree"]:List ay) [4] rfl (Xe aC rfl B.enumerate (Y2 (vo 3))) (by kernel_rfl) (λ_ _ _ _ _=>(Ys (n:=2) rfl (Zt (U3 0) (Zt (U3 1) Z3)))) (λ_ _ _ _ _=>(Vs (Ph g.units (vo 0) (vo 2)))) (λ_ _ _ _ _=>(vo 1)))))))))))))
abbrev Oi:bp:=X8 44
theorem FY:Zp ["web"] ["web"] (Zf Oi):=Wj
theorem FZ(b:Def K mg "middle" Oi)(B:XZ mg)(a:UR P w K mg base):P7 P w K mg base:=
 Es [] b FY λc=>
  (Zg (Zy (VE.pure (ZK Zv ZV rfl B.tuple (by decide +kernel) (Y2 (Cg "house" ["web"] [0] (KG B.range (UQ B.len (vo 0))) (Xd (X2 (UP a c (X0 (vo 1) (vo 0))) Zh) Zh)))))))
abbrev Oj:bp:=X8 43
theorem sc_broken:Zp ["web","purse","script","near","houses","step","made"] ["web","purse"] (Zf Oj):=Wj
theorem F0(m:Def K mg "broken" Oj)(B:XZ mg)(k:Cst mg "BASE" 0)(b:Wl P w K mg base)(d:US P w K mg base)(h:Qz P w K mg base)(f:P7 P w K mg base)(j:Gk P w K mg base)(a:XW P w K mg base)(c:WE P w K mg base)(l:PZ P w K mg base)(e:Ra P w K mg base)(i:Qy P w K mg base):P8 P w K mg base:=
 LL [] m sc_broken λg=>
  (Zd (Zgu (UP b g (X0 (vo 0) (vo 1))))
  (Zd (Yk 2 sc_broken.nd (WO d g (Tx (vo 0) (UP h g (X0 (vo 1) (UP f g (Y2 (vo 0))))) (J2 rfl k))))
  (Zd (Yk 3 sc_broken.nd (WO j g (Tx (vo 0) (vo 1) (vo 2))))
  (Zd (Yk 4 sc_broken.nd (WO a g (X0 (vo 0) (vo 3))))
  (Zd (W9 dt (Ql (vo 4)) (Zd (Yk 5 sc_broken.nd (WO c g (X0 (vo 0) (vo 4))))
  (Zd (Yk 2 sc_broken.nd (WO l g (X0 (vo 2) (vo 5))))
  (Zd (Yk 3 sc_broken.nd (WO j g (Tx (vo 0) (vo 3) (vo 5))))
  (Zg (Yk 4 sc_broken.nd (WO a g (X0 (vo 0) (vo 3)))))))))
  (Zd (Yk 6 sc_broken.nd (WO e g (X0 (vo 0) (vo 3))))
  (Zg (Zy (VE.pure (Xu (va4 (UP i g (Y2 (vo 2))) (vo 3) (Zk (vo 6) Zh) (Zk (vo 6) Zh))))))))))))
abbrev Cu:bp:=X8 62
theorem sc_law:Zp ["_law_script","_law_web_here","_law_base","_law_purses","_law_known","_law_purse","_law_found"] ["_law_script"] (Zf Cu):=Wj
theorem Zed{l:aL}{m:eJ}(n:Fun K "law" "law" Cu l m)(B:XZ mg)(h:MX P w K mg base)(c:Sk P w K mg base)(i:MW P w K mg base)(g:MY P w K mg base)(a:Vz P w K mg base)(f:P0 P w K mg base)(b:To P w K mg base)(e:P8 P w K mg base):RW P w K mg base L5 6 l m (["_law_script"]:List ay) (YX K D_law 1):=
 Zdw (O:=[4]) (k:=5) 7 Zbp n sc_law rfl rfl (by decide) (λp o A j s H E d=>
  (Zd (Yk 1 sc_law.nd (WO h d (Tx (vo 0) (Ms (Vo Zh (va4 Zh Zh Zh Zh))) Zh)))
  (Zd (Yk 2 sc_law.nd (WO c d (Tx (UP i d (X0 (vo 0) Zh)) Zh (UQ B.len (vo 1)))))
  (Zd (Yk 3 sc_law.nd (WO g d (Y2 (vo 1))))
  (Zd (We (RI d.units (UP a d (Y2 (vo 1))) (UQ B.len (vo 3))) (Zg (Zy (VE.pure RH))) Yu)
  (Zd (Yk 4 sc_law.nd Kd)
  (Zd (O3 (Yg (vo 3)) (Sj 5 sc_law.nd) (Zd (Yk 6 sc_law.nd (WO f d (Tx (vo 1) (vo 5) (vo 2))))
  (Zd (We (VW.vt (Kb (JI (Q3 (vb Wv Qn B.isinstance (X0 (vo 6) (HB rfl B.tuple (by decide +kernel)))))) (Kb (RI d.units (UQ B.len (vo 6)) Zh) (Mo (JI (Q3 (UP b d (X0 (Zk (vo 6) Zh) (UQ B.len (vo 1)))))))))) (Zg (Zy (VE.pure RH))) Yu)
  (Zd (We (VW.vt (Kb (Zdv (QV d) (Zk (vo 6) Zh) (vo 4)) (Mo (RI d.units (Zk (UP e d (X0 (vo 1) (Zk (vo 6) Zh))) Zh) (vo 5))))) (Zg (Zy (VE.pure RH))) Yu)
  (Zg (MA (Md (QV d) (pv 4) (Zk (vo 6) Zh) RH rfl)))))))
  (Zg (Zy (VE.pure RH))))))))))
end
end PW
namespace PW
open L2 VL
theorem Ol{W:List (List Int)}{h:Nat}(a:h<W.length):X6 [wP W,.int (h:Int)]=ax (.int (Zw W h).sum):=by simp[X6,SU,YG,ZH,T2 a]
theorem Cv(l:List Int):Qu [pP l]=ax (.int l.sum):=by simp[Qu,HV,YG,ZH]
theorem Cw(i:Int):Vc [.int i]=ax (.bl aC):=by simp[Vc,NH,YG,ZH]
noncomputable def Qe(a b:List Int):List Int:=(aD a.length).map λi=>Zq a i+Zq b i
noncomputable def Om(a b:List Int):List Int:=(aD a.length).map λi=>Zq a i-Zq b i
theorem Li{a b:List Int}(h:b.length=a.length)(f:a.length<=1000):WM [pP a,pP b]=ax (pP (Qe a b)):=by
 have d:SN (iL a) (iL b)=(aD a.length).map λi=>.tup [.int (Zq a i),.int (Zq b i)]:=by rw[Vu _ _ (by simpa using h),aK];apply ar;intro i c;have c:=aY.mp c;rw[Xk a i c,Xk b i (by omega)]
 have e:Zu 2 [] (OX aB aB [Za 0,Za 1]) (.many [0,1]) ZF (Zl Yt (Za 0) (Za 1)) [ax (pP a),ax (pP b)]=ax (.lst (iL (Qe a b))):=by rw[ZM (aD a.length) (λi=>.tup [.int (Zq a i),.int (Zq b i)]) (λi=>.int (Zq a i+Zq b i)) (by simp[d]) (by simp;omega) (λi _=>⟨_,rfl,rfl,by simp[setAll,ZG]⟩)];simp[Qe]
 simp[WM,DF,YG,ZH,e]
theorem KN{a b:List Int}(h:b.length=a.length)(f:a.length<=1000):Sa [pP a,pP b]=ax (pP (Om a b)):=by
 have d:SN (iL a) (iL b)=(aD a.length).map λi=>.tup [.int (Zq a i),.int (Zq b i)]:=by rw[Vu _ _ (by simpa using h),aK];apply ar;intro i c;have c:=aY.mp c;rw[Xk a i c,Xk b i (by omega)]
 have e:Zu 2 [] (OX aB aB [Za 0,Za 1]) (.many [0,1]) ZF (Zl W3 (Za 0) (Za 1)) [ax (pP a),ax (pP b)]=ax (.lst (iL (Om a b))):=by rw[ZM (aD a.length) (λi=>.tup [.int (Zq a i),.int (Zq b i)]) (λi=>.int (Zq a i-Zq b i)) (by simp[d]) (by simp;omega) (λi _=>⟨_,rfl,rfl,by simp[setAll,ZG]⟩)];simp[Om]
 simp[Sa,HW,YG,ZH,e]
theorem QA(l:List Int):Y5 (iL l)=(aD l.length).map λ(i:Nat)=>.tup [.int (i:Int),.int (Zq l i)]:=by rw[YJ,aK];apply ar;intro i a;rw[Xk l i (aY.mp a)]
noncomputable def Vf(W:List (List Int))(S:List Int)(h:Nat):Int:=((aD W.length).map λi=>Zz W h i*(Zq S i-Zq S h)).sum
theorem AX{W:List (List Int)}{S:List Int}{h:Nat}(ok:ZA W)(b:h<W.length)(l:S.length=W.length):Pp [wP W,pP S,.int (h:Int)]=ax (.int (Vf W S h)):=by
 have d:=ok.sq h b;have g:=ok.few
 have f:Zu 2 [1,2] (YV aB [Zl ZW (Za 0) (Za 2)]) (.many [0,1]) ZF (Zl Ml (Za 1) (Zl W3 (Zl ZW (Za 2) (Za 0)) (Zl ZW (Za 2) (Za 3)))) [ax (wP W),ax (pP S),ax (.int (h:Int))]=ax (.lst (iL ((aD W.length).map λi=>Zz W h i*(Zq S i-Zq S h)))):=by
  rw[ZM (aD W.length) (λi=>.tup [.int (i:Int),.int (Zz W h i)]) (λi=>.int (Zz W h i*(Zq S i-Zq S h))) (by simp[T2 b,QA,d];intro a _;rfl) (by simp;omega) (λi c=>?_)]
  ·simp
  ·have c:=aY.mp c;refine⟨_,rfl,rfl,?_⟩;have b1:=ok.lo h i b c;have k:=ok.hi h i b c;have e:∀j,CMul (Zz W h i) j:=λj=>Zd1 (by omega) (by omega);simp[setAll,ZG,Xi (show i<S.length by omega),Xi (show h<S.length by omega),e]
 simp[Pp,DE,YG,ZH,f,Vf,-bh]
noncomputable def ZR(W:List (List Int))(D S:List Int):List Int:=(aD D.length).map λh=>Zq D h+Vf W S h
theorem Lj{W:List (List Int)}{D S:List Int}(ok:ZA W)(hd:D.length=W.length)(c:S.length=W.length):Vb [wP W,pP D,pP S]=ax (pP (ZR W D S)):=by
 have d:=ok.few
 have b:Zu 2 [0,2] (YV aB [Za 1]) (.many [0,1]) ZF (Zl Yt (Za 1) (Ze Pp [Za 2,Za 3,Za 0])) [ax (wP W),ax (pP D),ax (pP S)]=ax (.lst (iL (ZR W D S))):=by
  rw[ZM (aD D.length) (λi=>.tup [.int (i:Int),.int (Zq D i)]) (λh=>.int (Zq D h+Vf W S h)) (by simp[QA]) (by simp;omega) (λi a=>?_)]
  ·simp[ZR]
  ·have a:=aY.mp a;refine⟨_,rfl,rfl,?_⟩;simp[setAll,ZG,AX ok (show i<W.length by omega) c]
 simp[Vb,Zbm,YG,ZH,b]
noncomputable def Xo(W:List (List Int))(a b:Nat):List (List Int):=(aD (Zz W a b).toNat).map λ(t:Nat)=>[(a:Int),(b:Int),(t:Int)]
noncomputable def VQ(W:List (List Int))(a:Nat):List (List Int):=(aD (W.length-(a+1))).flatMap λj=>Xo W a (a+1+j)
noncomputable def Z8(W:List (List Int)):List (List Int):=(aD W.length).flatMap (VQ W)
theorem Vg{a:Type}(f:Nat->List a)(i:Nat):(aD (i+1)).flatMap f=(aD i).flatMap f++f i:=by rw[ee];simp
theorem IF{W:List (List Int)}(ok:ZA W){a b:Nat}(c:a<W.length)(d:b<W.length):(Xo W a b).length<=9:=by have:=ok.hi a b c d;unfold Xo;simp;omega
theorem F1{W:List (List Int)}(ok:ZA W){a b:Nat}(c:a<W.length)(d:b<W.length)(t:Option PV):Zu 1 [2,4] (Z1 [Zl ZW (Za 3) (Za 4)]) (.one 0) ZF (eP (Wd [Za 1,Za 2,Za 0])) [ax (wP W),t,ax (.int (a:Int)),ax (pP (Zw W a)),ax (.int (b:Int))]=ax (.lst ((Xo W a b).map pP)):=by
 have e:=ok.sq a c;have b1:=ok.lo a b c d;have f:=ok.hi a b c d;rw[ZM (aD (Zz W a b).toNat) (λi=>.int (i:Int)) (λt=>pP [(a:Int),(b:Int),(t:Int)]) ?_ (by simp;omega) (λi g=>⟨_,rfl,rfl,by simp[ZG]⟩)]
 ·simp[Xo]
 ·exact Y6 (by simp[Xi (show b<(Zw W a).length by omega)];show Zz W a b=max (Zz W a b) 0;omega) (by omega)
theorem IG{W:List (List Int)}(ok:ZA W){a:Nat}(i:a<W.length)(b:List (List Int))(h:b.length<=1000)(d:Option PV) :
  ∃c,W8 (.one 4) (Wz 1 (Zu 1 [2,4] (Z1 [Zl ZW (Za 3) (Za 4)]) (.one 0) ZF (eP (Wd [Za 1,Za 2,Za 0])))) (Te ((a:Int)+1) (W.length-(a+1))) [ax (wP W),ax (.lst (b.map pP)),ax (.int (a:Int)),ax (pP (Zw W a)),d]
   = ax (.nx [ax (wP W),ax (.lst ((b++VQ W a).map pP)),ax (.int (a:Int)),ax (pP (Zw W a)),c])/\(VQ W a).length<=63:=by
 have u:=ok.few
 obtain⟨w,k,c,f,p⟩:=T5 (T:=.one 4) (fb:=Wz 1 (Zu 1 [2,4] (Z1 [Zl ZW (Za 3) (Za 4)]) (.one 0) ZF (eP (Wd [Za 1,Za 2,Za 0])))) (ls:=Te ((a:Int)+1) (W.length-(a+1))) (s:=[ax (wP W),ax (.lst (b.map pP)),ax (.int (a:Int)),ax (pP (Zw W a)),d])
  (λj st=>∃c,st=[ax (wP W),ax (.lst ((b++(aD j).flatMap λj=>Xo W a (a+1+j)).map pP)),ax (.int (a:Int)),ax (pP (Zw W a)),c]/\((aD j).flatMap λj=>Xo W a (a+1+j)).length<=9*j)
  ⟨d,by simp,by simp⟩ (λj l st n m=>by
   obtain⟨v,rfl⟩:=Kn n;obtain⟨c,rfl,g⟩:=m;have e:a+1+j<W.length:=by omega
   have o:=F1 ok i e (ax (.lst ((b++(aD j).flatMap λj=>Xo W a (a+1+j)).map pP)));have q:=IF ok i e;have t:(b.length+((aD j).flatMap λj=>Xo W a (a+1+j)).length)+(Xo W a (a+1+j)).length<=10000:=by omega
   refine⟨_,_,rfl,?_,ax (.int ((a+1+j:Nat):Int)),rfl,?_⟩
   ·refine(JY o rfl (by rw[aK,aK,aj];exact t)).trans ?_;simp[Vg]
   ·rw[Vg,aj];omega)
 rw[Ko] at f p;refine⟨c,?_,?_⟩
 ·rw[k,f];rfl
 ·have:VQ W a=(aD (W.length-(a+1))).flatMap λj=>Xo W a (a+1+j):=rfl;rw[this];omega
theorem VD{W:List (List Int)}(ok:ZA W):Va [wP W]=ax (.lst ((Z8 W).map pP))/\(Z8 W).length<=441:=by
 have p:=ok.few;have a:Y5 (W.map pP)=(aD W.length).map λi=>.tup [.int (i:Int),pP (Zw W i)]:=by rw[YJ,aK];apply ar;intro i b;rw[DB W i (aY.mp b)]
 obtain⟨q,f,x,y,z,d,o⟩:=T5 (T:=.many [2,3]) (fb:=YF [1] (W5 [Zl Yt (Za 2) (eC (.int 1)),Ze ZQ [Za 0]]) (.one 4) (Wz 1 (Zu 1 [2,4] (Z1 [Zl ZW (Za 3) (Za 4)]) (.one 0) ZF (eP (Wd [Za 1,Za 2,Za 0]))))) (s:=[ax (wP W),ax (.lst []),aA,aA,aA])
  (λi st=>∃x y z,st=[ax (wP W),ax (.lst (((aD i).flatMap (VQ W)).map pP)),x,y,z]/\((aD i).flatMap (VQ W)).length<=63*i)
  ⟨aA,aA,aA,by simp,by simp⟩ (λi l st c k=>by
   obtain⟨x,y,z,rfl,e⟩:=k;have b:i<W.length:=by have:=(aO.mp c).1;rw[X5,aK] at this;exact this
   rw[a,aW,br b] at c;cases c;obtain⟨m,g,t⟩:=IG ok b ((aD i).flatMap (VQ W)) (by omega) z;refine⟨_,_,rfl,?_,ax (.int (i:Int)),ax (pP (Zw W i)),m,rfl,?_⟩
   ·have h:W5 [Zl Yt (Za 2) (eC (.int 1)),Ze ZQ [Za 0]] (Xg [1] [ax (wP W),ax (.lst (((aD i).flatMap (VQ W)).map pP)),ax (.int (i:Int)),ax (pP (Zw W i)),z])=ax (Te ((i:Int)+1) (W.length-(i+1))):=by rw[NF (i:=(i:Int)+1) (j:=(W.length:Int)) rfl (by simp[Xg]) ⟨by omega,by omega⟩ ⟨by omega,by omega⟩];congr 2;omega
    show YF _ _ _ _ [ax (wP W),_,ax (.int (i:Int)),ax (pP (Zw W i)),z]=_;rw[DC,h];simp only[aZ];rw[g,Vg]
   ·rw[Vg,aj];omega)
 rw[X5,aK] at d o;refine⟨?_,by have:Z8 W=(aD W.length).flatMap (VQ W):=rfl;rw[this];omega⟩;have n:YG 5 SV [wP W]=ax (.lst ((Z8 W).map pP)):=by unfold SV;simp only[YG,Pj,YI,Dr,HN,cS,aZ];show((W8 _ _ (Y5 (W.map pP)) [ax (wP W),ax (.lst []),aA,aA,aA]).bind _).bind Tf=_;rw[f,d];rfl
 exact n
theorem Cy{W:List (List Int)}(ok:ZA W):T9 [wP W]=ax (.int (((Z8 W).length:Int)-(W.length:Int)+1)):=by simp[T9,HU,YG,ZH,(VD ok).1]
noncomputable def tk(e:Tie):List Yp:=[.inl (e.1:Int),.inl (e.2.1:Int)]
theorem KO{i:Nat}{b fv:XE}{s:ZE}{d k v a:PV}(f:fv s=ax v)(c:b s=ax k)(hd:(s[i]?).join=ax d)(e:An d k v=ax a):VL.sDPut i b fv s=ax (.nx (s.set i (ax a))):=by unfold VL.sDPut;rw[f,c];simp only[aZ,hd,e,cS]
noncomputable def VY(W:List (List Int)):Prop:=∀P:Nat->Prop,(∀a b,a<W.length->b<W.length->0<Zz W a b->(P a↔P b))->∀i j,i<W.length->j<W.length->(P i↔P j)
theorem Oo:∀{l m:List Int},l.Nodup->(∀x∈l,x∈m)->l.length<=m.length
 | [],m,_,_=>dH _
 | x::r,m,nd,h=>by have c:x∈m:=h x (by simp);have a:=av.mp nd;have:=Oo (l:=r) (m:=m.erase x) a.2 λy b=>(ju (show y≠x from λz=>a.1 (by rw[<-z];exact b))).mpr (h y (by simp[b]));rw[i5 c] at this;have d:=List.length_pos_of_mem c;rw[bM];omega
theorem O7{n:Nat}{l:List Int}(d:l.Nodup)(h:∀x∈l,∃k:Nat,k<n/\x=(k:Int))(e:l.length=n){j:Nat}(b:j<n):(j:Int)∈l:=by
 by_cases q:(j:Int)∈l
 ·exact q
 ·have:=Oo (av.mpr ⟨q,d⟩) (λx a=>by
   rcases aa.mp a with rfl | a
   ·exact bR.mpr ⟨j,aY.mpr b,rfl⟩
   ·obtain⟨k,c,rfl⟩:=h x a;exact bR.mpr ⟨k,aY.mpr c,rfl⟩)
  rw[bM,aK,bw] at this;omega
noncomputable def rL(M:List (List Int)):List PV:=M.map λr=>.lst (iL r)
theorem IH{M:List (List Int)}{a:Nat}(h:a<M.length):(rL M)[a]?=ax (.lst (iL (Zw M a))):=by unfold rL;rw[aW,Q0 h];rfl
theorem Cz{M:List (List Int)}{a b:Nat}{t:Int}:(rL M).set a (.lst ((iL (Zw M a)).set b (.int t)))=rL (SK M a b t):=by unfold rL SK;rw[jU];show _=(List.map (λr=>PV.lst (iL r)) M).set a (PV.lst (((Zw M a).set b t).map PV.int));rw[jU]
theorem Zee(l:List Int)(k:Nat)(x:Int):(iL l).take k++PV.int x::(iL l).drop k=iL (l.take k++x::l.drop k):=by simp
theorem Zbq(b:Bool)(a:Int)(l:List Int):Qp b (.int a) (.lst (iL l))=ax (.bl (if b then !decide (a∈l) else decide (a∈l))):=by
 have c:((iL l).all λz=>Vq 8 z (.int a))=aC:=by rw[jR,au];intro x _;rfl
 show(ax (iL l)).bind _=_;simp only[aZ,m7 c]
 have:decide (PV.int a∈iL l)=decide (a∈l):=decide_eq_decide.mpr (by
  rw[bR];constructor
  ·rintro⟨x,d,e⟩;cases e;exact d
  ·intro h;exact⟨a,h,rfl⟩)
 rw[this]
theorem U4{f g:XS}{s s1:ZE}(a:f s=ax (.nx s1)):Zn f g s=g s1:=by simp only[Pj,a,aZ]
theorem Vh(a b:List Int):(Qe a b).length=a.length:=by simp[Qe]
theorem KP(a b:List Int):(Om a b).length=a.length:=by simp[Om]
theorem YZ(W:List (List Int))(D S:List Int):(ZR W D S).length=D.length:=by simp[ZR]
theorem So{a b:List Int}{i:Nat}(h:i<a.length):Zq (Qe a b) i=Zq a i+Zq b i:=ZN h
theorem KQ{a b:List Int}{i:Nat}(h:i<a.length):Zq (Om a b) i=Zq a i-Zq b i:=ZN h
theorem Sq{W:List (List Int)}{a b:List Int}{i:Nat}(h:i<a.length):Zq (ZR W a b) i=Zq a i+Vf W b i:=ZN h
theorem Sr{a b:List Int}(c:a.length=b.length)(h:∀i,i<a.length->Zq a i=Zq b i):a=b:=by rw[<-SJ a,<-SJ b,c];apply ar;intro i d;exact h i (by rw[c];exact aY.mp d)
theorem QB{W:List (List Int)}(ok:ZA W){i:Nat}(a:i<W.length):(Zw W i).sum=((aD W.length).map λj=>Zz W i j).sum:=by rw[<-Mi (Zw W i),ok.sq i a];rfl
theorem II{W:List (List Int)}(ok:ZA W):((Z8 W).length:Int)=((aD W.length).map λa=>((aD (W.length-(a+1))).map λj=>Zz W a (a+1+j)).sum).sum:=by
 have b:∀(f:Nat->List (List Int))(n:Nat),(((aD n).flatMap f).length:Int)=((aD n).map λi=>((f i).length:Int)).sum:=by
  intro f n
  induction n with
  | zero=>rfl
  | succ n ih=>rw[Vg,aj,ZU];omega
 unfold Z8;rw[b];apply Ya;intro a c;unfold VQ;rw[b];apply Ya;intro j d;have:=ok.lo a (a+1+j) c (by omega);unfold Xo;rw[aK,bw];omega
theorem KR{W:List (List Int)}(ok:ZA W):((aD W.length).map λi=>(Zw W i).sum).sum=2*((Z8 W).length:Int):=by rw[II ok,<-EV (λi j=>Zz W i j) W.length (λi j a b=>ok.sym i j a b) (λi a=>ok.dia i a)];apply Ya;intro i a;exact QB ok a
theorem UU{n m:Nat}{c:List Nat}{e:XL}{b:XT}{d:XE}{s:ZE}(g:Nat->Int)(a:e s=ax (Mv m))(j:m<=1000)(h:∀i:Nat,i<m->∃s1,Xf (.one 0) (.int (i:Int)) (ZG n c s)=ax s1/\b s1=ax aC/\d s1=ax (.int (g i))) :
  Zu n c e (.one 0) b d s=ax (.lst (iL ((aD m).map g))):=by
 rw[ZM (aD m) (λi=>.int (i:Int)) (λi=>.int (g i)) a (by simp;omega) (λi f=>h i (aY.mp f))];simp
theorem Oq(f g:Nat->Int)(n:Nat):((aD n).map λi=>f i+g i).sum=((aD n).map f).sum+((aD n).map g).sum:=by
 induction n with
 | zero=>rfl
 | succ n ih=>rw[ZU,ZU,ZU,ih];omega
theorem CA(f:Nat->Nat->Int)(n m:Nat):((aD n).map λi=>((aD m).map λj=>f i j).sum).sum=((aD m).map λj=>((aD n).map λi=>f i j).sum).sum:=by
 induction n with
 | zero=>
  have:((aD m).map λj=>((aD 0).map λi=>f i j).sum).sum=0:=by have:=Fe 0 m;simpa using this
  rw[this];rfl
 | succ n ih=>
  rw[ZU,ih,<-Oq];apply Ya;intro j _;rw[ZU]
theorem F2{W:List (List Int)}{S U T:List Int}{h:Nat}(e:∀i,i<W.length->Zq T i=Zq S i+Zq U i)(a:h<W.length):Vf W T h=Vf W S h+Vf W U h:=by unfold Vf;rw[<-Oq];apply Ya;intro i b;rw[e i b,e h a,<-gZ];congr 1;omega
theorem AY{W:List (List Int)}{D S U T:List Int}(hd:D.length=W.length)(e:∀i,i<W.length->Zq T i=Zq S i+Zq U i):ZR W (ZR W D S) U=ZR W D T:=Sr (by simp[YZ]) λi a=>by rw[YZ,YZ] at a;rw[Sq (by rw[YZ];exact a),Sq a,Sq a,F2 e (by omega)];omega
theorem CB{W:List (List Int)}(ok:ZA W)(S:List Int):((aD W.length).map λh=>Vf W S h).sum=0:=by
 have c:((aD W.length).map λh=>Vf W S h).sum=((aD W.length).map λi=>((aD W.length).map λj=>Zz W i j*Zq S j).sum).sum-((aD W.length).map λi=>((aD W.length).map λj=>Zz W i j*Zq S i).sum).sum:=by rw[<-Ht];apply Ya;intro i _;rw[<-Ht];apply Ya;intro j _;rw[iR]
 have b:((aD W.length).map λi=>((aD W.length).map λj=>Zz W i j*Zq S i).sum).sum=((aD W.length).map λi=>((aD W.length).map λj=>Zz W i j*Zq S j).sum).sum:=by rw[CA];apply Ya;intro i d;apply Ya;intro j a;rw[ok.sym j i a d]
 rw[c,b];omega
theorem QC{W:List (List Int)}{D S:List Int}(ok:ZA W)(hd:D.length=W.length):(ZR W D S).sum=D.sum:=by unfold ZR;rw[Oq,Mi,hd,CB ok,gs]
theorem nth_set{l:List Int}{h i:Nat}{v:Int}(a:i<l.length):Zq (l.set h v) i=if i=h then v else Zq l i:=by
 unfold Zq;rw[aG,aG,bQ];by_cases e:h=i
 ·subst e;rw[m7 rfl,m7 rfl,m7 a];rfl
 ·rw[m9 e,m9 (bO e)]
theorem CC(l:List Int)(k:Nat):W6 (iL l) aA (ax (k:Int))=iL (l.take k):=by
 unfold W6;rw[HT.sIx_none,HT.sIx_nat,aK,mI,Nat.sub_zero,<-mO];congr 1;by_cases h:k<=l.length
 ·rw[dq h]
 ·rw[ip (by omega),b9 (aX _),b9 (by omega)]
theorem CD(l:List Int)(k:Nat):W6 (iL l) (ax (k:Int)) aA=iL (l.drop k):=by
 unfold W6;rw[HT.sIx_none,HT.sIx_nat,aK,<-kK];congr 1;by_cases h:k<=l.length
 ·rw[dq h,b9 (by simp)]
 ·rw[ip (by omega),gF (aX _),gF (by omega)];simp
theorem AZ{l:List Int}{x:Int}(h:x∈l):∃i,i<l.length/\Zq l i=x:=by obtain⟨i,a,e⟩:=dE h;refine⟨i,a,?_⟩;unfold Zq;rw[aG,aH a,e];rfl
noncomputable def Ts(l:List Int):List Int:=(aD l.length).map λi=>Zq l i-Vv l
end PW
namespace PW
noncomputable def sN:Nat->(Nat->Int)->Int
 | 0,_=>0
 | n+1,f=>sN n f+f n
theorem Zj{f g:Nat->Int}:∀{n:Nat},(∀i,i<n->f i=g i)->sN n f=sN n g
 | 0,_=>rfl
 | n+1,h=>by show sN n f+f n=sN n g+g n;rw[Zj λi a=>h i (by omega),h n (by omega)]
theorem YT{f:Nat->Int}{n:Nat}(h:∀i,i<n->f i=0):sN n f=0:=by
 rw[Zj h];clear h
 induction n with
 | zero=>rfl
 | succ n ih=>show sN n _+0=0;rw[ih];rfl
theorem ZT(f g:Nat->Int):∀n,sN n (λi=>f i+g i)=sN n f+sN n g
 | 0=>rfl
 | n+1=>by show sN n _+(f n+g n)=(sN n f+f n)+(sN n g+g n);rw[ZT f g n];omega
theorem ZY(c:Int)(f:Nat->Int):∀n,sN n (λi=>c*f i)=c*sN n f
 | 0=>by show(0:Int)=c*0;simp
 | n+1=>by show sN n _+c*f n=c*(sN n f+f n);rw[ZY c f n,gZ]
theorem UW(f:Nat->Nat->Int)(m:Nat):∀n,sN n (λi=>sN m (f i))=sN m (λj=>sN n λi=>f i j)
 | 0=>by show(0:Int)=sN m λ_=>0;rw[YT (λ_ _=>rfl)]
 | n+1=>by show sN n (λi=>sN m (f i))+sN m (f n)=sN m (λj=>(sN n λi=>f i j)+f n j);rw[ZT,UW f m n]
theorem Ym{f:Nat->Int}{k:Nat}:∀{n:Nat},k<n->(∀i,i<n->i≠k->f i=0)->sN n f=f k
 | 0,h,_=>by omega
 | n+1,h,z=>by
  show sN n f+f n=f k;by_cases q:k=n
  ·subst q;rw[YT λi a=>z i (by omega) (by omega)];omega
  ·rw[Ym (n:=n) (by omega) λi a=>z i (by omega),z n (by omega) (by omega)];omega
theorem CF{f:Nat->Int}{k:Nat}:∀{n:Nat},k+1<n->(∀i,i<n->i≠k->i≠k+1->f i=0)->sN n f=f k+f (k+1)
 | 0,h,_=>by omega
 | n+1,h,z=>by
  show sN n f+f n=_;by_cases q:k+1=n
  ·subst q;rw[Ym (k:=k) (by omega) λi b a=>z i (by omega) a (by omega)]
  ·rw[CF (n:=n) (by omega) λi b=>z i (by omega),z n (by omega) (by omega) (by omega)];omega
theorem X4(f:Nat->Int)(n:Nat):((aD n).map f).sum=sN n f:=by
 induction n with
 | zero=>rfl
 | succ n ih=>rw[ee,bP,e9,ih];simp[sN]
abbrev Mt:=Nat->Nat->Int
noncomputable def Qf(i:Nat)(A:Mt):Mt:=λr c=>A (if r<i then r else r+1) (c+1)
noncomputable def sg:Nat->Int
 | 0=>1
 | n+1=>- sg n
noncomputable def Wo:Nat->Mt->Int
 | 0,_=>1
 | n+1,A=>sN (n+1) λi=>sg i*A i 0*Wo n (Qf i A)
theorem XI(n:Nat)(A:Mt):Wo (n+1) A=sN (n+1) λi=>sg i*A i 0*Wo n (Qf i A):=rfl
theorem X9:∀{n:Nat}{A B:Mt},(∀r c,r<n->c<n->A r c=B r c)->Wo n A=Wo n B
 | 0,_,_,_=>rfl
 | n+1,A,B,h=>by rw[XI,XI];refine Zj λi a=>?_;rw[h i 0 a (by omega),X9 (n:=n) (A:=Qf i A) (B:=Qf i B) λr c b d=>?_];unfold Qf;exact h _ _ (by split<;>omega) (by omega)
theorem Gm:∀{n:Nat}{A B C:Mt}{k:Nat}{x y:Int},k<n->(∀r c,r<n->c<n->r≠k->A r c=C r c/\B r c=C r c)->(∀c,c<n->C k c=x*A k c+y*B k c)->Wo n C=x*Wo n A+y*Wo n B
 | 0,_,_,_,k,_,_,h,_,_=>by omega
 | n+1,A,B,C,k,x,y,hk,h1,h2=>by
  rw[XI,XI,XI,<-ZY,<-ZY,<-ZT];refine Zj λi l=>?_;by_cases q:i=k
  ·subst q;have m:Wo n (Qf i A)=Wo n (Qf i C):=X9 λr c d b=>by unfold Qf;exact(h1 _ _ (by split<;>omega) (by omega) (by split<;>omega)).1
   have f:Wo n (Qf i B)=Wo n (Qf i C):=X9 λr c d b=>by unfold Qf;exact(h1 _ _ (by split<;>omega) (by omega) (by split<;>omega)).2
   rw[m,f,h2 0 (by omega),gZ,iQ];simp only[cL,fE]
  ·obtain⟨g,j⟩:=h1 i 0 l (by omega) q
   have e:Wo n (Qf i C)=x*Wo n (Qf i A)+y*Wo n (Qf i B):=Gm (k:=if k<i then k else k-1) (by split<;>omega) (λr c d b a=>by
    unfold Qf
    exact h1 _ _ (by split<;>omega) (by omega) (by split at a<;>split<;>omega)) (λc b=>by
    have e:(if(if k<i then k else k-1)<i then(if k<i then k else k-1) else(if k<i then k else k-1)+1)=k:=by split<;>(try split)<;>omega
    unfold Qf;rw[e];exact h2 (c+1) (by omega))
   rw[g,j,e,gZ];simp only[cL,fE]
theorem QD:∀{n:Nat}{A:Mt}{k:Nat},k+1<n->(∀c,c<n->A k c=A (k+1) c)->Wo n A=0
 | 0,_,k,h,_=>by omega
 | n+1,A,k,hk,he=>by
  rw[XI,CF hk]
  ·have e:Wo n (Qf k A)=Wo n (Qf (k+1) A):=X9 λr c j f=>by
    unfold Qf;by_cases q:r<k
    ·rw[m7 q,m7 (by omega)]
    ·rw[m9 q];by_cases a:r=k
     ·subst a;rw[m7 (by omega)];exact(he (c+1) (by omega)).symm
     ·rw[m9 (by omega)]
   rw[e,he 0 (by omega)];show sg k*_*_ + - sg k*_*_=0;rw[ck,ck];omega
  ·intro i g m l;rw[QD (n:=n) (A:=Qf i A) (k:=if k+1<i then k else k-1) (by split<;>omega) λc f=>?_,du];have d:(if(if k+1<i then k else k-1)<i then(if k+1<i then k else k-1) else(if k+1<i then k else k-1)+1)=k:=by split<;>(try split)<;>omega
   have b:(if(if k+1<i then k else k-1)+1<i then(if k+1<i then k else k-1)+1 else(if k+1<i then k else k-1)+1+1)=k+1:=by split<;>(try split)<;>omega
   unfold Qf;rw[d,b];exact he (c+1) (by omega)
noncomputable def put(k:Nat)(v:Nat->Int)(A:Mt):Mt:=λr=>if r=k then v else A r
theorem Yz(k:Nat)(v:Nat->Int)(A:Mt):put k v A k=v:=by unfold put;rw[m7 rfl]
theorem WT{k r:Nat}(v:Nat->Int)(A:Mt)(h:r≠k):put k v A r=A r:=by unfold put;rw[m9 h]
theorem Ss{n k:Nat}{A:Mt}{u v:Nat->Int}{x y:Int}(a:k<n):Wo n (put k (λc=>x*u c+y*v c) A)=x*Wo n (put k u A)+y*Wo n (put k v A):=
 Gm a (λr c _ _ h=>by rw[WT _ _ h,WT _ _ h,WT _ _ h];exact⟨rfl,rfl⟩) (λc _=>by rw[Yz,Yz,Yz])
noncomputable def swp(k:Nat)(A:Mt):Mt:=put k (A (k+1)) (put (k+1) (A k) A)
theorem A0{n k:Nat}{A:Mt}(d:k+1<n):Wo n (swp k A) = - Wo n A:=by
 have two:∀u v:Nat->Int,Wo n (put k (λc=>1*u c+1*v c) (put (k+1) (λc=>1*u c+1*v c) A))=0:=λu v=>QD d λc _=>by rw[Yz,WT _ _ (by omega),Yz]
 have same:∀u:Nat->Int,Wo n (put k u (put (k+1) u A))=0:=λu=>QD d λc _=>by rw[Yz,WT _ _ (by omega),Yz]
 have a:∀u v:Nat->Int,put k u (put (k+1) v A)=put (k+1) v (put k u A):=λu v=>by
  funext r;unfold put;by_cases q:r=k
  ·rw[m7 q,m9 (by omega),m7 q]
  ·rw[m9 q];by_cases b:r=k+1
   ·rw[m7 b,m7 b]
   ·rw[m9 b,m9 b,m9 q]
 have h:=two (A k) (A (k+1));rw[Ss (by omega),a,Ss d,a,Ss d,<-a,<-a,<-a,<-a,same,same] at h
 have e:put k (A k) (put (k+1) (A (k+1)) A)=A:=by
  funext r;unfold put;by_cases q:r=k
  ·rw[m7 q,q]
  ·rw[m9 q];by_cases b:r=k+1
   ·rw[m7 b,b]
   ·rw[m9 b]
 rw[e] at h;unfold swp;omega
theorem Ul:∀(d:Nat){n i:Nat}{A:Mt},i+1+d<n->(∀c,c<n->A i c=A (i+1+d) c)->Wo n A=0
 | 0,n,i,A,h,e=>QD h e
 | d+1,n,i,A,h,e=>by
  have b:Wo n (swp (i+1+d) A)=0:=Ul d (n:=n) (i:=i) (by omega) λc a=>by unfold swp;rw[WT _ _ (by omega),WT _ _ (by omega),Yz];exact e c a
  rw[A0 (by omega)] at b;omega
theorem KS{n i j:Nat}{A:Mt}(f:i<n)(d:j<n)(a:i≠j)(e:∀c,c<n->A i c=A j c):Wo n A=0:=by
 rcases Nat.lt_or_gt_of_ne a with h | h
 ·exact Ul (j-i-1) (i:=i) (by omega) λc b=>by rw[show i+1+(j-i-1)=j by omega];exact e c b
 ·exact Ul (i-j-1) (i:=j) (by omega) λc b=>by rw[show j+1+(i-j-1)=i by omega];exact(e c b).symm
theorem KU:∀{n:Nat}{A:Mt},(∀c,c<n->A n c=0)->Wo (n+1) A=A n n*Wo n A
 | 0,A,_=>by show 0+1*A 0 0*1=A 0 0*1;omega
 | n+1,A,h=>by
  rw[XI (n+1)];show sN (n+1) _+sg (n+1)*A (n+1) 0*_=_;rw[h 0 (by omega),du,dw,gs,XI n,<-ZY];refine Zj λi a=>?_;rw[KU (n:=n) (A:=Qf i A) λc b=>?_]
  ·have e:Qf i A n n=A (n+1) (n+1):=by unfold Qf;rw[m9 (by omega)]
   rw[e];simp only[cL,fE]
  ·unfold Qf;rw[m9 (by omega)];exact h (c+1) (by omega)
theorem Ot{n j:Nat}{A:Mt}{a:Nat->Int}{v:Nat->Nat->Int}(b:j<n):∀m,Wo n (put j (λc=>sN m λk=>a k*v k c) A)=sN m λk=>a k*Wo n (put j (v k) A)
 | 0=>by have:Wo n (put j (λc=>0*(0:Int)+0*(0:Int)) A)=0*Wo n (put j (λ_=>0) A)+0*Wo n (put j (λ_=>0) A):=Ss (u:=λ_=>0) (v:=λ_=>0) b;simp only[dw,gs] at this;exact this
 | m+1=>by have:=Ss (n:=n) (A:=A) (u:=λc=>sN m λk=>a k*v k c) (v:=v m) (x:=1) (y:=a m) b;simp only[iS] at this;show Wo n (put j (λc=>(sN m λk=>a k*v k c)+a m*v m c) A)=_;rw[this,Ot b m];rfl
theorem A1{n j:Nat}{A:Mt}{a:Nat->Int}(d:j<n):Wo n (put j (λc=>sN n λk=>a k*A k c) A)=a j*Wo n A:=by
 rw[Ot d n,Ym d]
 ·have:put j (A j) A=A:=by funext r;unfold put;split<;>simp_all
  rw[this]
 ·intro i e b;rw[KS e d b λc _=>by rw[WT _ _ b,Yz],du]
noncomputable def IJ(n:Nat)(A:Mt)(i j:Nat):Int:=Wo n (put j (λc=>if c=i then 1 else 0) A)
theorem A2{n:Nat}{A:Mt}{j:Nat}(b:j<n)(v:Nat->Int):sN n (λi=>v i*IJ n A i j)=Wo n (put j v A):=by
 unfold IJ;rw[<-Ot b n];refine X9 λr c f d=>?_;unfold put;split
 ·show sN n (λk=>v k*if c=k then 1 else 0)=v c;rw[Ym d]
  ·simp
  ·intro i e a;rw[m9 (λz=>a z.symm),du]
 ·rfl
theorem Gn{n:Nat}{A:Mt}{k j:Nat}(b:k<n)(a:j<n):sN n (λi=>A k i*IJ n A i j)=if k=j then Wo n A else 0:=by
 rw[A2 a];split
 ·rename_i h;subst h;have:put k (A k) A=A:=by funext r;unfold put;split<;>simp_all
  rw[this]
 ·rename_i h;exact KS b a h λc _=>by rw[WT _ _ h,Yz]
abbrev Z2:=Nat×Nat
noncomputable def ind(a b:Nat):Int:=if a=b then 1 else 0
theorem Zef{f g:Nat->Int}{q:Nat}:∀{n:Nat},q<n->(∀x,x<n->x≠q->f x=g x)->sN n f=sN n g+(f q-g q):=by
 intro n d h;have e:=ZT (λx=>g x) (λx=>f x-g x) n;have b:sN n f=sN n λx=>g x+(f x-g x):=Zj λx _=>by omega
 rw[b,e,Ym (f:=λx=>f x-g x) d (λx c a=>by rw[h x c a];omega)]
theorem CG{f:Nat->Int}:∀{n:Nat},(∀x,x<n->0<=f x)->0<=sN n f
 | 0,_=>dR 0
 | n+1,h=>by have a:=CG (n:=n) λx b=>h x (by omega);have c:=h n (by omega);show 0<=sN n f+f n;omega
noncomputable def prs(n:Nat):List Z2:=(aD n).flatMap λa=>(aD (n-(a+1))).map λj=>(a,a+1+j)
theorem mem_prs{n a b:Nat}:(a,b)∈prs n↔a<b/\b<n:=by
 unfold prs;simp only[dZ,aY,bR,Prod.mk.injEq];constructor
 ·rintro⟨x,e,j,c,rfl,rfl⟩;omega
 ·rintro⟨d,f⟩;exact⟨a,by omega,b-(a+1),by omega,rfl,by omega⟩
structure Wt(n:Nat)(w:Nat->Nat->Int):Prop where
 nn:∀a b,a<n->b<n->0<=w a b
 sy:∀a b,a<n->b<n->w a b=w b a
 dg:∀a,a<n->w a a=0
noncomputable def KW(n:Nat)(w:Nat->Nat->Int):List Z2:=(prs n).flatMap λp=>aT (w p.1 p.2).toNat p
theorem A3(f:Z2->Int):∀n,((prs n).map f).sum=sN n λa=>sN n λb=>if a<b then f (a,b) else 0:=by
 intro n;unfold prs
 have d:∀(l:List Nat)(g:Nat->List Z2),((l.flatMap g).map f).sum=(l.map λa=>((g a).map f).sum).sum:=by
  intro l g
  induction l with
  | nil=>rfl
  | cons a l ih=>rw[ko,bP,e9,ih,af,bZ]
 rw[d,X4];refine Zj λa h=>?_;rw[bh,X4]
 -- the c of the row
 have c:∀k,sN (a+1+k) (λb=>if a<b then f (a,b) else 0)=sN k λj=>f (a,a+1+j):=by
  intro k
  induction k with
  | zero=>exact YT λi e=>m9 (by omega)
  | succ k ih=>
   show sN (a+1+k) _+(if a<a+1+k then f (a,a+1+k) else 0)=sN k _+f (a,a+1+k);rw[ih,m7 (by omega)]
 have:=c (n-(a+1));rw[show a+1+(n-(a+1))=n by omega] at this;rw[this];rfl
theorem Gp(f:Z2->Int)(p:Z2):∀k:Nat,((aT k p).map f).sum=(k:Int)*f p
 | 0=>by simp
 | k+1=>by rw[dD,af,bZ,Gp f p k,Int.natCast_succ,iQ];omega
theorem F3{n:Nat}{w:Nat->Nat->Int}(ok:Wt n w)(f:Z2->Int):((KW n w).map f).sum=sN n λa=>sN n λb=>if a<b then w a b*f (a,b) else 0:=by
 unfold KW
 have c:∀(l:List Z2)(g:Z2->List Z2),((l.flatMap g).map f).sum=(l.map λa=>((g a).map f).sum).sum:=by
  intro l g
  induction l with
  | nil=>rfl
  | cons a l ih=>rw[ko,bP,e9,ih,af,bZ]
 rw[c,A3 (λp=>((aT (w p.1 p.2).toNat p).map f).sum)];refine Zj λa d=>Zj λb e=>?_;split
 ·rw[Gp];rw[fQ (ok.nn a b d e)]
 ·rfl
end PW
namespace PK
open PW
noncomputable def b1(b:Bool):Int:=if b=aC then 1 else 0
theorem Zg1(b:Bool):0<=b1 b:=by cases b<;>decide
theorem Zg2(b:Bool):b1 b<=1:=by cases b<;>decide
noncomputable def inG(G:List Nat)(e:Z2):Bool:=decide (e.1∈G)&&decide (e.2∈G)
noncomputable def Qg(G:List Nat)(E:List Z2):Int:=(E.map λe=>b1 (inG G e)).sum
noncomputable def ZP(E:List Z2)(i:Nat):Z2:=E.getD i (0,0)
theorem F4(p:Nat->Bool)(f:Nat->Int):∀l:List Nat,(l.map f).sum=((l.filter p).map f).sum+((l.filter λk=>!p k).map f).sum
 | []=>rfl
 | a::l=>by
  have:=F4 p f l;cases h:p a<;>simp[lV,h]<;>omega
theorem Ou{a:Type}(l:List a)(d:a):(aD l.length).map (λi=>l.getD i d)=l:=by
 apply fK
 ·simp
 ·intro i b c;simp at b;simp[b]
theorem CH{x:Nat}:∀{G:List Nat},G.Nodup->(G.map λg=>b1 (x==g)).sum=b1 (decide (x∈G))
 | [],_=>rfl
 | g::G,nd=>by
  have a:=av.mp nd;rw[af,bZ,CH a.2];by_cases e:x=g
  ·subst e;have:decide (x∈G)=aB:=by simp[a.1]
   rw[this];simp[b1]
  ·have b:(x==g)=aB:=by simp[e]
   rw[b];by_cases z:x∈G<;>simp[e,z,b1]
theorem Um(f g:Nat->Int):∀l:List Nat,(l.map λi=>f i+g i).sum=(l.map f).sum+(l.map g).sum
 | []=>rfl
 | a::l=>by simp only[af,bZ,Um f g l];omega
theorem KY{G:List Nat}(b:G.Nodup):∀X:List Nat,(G.map λg=>((X.count g:Nat):Int)).sum=(X.map λx=>b1 (decide (x∈G))).sum
 | []=>by
  have:∀G:List Nat,(G.map λg=>(((([]:List Nat)).count g:Nat):Int)).sum=0:=by
   intro G
   induction G with
   | nil=>rfl
   | cons a G ih=>simpa using ih
  rw[this];rfl
 | x::X=>by
  rw[af,bZ,<-KY b X,<-CH b,<-Um];congr 1;refine ar λg _=>?_;rw[gg];by_cases e:x=g
  ·subst e;simp[b1];omega
  ·have:(x==g)=aB:=by simp[e]
   simp[this,b1]
noncomputable def ZJ:Nat->List (List Nat)
 | 0=>[[]]
 | n+1=>ZJ n++(ZJ n).map (·++[n])
theorem UX:∀{n:Nat}{G:List Nat},G∈ZJ n->G.Pairwise (· < ·)/\(∀g∈G,g<n)/\G.length<=n/\(G.length=n->G=aD n)
 | 0,G,h=>by rw[ZJ,aN] at h;subst h;simp
 | n+1,G,h=>by
  rw[ZJ] at h;rcases ak.mp h with h | h
  ·obtain⟨a,b,c,d⟩:=UX h;exact⟨a,λg f=>dA (b g f),by omega,λe=>by omega⟩
  ·obtain⟨k,h',rfl⟩:=bR.mp h;obtain⟨a,b,c,d⟩:=UX h';refine⟨?_,λg f=>?_,by simp;omega,λe=>?_⟩
   ·rw[List.pairwise_append];exact⟨a,by simp,λx i y j=>by rw[aN.mp j];exact b x i⟩
   ·rcases ak.mp f with z | z
    ·exact dA (b g z)
    ·rw[aN.mp z];exact eM _
   ·rw[aj] at e;simp only[cY] at e;rw[d (by omega),ee]
theorem UY:∀n,∃r,ZJ n=[]::r/\∀G∈r,G≠[]
 | 0=>⟨[],rfl,by simp⟩
 | n+1=>by
  obtain⟨r,e,h⟩:=UY n;refine⟨r++(ZJ n).map (·++[n]),by rw[ZJ,e];rfl,λG a=>?_⟩;rcases ak.mp a with z | z
  ·exact h G z
  ·obtain⟨b,_,rfl⟩:=bR.mp z;simp
theorem WH(p:Nat->Bool):∀n,(aD n).filter p∈ZJ n
 | 0=>by simp[ZJ]
 | n+1=>by
  rw[ee,List.filter_append,ZJ];have:=WH p n;cases h:p n
  ·simp only[lV,h];rw[dG];exact bC _ this
  ·simp only[lV,h];exact aq _ (List.mem_map_of_mem this)
theorem Ov:∀n,(ZJ n).length=2^n
 | 0=>rfl
 | n+1=>by rw[ZJ,aj,aK,Ov n,Nat.pow_succ];omega
section
variable (w:Nat->Nat->Int)
noncomputable def IK(h:Nat)(G:List Nat):Int:=(G.map (w h)).sum
noncomputable def tw(G:List Nat):Int:=(G.map λi=>IK w i G).sum
theorem A4{n:Nat}(e:∀a b,a<n->b<n->w a b=w b a)(j:∀a,a<n->w a a=0){G:List Nat}(f:∀g∈G,g<n){h:Nat}(c:h<n):tw w (G++[h])=tw w G+2*IK w h G:=by
 unfold tw IK;simp only[af,eR,bZ,gH,bP,e9];rw[Um (λi=>(G.map (w i)).sum) (λi=>w i h+0) G,j h c];have:(G.map λi=>w i h+0).sum=(G.map (w h)).sum:=by congr 1;refine ar λg d=>?_;rw[e g h (f g d) c];omega
 rw[this];omega
noncomputable def KZ(D:Nat->Int)(G:List Nat):Int:=(G.map D).sum+G.length-1-tw w G/2
theorem CI{n:Nat}(d:∀a b,a<n->b<n->w a b=w b a)(f:∀a,a<n->w a a=0)(D:Nat->Int){G:List Nat}(e:∀g∈G,g<n){h:Nat}(c:h<n):KZ w D (G++[h])=KZ w D G+D h+1-IK w h G:=by unfold KZ;rw[A4 w d f e c,bP,e9,aj];simp only[af,eR,bZ,gH,cY];omega
end
theorem UZ{n:Nat}(f:Nat->Int):∀{G:List Nat},G.Nodup->(∀g∈G,g<n)->(G.map f).sum=sN n λi=>b1 (decide (i∈G))*f i
 | [],_,_=>by rw[YT λi _=>by simp[b1]];rfl
 | g::G,nd,hG=>by
  have a:=av.mp nd;rw[af,bZ,UZ f a.2 λx c=>hG x (by simp[c])]
  have:sN n (λi=>b1 (decide (i∈g::G))*f i)=sN n (λi=>(if i=g then f g else 0)+b1 (decide (i∈G))*f i):=Zj λi b=>by
   by_cases e:i=g
   ·subst e;simp[a.1,b1]
   ·simp[e]
  rw[this,ZT,Ym (k:=g) (hG g (by simp)) λi _ b=>m9 b,m7 rfl]
theorem A5{n:Nat}{u:Nat->Nat->Int}(g:∀a b,a<n->b<n->u a b=u b a)(h:∀a,a<n->u a a=0):sN n (λa=>sN n (u a))=2*sN n (λa=>sN n λb=>if a<b then u a b else 0):=by
 have e:sN n (λa=>sN n (u a))=sN n (λa=>sN n (λb=>if a<b then u a b else 0)+sN n (λb=>if b<a then u b a else 0)):=Zj λa c=>by
  rw[<-ZT];refine Zj λb d=>?_;by_cases f:a<b
  ·rw[m7 f];omega
  ·by_cases i:b<a
   ·rw[g a b c d];omega
   ·have:a=b:=by omega
    subst this;rw[h a c];simp
 rw[e,ZT,UW (λa b=>if b<a then u b a else 0) n n];omega
end PK
namespace PW
open L2 VL
theorem Zei{f g:XS}{s:ZE}{v:PV}(a:f s=ax (.rt v)):Zn f g s=ax (.rt v):=by rw[Pj,a];rfl
section
variable {s:ZE} {f g:XE} {a b:Int} {C:Int->Int->Prop} [∀i j,Decidable (C i j)] {op:Int->Int->Int}
theorem vC(e:f s=ax (.int a))(d:g s=ax (.int b))(c:C a b):Zl (Ep C op) f g s=ax (.int (op a b)):=by rw[WB,e,d];simp only[aZ,Zdx,m7 c]
theorem vI(d:f s=ax (.int a))(c:g s=ax (.int b)):Zl (gI op) f g s=ax (.int (op a b)):=by rw[WB,d,c];rfl
theorem vP(b:f s=ax (.int a)):eP f s=ax (.int a):=by rw[SR,b];rfl
theorem Lk{v:PV}(a:f s=ax v):ZL f s=ax (.rt v):=by rw[Du,a];rfl
end
noncomputable def F5(M:List (List Int))(a b:Nat)(t:Int):List (List Int):=SK (SK M a b t) b a t
theorem QE{n:Nat}{M:List (List Int)}{a b:Nat}{t:Int}(ok:MatOk n M)(c:a<n)(d:b<n)(i j:Nat):Zz (F5 M a b t) i j=if b=i/\a=j then t else if a=i/\b=j then t else Zz M i j:=by obtain⟨f,e⟩:=Wb ok.len ok.row c;unfold F5;rw[Q1 f e d c,Q1 ok.len ok.row c d]
theorem Zej{n:Nat}{M:List (List Int)}{a b:Nat}{t:Int}(ok:MatOk n M)(g:a<n)(f:b<n)(e:a≠b)(q:0<=t)(o:t<=9):MatOk n (F5 M a b t):=by
 obtain⟨l,h⟩:=Wb ok.len ok.row g;obtain⟨k,m⟩:=Wb l h f;have E:=QE (t:=t) ok g f;refine⟨k,m,λi j c d=>?_,λi j c d=>?_,λi j c d=>?_,λi c=>?_⟩
 ·have:=ok.lo i j c d;rw[E];split<;>(try split)<;>omega
 ·have:=ok.hi i j c d;rw[E];split<;>(try split)<;>omega
 ·have:=ok.sym i j c d;rw[E,E];by_cases p:b=i/\a=j
  ·rw[m7 p];by_cases p2:b=j/\a=i
   ·rw[m7 p2]
   ·rw[m9 p2,m7 ⟨p.2,p.1⟩]
  ·rw[m9 p];by_cases p2:a=i/\b=j
   ·rw[m7 p2,m7 ⟨p2.2,p2.1⟩]
   ·rw[m9 p2,m9 (λz=>p2 ⟨z.2,z.1⟩),m9 (λz=>p ⟨z.2,z.1⟩)];exact this
 ·rw[E,m9 (λz=>e (by omega)),m9 (λz=>e (by omega))];exact ok.dia i c
theorem NT{s:ZE}{n:Nat}(h:s[3]?=ax (ax (.int (n:Int))))(a:n<=7):Zu 1 [3] (Z1 [Za 3]) (.one 0) ZF (Zl Fq (WK [eC (.int 0)]) (Za 1)) s=ax (.lst (rL (aT n (aT n 0)))):=by
 rw[ZM (aD n) (λi=>.int (i:Int)) (λ_=>.lst (iL (aT n 0))) (Y6 (by simp[h]) (by omega)) (by simp;omega) (λi _=>⟨_,rfl,rfl,?_⟩)]
 ·unfold rL;rw[List.map_const',bw,List.map_replicate]
 ·have e:Fq (.lst [.int 0]) (.int (n:Int))=ax (.lst (iL (aT n 0))):=by show(if ZC [PV.int 0]=aC/\(-1000000:Int)<=(n:Int)/\(n:Int)<=1000000/\[PV.int 0].length*((n:Int)).toNat<=10000 then ax (PV.lst (aT ((n:Int)).toNat [PV.int 0]).flatten) else aA)=_;rw[m7 ⟨rfl,by omega,by omega,by simp;omega⟩];simp
  simp[ZG,h,e]
noncomputable def Grown(M:List (List Int))(l:List Int)(k:Nat):Prop:=∀j,1<=j->j<k->∃j',j'<j/\0<Zz M (Zq l j).toNat (Zq l j').toNat
theorem Grown.mono{M c:List (List Int)}{l:List Int}{k:Nat}(h:Grown M l k)(g:∀i j,0<Zz M i j->0<Zz c i j):Grown c l k:=λj f e=>by obtain⟨d,a,b⟩:=h j f e;exact⟨d,a,g _ _ b⟩
theorem Grown.conn{M:List (List Int)}{l:List Int}{n:Nat}(h:Grown M l n)(t:M.length=n)(d:NamesOk n l):VY M:=by
 intro P s i j g o;rw[t] at g o;have lt:∀x,x<n->(Zq l x).toNat<M.length:=λx c=>by have:=d.at c;omega
 have all:∀k,k<n->(P (Zq l k).toNat↔P (Zq l 0).toNat):=by
  intro k
  induction k using Nat.strongRecOn with
  | ind k ih=>
   intro p;by_cases q:k=0
   ·subst q;exact Iff.rfl
   ·obtain⟨m,a,b⟩:=h k (by omega) p;exact(s _ _ (lt k p) (lt m (by omega)) b).trans (ih m a (by omega))
 have f:∀i,i<n->∃x,x<n/\(Zq l x).toNat=i:=λi g=>by have:=O7 d.nd (λx c=>⟨x.toNat,by have:=d.hi x c;omega,by have:=d.lo x c;omega⟩) d.len g;obtain⟨x,c,e⟩:=AZ this;exact⟨x,by rw[<-d.len];exact c,by rw[e];rfl⟩
 obtain⟨x,c,rfl⟩:=f i g;obtain⟨y,u,rfl⟩:=f j o;exact(all x c).trans (all y u).symm
theorem A6{n:Nat}{M:List (List Int)}{a b:Nat}{t:Int}(ok:MatOk n M)(d:a<n)(e:b<n)(c:0<t):(∀i j,0<Zz M i j->0<Zz (F5 M a b t) i j)/\0<Zz (F5 M a b t) a b:=by
 refine⟨λi j h=>?_,?_⟩
 ·rw[QE ok d e];split
  ·exact c
  ·split
   ·exact c
   ·exact h
 ·rw[QE ok d e];split
  ·exact c
  ·rw[m7 ⟨rfl,rfl⟩];exact c
noncomputable def nL(l:List Nat):List Int:=l.map λ(i:Nat)=>(i:Int)
theorem Ll{y:Nat}{l:List Nat}:(y:Int)∈nL l↔y∈l:=by unfold nL;rw[bR];exact⟨λ⟨a,h,e⟩=>by rw[show y=a by omega];exact h,λh=>⟨y,h,rfl⟩⟩
noncomputable def XB(W:List (List Int))(h:Nat)(F:List Nat):Int:=(F.map λo=>Zz W h o).sum
theorem ties_comp2{W:List (List Int)}{h i j k:Nat}{F:List Nat}{s:ZE}(ok:ZA W)(a:h<W.length)(c:∀x∈F,x<W.length)(m:F.length<=100)(e:s[i]?=ax (ax (wP W)))(l:s[j]?=ax (ax (.int (h:Int))))(f:s[k]?=ax (ax (.lst (iL (nL F))))) :
  Ze Q6 [Zu 1 [i,j] (YY (Za k)) (.one 0) ZF (Zl ZW (Zl ZW (Za 1) (Za 2)) (Za 0))] s=ax (.int (XB W h F)):=by
 have g:Zu 1 [i,j] (YY (Za k)) (.one 0) ZF (Zl ZW (Zl ZW (Za 1) (Za 2)) (Za 0)) s=ax (.lst (iL (F.map λo=>Zz W h o))):=by
  rw[ZM F (λo=>.int (o:Int)) (λo=>.int (Zz W h o)) (by simp[f,nL]) (by omega) (λo d=>⟨_,rfl,rfl,?_⟩)]
  ·simp
  ·have b:=ok.sq h a;have:=Xi (by rw[b];exact c o d);simp[ZG,e,l,T2 a,this];rfl
 simp only[YB,Zx,g];exact Dw _
theorem RP{W:List (List Int)}{h:Nat}{F:List Nat}{X:PV}(ok:ZA W)(a:h<W.length)(b:∀x∈F,x<W.length)(f:F.length<=100)(e:Au (Za 2) [ax (wP W),ax (.int (h:Int)),ax X]=ax (iL (nL F))):Xw [wP W,.int (h:Int),X]=ax (.int (XB W h F)):=by
 have d:Zu 1 [0,1] (Au (Za 2)) (.one 0) ZF (Zl ZW (Zl ZW (Za 1) (Za 2)) (Za 0)) [ax (wP W),ax (.int (h:Int)),ax X]=ax (.lst (iL (F.map λo=>Zz W h o))):=by
  rw[ZM F (λo=>.int (o:Int)) (λo=>.int (Zz W h o)) (by rw[e];simp[nL]) (by omega) (λo c=>⟨_,rfl,rfl,?_⟩)]
  ·simp
  ·have:=Xi (by rw[ok.sq h a];exact b o c);simp[ZG,T2 a,this];rfl
 show(ZL _ [ax (wP W),ax (.int (h:Int)),ax X]).bind Tf=_
 rw[Lk (vP (by
  simp only[YB,Zx,d];exact Dw _))]
 rfl
theorem IL{W:List (List Int)}{h:Nat}{F:List Nat}(ok:ZA W)(b:h<W.length)(a:∀x∈F,x<W.length)(c:F.length<=100):Xw [wP W,.int (h:Int),.lst (iL (nL F))]=ax (.int (XB W h F)):=RP ok b a c (Zgq rfl)
theorem Ry{d:Type}{T:Tgt}{fb:XS}{q g:d->PV}{c:d->Bool}(S:ZE->Prop):∀{ls:List d}{s:ZE},(∀a∈ls,∀s,S s->∃s1,Xf T (q a) s=ax s1/\((c a=aC->fb s1=ax (.rt (g a)))/\(c a=aB->∃s2,fb s1=ax (.nx s2)/\S s2)))->S s->
  match ls.find? c with | some a=>W8 T fb (ls.map q) s=ax (.rt (g a)) | none=>∃s',W8 T fb (ls.map q) s=ax (.nx s')/\S s'
 | [],s,_,h0=>⟨s,rfl,h0⟩
 | a::r,s,h,h0=>by
  obtain⟨s1,f,j,i⟩:=h a ag s h0;rw[cf]
  cases ca:c a with
  | true=>
   show W8 T fb (q a::r.map q) s=_;unfold W8;rw[f];simp only[aZ,j ca]
  | false=>
   obtain⟨s2,k,m⟩:=i ca;have l:=Ry S (ls:=r) (s:=s2) (λb n=>h b (aQ _ n)) m
   have e:W8 T fb ((a::r).map q) s=W8 T fb (r.map q) s2:=by
    show W8 T fb (q a::r.map q) s=_;unfold W8;rw[f];simp only[aZ,k];cases r.map q<;>rfl
   rw[e];exact l
noncomputable def XJ(W:List (List Int))(D:List Int)(F:List Nat):Option Nat:=(aD W.length).find? λh=>!decide (h∈F)&&decide (Zq D h<XB W h F)
noncomputable def U5:Option Nat->PV
 | none=>.non
 | some h=>.int (h:Int)
theorem Ln(y:Nat)(l:List Nat):Qp aC (.int (y:Int)) (.lst (iL (nL l)))=ax (.bl (!decide (y∈l))):=by rw[Zbq];have:=Ll (y:=y) (l:=l);simp[this]
theorem Su(y:Nat)(l:List Nat):Qp aB (.int (y:Int)) (.lst (iL (nL l)))=ax (.bl (decide (y∈l))):=by rw[Zbq];have:=Ll (y:=y) (l:=l);simp[this]
theorem Rz{W:List (List Int)}{D:List Int}{F:List Nat}(ok:ZA W)(hd:D.length=W.length)(k:∀x∈F,x<W.length)(l:F.length<=100):ZS [wP W,pP D,.lst (iL (nL F))]=ax (U5 (XJ W D F)):=by
 have a:=Ry (T:=.many [3,4]) (fb:=Qq (R1 (xB (Zl (Qp aC) (Za 3) (Za 2))) (xB (Zl Hx (Za 4) (Ze Xw [Za 0,Za 3,Za 2])))) (ZL (eP (Za 3))) YH) (q:=λ(i:Nat)=>.tup [.int (i:Int),.int (Zq D i)]) (g:=λi=>.int (i:Int)) (c:=λh=>!decide (h∈F)&&decide (Zq D h<XB W h F))
  (λst=>∃x y,st=[ax (wP W),ax (pP D),ax (.lst (iL (nL F))),x,y]) (ls:=aD W.length) (s:=[ax (wP W),ax (pP D),ax (.lst (iL (nL F))),aA,aA]) (by
   rintro h d st ⟨x,y,rfl⟩;have d:=aY.mp d;have f:=IL ok d k l;refine⟨_,rfl,λb=>?_,λb=>?_⟩
   ·simp only[ao] at b;simp[setAll,Ln,b.1,f,b.2]
   ·refine⟨[ax (wP W),ax (pP D),ax (.lst (iL (nL F))),ax (.int (h:Int)),ax (.int (Zq D h))],?_,_,_,rfl⟩;by_cases q:h∈F
    ·simp[setAll,Ln,q]
    ·have:¬Zq D h<XB W h F:=λz=>by simp[q,z] at b
     simp[setAll,Ln,q,f,this]) ⟨_,_,rfl⟩
 have e:YV aB [Za 1] [ax (wP W),ax (pP D),ax (.lst (iL (nL F))),aA,aA]=ax ((aD W.length).map λi=>.tup [.int (i:Int),.int (Zq D i)]):=by have:=QA D;rw[hd] at this;simp[this]
 show(Zn (YF [] _ _ _) _ [ax (wP W),ax (pP D),ax (.lst (iL (nL F))),aA,aA]).bind Tf=_;unfold XJ
 cases q:(aD W.length).find? λh=>!decide (h∈F)&&decide (Zq D h<XB W h F) with
 | some h=>
  rw[q] at a;rw[Zei]
  ·rfl
  ·show(YV aB [Za 1] [ax (wP W),ax (pP D),ax (.lst (iL (nL F))),aA,aA]).bind _=_;rw[e];exact a
 | none=>
  rw[q] at a;obtain⟨m,j,x,y,rfl⟩:=a;rw[U4]
  ·rfl
  ·show(YV aB [Za 1] [ax (wP W),ax (pP D),ax (.lst (iL (nL F))),aA,aA]).bind _=_;rw[e];exact j
theorem Zek{c:XT}{fb:XS}(g:ZE->Prop)(j:ZE->Nat)(step:∀st,g st->c st=ax aB\/(c st=ax aC/\∃s2,fb st=ax (.nx s2)/\g s2/\j s2<j st)){s:ZE}(o:g s) :
  ∃f,Xh c fb s=ax (.nx f)/\g f/\c f=ax aB:=by
 have m:∀(k:Nat)(st:ZE),j st<k->g st->∃f,Yv c fb k st=ax (.nx f)/\g f/\c f=ax aB:=by
  intro k
  induction k with
  | zero=>intro st h;omega
  | succ k ih=>
   intro st p n;rcases step st n with i | ⟨i,s2,e,l,q⟩
   ·exact⟨st,by unfold Yv;rw[i];rfl,n,i⟩
   ·obtain⟨f,a,b,d⟩:=ih s2 (by omega) l;refine⟨f,?_,b,d⟩;unfold Yv;rw[i];simp only[e];exact a
 obtain⟨f,a,b,d⟩:=m (j s+1) s (by omega) o;exact⟨f,Nz a,b,d⟩
structure Burn(W:List (List Int))(D:List Int)(b:Nat)(F:List Nat):Prop where
 nd:F.Nodup
 lt:∀x∈F,x<W.length
 hd:F[0]?=ax b
 st:∀k,1<=k->k<F.length->XJ W D (F.take k)=F[k]?
theorem Burn.len{W:List (List Int)}{D:List Int}{b:Nat}{F:List Nat}(h:Burn W D b F):F.length<=W.length:=by
 have e:(nL F).Nodup:=List.Pairwise.map _ (λa b z=>by omega) h.nd;have:=Oo e λy c=>by obtain⟨a,d,rfl⟩:=bR.mp c;exact bR.mpr ⟨a,aY.mpr (h.lt a d),rfl⟩
 simpa [nL] using this
theorem Burn.pos{W:List (List Int)}{D:List Int}{b:Nat}{F:List Nat}(h:Burn W D b F):1<=F.length:=(aO.mp h.hd).1
theorem Burn.one{W:List (List Int)}{D:List Int}{b:Nat}(a:b<W.length):Burn W D b [b]:=⟨by simp,λx c=>by rw[aN.mp c];exact a,rfl,λk e d=>by simp at d;omega⟩
theorem Ox{W:List (List Int)}{D:List Int}{F:List Nat}{h:Nat}(e:XJ W D F=ax h):h<W.length/\h∉F/\Zq D h<XB W h F:=by have a:=gh e;have b:=dJ e;simp only[ao,kq,decide_eq_false_iff_not,decide_eq_true_eq] at a;exact⟨aY.mp b,a⟩
theorem IM{W:List (List Int)}{D:List Int}{F:List Nat}(e:XJ W D F=aA){h:Nat}(b:h<W.length)(a:h∉F):XB W h F<=Zq D h:=by have:=eZ.mp e h (aY.mpr b);simp[a] at this;exact this
theorem Burn.add{W:List (List Int)}{D:List Int}{b h:Nat}{F:List Nat}(B:Burn W D b F)(e:XJ W D F=ax h):Burn W D b (F++[h]):=by
 obtain⟨g,j,_⟩:=Ox e;have n:=B.pos;refine⟨?_,λx d=>?_,?_,λk f i=>?_⟩
 ·rw[dB];exact⟨B.nd,by simp,λa m c l z=>by rw[aN.mp l] at z;exact j (z▸m)⟩
 ·rcases ak.mp d with d | d
  ·exact B.lt x d
  ·rw[aN.mp d];exact g
 ·rw[ah (by omega)];exact B.hd
 ·rw[aj,cY] at i;by_cases q:k<F.length
  ·rw[g0 (by omega),ah q];exact B.st k f q
  ·have:k=F.length:=by omega
   subst this;rw[List.take_left',e]
   ·simp
   ·rfl
theorem CJ{W:List (List Int)}{D:List Int}{b:Nat}(ok:ZA W)(hd:D.length=W.length)(g:b<W.length):∃F,Qw [wP W,pP D,.int (b:Int)]=ax (.lst (iL (nL F)))/\Burn W D b F/\XJ W D F=aA:=by
 have o:=ok.few;have j:∀F:List Nat,Burn W D b F->ZS [wP W,pP D,.lst (iL (nL F))]=ax (U5 (XJ W D F)):=λF B=>Rz ok hd B.lt (by have:=B.len;omega)
 obtain⟨p,m,⟨F,rfl,B⟩,i⟩:=Zek (c:=xB (OU aC (Za 4))) (fb:=Zn (YE 3 (eP (Za 4))) (Zs 4 (Ze ZS [Za 0,Za 1,Za 3])))
  (λst=>∃F,st=[ax (wP W),ax (pP D),ax (.int (b:Int)),ax (.lst (iL (nL F))),ax (U5 (XJ W D F))]/\Burn W D b F)
  (λst=>match st[3]? with | some (ax (PV.lst l))=>8-l.length | _=>0) (by
   rintro st ⟨F,rfl,B⟩
   cases e:XJ W D F with
   | none=>exact .inl rfl
   | some h=>
    have d:=B.add e;have n:=d.len;rw[aj] at n;refine .inr ⟨by simp[Af,U5],[ax (wP W),ax (pP D),ax (.int (b:Int)),ax (.lst (iL (nL (F++[h])))),ax (U5 (XJ W D (F++[h])))],?_,⟨F++[h],rfl,d⟩,?_⟩
    ·have a:YE 3 (eP (Za 4)) [ax (wP W),ax (pP D),ax (.int (b:Int)),ax (.lst (iL (nL F))),ax (U5 (ax h))]=ax (.nx [ax (wP W),ax (pP D),ax (.int (b:Int)),ax (.lst (iL (nL (F++[h])))),ax (U5 (ax h))]):=by rw[Tg (l:=.int (h:Int)) rfl rfl (by simp[nL];omega)];simp[nL]
     have f:Zs 4 (Ze ZS [Za 0,Za 1,Za 3]) [ax (wP W),ax (pP D),ax (.int (b:Int)),ax (.lst (iL (nL (F++[h])))),ax (U5 (ax h))]=ax (.nx [ax (wP W),ax (pP D),ax (.int (b:Int)),ax (.lst (iL (nL (F++[h])))),ax (U5 (XJ W D (F++[h])))]):=by have:=j _ d;simp[this]
     rw[U4 a,f]
    ·show 8-(iL (nL (F++[h]))).length<8-(iL (nL F)).length;simp[nL];omega) ⟨[b],rfl,Burn.one g⟩
 have k:XJ W D F=aA:=by
  cases e:XJ W D F with
  | none=>rfl
  | some h=>rw[e] at i;simp[Af,U5] at i
 refine⟨F,?_,B,k⟩;have a:Zs 3 (WK [eP (Za 2)]) [ax (wP W),ax (pP D),ax (.int (b:Int)),aA,aA]=ax (.nx [ax (wP W),ax (pP D),ax (.int (b:Int)),ax (.lst (iL (nL [b]))),aA]):=by simp[nL]
 have f:Zs 4 (Ze ZS [Za 0,Za 1,Za 3]) [ax (wP W),ax (pP D),ax (.int (b:Int)),ax (.lst (iL (nL [b]))),aA]=ax (.nx [ax (wP W),ax (pP D),ax (.int (b:Int)),ax (.lst (iL (nL [b]))),ax (U5 (XJ W D [b]))]):=by have:=j _ (Burn.one g);simp[this]
 show(Zn _ _ [ax (wP W),ax (pP D),ax (.int (b:Int)),aA,aA]).bind Tf=_;rw[U4 a,U4 f,U4 m];rfl
noncomputable def Xr(D:List Int)(b:Nat):List Nat:=(aD D.length).filter λh=>!decide (h=b)&&decide (Zq D h<0)
theorem Oy{D:List Int}{b:Nat}(f:D.length<=1000):YN [pP D,.int (b:Int)]=ax (.lst (iL (nL (Xr D b)))):=by
 have a:YV aB [Za 0] [ax (pP D),ax (.int (b:Int))]=ax ((aD D.length).map λi=>.tup [.int (i:Int),.int (Zq D i)]):=by have:=QA D;simp[this]
 have c:Zu 2 [1] (YV aB [Za 0]) (.many [0,1]) (R1 (xB (Zl (WU aC) (Za 0) (Za 2))) (xB (Zl Hx (Za 1) (eC (.int 0))))) (eP (Za 0)) [ax (pP D),ax (.int (b:Int))]=ax (.lst (iL (nL (Xr D b)))):=by
  rw[Xj (aD D.length) (λi=>.tup [.int (i:Int),.int (Zq D i)]) (λi=>.int (i:Int)) (λh=>!decide (h=b)&&decide (Zq D h<0)) a (by simp;omega) λy e=>⟨[ax (.int (y:Int)),ax (.int (Zq D y)),ax (.int (b:Int))],by simp[ZG,Fs],?_,λ_=>by simp⟩]
  ·unfold nL Xr iL;rw[bh];rfl
  ·by_cases q:y=b
   ·subst q;simp
   ·have d:¬(y:Int)=(b:Int):=by omega
    simp[q,d]
 show(ZL _ [ax (pP D),ax (.int (b:Int))]).bind Tf=_;rw[Lk c];rfl
theorem debt_nil{D:List Int}{b:Nat}:Xr D b=[]↔∀h,h<D.length->h≠b->0<=Zq D h:=by
 unfold Xr;rw[jV];constructor
 ·intro h x a c;have:=h x (aY.mpr a);simp[c] at this;exact this
 ·intro h x a;by_cases q:x=b
  ·simp[q]
  ·have:=h x (aY.mp a) q;simp[q];omega
theorem CK{D:List Int}{b h:Nat}:h∈Xr D b↔h<D.length/\h≠b/\Zq D h<0:=by unfold Xr;simp
end PW
set_option maxHeartbeats 2000000
namespace PW
open PySem L2 VL VX
section
variable {f g h k l:XE} {s s1:ZE} {a b c d e v r:PV} {i m:Nat} {F G:XS} {x y:XT} {o:Option Out} {p:Bool} {D:List PV->Option PV} {R:Option PV} {ls:List PV}
theorem WW(q:F (ZH m ls)=ax (.rt v)):YG m F ls=ax v:=by show(F (ZH m ls)).bind Tf=_;rw[q];rfl
theorem Zg3(q:F (ZH m ls)=ax (.nx s)):YG m F ls=ax .non:=by show(F (ZH m ls)).bind Tf=_;rw[q];rfl
theorem sq(q:F s=ax (.nx s1))(w:G s1=o):Zn F G s=o:=(U4 q).trans w
theorem Zr(q:f s=ax v):Zs i f s=ax (.nx (s.set i (ax v))):=by rw[YI,q];rfl
theorem ep(q:f s=ax v)(w:ZI v=aC:=by rfl):eP f s=ax v:=by rw[SR,q,aZ,m7 w]
theorem CM{l:List Int}(q:f s=ax (pP l)):eP f s=ax (pP l):=ep q (Yb _)
theorem c1(q:f s=ax a)(w:D [a]=R):Ze D [f] s=R:=by show((f s).bind λx=>ax [x]).bind D=_;rw[q];exact w
theorem c2(q:f s=ax a)(c:g s=ax b)(w:D [a,b]=R):Ze D [f,g] s=R:=by rw[YB,Zx,q,Zx,c];exact w
theorem c3(q:f s=ax a)(d:g s=ax b)(e:h s=ax c)(w:D [a,b,c]=R):Ze D [f,g,h] s=R:=by rw[YB,Zx,q,Zx,d,Zx,e];exact w
theorem c4(q:f s=ax a)(e:g s=ax b)(j:h s=ax c)(i:k s=ax d)(w:D [a,b,c,d]=R):Ze D [f,g,h,k] s=R:=by rw[YB,Zx,q,Zx,e,Zx,j,Zx,i];exact w
theorem c5(q:f s=ax a)(j:g s=ax b)(n:h s=ax c)(m:k s=ax d)(i:l s=ax e)(w:D [a,b,c,d,e]=R):Ze D [f,g,h,k,l] s=R:=by rw[YB,Zx,q,Zx,j,Zx,n,Zx,m,Zx,i];exact w
theorem o2{op:PV->PV->Option PV}(q:f s=ax a)(c:g s=ax b)(w:op a b=R):Zl op f g s=R:=by rw[WB,q,c];exact w
theorem xb(q:f s=ax (.bl p)):xB f s=ax p:=by rw[MC,q];rfl
theorem xn(q:x s=ax p):Ka x s=ax !p:=by rw[Kl,q];rfl
theorem xo{p2:Bool}(q:x s=ax p)(a:y s=ax p2):E5 x y s=ax (p || p2):=by
 rw[HQ,q];cases p
 ·exact a
 ·rfl
theorem ea{p2:Bool}(q:f s=ax (.bl p))(a:g s=ax (.bl p2)):JJ f g s=ax (.bl (p&&p2)):=by
 rw[Dt,xb q];cases p
 ·rfl
 ·exact a
theorem gof(q:x s=ax aB):Qq x F YH s=ax (.nx s):=by rw[T1,q];rfl
theorem ret(q:f s=ax v):ZL f s=ax (.rt v):=Lk q
theorem neq{l:List Int}(q:f s=ax (pP l))(a:g s=ax (pP l)):xB (Zl (WU aC) f g) s=ax aB:=xb (o2 q a (by simp))
theorem Zg4{w:PV}(q:f s=ax w):sEx f s=ax (.nx s):=by show(f s).map _=_;rw[q];rfl
end
theorem A7{f g:XE}{s:ZE}{l:List Int}{k:Nat}(a:f s=ax (pP l))(b:g s=ax (.int (k:Int)))(h:k<l.length):OO R5 f OY (R4 g) s=ax (pP (l.take k)):=by rw[Qs,a];simp only[aZ,HP];unfold R4;rw[b];simp only[aZ];unfold R5;simp only[];rw[m9,CC];rw[HT.sIx_none,HT.sIx_nat,aK];omega
theorem A8{f g:XE}{s:ZE}{l:List Int}{k:Nat}(b:f s=ax (pP l))(a:g s=ax (.int (k:Int)))(h:k<l.length):OO R5 f (R4 (Zl Yt g (eC (.int 1)))) OY s=ax (pP (l.drop (k+1))):=by
 have a:Zl Yt g (eC (.int 1)) s=ax (.int ((k+1:Nat):Int)):=by rw[WB,a];rfl
 rw[Qs,b];simp only[aZ,HP];unfold R4;rw[a];simp only[aZ];unfold R5;simp only[];rw[m9,CD];rw[HT.sIx_none,HT.sIx_nat,aK];omega
theorem Gq{a b:List Int}(h:a.length+b.length<=1000):NG (pP a) (pP b)=ax (pP (a++b)):=by unfold NG;simp only[];rw[m7 (by rw[aK,aK];omega),<-bP]
noncomputable def YW(F:XS)(s:ZE)(Q:PV->Prop):Prop:=∃v,F s=ax (.rt v)/\Q v
noncomputable def Wu(F:XS)(s:ZE)(R:ZE->Prop):Prop:=∃s1,F s=ax (.nx s1)/\R s1
section
variable {F G:XS} {s s1:ZE} {Q:PV->Prop} {R:ZE->Prop} {v:PV} {f g:XE} {x:XT} {p:Bool} {m i k n:Nat} {ls:List PV} {O:List Nat} {fi:XL} {T:Tgt} {fb:XS} {a b:Int}
theorem Oz(h:YW F (ZH m ls) Q):∃v,YG m F ls=ax v/\Q v:=by obtain⟨v,e,q⟩:=h;exact⟨v,WW e,q⟩
theorem K1(h:YW F (ZH m ls) λw=>w=v):YG m F ls=ax v:=by obtain⟨_,e,rfl⟩:=Oz h;exact e
theorem ZO(q:F s=ax (.nx s1))(h:YW G s1 Q):YW (Zn F G) s Q:=by obtain⟨v,e,a⟩:=h;exact⟨v,sq q e,a⟩
theorem VR(h:Wu F s R)(a:∀s1,R s1->YW G s1 Q):YW (Zn F G) s Q:=by obtain⟨s1,e,r⟩:=h;exact ZO e (a s1 r)
theorem Tt(q:f s=ax v)(h:Q v):YW (ZL f) s Q:=⟨v,ret q,h⟩
theorem Zg5(q:x s=ax aC)(h:YW F s Q):YW (Zn (Qq x F YH) G) s Q:=by obtain⟨v,e,a⟩:=h;exact⟨v,Zei (by rw[T1,q];exact e),a⟩
theorem O8(q:F s=ax (.nx s1))(h:R s1):Wu F s R:=⟨s1,q,h⟩
theorem Z9(q:F s=ax (.nx s1))(h:Wu G s1 R):Wu (Zn F G) s R:=by obtain⟨s2,e,r⟩:=h;exact⟨s2,sq q e,r⟩
theorem Gr{R2:ZE->Prop}(h:Wu F s R)(a:∀s1,R s1->Wu G s1 R2):Wu (Zn F G) s R2:=by obtain⟨s1,e,r⟩:=h;exact Z9 e (a s1 r)
theorem Gs(q:x s=ax p)(b:p=aC->Wu F s R)(a:p=aB->Wu G s R):Wu (Qq x F G) s R:=by
 unfold Wu;rw[T1,q];cases p
 ·exact a rfl
 ·exact b rfl
theorem Tu(I:Nat->ZE->Prop)(d:fi (Xg O s)=ax ls)(j:I 0 s)(st:∀i l s,ls[i]?=ax l->I i s->∃s1,Xf T l s=ax s1/\Wu fb s1 (I (i+1))):Wu (YF O fi T fb) s (I ls.length):=by
 obtain⟨c,e,q⟩:=T5 I j λi l s g h=>by obtain⟨s1,f,s2,a,b⟩:=st i l s g h;exact⟨s1,s2,f,a,b⟩
 refine⟨c,?_,q⟩;unfold YF;rw[d];exact e
theorem CN(I:Nat->ZE->Prop)(a:f (Xg O s)=ax (.int (n:Int)))(d:I 0 s)(st:∀i s,i<n->I i s->Wu fb (s.set k (ax (.int (i:Int)))) (I (i+1)))(e:n<=10000:=by omega):Wu (YF O (Z1 [f]) (.one k) fb) s (I n):=by
 have:=Tu (T:=.one k) (fb:=fb) I (Y6 a e) d λi l s c h=>by obtain⟨b,rfl⟩:=Dz c;exact⟨_,rfl,st i s b h⟩
 rwa [DA] at this
theorem Zbr(I:Nat->ZE->Prop)(c:f (Xg O s)=ax (.int (m:Int)))(a:g (Xg O s)=ax (.int (n:Int)))(j:I m s)(st:∀i s,m<=i->i<n->I i s->Wu fb (s.set k (ax (.int (i:Int)))) (I (i+1)))(b:m<=n:=by omega)(o:n<=10000:=by omega):Wu (YF O (W5 [f,g]) (.one k) fb) s (I n):=by
 have e:((n:Int)-(m:Int)).toNat=n-m:=by omega
 have:=Tu (T:=.one k) (fb:=fb) (λi=>I (m+i)) (NF c a (by omega) (by omega)) j λi l s d h=>by obtain⟨p,rfl⟩:=Kn d;exact⟨_,rfl,st (m+i) s (by omega) (by omega) h⟩
 rwa [Ko,e,show m+(n-m)=n by omega] at this
theorem A9{d:Type}{L:List d}{q g:d->PV}(c:d->Bool)(I:ZE->Prop)(j:fi (Xg O s)=ax (L.map q))(l:I s)(st:∀a∈L,∀s,I s->∃s1,Xf T (q a) s=ax s1/\(c a=aC->fb s1=ax (.rt (g a)))/\(c a=aB->Wu fb s1 I))(m:∀a,L.find? c=ax a->Q (g a))(f:L.find? c=aA->∀s1,I s1->YW G s1 Q):YW (Zn (YF O fi T fb) G) s Q:=by
 have b:=Ry (T:=T) (fb:=fb) (g:=g) I st l;have e:∀o,W8 T fb (L.map q) s=o->YF O fi T fb s=o:=λo h=>by unfold YF;rw[j];exact h
 cases z:L.find? c with
 | some a=>rw[z] at b;exact⟨_,Zei (e _ b),m a z⟩
 | none=>
  rw[z] at b;obtain⟨s1,k,i⟩:=b;exact ZO (e _ k) (f z s1 i)
theorem goT{o:Option Out}(q:x s=ax aC)(w:F s=o):Qq x F G s=o:=by rw[T1,q];exact w
theorem Zbs{b:Type}{L:List b}{q g:b->PV}{H:XS}(c:b->Bool)(I:ZE->Prop)(k:fi (Xg O s)=ax (L.map q))(o:I s)(st:∀a∈L,∀s,I s->∃s1,Xf T (q a) s=ax s1/\x s1=ax (c a)/\H s1=ax (.rt (g a))/\I s1)(l:∀a,L.find? c=ax a->Q (g a))(j:L.find? c=aA->∀s1,I s1->YW G s1 Q):YW (Zn (YF O fi T (Qq x H YH)) G) s Q:=
 A9 (g:=g) c I k o (λa m s i=>by
  obtain⟨s1,e,d,f,n⟩:=st a m s i;exact⟨s1,e,λh=>goT (by rw[d,h]) f,λh=>O8 (gof (by rw[d,h])) n⟩) l j
theorem Zg6{X:List Nat}(I:Nat->ZE->Prop)(a:fi (Xg O s)=ax (iL (nL X)))(c:I 0 s)(st:∀i s (h:i<X.length),I i s->Wu fb (s.set k (ax (.int ((X[i]:Nat):Int)))) (I (i+1))):Wu (YF O fi (.one k) fb) s (I X.length):=by
 have:=Tu (T:=.one k) (fb:=fb) I a c λi l s b h=>by
  have a:i<X.length:=by have:=(aO.mp b).1;simpa [nL] using this
  have e:l = .int ((X[i]:Nat):Int):=by rw[MD (by simpa [nL] using a)] at b;rw[<-bJ b];simp[nL,Zq,a]
  subst e;exact⟨_,rfl,st i s a h⟩
 rwa [show(iL (nL X)).length=X.length by simp[nL]] at this
theorem vmd(q:f s=ax (.int a))(c:g s=ax (.int b))(h:0<b:=by omega):Zl W4 f g s=ax (.int (a%b)):=vC q c h
theorem vdv(q:f s=ax (.int a))(d:g s=ax (.int b))(h:0<b:=by omega)(c:b<=10000:=by omega):Zl R0 f g s=ax (.int (a/b)):=vC q d (Zd2 h c)
theorem Et(q:f s=ax (.int a))(c:g s=ax (.int b)):Zl Yt f g s=ax (.int (a+b)):=vI q c
theorem vsb(q:f s=ax (.int a))(c:g s=ax (.int b)):Zl W3 f g s=ax (.int (a-b)):=vI q c
theorem vlt{a b:Nat}(q:f s=ax (.int (a:Int)))(c:g s=ax (.int (b:Int))):Zl Hx f g s=ax (.bl (decide (a<b))):=o2 q c (by
 show ax (PV.bl (decide ((a:Int)<(b:Int))))=_;rw[decide_eq_decide.mpr Int.ofNat_lt])
theorem vgt{a b:Nat}(q:f s=ax (.int (a:Int)))(c:g s=ax (.int (b:Int))):Zl Hy f g s=ax (.bl (decide (b<a))):=o2 q c (by
 show ax (PV.bl (decide ((a:Int)>(b:Int))))=_;rw[decide_eq_decide.mpr Int.ofNat_lt])
theorem vge(q:f s=ax (.int a))(c:g s=ax (.int b)):Zl oGe f g s=ax (.bl (decide (b<=a))):=o2 q c rfl
theorem eqi(q:f s=ax (.int a))(c:g s=ax (.int b)):Zl (WU aB) f g s=ax (.bl (decide (a=b))):=o2 q c (by rw[ME];rfl)
theorem xa{y:XT}{p2:Bool}(q:x s=ax p)(a:y s=ax p2):R1 x y s=ax (p&&p2):=by
 rw[Ds,q];cases p
 ·rfl
 ·exact a
theorem un1{op:PV->Option PV}{S:Option PV}(q:f s=ax v)(w:op v=S):Ff op f s=S:=by unfold Ff;rw[q];exact w
theorem Zg7{u w:PV}(q:f s=ax u)(a:g s=ax w):Wd [f,g] s=ax (.tup [u,w]):=by rw[TZ,Zx,q,Zx,a];rfl
theorem NU{S:Option PV}(q:x s=ax aC)(w:f s=S):LJ x f g s=S:=by rw[Qt,q];exact w
theorem NV{S:Option PV}(q:x s=ax aB)(w:g s=S):LJ x f g s=S:=by rw[Qt,q,aZ,m9 (by decide)];exact w
theorem Lo{a:Type}(h:a->PV){L:List a}{y:a}(q:f s=ax (h y))(b:LK s i=ax (L.map h))(c:L.length<=9000):YE i f s=ax (.nx (s.set i (ax (.lst ((L++[y]).map h))))):=by rw[Tg q b (by rw[aK];omega),bP];rfl
theorem IP{L:List Nat}(q:f s=ax (.int (k:Int)))(a:LK s i=ax (iL (nL L)))(b:L.length<=9000):YE i f s=ax (.nx (s.set i (ax (.lst (iL (nL (L++[k]))))))):=by rw[Tg q a (by simp[nL];omega)];simp[nL]
theorem Zen(Q:List Int):Y5 (iL Q)=(aD Q.length).map λ(i:Nat)=>.tup [.int (i:Int),.int (Zq Q i)]:=by
 rw[YJ,aK];exact ar λi a=>by rw[Xk Q i (aY.mp a)]
theorem K2{W:List (List Int)}:ZQ [wP W]=ax (.int (W.length:Int)):=by show ax (PV.int ((W.map pP).length:Int))=_;rw[aK]
theorem Zeo{l:List Int}(q:f s=ax (.int (k:Int)))(b:g s=ax (.int a))(d:LK s i=ax (iL l))(c:k<l.length):SQ i f g s=ax (.nx (s.set i (ax (.lst (iL (l.set k a)))))):=by rw[Ft b q d (Yb _) rfl (T8 (by rw[aK];exact c)),<-jU]
theorem CO{o:List Int}(q:f s=ax (.int (n:Int)))(b:g s=ax (.int a))(c:LK s i=ax (iL o))(d:n<=1000)(e:o.length<=1000):UE i f g s=ax (.nx (s.set i (ax (.lst (iL (o.take n++a::o.drop n)))))):=by rw[JZ q b c (Yb o) rfl (by omega) (by omega) (by rw[aK];omega),bc,Zee]
end
end PW
namespace PW
theorem RA{f:Nat->Int}{q:Nat}:∀{m:Nat},q<=m->(∀k,q<=k->k<m->f k=0)->sN m f=sN q f
 | 0,h,_=>by rw[show q=0 by omega]
 | m+1,h,z=>by
  by_cases e:q=m+1
  ·rw[e]
  ·show sN m f+f m=_;rw[RA (m:=m) (by omega) (λk a b=>z k a (by omega)),z m (by omega) (by omega)];omega
theorem Gu{f:Nat->Int}{q i:Nat}:∀{m:Nat},q<=i->i<m->(∀k,q<=k->k<m->k≠i->f k=0)->sN m f=sN q f+f i
 | 0,_,h,_=>by omega
 | m+1,hq,hi,z=>by
  show sN m f+f m=_;by_cases e:i=m
  ·subst e;rw[RA (q:=q) (by omega) λk a b=>z k a (by omega) (by omega)]
  ·rw[Gu (m:=m) hq (by omega) (λk a b=>z k a (by omega)),z m (by omega) (by omega) (λq=>e q.symm)];omega
noncomputable def Wa(m:Nat)(X:Mt):Nat->Mt×Int
 | 0=>(X,1)
 | p+1=>(λi j=>if i=p then(Wa m X p).1 i j else((Wa m X p).1 p p*(Wa m X p).1 i j-(Wa m X p).1 i p*(Wa m X p).1 p j).fdiv (Wa m X p).2,(Wa m X p).1 p p)
structure BOk(m:Nat)(A X:Mt):Prop where
 sym:∀i j,i<m->j<m->A i j=A j i
 inj:∀p,p<=m->∀z:Nat->Int,(∀j,j<p->sN p (λk=>z k*A k j)=0)->∀k,k<p->z k=0
 ext:∀i j,i<m->j<m->X i j=A i j
structure Ziu(m p:Nat)(X:Mt)(E:Mt)(d:Int)(i:Nat)(a:Nat->Int):Prop where
 off:∀k,k<m->p<=k->k≠i->a k=0
 on:p<=i->a i=d
 val:∀j,j<=m->E i j=sN m (λk=>a k*X k j)
 uni:∀j,j<p->E i j=if i=j then d else 0
structure Zeq(m:Nat)(A X:Mt)(p:Nat)(E:Mt)(d:Int):Prop where
 de:d=Wo p A
 nz:d≠0
 row:∀i,i<m->∃a,Ziu m p X E d i a
theorem OA{m:Nat}{A X:Mt}{p:Nat}{E:Mt}{d:Int}(ok:BOk m A X)(R:p<m)(I:Zeq m A X p E d) :
  Zeq m A X (p+1) (λi j=>if i=p then E i j else(E p p*E i j-E i p*E p j).fdiv d) (E p p)/\∀i j,i<m->j<=m->i≠p->∃q,E p p*E i j-E i p*E p j=d*q:=by
 obtain⟨u,t⟩:=I.row p R;have hd:=I.nz
 -- the pivot's row
 have x:∀j,j<m->E p j=sN (p+1) (λk=>u k*A k j):=λj g=>by
  rw[t.val j (by omega),RA (q:=p+1) (by omega) λk w v=>by rw[t.off k v (by omega) (by omega),dw]];exact Zj λk f=>by rw[ok.ext k j (by omega) g]
 have Y:E p p=Wo (p+1) A:=by
  have w:=A1 (n:=p+1) (j:=p) (A:=A) (a:=u) (by omega);have v:=KU (A:=put p (λc=>sN (p+1) λk=>u k*A k c) A) λc W=>by rw[Yz];rw[<-x c (by omega),t.uni c W,m9 (by omega)]
  have Q:Wo p (put p (λc=>sN (p+1) λk=>u k*A k c) A)=Wo p A:=X9 λr c hr W=>by rw[WT _ _ (by omega)]
  rw[Yz,Q,w,t.on (aX p),<-I.de] at v;have h4:d*Wo (p+1) A=E p p*d:=by rw[v];rw[<-x p R]
  have h5:d*(Wo (p+1) A)=d*E p p:=by rw[h4,cG]
  exact(iK hd h5).symm
 have pz:E p p≠0:=λz=>by
  have:=ok.inj (p+1) (by omega) u (λj g=>by
   rw[<-x j (by omega)];by_cases q:j=p
   ·rw[q];exact z
   ·rw[t.uni j (by omega),m9 (by omega)]) p (by omega)
  rw[t.on (aX p)] at this;exact hd this
 -- the s rows
 have s:∀i,i<m->i≠p->∃b:Nat->Int,(∀k,k<m->p+1<=k->k≠i->b k=0)/\(p+1<=i->b i=E p p)/\(∀l,l<p+1->sN m (λk=>b k*A k l)=if i=l then E p p else 0)/\∀j,j<=m->E p p*E i j-E i p*E p j=d*sN m (λk=>b k*X k j):=by
  intro i C o
  obtain⟨b,b1,L,F⟩:∃b:Nat->Int,(∀k,k<m->p+1<=k->k≠i->b k=0)/\(p+1<=i->b i=E p p)/\(∀l,l<p+1->sN m (λk=>b k*A k l)=if i=l then E p p else 0):=by
   have Z:∀j l,j<p+1->l<p+1->sN (p+1) (λk=>IJ (p+1) A k j*A k l)=if l=j then E p p else 0:=λj l g B=>by
    rw[Y,<-Gn B g];exact Zj λk f=>by rw[ok.sym l k (by omega) (by omega),cG]
   by_cases q:i<p
   ·obtain⟨b,y⟩:∃b:Nat->Int,∀k,b k=if k<p+1 then IJ (p+1) A k i else 0:=⟨_,λ_=>rfl⟩
    refine⟨b,λk f w _=>by rw[y,m9 (by omega)],λh=>by omega,λl B=>?_⟩;rw[RA (q:=p+1) (by omega) λk w v=>by rw[y,m9 (by omega),dw]];rw[Zj λk f=>by rw[y,m7 f],Z i l (by omega) B];by_cases e:i=l
    ·rw[m7 e,m7 e.symm]
    ·rw[m9 e,m9 (λz=>e z.symm)]
   ·obtain⟨b,y⟩:∃b:Nat->Int,∀k,b k=if k<p+1 then-sN (p+1) (λj=>A i j*IJ (p+1) A k j) else if k=i then E p p else 0:=⟨_,λ_=>rfl⟩
    have J:b i=E p p:=by rw[y,m9 (by omega),m7 rfl]
    refine⟨b,λk f w v=>by rw[y,m9 (by omega),m9 v],λh=>J,λl B=>?_⟩;rw[Gu (q:=p+1) (by omega) C λk w v Q=>by rw[y,m9 (by omega),m9 Q,dw]];rw[J]
    have O:sN (p+1) (λk=>b k*A k l)=sN (p+1) (λk=>(-1)*sN (p+1) (λj=>A i j*(IJ (p+1) A k j*A k l))):=Zj λk f=>by
     rw[y,m7 f,ck,cG _ (A k l),<-ZY,ck,iS];congr 1;exact Zj λj _=>by rw[cG (A k l),cL]
    rw[O,ZY,UW];have e2:(sN (p+1) λj=>sN (p+1) λk=>A i j*(IJ (p+1) A k j*A k l))=A i l*E p p:=by rw[Zj λj g=>by rw[ZY,Z j l g B]];rw[Ym B λj _ P=>by rw[m9 (λz=>P z.symm),du],m7 rfl]
    rw[e2,cG (E p p)];omega
  refine⟨b,b1,L,F,?_⟩;obtain⟨D,G⟩:=I.row i C
  have hw:∀k,k<m->E p p*D k-E i p*u k-d*b k=0:=by
   have H:∀k,k<m->p+1<=k->E p p*D k-E i p*u k-d*b k=0:=λk f w=>by
    have T:=t.off k f (by omega) (by omega);by_cases q:k=i
    ·subst q;rw[G.on (by omega),T,L w,cG d];omega
    ·rw[G.off k f (by omega) q,T,b1 k f w q];omega
   intro k f;by_cases q:k<p+1
   ·refine ok.inj (p+1) (by omega) (λk=>E p p*D k-E i p*u k-d*b k) (λl B=>?_) k q;rw[<-RA (m:=m) (by omega) λk w v=>by rw[H k v w,dw]]
    have O:sN m (λk=>(E p p*D k-E i p*u k-d*b k)*A k l)=E p p*sN m (λk=>D k*A k l)+((- E i p)*sN m (λk=>u k*A k l)+(- d)*sN m (λk=>b k*A k l)):=by
     rw[<-ZY,<-ZY,<-ZY,<-ZT,<-ZT];exact Zj λk _=>by rw[Int.sub_mul,Int.sub_mul];simp only[cL,ck];omega
    have U:∀a:Nat->Int,sN m (λk=>a k*X k l)=sN m (λk=>a k*A k l):=λa=>Zj λk f=>by rw[ok.ext k l f (by omega)]
    rw[O,F l B,<-U,<-U,<-G.val l (by omega),<-t.val l (by omega)];by_cases q2:l=p
    ·subst q2;rw[m9 o,cG (E l l),ck];omega
    ·rw[G.uni l (by omega),t.uni l (by omega),m9 (show ¬p=l by omega)];by_cases M:i=l
     ·rw[m7 M,m7 M,ck d,cG d];omega
     ·rw[m9 M,m9 M];omega
   ·exact H k f (by omega)
  intro j g;rw[G.val j g,t.val j g,<-ZY,<-ZY,<-ZY];have:sN m (λk=>E p p*(D k*X k j))=sN m (λk=>d*(b k*X k j))+sN m (λk=>E i p*(u k*X k j)):=by rw[<-ZT];refine Zj λk f=>?_;have:=hw k f;rw[<-cL,<-cL,<-cL,<-iQ];congr 1;omega
  omega
 refine⟨⟨Y,pz,λi C=>?_⟩,λi j C g o=>?_⟩
 ·by_cases o:i=p
  ·subst o;refine⟨u,λk f w v=>t.off k f (by omega) v,λh=>by omega,λj g=>by rw[m7 rfl];exact t.val j g,λj g=>?_⟩;rw[m7 rfl];by_cases q:i=j
   ·subst q;rw[m7 rfl]
   ·rw[m9 q,t.uni j (by omega),m9 q]
  ·obtain⟨b,b1,L,F,N⟩:=s i C o;have S:∀j,j<=m->(E p p*E i j-E i p*E p j).fdiv d=sN m (λk=>b k*X k j):=λj g=>by rw[N j g,ie _ hd]
   refine⟨b,b1,L,λj g=>by rw[m9 o];exact S j g,λj g=>?_⟩;rw[m9 o,S j (by omega),<-F j g];exact Zj λk f=>by rw[ok.ext k j f (by omega)]
 ·obtain⟨b,b1,L,F,N⟩:=s i C o;exact⟨_,N j g⟩
theorem XC{m:Nat}{A X:Mt}(ok:BOk m A X):∀{p:Nat},p<=m->Zeq m A X p (Wa m X p).1 (Wa m X p).2
 | 0,_=>⟨rfl,(show(1:Int)≠0 by decide),λi c=>⟨λk=>if k=i then 1 else 0,λk _ _ h=>m9 h,λ_=>m7 rfl,λj a=>by rw[Ym (k:=i) c λk _ b=>by rw[m9 b,dw],m7 rfl,iS];rfl,λj a=>by omega⟩⟩
 | p+1,h=>(OA ok (by omega) (XC ok (p:=p) (by omega))).1
theorem F6{m:Nat}{A X:Mt}(ok:BOk m A X){k:Nat}(b:k<m):sN m (λi=>A k i*(Wa m X m).1 i m)=(Wa m X m).2*X k m:=by
 have I:=XC ok (aX m);generalize s:(Wa m X m).1=E at I ⊢;generalize hd:(Wa m X m).2=d at I ⊢;have p:=I.nz
 have e:∀k,k<m->sN m (λi=>A k i*sN m (λj=>IJ m A i j*X j m))=d*X k m:=λk b=>by
  rw[Zj (g:=λi=>sN m (λj=>A k i*(IJ m A i j*X j m))) λi _=>by rw[ZY]]
  rw[UW,Zj (g:=λj=>(if k=j then d else 0)*X j m) λj o=>by
   rw[I.de,<-Gn b o,cG _ (X j m),<-ZY];exact Zj λi _=>by rw[cG (X j m),cL]]
  rw[Ym b λj _ h=>by rw[m9 (λz=>h z.symm),dw],m7 rfl]
 have q:∀i,i<m->E i m=sN m (λj=>IJ m A i j*X j m):=λi c=>by
  obtain⟨a,R⟩:=I.row i c;refine iK p ?_;rw[R.val m (aX m),<-ZY];have n:sN m (λk=>d*(a k*X k m))=sN m (λk=>a k*sN m (λl=>A k l*sN m (λj=>IJ m A l j*X j m))):=Zj λk b=>by rw[e k b,fE]
  rw[n,Zj (g:=λk=>sN m (λl=>a k*A k l*sN m (λj=>IJ m A l j*X j m))) λk _=>by rw[<-ZY];exact Zj λl _=>by rw[cL]]
  rw[UW,Zj (g:=λl=>(if i=l then d else 0)*sN m (λj=>IJ m A l j*X j m)) λl f=>by
   rw[<-R.uni l f,R.val l (by omega),cG _ (sN m λj=>IJ m A l j*X j m),<-ZY];exact Zj λk b=>by rw[ok.ext k l b f,cG]]
  rw[Ym c λl _ h=>by rw[m9 (λz=>h z.symm),dw],m7 rfl]
 rw[Zj λi c=>by rw[q i c]];exact e k b
open L2 VL
theorem CP{z:Int}(h:z.natAbs<2^1000):z.natAbs.log2<1000:=by
 by_cases a:z.natAbs=0
 ·rw[a];decide +kernel
 ·exact(Nat.log2_lt a).mpr h
theorem Gv{a b:Int}(h:a.natAbs<2^1000)(h':b.natAbs<2^1000):CMulW a b:=⟨by have:=CP h;omega,by have:=CP h';omega⟩
theorem Gw{a b:Int}(c:b≠0)(h:b.natAbs<2^1000):Pu a b:=⟨c,by have:=CP h;omega⟩
noncomputable def Mb:Nat->Nat
 | 0=>2^7
 | p+1=>2*Mb p*Mb p
noncomputable def Nb:Nat->Nat
 | 0=>2^208
 | p+1=>2*Mb p*Nb p
theorem Zg8{p:Nat}(h:p<=6):Mb p<2^1000:=by
 have:p=0\/p=1\/p=2\/p=3\/p=4\/p=5\/p=6:=by omega
 rcases this with rfl | rfl | rfl | rfl | rfl | rfl | rfl<;>decide +kernel
theorem Ziv{p:Nat}(h:p<=6):Nb p<2^1000:=by
 have:p=0\/p=1\/p=2\/p=3\/p=4\/p=5\/p=6:=by omega
 rcases this with rfl | rfl | rfl | rfl | rfl | rfl | rfl<;>decide +kernel
theorem Gx{a b c d:Int}{M N:Nat}(e:a.natAbs<=M)(g:b.natAbs<=N)(f:c.natAbs<=M)(hd:d.natAbs<=N):(a*b-c*d).natAbs<=2*M*N:=by
 have i:(a*b).natAbs<=M*N:=by rw[jw];exact iB e g
 have j:(c*d).natAbs<=M*N:=by rw[jw];exact iB f hd
 have h:(a*b-c*d).natAbs<=(a*b).natAbs+(c*d).natAbs:=by omega
 have k:2*M*N=M*N+M*N:=by rw[Nat.mul_assoc];omega
 omega
theorem K3{x d q:Int}(hd:d≠0)(e:x=d*q):(x.fdiv d).natAbs<=x.natAbs:=by
 rw[e,ie _ hd,jw];have:1<=d.natAbs:=by omega
 calc q.natAbs=1*q.natAbs:=by omega
  _<=d.natAbs*q.natAbs:=g6 _ this
theorem Zaa(p:Nat):Mb p<=Mb (p+1):=by
 have h:∀p,1<=Mb p:=λp=>by
  induction p with
  | zero=>decide
  | succ p ih=>show 1<=2*Mb p*Mb p;exact iB (show 1<=2*Mb p by omega) ih
 show Mb p<=2*Mb p*Mb p
 calc Mb p=1*Mb p:=by omega
  _<=2*Mb p*Mb p:=g6 _ (by have:=h p;omega)
theorem Zab(p:Nat):Nb p<=Nb (p+1):=by
 have h:∀p,1<=Mb p:=λp=>by
  induction p with
  | zero=>decide
  | succ p ih=>show 1<=2*Mb p*Mb p;exact iB (show 1<=2*Mb p by omega) ih
 show Nb p<=2*Mb p*Nb p
 calc Nb p=1*Nb p:=by omega
  _<=2*Mb p*Nb p:=g6 _ (by have:=h p;omega)
theorem RD{m:Nat}{A X:Mt}(ok:BOk m A X)(h:∀i j,i<m->j<m->(X i j).natAbs<=2^7)(f:∀i,i<m->(X i m).natAbs<=2^208):∀{p:Nat},p<=m->(∀i j,i<m->j<m->((Wa m X p).1 i j).natAbs<=Mb p)/\∀i,i<m->((Wa m X p).1 i m).natAbs<=Nb p
 | 0,_=>⟨h,f⟩
 | p+1,hp=>by
  obtain⟨b1,d⟩:=RD ok h f (p:=p) (by omega);have I:=XC ok (p:=p) (by omega);have g:=(OA ok (by omega) I).2;refine⟨λi j a c=>?_,λi a=>?_⟩
  ·show(if i=p then(Wa m X p).1 i j else _).natAbs<=_;split
   ·exact bg (b1 i j a c) (Zaa p)
   ·rename_i b;obtain⟨q,e⟩:=g i j a (by omega) b;exact bg (K3 I.nz e) (Gx (b1 p p (by omega) (by omega)) (b1 i j a c) (b1 i p a (by omega)) (b1 p j (by omega) c))
  ·show(if i=p then(Wa m X p).1 i m else _).natAbs<=_;split
   ·exact bg (d i a) (Zab p)
   ·rename_i b;obtain⟨q,e⟩:=g i m a (by omega) b;exact bg (K3 I.nz e) (Gx (b1 p p (by omega) (by omega)) (d i a) (b1 i p a (by omega)) (d p (by omega)))
noncomputable def Xa(w:Nat)(f:Nat->Int):List Int:=(aD w).map f
theorem Y4(w:Nat)(f:Nat->Int):(Xa w f).length=w:=by simp[Xa]
theorem Tv{w:Nat}{f:Nat->Int}{j:Nat}(h:j<w):Zq (Xa w f) j=f j:=ZN h
theorem Ziw{l:List Int}:(lW ((lW (ax (PV.lst (iL l))) λx=>(Qm [] s).map (x::·)).bind ZX) λl=>if ZI l=aC then ax l else aA)=ax (pP l):=by show(if ZI (pP l)=aC then ax (pP l) else aA)=_;rw[m7 (by simp)]
theorem Lp{n:Nat}{c:List Nat}{e:XL}{T:Tgt}{d:XE}{s:ZE}{w:Nat}{q:Nat->PV}(g:Nat->Int)(i:e s=ax ((aD w).map q))(k:w<=100)(h:∀j,j<w->∃s1,Xf T (q j) (ZG n c s)=ax s1/\d s1=ax (.int (g j))):Zu n c e T ZF d s=ax (.lst (iL (Xa w g))):=by
 rw[ZM (aD w) q (λj=>.int (g j)) i (by rw[bw];omega) λj f=>by
  obtain⟨s1,a,b⟩:=h j (aY.mp f);exact⟨s1,a,rfl,b⟩]
 simp[Xa]
theorem IQ{w:Nat}{f:Nat->Int}{j:Nat}(h:j<w):SD (iL (Xa w f)) (j:Int)=ax (.int (f j)):=by rw[Xi (by rw[Y4];exact h),Tv h]
theorem IS{w p:Nat}{f g:Nat->Int}{d:Int}(n:w<=100)(e:p<w)(k:∀j,j<w->(f j).natAbs<2^1000)(m:∀j,j<w->(g j).natAbs<2^1000)(hd:d≠0)(h:d.natAbs<2^1000) :
  UI [pP (Xa w f),pP (Xa w g),.int (p:Int),.int d]=ax (pP (Xa w λj=>(g p*f j-f p*g j).fdiv d)):=by
 refine WW (ret (CM (c1 (Lp (q:=λj=>.tup [.int (f j),.int (g j)]) (λj=>(g p*f j-f p*g j).fdiv d) ?_ n λj l=>⟨_,rfl,?_⟩) rfl)))
 ·show ax (SN (iL (Xa w f)) (iL (Xa w g)))=_;rw[Vu _ _ (by simp[Y4]),aK,Y4];congr 1;refine ar λi c=>?_;have c:=aY.mp c;rw[Xk _ i (by rw[Y4];exact c),Xk _ i (by rw[Y4];exact c),Tv c,Tv c]
 ·exact vC (C:=Pu) (op:=mX) (vI (vC (C:=CMulW) (op:=(· * ·)) (a:=g p) (b:=f j) (o2 rfl rfl (IQ e)) rfl (Gv (m p e) (k j l))) (vC (C:=CMulW) (op:=(· * ·)) (a:=f p) (b:=g j) (o2 rfl rfl (IQ e)) rfl (Gv (k p e) (m j l)))) rfl (Gw hd h)
noncomputable def NW(m w:Nat)(E:Mt):List (List Int):=(aD m).map λi=>Xa w (E i)
theorem Zac(m w:Nat)(E:Mt):(NW m w E).length=m:=by simp[NW]
noncomputable def tL(M:List (List Int)):List PV:=M.map pP
theorem IT(m w:Nat)(E:Mt):tL (NW m w E)=(aD m).map λi=>pP (Xa w (E i)):=by unfold tL NW;rw[bh];rfl
theorem OB(m w:Nat)(E:Mt):(tL (NW m w E)).length=m:=by simp[tL,Zac]
theorem IU{m w:Nat}{E:Mt}{i:Nat}(h:i<m):(tL (NW m w E))[i]?=ax (pP (Xa w (E i))):=by rw[IT,aW,br h];rfl
theorem Gy(M:List (List Int)):ZC (tL M)=aC:=Km M
theorem Lq{n:Nat}{c:List Nat}{e:XL}{T:Tgt}{d:XE}{s:ZE}{m w:Nat}{q:Nat->PV}(E:Mt)(g:e s=ax ((aD m).map q))(i:m<=100)(h:∀j,j<m->∃s1,Xf T (q j) (ZG n c s)=ax s1/\d s1=ax (pP (Xa w (E j)))):Zu n c e T ZF d s=ax (.lst (tL (NW m w E))):=by
 rw[ZM (aD m) q (λj=>pP (Xa w (E j))) g (by rw[bw];omega) λj f=>by
  obtain⟨s1,a,b⟩:=h j (aY.mp f);exact⟨s1,a,rfl,b⟩,IT]
theorem F7{m w:Nat}{A X:Mt}(C:m<=6)(B:m<=w)(o:w<=m+1)(ok:BOk m A X)(y:∀i j,i<m->j<m->(X i j).natAbs<=2^7)(z:∀i,i<m->(X i m).natAbs<=2^208){R:PV}(t:R = .lst (tL (NW m w X))\/R = .tup (tL (NW m w X))) :
  V7 [R]=ax (.tup [.int (Wa m X m).2,.lst (tL (NW m w (Wa m X m).1))]):=by
 have g:∀{p:Nat},p<=m->∀i j,i<m->j<m+1->((Wa m X p).1 i j).natAbs<2^1000:=λ{p} c i j a f=>by
  obtain⟨b1,x⟩:=RD ok y z c;by_cases q:j<m
  ·exact eT (b1 i j a q) (Zg8 (by omega))
  ·rw[show j=m by omega];exact eT (x i a) (Ziv (by omega))
 have u:∀{p:Nat},p<=m->(Wa m X p).2.natAbs<2^1000:=λ{p} c=>by
  cases p with
  | zero=>show(1:Int).natAbs<_;decide +kernel
  | succ p=>exact g (p:=p) (by omega) p p (by omega) (by omega)
 let st:Nat->Option PV->Option PV->ZE:=λp d b=>[ax R,ax (.lst (tL (NW m w (Wa m X p).1))),ax (.int (Wa m X p).2),d,b]
 have k:SM [R]=ax (.lst (tL (NW m w X)))/\ZQ [R]=ax (.int (m:Int)):=by
  rcases t with rfl | rfl
  ·exact⟨by rw[Dy,m7 (Gy _)],by show ax (PV.int ((tL (NW m w X)).length:Int))=_;rw[OB]⟩
  ·exact⟨by rw[Dx,m7 (Gy _)],by show ax (PV.int ((tL (NW m w X)).length:Int))=_;rw[OB]⟩
 suffices h:YW Px (ZH 5 [R]) λv=>v = .tup [.int (Wa m X m).2,.lst (tL (NW m w (Wa m X m).1))] by obtain⟨v,e,rfl⟩:=Oz h;exact e
 refine ZO (Zr (c1 rfl k.1)) (ZO (Zr (vP rfl)) (VR (CN (n:=m) (λp s=>∃d b,s=st p d b) (c1 rfl k.2) ⟨aA,aA,rfl⟩ ?_) ?_))
 ·rintro p s c ⟨d,b,rfl⟩;have I:=XC ok (p:=p) (by omega);have l:=λi j a f=>g (p:=p) (by omega) i j a f;refine Z9 (Zr (CM (o2 rfl rfl (Uz (IU c))))) (Z9 (Zr (Lq (w:=w) (Wa m X (p+1)).1 (q:=λi=>.tup [.int (i:Int),pP (Xa w ((Wa m X p).1 i))]) ?_ (by omega) λi a=>⟨_,rfl,CM ?_⟩)) (O8 (Zr (vP (o2 rfl rfl (IQ (by omega))))) ⟨_,_,rfl⟩))
  ·show ax (Y5 (tL (NW m w (Wa m X p).1)))=_;rw[YJ,OB];congr 1;refine ar λi a=>?_;rw[aG,IU (aY.mp a)];rfl
  ·by_cases q:i=p
   ·exact NU (xb ((eqi rfl rfl).trans (by rw[decide_eq_true (by omega)]))) (by rw[show(Wa m X (p+1)).1 i=(Wa m X p).1 i from funext λj=>m7 q];rfl)
   ·refine NV (xb ((eqi rfl rfl).trans (by rw[decide_eq_false (by omega)]))) ?_;rw[show(Wa m X (p+1)).1 i=_ from funext λj=>m9 q];exact c4 rfl rfl rfl rfl (IS (by omega) (by omega) (λj f=>l i j a (by omega)) (λj f=>l p j c (by omega)) I.nz (u (by omega)))
 ·rintro s ⟨d,b,rfl⟩;exact⟨_,rfl,rfl⟩
theorem F8{m:Nat}{A X:Mt}(g:m<=6)(ok:BOk m A X)(c:∀i j,i<m->j<m->(X i j).natAbs<=2^7)(b:∀i,i<m->(X i m).natAbs<=2^208) :
  Wf [wP (NW m m A),pP (Xa m λi=>X i m)]=ax (.lst (iL (Xa m λi=>((Wa m X m).1 i m).fdiv (Wa m X m).2))):=by
 have I:=XC ok (aX m)
 have e:(Wa m X m).2.natAbs<2^1000:=by
  cases m with
  | zero=>show(1:Int).natAbs<_;decide +kernel
  | succ k=>exact eT ((RD ok c b (p:=k) (by omega)).1 k k (by omega) (by omega)) (Zg8 (by omega))
 refine WW (sq (Zr (c1 (Lq (w:=m+1) X (q:=λi=>.tup [pP (Xa m (A i)),.int (X i m)]) ?_ (by omega) λi a=>⟨_,rfl,?_⟩) (F7 g (by omega) (by omega) ok c b (.inl rfl)))) (ret (Lp (q:=λi=>pP (Xa (m+1) ((Wa m X m).1 i))) _ ?_ (by omega) λi a=>⟨_,rfl,vP (vC (C:=Pu) (op:=mX) (o2 rfl rfl ?_) rfl (Gw I.nz e))⟩)))
 ·show ax (SN (tL (NW m m A)) (iL (Xa m λi=>X i m)))=_;rw[Vu _ _ (by rw[OB,aK,Y4]),OB];congr 1;refine ar λi a=>?_;have a:=aY.mp a;rw[Xk _ i (by rw[Y4];exact a),Tv a,aG,IU a];rfl
 ·have f:iL (Xa m (A i))++[PV.int (X i m)]=iL (Xa (m+1) (X i)):=by unfold Xa;rw[ee,bP];simp;exact λj d=>(ok.ext i j a d).symm
  show(if(iL (Xa m (A i))).length+[PV.int (X i m)].length<=10000 then ax (PV.tup (iL (Xa m (A i))++[PV.int (X i m)])) else aA)=_;rw[m7 (by simp[Y4];omega),f]
 ·show ax (tL (NW m (m+1) (Wa m X m).1))=_;rw[IT]
 ·show SD (iL (Xa (m+1) ((Wa m X m).1 i))) (-1)=_;unfold SD LW;rw[aK,Y4,m9 (by omega),m7 (by omega),show(-1+((m+1:Nat):Int)).toNat=m by omega];show(iL (Xa (m+1) ((Wa m X m).1 i)))[m]?=_;rw[MD (by rw[Y4];omega),Tv (by omega)]
noncomputable def WI(b i:Nat):Nat:=if i<b then i else i+1
noncomputable def Gz(b h:Nat):Nat:=if h<b then h else h-1
theorem CQ(b i:Nat):WI b i≠b:=by unfold WI;split<;>omega
theorem VF{b i m:Nat}(h:i<m):WI b i<m+1:=by unfold WI;split<;>omega
theorem GA(b i:Nat):Gz b (WI b i)=i:=by unfold Gz WI;split<;>(try split)<;>omega
theorem QF{b h:Nat}(q:h≠b):WI b (Gz b h)=h:=by unfold Gz WI;split<;>(try split)<;>omega
theorem CS{b h m:Nat}(c:b<m+1)(a:h<m+1)(q:h≠b):Gz b h<m:=by unfold Gz;split<;>omega
theorem K4{n b:Nat}(c:n<=7)(a:b<n):(aD n).filter (λh=>!decide (h=b))=(aD (n-1)).map (WI b):=by
 have:∀n,n<8->∀b,b<8->b<n->(aD n).filter (λh=>!decide (h=b))=(aD (n-1)).map (WI b):=by decide
 exact this n (by omega) b (by omega) a
theorem CT{f:Nat->Int}{b:Nat}(a:f b=0):∀{m:Nat},b<m+1->sN (m+1) f=sN m (λi=>f (WI b i))
 | 0,h=>by
  have:b=0:=by omega
  subst this;show 0+f 0=0;rw[a];rfl
 | m+1,h=>by
  by_cases q:b=m+1
  ·subst q;show sN (m+1) f+f (m+1)=_;rw[a,gs];exact Zj λi c=>by unfold WI;rw[m7 c]
  ·show sN (m+1) f+f (m+1)=sN m (λi=>f (WI b i))+f (WI b m);rw[CT a (m:=m) (by omega),show WI b m=m+1 by unfold WI;rw[m9 (by omega)]]
theorem Uo{f:Nat->Int}:∀{n:Nat},(∀i,i<n->0<=f i)->sN n f<=0->∀i,i<n->f i=0
 | 0,_,_,i,h=>by omega
 | n+1,h,s,i,a=>by
  have s:sN n f+f n<=0:=s
  have d:0<=sN n f:=by
   have:∀k,k<=n->0<=sN k f:=by
    intro k
    induction k with
    | zero=>intro _;exact dR 0
    | succ k ih=>intro b;have:=ih (by omega);have:=h k (by omega);show 0<=sN k f+f k;omega
   exact this n (aX n)
  have c:=h n (by omega);by_cases q:i=n
  ·subst q;omega
  ·exact Uo (n:=n) (λi a=>h i (by omega)) (by omega) i (by omega)
theorem YU{f:Nat->Int}:∀{n:Nat},(∀i,i<n->0<=f i)->0<=sN n f
 | 0,_=>dR 0
 | n+1,h=>by have:=YU (n:=n) λi a=>h i (by omega);have:=h n (by omega);show 0<=sN n f+f n;omega
theorem K5(Y:Nat->Int):∀{n:Nat},0<n->∃h,h<n/\∀g,g<n->Y h<=Y g
 | 0,h=>by omega
 | 1,_=>⟨0,by omega,λg b=>by rw[show g=0 by omega];exact dR _⟩
 | n+2,_=>by
  obtain⟨h,c,a⟩:=K5 Y (n:=n+1) (by omega);by_cases q:Y h<=Y (n+1)
  ·exact⟨h,by omega,λg b=>by
    by_cases e:g=n+1
    ·rw[e];exact q
    ·exact a g (by omega)⟩
  ·exact⟨n+1,by omega,λg b=>by
    by_cases e:g=n+1
    ·rw[e];exact dR _
    ·have:=a g (by omega);omega⟩
noncomputable def gN(W:List (List Int))(Y:Nat->Int)(h:Nat):Int:=sN W.length (λg=>Zz W h g*(Y g-Y h))
theorem Zad{W:List (List Int)}(ok:ZA W)(v:VY W){Y:Nat->Int}{b:Nat}(p:b<W.length)(k:∀h,h<W.length->h≠b->Y h<Y b->gN W Y h<=0):∀h,h<W.length->Y b<=Y h:=by
 intro h w;refine Int.not_lt.mp λq=>?_;obtain⟨i,o,l⟩:=K5 Y (n:=W.length) (by omega);have u:Y i<Y b:=by have:=l h w;omega
 have step:∀a c,a<W.length->c<W.length->0<Zz W a c->Y a=Y i->Y c=Y i:=λa c d e j ea=>by
  have s:=k a d (λz=>by rw[z] at ea;omega) (by omega);have t:=Uo (f:=λg=>Zz W a g*(Y g-Y a)) (λg m=>dj (ok.lo a g d m) (by have:=l g m;omega)) s c e
  have:Y c-Y a=0:=by
   rcases Int.mul_eq_zero.mp t with z | z
   ·omega
   ·exact z
  omega
 have:=(v (λx=>Y x=Y i) (λa c d e j=>⟨step a c d e j,step c a e d (by rw[ok.sym c a e d];exact j)⟩) i b o p).mp rfl;omega
theorem Tw{W:List (List Int)}(Y Z:Nat->Int)(h:Nat):gN W (λx=>Y x+Z x) h=gN W Y h+gN W Z h:=by
 unfold gN;rw[<-ZT];exact Zj λg _=>by show Zz W h g*(Y g+Z g-(Y h+Z h))=_;rw[<-gZ];congr 1;omega
theorem Uq{W:List (List Int)}(c:Int)(Y:Nat->Int)(h:Nat):gN W (λx=>c*Y x) h=c*gN W Y h:=by
 unfold gN;rw[<-ZY];exact Zj λg _=>by show Zz W h g*(c*Y g-c*Y h)=_;rw[<-iR,fE]
theorem OC{W:List (List Int)}{Y Z:Nat->Int}{h:Nat}(a:h<W.length)(e:∀g,g<W.length->Y g=Z g):gN W Y h=gN W Z h:=Zj λg b=>by rw[e g b,e h a]
theorem Zae(W:List (List Int))(S:List Int)(h:Nat):Vf W S h=gN W (Zq S) h:=by unfold Vf gN;rw[X4]
noncomputable def RE(W:List (List Int))(b:Nat):Mt:=λi j=>if WI b j=WI b i then(Zw W (WI b i)).sum else-Zz W (WI b i) (WI b j)
noncomputable def VG(W:List (List Int))(b:Nat)(c:Nat->Int):Mt:=λi j=>if j<W.length-1 then RE W b i j else c (WI b i)
theorem CU{W:List (List Int)}(ok:ZA W){b:Nat}(v:b<W.length){Y:Nat->Int}(t:Y b=0){k:Nat}(e:k<W.length-1):gN W Y (WI b k) = - sN (W.length-1) (λi=>RE W b k i*Y (WI b i)):=by
 have u:=ok.pos;obtain⟨m,d⟩:∃m,W.length=m+1:=⟨W.length-1,by omega⟩;have c:W.length-1=m:=by omega
 rw[c] at e ⊢;generalize j:WI b k=h;have a:h<W.length:=by rw[d,<-j];exact VF e
 have l:sN m (λi=>RE W b k i*Y (WI b i))=sN (m+1) (λg=>(if g=h then(Zw W h).sum else-Zz W h g)*Y g):=by
  rw[CT (b:=b) (f:=λg=>(if g=h then(Zw W h).sum else-Zz W h g)*Y g) (by rw[t,du]) (by omega)];exact Zj λi _=>by unfold RE;rw[j]
 have s:sN (m+1) (λg=>(if g=h then(Zw W h).sum else-Zz W h g)*Y g)=(-1)*sN (m+1) (λg=>Zz W h g*Y g)+(Zw W h).sum*Y h:=by
  have:sN (m+1) (λg=>if g=h then(Zw W h).sum*Y h else 0)=(Zw W h).sum*Y h:=by rw[Ym (k:=h) (by omega) λi _ p=>m9 p,m7 rfl]
  rw[<-this,<-ZY,<-ZT];refine Zj λg w=>?_;by_cases q:g=h
  ·subst q;rw[m7 rfl,m7 rfl,ok.dia g a];omega
  ·rw[m9 q,m9 q,ck,ck,iS];omega
 have n:(Zw W h).sum=sN (m+1) (λg=>Zz W h g):=by rw[QB ok a,X4,d]
 have o:gN W Y h=sN (m+1) (λg=>Zz W h g*Y g)+(- Y h)*sN (m+1) (λg=>Zz W h g):=by
  unfold gN;rw[d,<-ZY,<-ZT];exact Zj λg _=>by rw[iR,cG (- Y h),Int.mul_neg];omega
 rw[o,l,s,n,cG (sN (m+1) λg=>Zz W h g) (Y h),ck];omega
theorem Lr{W:List (List Int)}(ok:ZA W)(E:VY W){b:Nat}(w:b<W.length)(c:Nat->Int):BOk (W.length-1) (RE W b) (VG W b c):=by
 have H:=ok.pos;obtain⟨m,u⟩:∃m,W.length=m+1:=⟨W.length-1,by omega⟩;have d:W.length-1=m:=by omega
 have f:∀i j,i<m->j<m->RE W b i j=RE W b j i:=λi j s g=>by
  unfold RE;by_cases q:WI b j=WI b i
  ·rw[m7 q,m7 q.symm,q]
  ·rw[m9 q,m9 (λz=>q z.symm),ok.sym _ _ (by rw[u];exact VF s) (by rw[u];exact VF g)]
 rw[d];refine⟨f,λp v z F k A=>?_,λi j s g=>by unfold VG;rw[d,m7 g]⟩;obtain⟨Z,B⟩:∃Z:Nat->Int,∀h,Z h=if h=b then 0 else if Gz b h<p then z (Gz b h) else 0:=⟨_,λ_=>rfl⟩
 have l:Z b=0:=by rw[B,m7 rfl]
 have y:∀i,Z (WI b i)=if i<p then z i else 0:=λi=>by rw[B,m9 (CQ b i),GA]
 have n:∀j,j<p->gN W Z (WI b j)=0:=λj g=>by
  rw[CU ok w l (by omega),d]
  have e:sN m (λi=>RE W b j i*Z (WI b i))=sN p (λk=>z k*RE W b k j):=by
   rw[RA (q:=p) v λk C D=>by rw[y,m9 (by omega),du]];exact Zj λk A=>by rw[y,m7 A,f j k (by omega) (by omega),cG]
  rw[e,F j g];rfl
 have off:∀h,h<W.length->Z h≠0->gN W Z h=0:=λh t ne=>by
  have o:h≠b:=λz=>ne (by rw[z];exact l);have s:Gz b h<p:=by refine Nat.not_le.mp λq=>ne ?_;rw[B,m9 o,m9 (by omega)]
  have:=n _ s;rw[QF o] at this;exact this
 have up:=Zad ok E (Y:=Z) w (λh t _ a=>by rw[off h t (by rw[l] at a;omega)];exact dR _)
 have G:=Zad ok E (Y:=λx=>(-1)*Z x) w (λh t _ a=>by
  simp only[l] at a;rw[Uq,off h t (by omega)];decide)
 have C:=up (WI b k) (by rw[u];exact VF (by omega));have D:=G (WI b k) (by rw[u];exact VF (by omega));simp only[l,y,m7 A] at C D;omega
theorem NX{W:List (List Int)}(ok:ZA W)(l:VY W){b:Nat}(f:b<W.length)(c:Nat->Int) :
  ∃R:Nat->Int,R b=0/\(∀i,i<W.length-1->R (WI b i)=(Wa (W.length-1) (VG W b c) (W.length-1)).1 i (W.length-1))/\∀h,h<W.length->h≠b->gN W R h = - ((Wa (W.length-1) (VG W b c) (W.length-1)).2*c h):=by
 have n:=ok.pos;have bk:=Lr ok l f c;obtain⟨R,d⟩:∃R:Nat->Int,∀h,R h=if h=b then 0 else(Wa (W.length-1) (VG W b c) (W.length-1)).1 (Gz b h) (W.length-1):=⟨_,λ_=>rfl⟩
 have j:R b=0:=by rw[d,m7 rfl]
 have k:∀i,R (WI b i)=(Wa (W.length-1) (VG W b c) (W.length-1)).1 i (W.length-1):=λi=>by rw[d,m9 (CQ b i),GA]
 refine⟨R,j,λi _=>k i,λh o a=>?_⟩;have g:Gz b h<W.length-1:=CS (m:=W.length-1) (by omega) (by omega) a;have e:=CU ok f j g;rw[QF a] at e;have s:=F6 bk g;have x:VG W b c (Gz b h) (W.length-1)=c h:=by unfold VG;rw[m9 (by omega),QF a]
 rw[x] at s;rw[e,<-s];congr 1;exact Zj λi _=>by rw[k]
theorem CV(l:List Int)(g:Int->Int):l.map g=(aD l.length).map λi=>g (Zq l i):=by refine Sr (by simp) λi a=>?_;rw[aK] at a;rw[ZN (by omega)];simp[Zq,aG,aH a]
theorem IV{n:Nat}{c:List Nat}{e:XL}{b:XT}{d:XE}{s:ZE}{l:List Int}(g:Int->Int)(a:e s=ax (iL l))(i:l.length<=1000)(h:∀x∈l,∃s1,Xf (.one 0) (.int x) (ZG n c s)=ax s1/\b s1=ax aC/\d s1=ax (.int (g x))) :
  Zu n c e (.one 0) b d s=ax (.lst (iL (l.map g))):=by
 rw[ZM l (λ(x:Int)=>.int x) (λx=>.int (g x)) a (by omega) (λx f=>h x f)];simp
theorem OD{l:List Int}(a:0<l.length)(c:l.length<=1000):UJ [pP l]=ax (pP (Ts l)):=by
 have d:Zu 1 [1] (OW (Za 0)) (.one 0) ZF (Zl W3 (Za 0) (Za 1)) [ax (pP l),ax (.int (Vv l))]=ax (.lst (iL (Ts l))):=by rw[show Ts l=l.map λx=>x-Vv l from(CV l λx=>x-Vv l).symm];exact IV (λx=>x-Vv l) (Pk rfl) c λx e=>⟨_,rfl,rfl,by simp[ZG]⟩
 have b:=Ay Vv (l:=l) (fR.mp a);simp[UJ,H9,YG,ZH,b,d]
theorem F9{W:List (List Int)}{h m:Nat}{f:Nat->Nat}(ok:ZA W)(a:h<W.length)(d:m<=6)(b:∀i,i<m->f i<W.length) :
  Sd [wP W,.int (h:Int),.lst (iL (nL ((aD m).map f)))]=ax (pP (Xa m λj=>if f j=h then(Zw W h).sum else-Zz W h (f j))):=by
 refine WW (ret (CM (c1 (Lp (q:=λj=>.int ((f j:Nat):Int)) _ (by show ax (iL (nL ((aD m).map f)))=_;simp[nL]) (by omega) λj c=>⟨_,rfl,?_⟩) rfl)));by_cases q:f j=h
 ·rw[m7 q];exact NU (xb ((eqi rfl rfl).trans (by rw[decide_eq_true (by omega)]))) (c2 rfl rfl (Ol a))
 ·rw[m9 q];exact NV (xb ((eqi rfl rfl).trans (by rw[decide_eq_false (by omega)]))) (un1 (o2 (o2 rfl rfl (T2 a)) rfl (Xi (by rw[ok.sq h a];exact b j c))) rfl)
theorem Sv{W:List (List Int)}{b:Nat}(ok:ZA W)(g:b<W.length) :
  Yo [wP W,.int (b:Int)]=ax (wP (NW (W.length-1) (W.length-1) (RE W b))):=by
 have o:=ok.pos;have e:=ok.few;obtain⟨m,l⟩:∃m,W.length=m+1:=⟨W.length-1,by omega⟩;have a:W.length-1=m:=by omega
 rw[a];have d:∀i,i<m->WI b i<W.length:=λi c=>by rw[l];exact VF c
 have j:Zu 1 [1] (Z1 [Ze ZQ [Za 0]]) (.one 0) (xB (Zl (WU aC) (Za 0) (Za 1))) (eP (Za 0)) [ax (wP W),ax (.int (b:Int)),aA]=ax (.lst (iL (nL ((aD m).map (WI b))))):=by
  rw[Xj (aD W.length) (λ(i:Nat)=>.int (i:Int)) (λ(i:Nat)=>.int (i:Int)) (λh=>!decide (h=b)) (Y6 (n:=W.length) (by simp) (by omega)) (by simp;omega) λy p=>⟨[ax (.int (y:Int)),ax (.int (b:Int))],rfl,?_,λ_=>by simp⟩]
  ·rw[K4 e g,a];simp[nL]
  ·by_cases q:y=b
   ·simp[q]
   ·have k:¬(y:Int)=(b:Int):=by omega
    simp[q,k]
 exact WW (sq (Zr j) (ret (ep (c1 (Lq (w:=m) (RE W b) (q:=λi=>.int ((WI b i:Nat):Int)) (by show ax (iL (nL ((aD m).map (WI b))))=_;simp[nL]) (by omega) λi c=>⟨_,rfl,c3 rfl rfl rfl (F9 (f:=WI b) ok (d i c) (by omega) d)⟩) rfl) (Km _))))
theorem Zaf{l:List Int}{b h:Nat}{x:Int}(c:b<=l.length)(d:h<l.length+1):Zq (l.take b++x::l.drop b) h=if h=b then x else Zq l (Gz b h):=by
 unfold Zq Gz;rw[aG,aG];by_cases q:h<b
 ·rw[m9 (by omega),m7 q,ah (by rw[bT];omega),eD q]
 ·rw[bA (by rw[bT];omega),bT,dq c];by_cases a:h=b
  ·rw[m7 a,a,Nat.sub_self];rfl
  ·rw[m9 a,m9 q,show h-b=(h-b-1)+1 by omega,List.getElem?_cons_succ,eU,show b+(h-b-1)=h-1 by omega]
theorem Ls{f:Nat->Int}:∀{n:Nat},(∀i,i<n->0<=f i/\f i<=9)->0<=sN n f/\sN n f<=9*n
 | 0,_=>⟨dR _,by show(0:Int)<=_;omega⟩
 | n+1,h=>by
  obtain⟨a,b⟩:=Ls (n:=n) λi c=>h i (by omega);have:=h n (by omega);refine⟨?_,?_⟩
  ·show 0<=sN n f+f n;omega
  ·show sN n f+f n<=_;omega
theorem Ea{W:List (List Int)}(ok:ZA W){b:Nat}{c:Nat->Int}{i j:Nat}(h:i<W.length-1)(d:j<W.length-1):(VG W b c i j).natAbs<=2^7:=by
 have l:=ok.pos;have k:=ok.few;have e:WI b i<W.length:=by have:=VF (b:=b) h;omega
 have g:WI b j<W.length:=by have:=VF (b:=b) d;omega
 unfold VG RE;rw[m7 d];split
 ·rw[QB ok e,X4];obtain⟨a,b⟩:=Ls (f:=λj=>Zz W (WI b i) j) (n:=W.length) λj d=>⟨ok.lo _ j e d,ok.hi _ j e d⟩;omega
 ·have:=ok.lo _ _ e g;have:=ok.hi _ _ e g;omega
noncomputable def OE(W:List (List Int))(D:List Int)(b:Nat):List Int:=
 (Xa (W.length-1) λi=>((Wa (W.length-1) (VG W b (Zq D)) (W.length-1)).1 i (W.length-1)).fdiv (Wa (W.length-1) (VG W b (Zq D)) (W.length-1)).2).take b++0::(Xa (W.length-1) λi=>((Wa (W.length-1) (VG W b (Zq D)) (W.length-1)).1 i (W.length-1)).fdiv (Wa (W.length-1) (VG W b (Zq D)) (W.length-1)).2).drop b
theorem K6{W:List (List Int)}{D:List Int}{b:Nat}(a:b<W.length):(OE W D b).length=W.length:=by unfold OE;rw[aj,bT,bM,bX,Y4];omega
theorem K7{W:List (List Int)}{D:List Int}{b:Nat}(ok:ZA W)(f:VY W)(hd:D.length=W.length)(d:b<W.length)(e:∀h,h<W.length->(Zq D h).natAbs<=2^208):Xx [wP W,pP D,.int (b:Int)]=ax (pP (OE W D b)):=by
 have l:=ok.few
 have k:D.take b++D.drop (b+1)=Xa (W.length-1) λi=>VG W b (Zq D) i (W.length-1):=by
  refine Sr (by rw[aj,bT,bX,Y4];omega) λi a=>?_;have a:i<W.length-1:=by rw[aj,bT,bX] at a;omega
  rw[Tv a];unfold VG WI Zq;rw[m9 (by omega),aG,aG];by_cases q:i<b
  ·rw[m7 q,ah (by rw[bT];omega),eD q]
  ·rw[m9 q,bA (by rw[bT];omega),bT,eU];congr 2;omega
 have c:=F8 (by omega) (Lr ok f d (Zq D)) (λi j a g=>Ea ok a g) (λi a=>by
  unfold VG;rw[m9 (by omega)];exact e _ (by have:=VF (b:=b) a;omega))
 rw[<-k] at c;exact WW (sq (Zr (CM (o2 (A7 rfl rfl (by omega)) (A8 rfl rfl (by omega)) (Gq (by rw[bT,bX];omega))))) (sq (Zr (c2 (c2 rfl rfl (Sv ok d)) rfl c)) (sq (CO rfl rfl rfl (by omega) (by rw[Y4];omega)) (ret (CM (c1 rfl rfl))))))
theorem IW{W:List (List Int)}{D:List Int}{b:Nat}(ok:ZA W)(k:VY W)(hd:D.length=W.length)(f:b<W.length)(t:∀h,h<W.length->(Zq D h).natAbs<=2^208) :
  ∃(S0:List Int) (d:Int) (R:Nat->Int),Xx [wP W,pP D,.int (b:Int)]=ax (pP S0)/\S0.length=W.length/\0<d/\R b=0/\Zq S0 b=0/\(∀h,h<W.length->d*Zq S0 h<=R h/\R h<d*Zq S0 h+d)/\∀h,h<W.length->h≠b->gN W R h = - (d*Zq D h):=by
 have w:=ok.few;obtain⟨R,n,v,p⟩:=NX ok k f (Zq D);have u:=(XC (Lr ok k f (Zq D)) (aX _)).nz;have run:=K7 ok k hd f t;have len:=K6 (W:=W) (D:=D) f
 have a:∀h,h<W.length->Zq (OE W D b) h=if h=b then 0 else(R h).fdiv (Wa (W.length-1) (VG W b (Zq D)) (W.length-1)).2:=λh c=>by
  unfold OE;rw[Zaf (by rw[Y4];omega) (by rw[Y4];omega)];by_cases q:h=b
  ·rw[m7 q,m7 q]
  ·have i:=CS (m:=W.length-1) (by omega) (by omega) q;rw[m9 q,m9 q,Tv i,<-v _ i,QF q]
 generalize (Wa (W.length-1) (VG W b (Zq D)) (W.length-1)).2=d at *;generalize OE W D b=l at *;have j:Zq l b=0:=by rw[a b f,m7 rfl]
 have a:∀h,h<W.length->Zq l h=(R h).fdiv d:=λh c=>by
  rw[a h c];split
  ·rename_i q;rw[q,n];simp
  ·rfl
 rcases kY u with s | pos
 ·refine⟨_,- d,λh=>- R h,run,len,by omega,by show-R b=0;rw[n];rfl,j,λh c=>?_,λh c o=>?_⟩
  ·have e:(R h).fdiv d=(- R h)/(- d):=by rw[<-Int.neg_fdiv_neg,da _ (by omega)]
   rw[a h c,e];exact⟨jx (by omega),ig (by omega)⟩
  ·have:=Uq (W:=W) (-1) R h;rw[p h c o] at this;rw[OC (Z:=λx=>(-1)*R x) c (λg _=>by show-R g=(-1)*R g;omega),this,ck d];omega
 ·refine⟨_,d,R,run,len,pos,n,j,λh c=>?_,p⟩;rw[a h c,da _ (by omega)];exact⟨jx (by omega),ig pos⟩
theorem CW{c:XT}{fb:XS}(g:Nat->ZE->Prop)(step:∀k st,g k st->c st=ax aB\/(c st=ax aC/\∃s2 k',fb st=ax (.nx s2)/\k'<k/\g k' s2)){k:Nat}{s:ZE}(p:g k s) :
  ∃f k',Xh c fb s=ax (.nx f)/\g k' f/\c f=ax aB:=by
 have l:∀(n k:Nat)(st:ZE),k<n->g k st->∃f k',Yv c fb n st=ax (.nx f)/\g k' f/\c f=ax aB:=by
  intro n
  induction n with
  | zero=>intro k st h;omega
  | succ n ih=>
   intro k st q m;rcases step k st m with i | ⟨i,s2,k',e,t,j⟩
   ·exact⟨st,k,by unfold Yv;rw[i];rfl,m,i⟩
   ·obtain⟨f,o,a,b,d⟩:=ih k' s2 (by omega) j;refine⟨f,o,?_,b,d⟩;unfold Yv;rw[i];simp only[e];exact a
 obtain⟨f,k',a,b,d⟩:=l (k+1) k s (by omega) p;exact⟨f,k',Nz a,b,d⟩
noncomputable def Xp(n:Nat)(L:List Nat):List Int:=(aD n).map λh=>if h∈L then -1 else 0
theorem Lu{W:List (List Int)}{L:List Nat}(b:W.length<=7):Yi [wP W,.lst (iL (nL L))]=ax (pP (Xp W.length L)):=by
 have a:Zu 1 [1] (Z1 [Ze ZQ [Za 0]]) (.one 0) ZF (LJ (xB (Zl (Qp aB) (Za 0) (Za 1))) (Ff Kc (eC (.int 1))) (eC (.int 0))) [ax (wP W),ax (.lst (iL (nL L)))]=ax (.lst (iL (Xp W.length L))):=by
  rw[UU (λh=>if h∈L then -1 else 0) (Y6 (n:=W.length) (by simp) (by omega)) (by omega) λi c=>⟨[ax (.int (i:Int)),ax (.lst (iL (nL L)))],rfl,rfl,?_⟩]
  ·rfl
  ·have g:=Su i L;have t:xB (Zl (Qp aB) (Za 0) (Za 1)) [ax (.int (i:Int)),ax (.lst (iL (nL L)))]=ax (decide (i∈L)):=by rw[MC];show(Qp aB (.int (i:Int)) (.lst (iL (nL L)))).bind blO=_;rw[g];rfl
   rw[Qt,t];by_cases q:i∈L
   ·rw[m7 q,decide_eq_true q];rfl
   ·rw[m9 q,decide_eq_false q];rfl
 show(ZL _ [ax (wP W),ax (.lst (iL (nL L)))]).bind Tf=_;have:Ze ZX [Zu 1 [1] (Z1 [Ze ZQ [Za 0]]) (.one 0) ZF (LJ (xB (Zl (Qp aB) (Za 0) (Za 1))) (Ff Kc (eC (.int 1))) (eC (.int 0)))] [ax (wP W),ax (.lst (iL (nL L)))]=ax (pP (Xp W.length L)):=by simp only[YB,Zx,HN,a,aZ,cS,T3]
 rw[Lk (v:=pP (Xp W.length L)) (by rw[SR,this];simp)];rfl
theorem Lv{n:Nat}{L:List Nat}{h:Nat}(a:h<n):Zq (Xp n L) h=if h∈L then -1 else 0:=ZN a
theorem Lw{W:List (List Int)}{D S:List Int}{h:Nat}(a:h<D.length):Zq (ZR W D S) h=Zq D h+gN W (Zq S) h:=by rw[Sq a,Zae]
structure K8(W:List (List Int))(b:Nat)(n0:Nat->Int)(B:Nat->Int):Prop where
 pos:∀h,h<W.length->0<=B h
 base:B b=0
 free:∀h,h<W.length->h≠b->0<=n0 h-gN W B h
theorem Zag{W:List (List Int)}(ok:ZA W)(k:VY W){b:Nat}(j:b<W.length)(d:Nat->Int):∃B,K8 W b d B:=by
 obtain⟨z,t,_,p⟩:=NX ok k j (λ_=>1);have A:=(XC (Lr ok k j (λ_=>1)) (aX _)).nz
 obtain⟨y,m,u⟩:∃y:Nat->Int,y b=0/\∀h,h<W.length->h≠b->gN W y h<=-1:=by
  rcases kY A with w | pos
  ·exact⟨λx=>(-1)*z x,by show(-1)*z b=0;rw[t];rfl,λh c a=>by rw[Uq,p h c a];omega⟩
  ·exact⟨z,t,λh c a=>by rw[p h c a];omega⟩
 have l:=Zad ok k (Y:=y) j (λh c a _=>by have:=u h c a;omega);rw[m] at l;obtain⟨K,o⟩:∃K:Int,K=sN W.length (λh=>((d h).natAbs:Int)):=⟨_,rfl⟩;have s:0<=K:=by rw[o];exact YU λi _=>by omega
 have g:∀h,h<W.length->- d h<=K:=λh c=>by
  have:∀n,h<n->- d h<=sN n (λh=>((d h).natAbs:Int)):=by
   intro n
   induction n with
   | zero=>intro q;omega
   | succ n ih=>
    intro q;show _<=sN n (λh=>((d h).natAbs:Int))+((d n).natAbs:Int);by_cases e:h=n
    ·subst e;have:=YU (f:=λh=>((d h).natAbs:Int)) (n:=h) λi _=>by omega
     omega
    ·have:=ih (by omega);omega
  rw[o];exact this _ c
 refine⟨λx=>K*y x,λh c=>dj s (l h c),by rw[m,du],λh c a=>?_⟩;rw[Uq];have v:=u h c a;have C:=eQ v s;have D:=g h c;omega
theorem Eb{W:List (List Int)}(ok:ZA W){b:Nat}{k B a:Nat->Int}(f:K8 W b k a)(le:∀h,h<W.length->B h<=a h){h:Nat}(c:h<W.length)(d:h≠b)(j:k h-gN W B h<0):B h<a h:=by
 refine Int.lt_iff_le_and_ne.mpr ⟨le h c,λe=>?_⟩;have m:=f.free h c d
 have n:gN W B h<=gN W a h:=by
  have:0<=sN W.length (λg=>Zz W h g*(a g-a h)+(-1)*(Zz W h g*(B g-B h))):=YU λg i=>by
   have l:Zz W h g*(a g-a h)+(-1)*(Zz W h g*(B g-B h))=Zz W h g*(a g-B g):=by rw[e,ck,iS,<-Int.sub_eq_add_neg,<-iR];congr 1;omega
   rw[l];exact dj (ok.lo h g c i) (by have:=le g i;omega)
  rw[ZT,ZY] at this;unfold gN;omega
 omega
structure GB(W:List (List Int))(b:Nat)(N:List Int)(F:List Nat):Prop where
 free:∀h,h<W.length->h≠b->0<=Zq N h
 burn:Burn W N b F
 stop:XJ W N F=aA
 all:∀h,h<W.length->h∈F
theorem CY{W:List (List Int)}{N:List Int}(ok:ZA W)(P:VY W){b:Nat}(M:b<W.length){k B R:Nat->Int}{d:Int}(U:0<d)(Rb:R b=0)(H:∀h,h<W.length->0<=R h/\R h<d)(Q:∀h,h<W.length->h≠b->gN W R h = - (d*k h))
  (L:∀h,h<W.length->Zq N h=k h-gN W B h) (f:K8 W b k B) (j:∀B',K8 W b k B'->∀h,h<W.length->B h<=B' h) {F:List Nat} (t:Burn W N b F) (st:XJ W N F=aA):∀h,h<W.length->h∈F:=by
 intro x w;refine dM λs=>?_;have X:=bK t.hd;obtain⟨T,m⟩:∃T:Nat->Int,∀h,T h=if h∈F then 0 else 1:=⟨_,λ_=>rfl⟩
 have G:T b=0:=by rw[m,m7 X]
 have y:∀h,0<=T h/\T h<=1:=λh=>by rw[m];split<;>omega
 -- what the houses outside lend to those that burn
 have v:∀h,h<W.length->h∉F->gN W T h = - XB W h F:=λh c E=>by
  have I:gN W T h=(-1)*sN W.length (λg=>if g∈F then Zz W h g else 0):=by
   rw[<-ZY];refine Zj λg C=>?_;rw[m,m];split
   ·rw[Int.zero_sub];omega
   ·simp
  have e2:sN W.length (λg=>if g∈F then Zz W h g else 0)=XB W h F:=by
   have A:∀l:List Nat,l.Nodup->(∀x∈l,x<W.length)->sN W.length (λg=>if g∈l then Zz W h g else 0)=(l.map λo=>Zz W h o).sum:=by
    intro l
    induction l with
    | nil=>intro _ _;rw[YT λi _=>by simp];rfl
    | cons a r ih=>
     intro u lt;rw[av] at u;rw[af,bZ,<-ih u.2 λx w=>lt x (aQ _ w)];have:Zz W h a=sN W.length (λg=>if g=a then Zz W h a else 0):=by rw[Ym (lt a ag) λi _ Y=>m9 Y,m7 rfl]
     rw[this,<-ZT];refine Zj λg C=>?_;by_cases q:g=a
     ·subst q;rw[m7 ag,m9 u.1];omega
     ·by_cases p:g∈r
      ·rw[m7 (aQ _ p),m7 p];omega
      ·rw[m9 (λz=>(aa.mp z).elim q p),m9 q,m9 p];rfl
   exact A F t.nd t.lt
  rw[I,e2];omega
 have n:∀h,h<W.length->h∈F->0<=gN W T h:=λh c E=>YU λg C=>by rw[show T h=0 by rw[m,m7 E]];exact dj (ok.lo h g c C) (by have:=(y g).1;omega)
 have sub:∀h,gN W (λx=>B x+(-1)*T x) h=gN W B h-gN W T h:=λh=>by rw[Tw,Uq];omega
 have free:∀h,h<W.length->h≠b->0<=k h-gN W (λx=>B x+(-1)*T x) h:=λh c e=>by
  rw[sub];by_cases q:h∈F
  ·have:=n h c q;have:=f.free h c e;omega
  ·have D:=v h c q;have O:=IM st c q;rw[L h c] at O;omega
 have S:K8 W b k (λx=>B x+(-1)*T x):=by
  refine⟨λh c=>?_,by show B b+(-1)*T b=0;rw[f.base,G];rfl,free⟩
  have up:=Zad ok P M (λh c e _=>by
   rw[Tw R (λx=>d*(B x+(-1)*T x)),Uq,Q h c e];have:=free h c e;have h3:0<=d*(k h-gN W (λx=>B x+(-1)*T x) h):=dj (by omega) this;rw[iR] at h3;omega) h c
  rw[Rb,f.base,G] at up;have:=(H h c).2;refine Int.not_lt.mp λJ=>?_;have Z:B h+(-1)*T h<=-1:=by omega
  have h5:d*(B h+(-1)*T h)<=d*(-1):=eQ Z (by omega);omega
 have D:=j _ S x w;rw[show T x=1 by rw[m,m9 s]] at D;omega
theorem Ec{W:List (List Int)}{D:List Int}{b:Nat}(ok:ZA W)(X:VY W)(hd:D.length=W.length)(P:b<W.length)(hD:∀h,h<W.length->(Zq D h).natAbs<=2^208) :
  ∃(S N:List Int) (F:List Nat),Se [wP W,pP D,.int (b:Int)]=ax (.tup [pP (Ts S),pP N,.lst (iL (nL F))])/\S.length=W.length/\N=ZR W D S/\GB W b N F:=by
 have hf:=ok.few;obtain⟨a,d,R,en,l0,d0,Rb,T,Rs,Rg⟩:=IW ok X hd P hD;obtain⟨y,H⟩:∃y:Nat->Int,∀h,y h=Zq D h+gN W (Zq a) h:=⟨_,λ_=>rfl⟩;obtain⟨v,fs⟩:=Zag ok X P y;have A:∀S:List Int,(ZR W D S).length=W.length:=λS=>by rw[YZ,hd]
 let st:=λS n=>[ax (wP W),ax (pP D),ax (.int (b:Int)),ax (pP S),ax (pP (ZR W D S)),ax (.lst (iL (nL (Xr (ZR W D S) b)))),n];have u:∀(S:List Int)(B:Nat->Int),(∀h,h<W.length->Zq S h=Zq a h-B h)->∀h,h<W.length->Zq (ZR W D S) h=y h-gN W B h:=λS B e h j=>by rw[Lw (by omega),H,OC (Z:=λx=>Zq a x+(-1)*B x) j (λg hg=>by rw[e g hg];omega),Tw,Uq];omega
 let J:=λk s=>∃(S:List Int) (B:Nat->Int) (n:Option PV),s=st S n/\S.length=W.length/\(∀h,h<W.length->Zq S h=Zq a h-B h)/\(∀h,h<W.length->0<=B h)/\B b=0/\(∀t,K8 W b y t->∀h,h<W.length->B h<=t h)/\k=(sN W.length (λh=>v h-B h)).toNat;have j0:J (sN W.length (λh=>v h-0)).toNat (st a aA):=⟨a,λ_=>0,aA,rfl,l0,λh _=>by(show Zq a h=Zq a h-0);omega,λh _=>dR 0,rfl,λt f h j=>f.pos h j,rfl⟩
 obtain⟨s',k',w1,⟨S,B,n,rfl,lS,M,B0,Bb,I,_⟩,w3⟩:=CW (c:=xB (Zl Hy (Ze ZQ [Za 5]) (eC (.int 0)))) (fb:=(Zn (Zs 6 (Ze Yi [Za 0,Za 5]))
  (Zn (Zs 3 (Ze WM [Za 3,Za 6]))
  (Zn (Zs 4 (Ze Vb [Za 0,Za 4,Za 6]))
  (Zs 5 (Ze YN [Za 4,Za 2])))))) J (by
   rintro k s ⟨S,B,n,rfl,lS,M,B0,Bb,I,rfl⟩;have O:xB (Zl Hy (Ze ZQ [Za 5]) (eC (.int 0))) (st S n)=ax (decide ((0:Int)<((Xr (ZR W D S) b).length:Int))):=by show ax (decide ((0:Int)<((iL (nL (Xr (ZR W D S) b))).length:Int)))=_;simp[nL]
   by_cases q:Xr (ZR W D S) b=[]
   ·left;rw[O,q];rfl
   ·right;have ql:=fR.mpr q;refine⟨by rw[O,decide_eq_true (by omega)],?_⟩;generalize hL:Xr (ZR W D S) b=L at *;have o:∀h,h∈L↔h<W.length/\h≠b/\Zq (ZR W D S) h<0:=λh=>by rw[<-hL,CK,A]
    let m:=Qe S (Xp W.length L);have lb:(Xp W.length L).length=W.length:=by simp[Xp]
    have Q:m.length=W.length:=by rw[Vh];exact lS
    have Y:Zs 6 (Ze Yi [Za 0,Za 5]) [ax (wP W),ax (pP D),ax (.int (b:Int)),ax (pP S),ax (pP (ZR W D S)),ax (.lst (iL (nL L))),n]=ax (.nx [ax (wP W),ax (pP D),ax (.int (b:Int)),ax (pP S),ax (pP (ZR W D S)),ax (.lst (iL (nL L))),ax (pP (Xp W.length L))]):=by have:Ze Yi [Za 0,Za 5] [ax (wP W),ax (pP D),ax (.int (b:Int)),ax (pP S),ax (pP (ZR W D S)),ax (.lst (iL (nL L))),n]=ax (pP (Xp W.length L)):=Lu hf;rw[YI,this];rfl
    have e2:Zs 3 (Ze WM [Za 3,Za 6]) [ax (wP W),ax (pP D),ax (.int (b:Int)),ax (pP S),ax (pP (ZR W D S)),ax (.lst (iL (nL L))),ax (pP (Xp W.length L))]=ax (.nx [ax (wP W),ax (pP D),ax (.int (b:Int)),ax (pP m),ax (pP (ZR W D S)),ax (.lst (iL (nL L))),ax (pP (Xp W.length L))]):=by have:Ze WM [Za 3,Za 6] [ax (wP W),ax (pP D),ax (.int (b:Int)),ax (pP S),ax (pP (ZR W D S)),ax (.lst (iL (nL L))),ax (pP (Xp W.length L))]=ax (pP m):=Li (by omega) (by omega);rw[YI,this];rfl
    have rr:ZR W (ZR W D S) (Xp W.length L)=ZR W D m:=AY hd λi hi=>So (by omega)
    have e3:Zs 4 (Ze Vb [Za 0,Za 4,Za 6]) [ax (wP W),ax (pP D),ax (.int (b:Int)),ax (pP m),ax (pP (ZR W D S)),ax (.lst (iL (nL L))),ax (pP (Xp W.length L))]=ax (.nx [ax (wP W),ax (pP D),ax (.int (b:Int)),ax (pP m),ax (pP (ZR W D m)),ax (.lst (iL (nL L))),ax (pP (Xp W.length L))]):=by
     have:Ze Vb [Za 0,Za 4,Za 6] [ax (wP W),ax (pP D),ax (.int (b:Int)),ax (pP m),ax (pP (ZR W D S)),ax (.lst (iL (nL L))),ax (pP (Xp W.length L))]=ax (pP (ZR W D m)):=by rw[<-rr];exact Lj ok (A S) lb
     rw[YI,this];rfl
    have e4:Zs 5 (Ze YN [Za 4,Za 2]) [ax (wP W),ax (pP D),ax (.int (b:Int)),ax (pP m),ax (pP (ZR W D m)),ax (.lst (iL (nL L))),ax (pP (Xp W.length L))]=ax (.nx (st m (ax (pP (Xp W.length L))))):=by have:Ze YN [Za 4,Za 2] [ax (wP W),ax (pP D),ax (.int (b:Int)),ax (pP m),ax (pP (ZR W D m)),ax (.lst (iL (nL L))),ax (pP (Xp W.length L))]=ax (.lst (iL (nL (Xr (ZR W D m) b)))):=Oy (by rw[A];omega);rw[YI,this];rfl
    obtain⟨t,p⟩:∃t:Nat->Int,∀h,t h=B h+(if h∈L then 1 else 0):=⟨_,λ_=>rfl⟩
    have less:∀C,K8 W b y C->∀h,h<W.length->t h<=C h:=λC U h j=>by
     rw[p];by_cases z:h∈L
     ·rw[m7 z];obtain⟨_,z2,z3⟩:=(o h).mp z;rw[u S B M h j] at z3;have:=Eb ok U (λg hg=>I C U g hg) j z2 z3;omega
     ·rw[m9 z];have:=I C U h j;omega
    refine⟨st m (ax (pP (Xp W.length L))),(sN W.length (λh=>v h-t h)).toNat,?_,?_,m,t,_,rfl,Q,λh j=>?_,λh j=>?_,?_,less,rfl⟩
    ·show Zn _ _ [ax (wP W),ax (pP D),ax (.int (b:Int)),ax (pP S),ax (pP (ZR W D S)),ax (.lst (iL (nL (Xr (ZR W D S) b)))),n]=_;rw[hL,U4 Y,U4 e2,U4 e3,e4]
    ·have p1:0<=sN W.length (λh=>v h-t h):=YU λh j=>by have:=less v fs h j;omega
     have p2:sN W.length (λh=>v h-B h)=sN W.length (λh=>v h-t h)+sN W.length (λh=>if h∈L then 1 else 0):=by
      rw[<-ZT];exact Zj λh _=>by rw[p];omega
     have p3:0<sN W.length (λh=>if h∈L then(1:Int) else 0):=by refine Int.not_le.mp λz=>?_;obtain⟨x,hx⟩:=List.exists_mem_of_length_pos ql;have:=Uo (λi _=>by split<;>omega) z x ((o x).mp hx).1;rw[m7 hx] at this;omega
     omega
    ·rw[So (by omega),Lv j,M h j,p];split<;>omega
    ·have:=B0 h j;rw[p];split<;>omega
    ·rw[p,m9 (λz=>((o b).mp z).2.1 rfl),Bb];rfl) j0
 have G:Xr (ZR W D S) b=[]:=by
  refine dM λq=>?_;have ql:=fR.mpr q;have O:xB (Zl Hy (Ze ZQ [Za 5]) (eC (.int 0))) (st S n)=ax (decide ((0:Int)<((Xr (ZR W D S) b).length:Int))):=by show ax (decide ((0:Int)<((iL (nL (Xr (ZR W D S) b))).length:Int)))=_;simp[nL]
  rw[O,decide_eq_true (by omega)] at w3;cases w3
 have free:=debt_nil.mp G;rw[A] at free;have nr:=u S B M;have fB:K8 W b y B:=⟨B0,Bb,λh j w=>by rw[<-nr h j];exact free h j w⟩;obtain⟨F,eF,Bu,E⟩:=CJ ok (A S) P
 -- what the rounding left
 have all:=CY ok X P (R:=λh=>R h+(- d)*Zq a h) d0 (by show R b+(- d)*Zq a b=0;rw[Rb,T,du];rfl)
  (λh j=>by
   have:=Rs h j;rw[ck];omega)
  (λh j w=>by rw[Tw R (λx=>(- d)*Zq a x),Uq,Rg h j w,H,gZ,ck];omega) nr fB I Bu E
 refine⟨S,ZR W D S,F,?_,lS,rfl,free,Bu,E,all⟩;have Y:Zs 3 (Ze Xx [Za 0,Za 1,Za 2]) [ax (wP W),ax (pP D),ax (.int (b:Int)),aA,aA,aA,aA]=ax (.nx [ax (wP W),ax (pP D),ax (.int (b:Int)),ax (pP a),aA,aA,aA]):=by have:Ze Xx [Za 0,Za 1,Za 2] [ax (wP W),ax (pP D),ax (.int (b:Int)),aA,aA,aA,aA]=ax (pP a):=en;rw[YI,this];rfl
 have e2:Zs 4 (Ze Vb [Za 0,Za 1,Za 3]) [ax (wP W),ax (pP D),ax (.int (b:Int)),ax (pP a),aA,aA,aA]=ax (.nx [ax (wP W),ax (pP D),ax (.int (b:Int)),ax (pP a),ax (pP (ZR W D a)),aA,aA]):=by have:Ze Vb [Za 0,Za 1,Za 3] [ax (wP W),ax (pP D),ax (.int (b:Int)),ax (pP a),aA,aA,aA]=ax (pP (ZR W D a)):=Lj ok hd l0;rw[YI,this];rfl
 have e3:Zs 5 (Ze YN [Za 4,Za 2]) [ax (wP W),ax (pP D),ax (.int (b:Int)),ax (pP a),ax (pP (ZR W D a)),aA,aA]=ax (.nx (st a aA)):=by have:Ze YN [Za 4,Za 2] [ax (wP W),ax (pP D),ax (.int (b:Int)),ax (pP a),ax (pP (ZR W D a)),aA,aA]=ax (.lst (iL (nL (Xr (ZR W D a) b)))):=Oy (by rw[A];omega);rw[YI,this];rfl
 show(Zn _ _ [ax (wP W),ax (pP D),ax (.int (b:Int)),aA,aA,aA,aA]).bind Tf=_;rw[U4 Y,U4 e2,U4 e3,U4 w1];have g1:Ze UJ [Za 3] (st S n)=ax (pP (Ts S)):=OD (by omega) (by omega);have g2:eP (Za 4) (st S n)=ax (pP (ZR W D S)):=by show(ax (pP (ZR W D S))).bind (λl=>if ZI l=aC then ax l else aA)=_;simp
 have g3:Ze Qw [Za 0,Za 4,Za 2] (st S n)=ax (.lst (iL (nL F))):=eF;rw[Lk (by rw[TZ,Zx,Zx,Zx,g1,g2,g3];rfl)];rfl
theorem Zah{W:List (List Int)}(ok:ZA W){h:Nat}(m:h<W.length){P:Nat->Prop}[DecidablePred P]:∀{l:List Nat},l.Nodup->(∀x∈l,x<W.length/\¬P x)->XB W h l<=sN W.length (λg=>if P g then 0 else Zz W h g):=by
 intro l b f
 have e:∀l:List Nat,l.Nodup->(∀x∈l,x<W.length)->sN W.length (λg=>if g∈l then Zz W h g else 0)=(l.map λo=>Zz W h o).sum:=by
  intro l
  induction l with
  | nil=>intro _ _;rw[YT λi _=>by simp];rfl
  | cons a r ih=>
   intro b lt;rw[av] at b;rw[af,bZ,<-ih b.2 λx d=>lt x (aQ _ d)];have:Zz W h a=sN W.length (λg=>if g=a then Zz W h a else 0):=by rw[Ym (lt a ag) λi _ k=>m9 k,m7 rfl]
   rw[this,<-ZT];refine Zj λg j=>?_;by_cases q:g=a
   ·subst q;rw[m7 ag,m9 b.1];omega
   ·by_cases c:g∈r
    ·rw[m7 (aQ _ c),m7 c];omega
    ·rw[m9 (λz=>(aa.mp z).elim q c),m9 q,m9 c];rfl
 unfold XB;rw[<-e l b λx d=>(f x d).1]
 have:0<=sN W.length (λg=>(if P g then 0 else Zz W h g)+(-1)*(if g∈l then Zz W h g else 0)):=YU λg j=>by
  have:=ok.lo h g m j;by_cases q:g∈l
  ·rw[m9 (f g q).2];omega
  ·rw[m9 q];split<;>omega
 rw[ZT,ZY] at this;omega
theorem K9{W:List (List Int)}{T:Nat->Int}{c:Int}(e:∀h,h<W.length->T h=c){h:Nat}(a:h<W.length):gN W T h=0:=YT λg b=>by rw[e g b,e h a];simp
theorem IX{f:Nat->Int}{M:Nat}:∀{n:Nat},(∀i,i<n->(f i).natAbs<=M)->(sN n f).natAbs<=n*M
 | 0,_=>by show(0:Int).natAbs<=_;simp
 | n+1,h=>by have c:=IX (n:=n) λi a=>h i (by omega);have b:=h n (by omega);show(sN n f+f n).natAbs<=_;rw[Nat.add_mul,Nat.one_mul];omega
theorem RQ{W:List (List Int)}{N:List Int}{b:Nat}{F:List Nat}(ok:ZA W)(st:GB W b N F){h:Nat}(a:h<W.length)(d:h≠b):0<=Zq N h/\Zq N h<=63:=by
 have o:=ok.few;refine⟨st.free h a d,?_⟩;obtain⟨k,i,e⟩:=dE (st.all h a);have c:F[k]?=ax h:=by rw[aH i,e]
 have m:1<=k:=by
  refine Nat.not_lt.mp λq=>?_;have:k=0:=by omega
  subst this;rw[st.burn.hd] at c;cases c;exact d rfl
 have s:=st.burn.st k m i;rw[c] at s;obtain⟨_,_,lt⟩:=Ox s;have t:=Zah ok a (l:=F.take k) (st.burn.nd.sublist (ka _ _)) λy n=>⟨st.burn.lt y (gY n),λz=>z⟩;have p:=Ls (f:=λg=>if False then 0 else Zz W h g) λg j=>by exact⟨ok.lo h g a j,ok.hi h g a j⟩
 omega
theorem OF(l:List Int):l.sum=sN l.length (Zq l):=by rw[<-X4,Mi]
theorem OG{b:Type}{p q:b->Bool}:∀{l:List b},(∀x∈l,p x=q x)->l.find? p=l.find? q
 | [],_=>rfl
 | a::r,h=>by rw[cf,cf,h a ag,OG (l:=r) λx c=>h x (aQ _ c)]
theorem NY{f:Nat->Int}:∀{n:Nat},(∀i,i<n->0<=f i)->∀{k:Nat},k<n->f k<=sN n f
 | 0,_,k,h=>by omega
 | n+1,z,k,h=>by
  show f k<=sN n f+f n;have b:=z n (by omega);by_cases q:k=n
  ·subst q;have:=YU (n:=k) λi a=>z i (by omega);omega
  ·have:=NY (n:=n) (λi a=>z i (by omega)) (k:=k) (by omega);omega
noncomputable def kI(N:List Int):List Yp:=N.map gR
theorem CZ(N:List Int):My (pP N)=ax (kI N):=by
 show NC (iL N)=_
 induction N with
 | nil=>rfl
 | cons x r ih=>
  show(OZ (.int x)).bind (λk=>(NC (iL r)).map (k::·))=_;rw[ih];rfl
theorem C0{N M:List Int}(h:kI N=kI M):N=M:=by
 have:∀{N M:List Int},kI N=kI M->N=M:=by
  intro N
  induction N with
  | nil=>intro M h;cases M with
   | nil=>rfl
   | cons y s=>simp[kI] at h
  | cons x r ih=>intro M h;cases M with
   | nil=>simp[kI] at h
   | cons y s=>
    simp[kI] at h;obtain⟨b,a⟩:=h;rw[b,ih (by unfold kI;exact(by simpa using a))]
 exact this h
noncomputable def C1(n h:Nat):List Int:=(aD n).map λg=>if g=h then 1 else 0
theorem Ed{W:List (List Int)}{h:Nat}(c:W.length<=7):Pz [wP W,.int (h:Int)]=ax (pP (C1 W.length h)):=by
 have a:Zu 1 [1] (Z1 [Ze ZQ [Za 0]]) (.one 0) ZF (LJ (xB (Zl (WU aB) (Za 0) (Za 1))) (eC (.int 1)) (eC (.int 0))) [ax (wP W),ax (.int (h:Int))]=ax (.lst (iL (C1 W.length h))):=
  UU (λg=>if g=h then 1 else 0) (Y6 (by simp) (by omega)) (by omega) λg d=>⟨[ax (.int (g:Int)),ax (.int (h:Int))],rfl,rfl,by
   by_cases q:g=h
   ·subst q;simp
   ·have b:¬(g:Int)=(h:Int):=by omega
    simp[q,b]⟩
 show(ZL _ [ax (wP W),ax (.int (h:Int))]).bind Tf=_;rw[Lk (by rw[SR,YB,Zx,a];exact Ziw)];rfl
theorem QG{ns:List Int}(h:ns.length<=63)(k:Nat):V8 [.cst (iL ns),.int (k:Int)]=ax (.int (Zq ns k)):=by
 have c:xB (Zl Hx (Za 1) (Ze ZQ [Za 0])) [ax (.cst (iL ns)),ax (.int (k:Int))]=ax (decide (k<ns.length)):=by
  show ax (decide ((k:Int)<((iL ns).length:Int)))=_;congr 1;rw[aK];by_cases q:k<ns.length
  ·rw[decide_eq_true q,decide_eq_true (by omega)]
  ·rw[decide_eq_false q,decide_eq_false (by omega)]
 have v:LJ (xB (Zl Hx (Za 1) (Ze ZQ [Za 0]))) (Zl ZW (Za 0) (Za 1)) (eC (.int 0)) [ax (.cst (iL ns)),ax (.int (k:Int))]=ax (.int (Zq ns k)):=by
  rw[Qt,c];by_cases q:k<ns.length
  ·rw[decide_eq_true q];exact Xi q
  ·rw[decide_eq_false q];have:Zq ns k=0:=by unfold Zq;rw[aG,cZ (by omega)];rfl
   rw[this];rfl
 show(ZL _ [ax (.cst (iL ns)),ax (.int (k:Int))]).bind Tf=_;rw[Lk (vP v)];rfl
theorem XD(c:Int){t m:Nat}(n:t<=1000)(p:0<m):∃v:Nat,v<m/\Xl [.int c,.int (t:Int),.int (m:Int)]=ax (.int (v:Int)):=by
 have b:(0:Int)<(m:Int):=by omega
 have g:∀x:Int,∃v:Nat,v<m/\x%(m:Int)=(v:Int):=λx=>by have o:=lX x (show(m:Int)≠0 by omega);have q:=kZ x b;exact⟨(x%(m:Int)).toNat,by omega,by omega⟩
 generalize f:(c%999983+(t:Int))*((t:Int)+389)%999983=x1;have b1:0<=x1/\x1<2000000:=by omega
 generalize d:(x1*x1+c/999983+(t:Int))%999979=x2;obtain⟨v,j,k⟩:=g (x2/3);refine⟨v,j,?_⟩;have h:CMul (c%999983+(t:Int)) ((t:Int)+389):=.inl (by omega);have e:CMul x1 x1:=.inl (by omega)
 have i:Zs 3 (eP (Zl W4 (Zl Ml (Zl Yt (Zl W4 (Za 0) (eC (.int 999983))) (Za 1)) (Zl Yt (Za 1) (eC (.int 389)))) (eC (.int 999983)))) [ax (.int c),ax (.int (t:Int)),ax (.int (m:Int)),aA]=ax (.nx [ax (.int c),ax (.int (t:Int)),ax (.int (m:Int)),ax (.int x1)]):=by
  rw[YI,vP (a:=x1) (by
   rw[<-f];exact vC (vC (vI (vC rfl rfl (by decide)) rfl) (vI rfl rfl) h) rfl (by decide))]
  rfl
 have l:Zs 3 (eP (Zl W4 (Zl Yt (Zl Yt (Zl Ml (Za 3) (Za 3)) (Zl R0 (Za 0) (eC (.int 999983)))) (Za 1)) (eC (.int 999979)))) [ax (.int c),ax (.int (t:Int)),ax (.int (m:Int)),ax (.int x1)]=ax (.nx [ax (.int c),ax (.int (t:Int)),ax (.int (m:Int)),ax (.int x2)]):=by
  rw[YI,vP (a:=x2) (by
   rw[<-d];exact vC (vI (vI (vC rfl rfl e) (vC rfl rfl ⟨by decide,by decide⟩)) rfl) rfl (by decide))]
  rfl
 show(Zn _ _ [ax (.int c),ax (.int (t:Int)),ax (.int (m:Int)),aA]).bind Tf=_
 rw[U4 i,U4 l,Lk (v:=.int (v:Int)) (vP (by
  rw[<-k];exact vC (vC rfl rfl ⟨by decide,by decide⟩) rfl b))]
 rfl
theorem Zbu{a:Type}(l:List a)(f:a->Int):iL (l.map f)=l.map λg=>.int (f g):=bh
noncomputable def OH(n:Nat)(M:List (List Int)):Int:=sN n (λi=>sN n (λj=>Zz M i j))
structure Tied(n:Nat)(M:List (List Int))(t:Nat):Prop where
 mat:MatOk n M
 few:∀i j,i<n->j<n->Zz M i j<=(t:Int)
 sum:OH n M=2*(t:Int)
noncomputable def upM(M:List (List Int))(a b:Nat):List (List Int):=F5 M a b (Zz M a b+1)
theorem C2{n:Nat}{M:List (List Int)}{a b:Nat}(ok:MatOk n M)(e:a<n)(f:b<n)(ne:a≠b)(i j:Nat):Zz (upM M a b) i j=Zz M i j+((if i=a then(if j=b then 1 else 0) else 0)+(if i=b then(if j=a then 1 else 0) else 0)):=by
 unfold upM;rw[QE ok e f];by_cases d:b=i/\a=j
 ·obtain⟨rfl,rfl⟩:=d;rw[ok.sym a b e f];omega
 ·rw[m9 d];by_cases c:a=i/\b=j
  ·obtain⟨rfl,rfl⟩:=c;rw[m9 ne];omega
  ·rw[m9 c]
   have g:(if i=a then(if j=b then(1:Int) else 0) else 0)=0:=by
    by_cases z:i=a
    ·rw[m7 z,m9 (λy=>c ⟨z.symm,y.symm⟩)]
    ·rw[m9 z]
   have h:(if i=b then(if j=a then(1:Int) else 0) else 0)=0:=by
    by_cases z:i=b
    ·rw[m7 z,m9 (λy=>d ⟨z.symm,y.symm⟩)]
    ·rw[m9 z]
   rw[g,h];omega
theorem GC{n a b:Nat}(e:a<n)(f:b<n):sN n (λi=>sN n (λj=>if i=a then(if j=b then(1:Int) else 0) else 0))=1:=by rw[Ym e λi _ d=>YT λj _=>m9 d];rw[Ym f λj _ c=>by rw[m7 rfl,m9 c],m7 rfl,m7 rfl]
theorem Tied.up{n t:Nat}{M:List (List Int)}{a b:Nat}(h:Tied n M t)(o:t<=8)(d:a<n)(c:b<n)(ne:a≠b):Tied n (upM M a b) (t+1):=by
 have f:=h.few a b d c;have lo:=h.mat.lo a b d c;refine⟨Zej h.mat d c ne (by omega) (by omega),λi j m l=>?_,?_⟩
 ·rw[C2 h.mat d c ne];have g:=h.few i j m l;by_cases e:i=a
  ·have:=λz=>ne (e.symm.trans z);split<;>omega
  ·rw[m9 e];by_cases k:i=b
   ·rw[m7 k];split<;>omega
   ·rw[m9 k];omega
 ·unfold OH
  have:sN n (λi=>sN n (λj=>Zz (upM M a b) i j))=sN n (λi=>sN n (λj=>Zz M i j)+(sN n (λj=>if i=a then(if j=b then(1:Int) else 0) else 0)+sN n (λj=>if i=b then(if j=a then(1:Int) else 0) else 0))):=
   Zj λi _=>by rw[<-ZT,<-ZT];exact Zj λj _=>C2 h.mat d c ne i j
  rw[this,ZT,ZT,GC d c,GC c d];have:=h.sum;unfold OH at this;omega
theorem Tied.zero(n:Nat):Tied n (aT n (aT n 0)) 0:=by
 have z:∀i j,i<n->j<n->Zz (aT n (aT n (0:Int))) i j=0:=λi j c b=>by
  have a:=(MatOk.zero n).lo i j c b;have:Zw (aT n (aT n (0:Int))) i=aT n 0:=by unfold Zw;rw[aG,bU,m7 c];rfl
  unfold Zz;rw[this];unfold Zq;rw[aG,bU,m7 b];rfl
 refine⟨MatOk.zero n,λi j c b=>by rw[z i j c b];omega,?_⟩;unfold OH;exact YT λi c=>YT λj b=>z i j c b
theorem Tied.grow{n t:Nat}{M:List (List Int)}{a b:Nat}(h:Tied n M t)(c:a<n)(d:b<n):(∀i j,0<Zz M i j->0<Zz (upM M a b) i j)/\0<Zz (upM M a b) a b:=by have lo:=h.mat.lo a b c d;exact A6 h.mat c d (by omega)
theorem Ja{i:Nat}{e fb f:XE}{s:ZE}{n:Nat}{M:List (List Int)}{a b:Nat}(ok:MatOk n M)(d:a<n)(l:b<n)(j:LK s i=ax (rL M))(t:Int)(k:e s=ax (.int (a:Int)))(g:fb s=ax (.int (b:Int)))(h:f s=ax (.int t)) :
  X3 i e fb f s=ax (.nx (s.set i (ax (.lst (rL (SK M a b t)))))):=by
 have c:(rL M).length=n:=by unfold rL;rw[aK];exact ok.len
 rw[Pl h k g j (T8 (by rw[c];exact d)) (IH (by rw[ok.len];exact d)) (Yb _) rfl (T8 (by rw[aK,ok.row a d];exact l)),Cz]
theorem NZ{i:Nat}{g fb f:XE}{s:ZE}{n:Nat}{M:List (List Int)}{a b:Nat}{u:Int}(ok:MatOk n M)(h:a<n)(d:b<n)(l:LK s i=ax (rL (SK M a b u)))(t:Int)(j:g s=ax (.int (b:Int)))(m:fb s=ax (.int (a:Int)))(k:f s=ax (.int t)) :
  X3 i g fb f s=ax (.nx (s.set i (ax (.lst (rL (SK (SK M a b u) b a t)))))):=by
 have e:=Wb (t:=u) (b:=b) ok.len ok.row h;have c:(rL (SK M a b u)).length=n:=by unfold rL;rw[aK];exact e.1
 rw[Pl k j m l (T8 (by rw[c];exact d)) (IH (by rw[e.1];exact d)) (Yb _) rfl (T8 (by rw[aK,e.2 b d];exact h)),Cz]
theorem Lx{s:ZE}{d c fb:XE}{n:Nat}{M:List (List Int)}{a b:Nat}(o:M.length=n)(m:∀i,i<n->(Zw M i).length=n)(e:a<n)(p:b<n)(h:d s=ax (.lst (rL M)))(l:c s=ax (.int (a:Int)))(j:fb s=ax (.int (b:Int))):Zl ZW (Zl ZW d c) fb s=ax (.int (Zz M a b)):=by
 have f:=Uz (IH (by rw[o];exact e));have k:=Xi (by rw[m a e];exact p);have g:Zl ZW d c s=ax (.lst (iL (Zw M a))):=by rw[WB,h,l];exact f
 rw[WB,g,j];exact k
theorem GD{M:List (List Int)}{n k:Nat}{s:ZE}(c:M.length<=7)(h:s[k]?=ax (ax (.lst (rL M)))):eP (Ze ZX [Zu 1 [] (YY (Za k)) (.one 0) ZF (Ze ZX [Za 0])]) s=ax (wP M):=by
 have a:Za k s=ax (.lst (rL M)):=by show s[k]?.bind id=_;rw[h];rfl
 have b:Zu 1 [] (YY (Za k)) (.one 0) ZF (Ze ZX [Za 0]) s=ax (.lst (tL M)):=by refine ZM M (λr=>.lst (iL r)) pP (by unfold YY;rw[a];rfl) (by omega) (λr _=>⟨[ax (.lst (iL r))],rfl,rfl,rfl⟩)
 rw[SR,YB,Zx,b];show(if ZI (wP M)=aC then ax (wP M) else aA)=_;rw[m7 (by simp)]
variable {Z:List Int} {mo:Nat}
theorem Ly(l:List PV){k:Nat}(h:k<=l.length):W6 l (ax (k:Int)) aA=l.drop k:=by unfold W6;rw[HT.sIx_nat,HT.sIx_none,dq h,b9 (by rw[bX];omega)]
end PW
namespace PW
open L2 VL VX PK
noncomputable def eW(W:List (List Int)):List Z2:=KW W.length (Zz W)
noncomputable def eAB(W:List (List Int))(a b:Nat):List Z2:=aT (Zz W a b).toNat (a,b)
noncomputable def eA(W:List (List Int))(a:Nat):List Z2:=(aD (W.length-(a+1))).flatMap λj=>eAB W a (a+1+j)
theorem GF(W:List (List Int)):eW W=(aD W.length).flatMap (eA W):=by unfold eW KW prs;rw[List.flatMap_assoc];congr 1;funext a;rw[List.flatMap_map];rfl
theorem Ur(W:List (List Int)):(eW W).length=(Z8 W).length:=by rw[GF];unfold Z8;rw[fT,fT];congr 1;refine ar λa _=>?_;unfold eA VQ;rw[fT,fT];congr 1;refine ar λj _=>?_;unfold eAB Xo;simp
theorem Ziy{W:List (List Int)}(ok:ZA W):Wt W.length (Zz W):=⟨λa b c d=>ok.lo a b c d,λa b c d=>ok.sym a b c d,λa c=>ok.dia a c⟩
theorem Zbw{W:List (List Int)}:∀e∈eW W,e.1<e.2/\e.2<W.length/\0<Zz W e.1 e.2:=λe b=>by unfold eW KW at b;obtain⟨p,d,c⟩:=dZ.mp b;have a:=List.mem_replicate.mp c;obtain⟨f,rfl⟩:=a;have:=mem_prs.mp (show(e.1,e.2)∈prs W.length from d);exact⟨by omega,by omega,by omega⟩
theorem QH{W:List (List Int)}(ok:ZA W){G:List Nat}(e:G.Nodup)(d:∀g∈G,g<W.length):tw (Zz W) G=2*Qg G (eW W):=by
 let u:Nat->Nat->Int:=λi j=>b1 (decide (i∈G))*(b1 (decide (j∈G))*Zz W i j);have k:tw (Zz W) G=sN W.length (λi=>sN W.length (u i)):=by unfold tw;rw[UZ _ e d];refine Zj λi l=>?_;unfold IK;rw[UZ _ e d,<-ZY]
 have h:Qg G (eW W)=sN W.length λa=>sN W.length λb=>if a<b then u a b else 0:=by
  unfold Qg eW;rw[F3 (Ziy ok)];refine Zj λa _=>Zj λb _=>?_;split
  ·show Zz W a b*b1 (decide (a∈G)&&decide (b∈G))=b1 (decide (a∈G))*(b1 (decide (b∈G))*Zz W a b);by_cases x:a∈G<;>by_cases y:b∈G<;>simp[x,y,b1]
  ·rfl
 rw[k,h];refine A5 (λa b c f=>?_) λa c=>?_
 ·show b1 (decide (a∈G))*(b1 (decide (b∈G))*Zz W a b)=b1 (decide (b∈G))*(b1 (decide (a∈G))*Zz W b a);rw[ok.sym a b c f,<-cL,<-cL,cG (b1 _) (b1 _)]
 ·show b1 (decide (a∈G))*(b1 (decide (a∈G))*Zz W a a)=0;rw[ok.dia a c];simp
theorem Zai{W:List (List Int)}:Qg (aD W.length) (eW W)=((eW W).length:Int):=by
 have:∀T:List Z2,(∀e∈T,e.1<W.length/\e.2<W.length)->Qg (aD W.length) T=(T.length:Int):=by
  intro T
  induction T with
  | nil=>intro _;rfl
  | cons e T ih=>
   intro a;have q:inG (aD W.length) e=aC:=by have:=a e (by simp);unfold inG;simp[this.1,this.2]
   have:=ih λx b=>a x (by simp[b]);unfold Qg at this ⊢;rw[af,bZ,this,q,bM];show(1:Int)+_=_;omega
 exact this _ λe c=>by have:=Zbw e c;exact⟨by omega,by omega⟩
theorem C3{W:List (List Int)}(ok:ZA W):T9 [wP W]=ax (.int (((eW W).length:Int)-(W.length:Int)+1)):=by rw[Ur];exact Cy ok
theorem IY{F:List Nat}(h:F.length<64):Qv [.lst (iL (nL F))]=ax (.lst (iL (WC (nL F)))):=by show(Yn (iL (nL F))).bind (λns=>if ns.length<64 then ax (PV.lst (iL (WC ns))) else aA)=_;rw[Yf];rw[aZ,m7 (by simpa [nL] using h)]
theorem C4(b:Bool)(a:Int)(l:List Int):Qp b (.int a) (pP l)=ax (.bl (if b then !decide (a∈l) else decide (a∈l))):=by
 unfold Qp;have c:((iL l).all λz=>Vq 8 z (.int a))=aC:=by rw[jR,au];intro x _;rfl
 show(ax (iL l)).bind _=_;simp only[aZ,m7 c]
 have:decide (PV.int a∈iL l)=decide (a∈l):=decide_eq_decide.mpr (by
  rw[bR];constructor
  ·rintro⟨x,d,e⟩;cases e;exact d
  ·intro h;exact⟨a,h,rfl⟩)
 rw[this]
theorem Zaj{l:List Int}{k:Nat}{v:Int}(b:k<l.length):(l.set k v).sum=l.sum+(v-Zq l k):=by
 rw[OF,OF l,cH]
 have e:sN l.length (Zq (l.set k v))=sN l.length (λi=>Zq l i+(if i=k then v-Zq l k else 0)):=Zj λi a=>by
  rw[PW.nth_set a];by_cases q:i=k
  ·subst q;rw[m7 rfl,m7 rfl];omega
  ·rw[m9 q,m9 q];omega
 rw[e,ZT,Ym (k:=k) b λi _ a=>m9 a,m7 rfl]
end PW
namespace PK
open PW
theorem C5{f g:Nat->Int}:∀{n:Nat},(∀i,i<n->f i<=g i)->sN n f<=sN n g
 | 0,_=>dR _
 | n+1,h=>by have a:=C5 λi c=>h i (dA c);have b:=h n (eM n);show sN n f+f n<=sN n g+g n;omega
noncomputable def s2(n:Nat)(f:Nat->Nat->Int):Int:=sN n λi=>sN n (f i)
theorem Zg9{n:Nat}{f g:Nat->Nat->Int}(h:∀i,i<n->∀j,j<n->f i j<=g i j):s2 n f<=s2 n g:=C5 λi b=>C5 λj a=>h i b j a
theorem IZ(n:Nat)(f g:Nat->Nat->Int):s2 n (λi j=>f i j+g i j)=s2 n f+s2 n g:=by unfold s2;rw[<-ZT];exact Zj λi _=>ZT _ _ _
theorem Zer(n:Nat)(f:Nat->Nat->Int):2*s2 n f=s2 n λi j=>f i j+f j i:=by rw[IZ];have:s2 n (λi j=>f j i)=s2 n f:=(UW f n n).symm;omega
noncomputable def lw(n:Nat)(D:Nat->Int)(g:Nat->Bool):Int:=sN n λi=>b1 (g i)*(D i+1)
noncomputable def qw(n:Nat)(w:Nat->Nat->Int)(g:Nat->Bool):Int:=s2 n λi j=>b1 (g i)*b1 (g j)*w i j
noncomputable def uw(n:Nat)(w:Nat->Nat->Int)(D:Nat->Int)(g:Nat->Bool):Int:=2*lw n D g-qw n w g
noncomputable def gw(n:Nat)(w:Nat->Nat->Int)(R:Nat->Int)(v:Nat):Int:=sN n λu=>w v u*(R u-R v)
theorem Zha{w x:Int}(h:0<=w)(a:1<=x):w<=w*x:=by have:=eQ a h;omega
theorem C6{n:Nat}{w:Nat->Nat->Int}{N P R:Nat->Int}(k:∀a b,a<n->b<n->0<=w a b)(p:∀a b,a<n->b<n->w a b=w b a)(h:∀i,i<n->0<=R i)(m:∀i,i<n->N i=P i+gw n w R i)(g:Nat->Bool) :
  uw n w N (λi=>g i&&!decide (R i=0))+uw n w P (λi=>g i&&decide (R i=0))<=uw n w N g:=by
 have B:lw n N g=lw n N (λi=>g i&&!decide (R i=0))+lw n N (λi=>g i&&decide (R i=0)):=by
  unfold lw;rw[<-ZT];refine Zj λi _=>?_;by_cases z:R i=0<;>cases e:g i<;>simp[b1,z,e]
 have x:lw n N (λi=>g i&&decide (R i=0))=lw n P (λi=>g i&&decide (R i=0))+s2 n (λi u=>b1 (g i&&decide (R i=0))*(w i u*(R u-R i))):=by
  unfold lw s2;rw[<-ZT];refine Zj λi c=>?_;rw[ZY,m i c];unfold gw;by_cases z:R i=0<;>cases e:g i<;>simp[b1,z,e]
  omega
 have A:=Zer n (λi u=>b1 (g i&&decide (R i=0))*(w i u*(R u-R i)))
 have y:qw n w g<=(qw n w (λi=>g i&&!decide (R i=0))+qw n w (λi=>g i&&decide (R i=0)))+s2 n λi j=>b1 (g i&&decide (R i=0))*(w i j*(R j-R i))+b1 (g j&&decide (R j=0))*(w j i*(R i-R j)):=by
  unfold qw;rw[<-IZ,<-IZ];refine Zg9 λi c j f=>?_;rw[p j i f c];have d:=k i j c f;have s:=h i c;have q:=h j f;have v:=dj d q;have t:=dj d s;by_cases l:R i=0<;>by_cases o:R j=0<;>cases ei:g i<;>cases ej:g j<;>simp[b1,l,o,ei,ej]<;>try omega
  ·exact Zha d (by omega)
  ·exact Zha d (by omega)
 unfold uw;omega
theorem Ee{n:Nat}{w:Nat->Nat->Int}{N P R:Nat->Int}(d:∀a b,a<n->b<n->0<=w a b)(k:∀a b,a<n->b<n->w a b=w b a)(j:∀i,i<n->0<=R i)(e:∀i,i<n->N i=P i+gw n w R i)
  {z:Nat} (o:z<n) (q:R z=0) (f:∀g:Nat->Bool,(∃i,i<n/\g i=aC)->2<=uw n w N g) (l:∀g:Nat->Bool,(∃i,i<n/\g i=aC)->2<=uw n w P g) (p:uw n w N (λ_=>aC)=2):∀i,i<n->R i=0:=λi m=>by
 refine dM λc=>?_;have h:=C6 d k j e λ_=>aC;have a:=f (λi=>aC&&!decide (R i=0)) ⟨i,m,by simp[c]⟩;have b:=l (λi=>aC&&decide (R i=0)) ⟨z,o,by simp[q]⟩;omega
theorem Lz{n:Nat}{w:Nat->Nat->Int}{N P R:Nat->Int}(t:∀a b,a<n->b<n->0<=w a b)(v:∀a b,a<n->b<n->w a b=w b a)(m:∀i,i<n->0<=R i)(u:∀i,i<n->N i=P i+gw n w R i)
  (x:∀g:Nat->Bool,(∃i,i<n/\g i=aC)->2<=uw n w P g) {g:Nat->Bool} (y:uw n w N g<2) (s:∀f:Nat->Bool,(∃i,i<n/\f i=aC)->(∀i,i<n->f i=aC->g i=aC)->uw n w N f<2->∀i,i<n->g i=aC->f i=aC):∀i,i<n->g i=aC->1<=R i:=λi l o=>by
 have z:=m i l;refine dM λc=>?_;have p:R i=0:=by omega
 have h:=C6 t v m u g;have b:=x (λi=>g i&&decide (R i=0)) ⟨i,l,by simp[p,o]⟩;by_cases e:∃k,k<n/\(g k&&!decide (R k=0))=aC
 ·have:=s (λi=>g i&&!decide (R i=0)) e (λk _ q=>(cF.mp q).1) (by omega) i l o;simp[p] at this
 ·have:uw n w N (λi=>g i&&!decide (R i=0))=0:=by have f:=λk d=>ku.mpr λq=>e ⟨k,d,q⟩;unfold uw lw qw s2;rw[YT λk d=>by simp only[f k d];simp[b1],YT λk d=>YT λj _=>by simp only[f k d];simp[b1]];rfl
  omega
theorem Us:∀{n:Nat}{p:List Nat->Bool}{G:List Nat},(ZJ n).find? p=ax G->∀H∈ZJ n,(∀x∈H,x∈G)->p H=aC->H=G
 | 0,p,G,h,H,hH,_,hp=>by have e:H=[]:=aN.mp hH;subst e;have:(List.find? p [[]])=ax G:=h;rw[cf,hp] at this;exact bJ this
 | n+1,p,G,h,H,hH,sub,hp=>by
  have h':(ZJ n++(ZJ n).map (·++[n])).find? p=ax G:=h;rw[List.find?_append] at h';have lt:∀{K:List Nat},K∈ZJ n->∀x∈K,x<n:=λj=>(UX j).2.1;rcases ak.mp (show H∈ZJ n++(ZJ n).map (·++[n]) from hH) with a | a
  ·cases q:(ZJ n).find? p with
   | none=>exact absurd hp (by simpa using eZ.mp q H a)
   | some K=>
    rw[q] at h';cases h';exact Us q H a sub hp
  ·obtain⟨i,b,rfl⟩:=bR.mp a;have f:n∈G:=sub n (by simp)
   cases q:(ZJ n).find? p with
   | some K=>
    rw[q] at h';cases h';exact absurd (lt (dJ q) n f) (cI n)
   | none=>
    rw[q,Option.none_or,List.find?_map] at h';obtain⟨k,g,d⟩:=jN.mp h';subst d
    rw[Us g i b (λx c=>by
     rcases ak.mp (sub x (by simp[c])) with z | z
     ·exact z
     ·have:=lt b x c;rw[aN.mp z] at this;exact absurd this (cI n)) hp]
theorem C7{n:Nat}{w:Nat->Nat->Int}{D:Nat->Int}{G:List Nat}(d:G.Nodup)(c:∀g∈G,g<n)(e:tw w G%2=0):2*KZ w D G+2=uw n w D λi=>decide (i∈G):=by
 have a:(G.map D).sum+(G.length:Int)=lw n D λi=>decide (i∈G):=by
  unfold lw;rw[<-UZ (λi=>D i+1) d c,Um];congr 1
  have:∀G:List Nat,(G.length:Int)=(G.map λ_=>(1:Int)).sum:=λG=>by
   induction G with
   | nil=>rfl
   | cons a G ih=>simp only[bM,af,bZ];omega
  exact this G
 have b:tw w G=qw n w λi=>decide (i∈G):=by unfold tw qw s2;rw[UZ _ d c];refine Zj λi _=>?_;unfold IK;rw[UZ _ d c,<-ZY];exact Zj λj _=>(cL _ _ _).symm
 unfold KZ uw;omega
end PK
namespace PW
open L2 VL VX PK
noncomputable def O9(W:List (List Int))(D:List Int)(G:List Nat):PV:=.tup [pP (nL G),.int (KZ (Zz W) (Zq D) G)]
theorem Jb(W:List (List Int))(D:List Int)(l:List (List Nat)):ZC (l.map (O9 W D))=aC:=UH λG _=>by unfold O9;simp
theorem LA{W:List (List Int)}{h:Nat}{F:List Nat}(ok:ZA W)(b:h<W.length)(a:∀x∈F,x<W.length)(c:F.length<=100):Xw [wP W,.int (h:Int),pP (nL F)]=ax (.int (IK (Zz W) h F)):=RP ok b a c (Zgr rfl)
noncomputable def LG(W:List (List Int))(D:List Int):List (List Nat):=((ZJ W.length).drop 1).filter λG=>decide (KZ (Zz W) (Zq D) G<0)
noncomputable def RS(W:List (List Int))(D:List Int):PV:=match LG W D with
 | []=>.non
 | G::_=>pP (nL G)
theorem Vi{W:List (List Int)}(ok:ZA W){D:List Int}(hd:D.length=W.length):Yy [wP W,pP D]=ax (RS W D):=by
 have t:=ok.few;have p:∀i,i<=7->(ZJ i).length<=128:=λi c=>by rw[Ov];have:2^i<=2^7:=Nat.pow_le_pow_right (by decide) c;omega
 let st:Nat->Option PV->Option PV->ZE:=λi f d=>[ax (wP W),ax (pP D),ax (.lst ((ZJ i).map (O9 W D))),f,d,aA];refine K1 (ZO (s1:=st 0 aA aA) ?_ (VR (Tu (ls:=Y5 (iL D)) (λi s=>∃f d,s=st i f d) rfl ⟨aA,aA,rfl⟩ ?_) ?_))
 ·have:(ZJ 0).map (O9 W D)=[.tup [.tup [],.int (-1)]]:=by show [O9 W D []]=_;unfold O9 KZ tw;simp[nL]
  show _=ax (Out.nx [_,_,ax (PV.lst ((ZJ 0).map (O9 W D))),aA,aA,aA]);rw[this];rfl
 ·rintro i l s j ⟨f,d,rfl⟩;have c:i<W.length:=by have:=(aO.mp j).1;rw[X5,aK,hd] at this;exact this
  rw[YJ,aK,hd,aW,br c,cS,Xk D i (by rw[hd];exact c)] at j;cases j;have w:=p i (by omega);refine⟨_,rfl,O8 (Zr (o2 rfl (ZM (ZJ i) (O9 W D) (λG=>O9 W D (G++[i])) rfl (by omega) λG o=>⟨_,rfl,rfl,?_⟩) ?_)) ⟨_,_,rfl⟩⟩
  ·obtain⟨_,lt,y,_⟩:=UX o;have h:∀g∈G,g<W.length:=λg x=>ke (lt g x) c;refine(Zg7 (o2 (b:=pP [(i:Int)]) rfl rfl (Gq (by simp[nL];omega))) (vsb (Et (Et rfl rfl) rfl) (c3 rfl rfl rfl (LA ok c h (by omega))))).trans ?_;unfold O9;rw[CI (Zz W) (n:=W.length) (λa b m u=>ok.sym a b m u) (λa m=>ok.dia a m) (Zq D) h c];simp[nL]
  ·have e:(ZJ i).map (λG=>O9 W D (G++[i]))=((ZJ i).map (·++[i])).map (O9 W D):=by rw[bh];rfl
   rw[e];show(if((ZJ i).map (O9 W D)).length+(((ZJ i).map (·++[i])).map (O9 W D)).length<=10000/\ZC ((ZJ i).map (O9 W D))=aC/\ZC (((ZJ i).map (·++[i])).map (O9 W D))=aC then ax (PV.lst ((ZJ i).map (O9 W D)++((ZJ i).map (·++[i])).map (O9 W D))) else aA)=ax (PV.lst ((ZJ (i+1)).map (O9 W D)));rw[m7 ⟨by simp;omega,Jb W D _,Jb W D _⟩,ZJ,bP]
 ·rintro s ⟨f,d,rfl⟩;rw[X5,aK,hd];have w:=p W.length t;refine ZO (Zr (v:=.lst ((LG W D).map λG=>pP (nL G))) (Xj ((ZJ W.length).drop 1) (O9 W D) (λG=>pP (nL G)) (λG=>decide (KZ (Zz W) (Zq D) G<0)) ?_ (by rw[bX];omega) λG o=>⟨_,rfl,rfl,λ_=>CM rfl⟩)) ?_
  ·show ax (W6 ((ZJ W.length).map (O9 W D)) (ax ((1:Nat):Int)) aA)=_
   rw[Ly _ (by
    rw[aK,Ov];exact Nat.one_le_two_pow),kK]
  ·refine⟨RS W D,ret ?_,rfl⟩;unfold RS
   cases q:LG W D with
   | nil=>exact ep (NV rfl rfl)
   | cons G r=>exact CM (NU (xb ((vgt (a:=r.length+1) (b:=0) (by show ax (PV.int (((G::r).map λG=>pP (nL G)).length:Int))=_;simp) rfl).trans (by rw[decide_eq_true (by omega)]))) (o2 rfl rfl (Dv (l:=(G::r).map λG=>pP (nL G)) (k:=0) rfl)))
theorem Zak{n:Nat}{G:List Nat}(h:G∈(ZJ n).drop 1):G∈ZJ n/\G≠[]:=by
 obtain⟨r,e,a⟩:=UY n;rw[e] at h ⊢;have h':G∈r:=by simpa using h
 exact⟨aQ _ h',a G h'⟩
theorem Ef{n:Nat}{G:List Nat}(h:G∈ZJ n)(ne:G≠[]):G∈(ZJ n).drop 1:=by
 obtain⟨r,e,a⟩:=UY n;rw[e] at h ⊢;rcases aa.mp h with z | z
 ·exact absurd z ne
 ·simpa using z
theorem GG{G:List Nat}(h:G.Pairwise (· < ·)):G.Nodup:=h.imp λz=>by omega
theorem C8{W:List (List Int)}(ok:ZA W){D:List Int}(hd:D.length=W.length)(b:D.sum=((eW W).length:Int)-(W.length:Int)+1):KZ (Zz W) (Zq D) (aD W.length)=0:=by
 unfold KZ;have d:((aD W.length).map (Zq D)).sum=D.sum:=by rw[X4,OF D,hd]
 have a:=QH ok (G:=aD W.length) List.nodup_range λg c=>aY.mp c;rw[Zai] at a;rw[d,a,bw,b];omega
noncomputable def uW(W:List (List Int))(D:List Int)(g:Nat->Bool):Int:=uw W.length (Zz W) (Zq D) g
noncomputable def Ut(W:List (List Int))(D:List Int):Prop:=∀g:Nat->Bool,(∃i,i<W.length/\g i=aC)->2<=uW W D g
theorem Jc{n:Nat}{w:Nat->Nat->Int}{D:Nat->Int}{f g:Nat->Bool}(h:∀i,i<n->f i=g i):uw n w D f=uw n w D g:=by unfold uw lw qw s2;rw[Zj λi a=>by rw[h i a],Zj λi a=>Zj λj b=>by rw[h i a,h j b]]
section
variable {W:List (List Int)} {D:List Int} (ok:ZA W)
include ok
theorem C9{G:List Nat}(c:G∈ZJ W.length):2*KZ (Zz W) (Zq D) G+2=uW W D λi=>decide (i∈G):=by obtain⟨a,lt,_,_⟩:=UX c;have b:=GG a;refine C7 b lt ?_;rw[QH ok b lt];omega
theorem Hb(g:Nat->Bool):uW W D g=2*KZ (Zz W) (Zq D) ((aD W.length).filter g)+2:=by
 rw[C9 ok (WH g _)];exact Jc λi a=>by cases e:g i<;>simp[e,a]
theorem Zes(hd:D.length=W.length)(a:D.sum=((eW W).length:Int)-(W.length:Int)+1):uW W D (λ_=>aC)=2:=by have:=C8 ok hd a;rw[Hb ok,kF.mpr λ_ _=>rfl,this];rfl
theorem OI:(RS W D = .non/\Ut W D)\/∃G,RS W D=pP (nL G)/\G≠[]/\(∀x∈G,x<W.length)/\G.Nodup/\uW W D (λi=>decide (i∈G))<2/\
  ∀f:Nat->Bool,(∃i,i<W.length/\f i=aC)->(∀i,i<W.length->f i=aC->decide (i∈G)=aC)->uW W D f<2->∀i,i<W.length->decide (i∈G)=aC->f i=aC:=by
 have ne:∀{f:Nat->Bool},(∃i,i<W.length/\f i=aC)->(aD W.length).filter f≠[]:=λ⟨i,l,u⟩=>k4 (dW.mpr ⟨aY.mpr l,u⟩);unfold RS
 cases e:LG W D with
 | nil=>
  refine .inl ⟨rfl,λg h=>?_⟩;have:=jV.mp e _ (Ef (WH g _) (ne h));rw[Hb ok g];simp only[decide_eq_true_eq] at this;omega
 | cons G r=>
  have w:G∈LG W D:=by rw[e];simp
  obtain⟨z,p⟩:=dW.mp w;obtain⟨j,d⟩:=Zak z;obtain⟨b,lt,_,_⟩:=UX j;have t:uW W D (λi=>decide (i∈G))<2:=by rw[<-C9 ok j];have:=of_decide_eq_true p;omega
  refine .inr ⟨G,rfl,d,lt,GG b,t,λf o sub y i l h=>?_⟩
  have c:(ZJ W.length).find? (λG=>decide (G≠[])&&decide (KZ (Zz W) (Zq D) G<0))=ax G:=by
   obtain⟨q,k,n⟩:=UY W.length;have:(LG W D).head?=ax G:=by rw[e];rfl
   unfold LG at this;rw[List.head?_filter,k] at this;rw[k,cf];have a:(decide (([]:List Nat)≠[])&&decide (KZ (Zz W) (Zq D) []<0))=aB:=by simp
   rw[a];rw[<-this];show q.find? _=q.find? _;refine OG λK s=>?_;simp[n K s]
  have v:=Us c _ (WH f W.length) (λx m=>of_decide_eq_true (sub x (aY.mp (dW.mp m).1) (dW.mp m).2)) (by
   rw[Hb ok f] at y;rw[decide_eq_true (ne o),decide_eq_true (show KZ (Zz W) (Zq D) ((aD W.length).filter f)<0 by omega)];rfl)
  have:i∈(aD W.length).filter f:=by rw[v];exact of_decide_eq_true h
  exact(dW.mp this).2
end
end PW
namespace PW
open PySem L2 VL VX
theorem GH{F:XS}{x:XT}{s:ZE}{k:Nat}(J:Nat->ZE->Prop)(i:J k s)(st:∀k s,J k s->x s=ax aB\/(x s=ax aC/\Wu F s λs2=>∃k',k'<k/\J k' s2)):Wu (Xh x F) s λd=>∃k,J k d/\x d=ax aB:=by
 obtain⟨d,k',a,b,c⟩:=CW (c:=x) (fb:=F) J (λk s h=>by
  rcases st k s h with z | ⟨z,s2,e,k',f,g⟩
  ·exact .inl z
  ·exact .inr ⟨z,s2,k',e,f,g⟩) i
 exact⟨d,a,k',b,c⟩
end PW
namespace PW
open L2 VL VX PK
theorem Jd{W:List (List Int)}{L:List Nat}(a:W.length<=7):Yi [wP W,pP (nL L)]=ax (pP (Xp W.length L)):=by
 refine WW (ret (CM (c1 (UU (λh=>if h∈L then -1 else 0) (Y6 (c1 rfl K2) (by omega)) (by omega) λi b=>⟨_,rfl,rfl,?_⟩) (T3 _))));have t:Qp aB (.int (i:Int)) (pP (nL L))=ax (.bl (decide (i∈L))):=by rw[C4];simp only[Ll];rfl
 by_cases q:i∈L
 ·rw[m7 q];exact NU (xb ((o2 rfl rfl t).trans (by rw[decide_eq_true q]))) rfl
 ·rw[m9 q];exact NV (xb ((o2 rfl rfl t).trans (by rw[decide_eq_false q]))) rfl
theorem Zet(f:Nat->Int){n:Nat}(c:0<n):∃z,z<n/\∀i,i<n->f z<=f i:=by have s:=SW (l:=(aD n).map f) (by simp;omega);obtain⟨z,a,e⟩:=bR.mp s.1;exact⟨z,aY.mp a,λi b=>by rw[e];exact s.2 _ (bR.mpr ⟨i,aY.mpr b,rfl⟩)⟩
theorem Zeu{W:List (List Int)}(Y:Nat->Int)(c:Int){h:Nat}(a:h<W.length):gN W (λx=>Y x-c) h=gN W Y h:=by show gN W (λx=>Y x + -c) h=_;rw[Tw,K9 (T:=λ_=>-c) (c:=-c) (λ_ _=>rfl) a];omega
abbrev stQ(W:List (List Int))(D S N:List Int)(x5:Option PV):ZE:=[ax (wP W),ax (pP D),ax (pP S),ax (pP N),ax (RS W N),x5,aA]
structure Way(W:List (List Int))(P:List Int)(L:Nat->Int)(c:Int)(S N:List Int):Prop where
 ls:S.length=W.length
 ln:N.length=W.length
 sm:N.sum=P.sum
 lo:∀i,i<W.length->0<=L i+Zq S i-c
 z:∃i,i<W.length/\L i+Zq S i-c=0
 at':∀i,i<W.length->Zq N i=Zq P i+gN W (λi=>L i+Zq S i-c) i
section
variable {W:List (List Int)} {P:List Int} {L:Nat->Int} {c:Int} {D S N:List Int}
theorem Way.step(ok:ZA W)(p:Ut W P)(w:Way W P L c S N){G:List Nat}(ne:G≠[])(lt:∀x∈G,x<W.length)(j:∀i,i<W.length->i∈G->1<=L i+Zq S i-c) :
  Way W P L c (Qe S (Xp W.length G)) (ZR W N (Xp W.length G))/\sN W.length (λi=>L i+Zq (Qe S (Xp W.length G)) i-c)<sN W.length (λi=>L i+Zq S i-c):=by
 have e:∀i,i<W.length->Zq (Qe S (Xp W.length G)) i=Zq S i+if i∈G then -1 else 0:=λi d=>by rw[So (by rw[w.ls];exact d),Lv d]
 obtain⟨z,h,s⟩:=w.z;refine⟨⟨by rw[Vh,w.ls],by rw[YZ,w.ln],by rw[QC ok w.ln,w.sm],λi d=>?_,⟨z,h,?_⟩,λi d=>?_⟩,?_⟩
 ·have a:=w.lo i d;have b:=j i d;rw[e i d];split
  ·rename_i q;have:=b q;omega
  ·omega
 ·rw[e z h];have b:=j z h;split
  ·rename_i q;have:=b q;omega
  ·omega
 ·rw[Lw (by rw[w.ln];exact d),w.at' i d,Int.add_assoc,<-Tw];congr 1;exact OC d λk l=>by rw[e k l,Lv l];omega
 ·obtain⟨g,m⟩:=iM G ne
  have t:sN W.length (λi=>L i+Zq (Qe S (Xp W.length G)) i-c)+sN W.length (λi=>if i∈G then 1 else 0)=sN W.length (λi=>L i+Zq S i-c):=by
   rw[<-ZT]
   exact Zj λi d=>by
    rw[e i d];split<;>omega
  have o:=NY (f:=λi=>if i∈G then 1 else 0) (n:=W.length) (λi _=>by split<;>decide) (lt g m);rw[m7 m] at o;omega
theorem Ba{F:XS}{f:Option PV}{Z:PV->Prop}(ok:ZA W)(p:Ut W P)(B:P.length=W.length)(H:P.sum=((eW W).length:Int)-(W.length:Int)+1)(w:Way W P L c S N)(h:∀m x5',RS W P = .non->m.length=W.length->(∀i,i<W.length->L i+Zq m i=c)->YW F (stQ W D m P x5') Z) :
  YW (Zn (Xh (xB (OU aC (Za 4))) (Zn (Zs 5 (Ze Yi [Za 0,Za 4])) (Zn (Zs 2 (Ze WM [Za 2,Za 5])) (Zn (Zs 3 (Ze Vb [Za 0,Za 3,Za 5])) (Zs 4 (Ze Yy [Za 0,Za 3])))))) F) (stQ W D S N f) Z:=by
 have u:=ok.few;refine VR (GH (λk st=>∃S N f,Way W P L c S N/\st=stQ W D S N f/\k=(sN W.length (λi=>L i+Zq S i-c)).toNat) ⟨S,N,f,w,rfl,rfl⟩ ?_) ?_
 ·rintro k st ⟨S,N,f,w,rfl,rfl⟩;rcases OI (D:=N) ok with⟨e,_⟩ | ⟨G,e,ne,lt,_,C,v⟩
  ·rw[show stQ W D S N f=[ax (wP W),ax (pP D),ax (pP S),ax (pP N),ax .non,f,aA] by unfold stQ;rw[e]];exact .inl rfl
  ·have E:∀i,i<W.length->i∈G->1<=L i+Zq S i-c:=λi j M=>Lz (P:=Zq P) (λa b l g=>ok.lo a b l g) (λa b l g=>ok.sym a b l g) w.lo w.at' p C v i j (decide_eq_true M);obtain⟨o,R⟩:=w.step ok p ne lt E;have Q:=YU (n:=W.length) o.lo;have t:(Xp W.length G).length=W.length:=by simp[Xp]
   rw[show stQ W D S N f=[ax (wP W),ax (pP D),ax (pP S),ax (pP N),ax (pP (nL G)),f,aA] by unfold stQ;rw[e]];exact .inr ⟨rfl,Z9 (Zr (c2 rfl rfl (Jd u))) (Z9 (Zr (c2 rfl rfl (Li (by rw[t,w.ls]) (by rw[w.ls];omega)))) (Z9 (Zr (c3 rfl rfl rfl (Lj ok w.ln t))) (O8 (Zr (c2 rfl rfl (Vi ok o.ln))) ⟨_,by omega,_,_,_,o,rfl,rfl⟩)))⟩
 rintro st ⟨k,⟨m,s,y,d,rfl,_⟩,q⟩;rcases OI (D:=s) ok with⟨A,x⟩ | ⟨G,e,_⟩
 case inr=>
  unfold stQ at q;rw[e] at q;cases q
 obtain⟨z,J,O⟩:=d.z;have all:=Ee (N:=Zq s) (P:=Zq P) (w:=Zz W) (λa b l g=>ok.lo a b l g) (λa b l g=>ok.sym a b l g) d.lo d.at' J O x p (Zes ok d.ln (by rw[d.sm,H]));have I:s=P:=Sr (by rw[d.ln,B]) λi j=>by rw[d.ln] at j;rw[d.at' i j,K9 (T:=λi=>L i+Zq m i-c) (c:=0) all j];omega
 subst I;exact h m y A d.ls λi j=>by have:=all i j;omega
end
end PW
namespace PK
open PW
noncomputable def hd(h:List Nat)(k:Nat):Nat:=h.getD k 0
noncomputable def VH(e:Z2)(x:Nat):Nat:=if x=e.1 then e.2 else e.1
noncomputable def Uu(E:List Z2)(h:List Nat)(k:Nat):List Nat:=h.set k (VH (ZP E k) (hd h k))
noncomputable def Wq(E:List Z2)(h ks:List Nat):List Nat:=ks.foldl (Uu E) h
structure HOk(E:List Z2)(h:List Nat):Prop where
 len:h.length=E.length
 at':∀k,k<E.length->hd h k=(ZP E k).1\/hd h k=(ZP E k).2
theorem Bc{h:List Nat}{k j y:Nat}(a:k<h.length):hd (h.set k y) j=if k=j then y else hd h j:=by
 unfold hd;rw[aG,bQ];split<;>rfl
theorem Zal{h:List Nat}{k y v:Nat}(b:k<h.length):((h.set k y).count v:Int)=h.count v-b1 (decide (hd h k=v))+b1 (decide (y=v)):=by
 have e:hd h k=h[k]:=by unfold hd;rw[aG,aH b];rfl
 have le:h[k]=v->1<=h.count v:=λq=>List.count_pos_iff.mpr (by rw[<-q];exact cD b);rw[List.count_set b,e];by_cases a:h[k]=v
 ·have:=le a;by_cases c:y=v<;>simp[a,c,b1]<;>omega
 ·by_cases c:y=v<;>simp[a,c,b1]
theorem HOk.turn{E:List Z2}{h:List Nat}(o:HOk E h){k:Nat}:HOk E (Uu E h k):=by
 refine⟨by unfold Uu;rw[cH,o.len],λj a=>?_⟩;by_cases q:k<h.length
 ·unfold Uu;rw[Bc q];split
  ·rename_i e;subst e;unfold VH;split
   ·exact .inr rfl
   ·exact .inl rfl
  ·exact o.at' j a
 ·unfold Uu;rw[fW (by omega)];exact o.at' j a
structure Pth(E:List Z2)(h F:List Nat)(a:Nat)(ks:List Nat)(x:Nat):Prop where
 lt:∀k∈ks,k<E.length
 inn:∀k∈ks,hd h k∈F/\hd h k≠x
 keep:∀k,k∉ks->hd (Wq E h ks) k=hd h k
 ok:HOk E (Wq E h ks)
 cn:∀v,((Wq E h ks).count v:Int)=h.count v-b1 (decide (a=v))+b1 (decide (x=v))
theorem Pth.start{E:List Z2}{h F:List Nat}{a:Nat}(o:HOk E h):Pth E h F a [] a:=
 ⟨λ_ z=>(cC z).elim,λ_ z=>(cC z).elim,λ_ _=>rfl,o,λv=>by show(h.count v:Int)=_;omega⟩
theorem Pth.more{E:List Z2}{h F G:List Nat}{a x:Nat}{c:List Nat}(p:Pth E h F a c x)(s:∀z∈F,z∈G):Pth E h G a c x:=⟨p.lt,λk b=>⟨s _ (p.inn k b).1,(p.inn k b).2⟩,p.keep,p.ok,p.cn⟩
theorem Pth.snoc{E:List Z2}{h F:List Nat}{a x k:Nat}{c:List Nat}(o:HOk E h)(p:Pth E h F a c x)(q:x∈F)(f:k<E.length)(d:hd h k=x)(n:VH (ZP E k) x∉F):Pth E h F a (c++[k]) (VH (ZP E k) x):=by
 have l:=λz=>(p.inn k z).2 d;have e:Wq E h (c++[k])=Uu E (Wq E h c) k:=by unfold Wq;rw[List.foldl_append];rfl
 have g:k<(Wq E h c).length:=by rw[p.ok.len];exact f
 have m:hd (Wq E h c) k=x:=by rw[p.keep k l,d]
 refine⟨λj b=>?_,λj b=>?_,λj b=>?_,by rw[e];exact p.ok.turn,λv=>?_⟩
 ·rcases ak.mp b with z | z
  ·exact p.lt j z
  ·rw[aN.mp z];exact f
 ·have:hd h j∈F:=by
   rcases ak.mp b with z | z
   ·exact(p.inn j z).1
   ·rw[aN.mp z,d];exact q
  exact⟨this,λz=>n (by rw[<-z];exact this)⟩
 ·have s:=λz=>b (bC _ z);have i:¬k=j:=λz=>b (by rw[z];simp);rw[e];unfold Uu;rw[Bc g,m9 i];exact p.keep j s
 ·rw[e];unfold Uu;rw[Zal g,p.cn v,m];omega
structure BSr(E:List Z2)(h:List Nat)(q:Nat->Int)(n a:Nat)(F:List Nat)(p:Nat->List Nat)(j:Nat):Prop where
 nd:F.Nodup
 lt:∀x∈F,x<n
 fl:a∈F
 jl:j<=F.length
 pt:∀x∈F,Pth E h F a (p x) x
 sh:∀x∈F,(p x).length<F.length
 cl:∀x∈F.take j,∀k,k<E.length->hd h k=x->VH (ZP E k) x∈F
 ge:∀x∈F.take j,q x<=(h.count x:Int)
theorem Hd{f g:Nat->Int}:∀{l:List Nat},(∀x∈l,f x<=g x)->(l.map f).sum<=(l.map g).sum
 | [],_=>dR _
 | x::l,h=>by have a:=h x (by simp);have b:=Hd (l:=l) λy c=>h y (by simp[c]);simp only[af,bZ];omega
theorem Bd{f g:Nat->Int}{a:Nat}:∀{l:List Nat},(∀x∈l,f x<=g x)->a∈l->f a<g a->(l.map f).sum<(l.map g).sum
 | x::l,h,ha,lt=>by
  have d:=h x (by simp);simp only[af,bZ];rcases aa.mp ha with rfl | z
  ·have b:=Hd (l:=l) λy c=>h y (by simp[c]);omega
  ·have b:=Bd (l:=l) (λy c=>h y (by simp[c])) z lt;omega
theorem Zam{h:List Nat}:(aD h.length).map (hd h)=h:=Ou h 0
theorem BSr.goes{E:List Z2}{h:List Nat}{q:Nat->Int}{n a:Nat}{F:List Nat}{p:Nat->List Nat}{j:Nat}(i:BSr E h q n a F p j)(o:HOk E h)(O7:q a<(h.count a:Int))(t:∀G:List Nat,G.Nodup->(∀g∈G,g<n)->G≠[]->Qg G E<=(G.map q).sum):j<F.length:=by
 refine dM λc=>?_;have s:F.take j=F:=b9 (by omega);have cl:=i.cl;have d:=i.ge;rw[s] at cl d;have v:=t F i.nd i.lt (k4 i.fl);have l:=Bd d i.fl O7;rw[KY i.nd h] at l
 have u:(h.map λx=>b1 (decide (x∈F))).sum<=Qg F E:=by
  have f:h.map (λx=>b1 (decide (x∈F)))=(aD E.length).map λk=>b1 (decide (hd h k∈F)):=by
   conv=>lhs;rw[<-Zam (h:=h),o.len]
   rw[bh];rfl
  have m:E.map (λe=>b1 (inG F e))=(aD E.length).map λk=>b1 (inG F (ZP E k)):=by
   conv=>lhs;rw[<-Ou E (0,0)]
   rw[bh];rfl
  unfold Qg;rw[f,m];refine Hd λk b=>?_;have b:=aY.mp b;by_cases z:hd h k∈F
  ·have y:=cl _ z k b rfl
   have:inG F (ZP E k)=aC:=by
    unfold inG;unfold VH at y;rcases o.at' k b with w | w
    ·rw[w] at y z;rw[m7 rfl] at y;rw[decide_eq_true z,decide_eq_true y];rfl
    ·rw[w] at y z;split at y
     ·rename_i e;rw[e] at z;rw[decide_eq_true z,decide_eq_true y];rfl
     ·rw[decide_eq_true z,decide_eq_true y];rfl
   rw[this];exact Zg2 _
  ·rw[decide_eq_false z];exact Zg1 _
 omega
structure BIn(E:List Z2)(h:List Nat)(q:Nat->Int)(n a:Nat)(F:List Nat)(p:Nat->List Nat)(j x i:Nat):Prop where
 b:BSr E h q n a F p j
 hx:F[j]?=ax x
 dn:∀k,k<i->hd h k=x->VH (ZP E k) x∈F
theorem BIn.pass{E:List Z2}{h:List Nat}{q:Nat->Int}{n a:Nat}{F:List Nat}{p:Nat->List Nat}{j x i:Nat}(s:BIn E h q n a F p j x i)(c:hd h i=x->VH (ZP E i) x∈F):BIn E h q n a F p j x (i+1):=
 ⟨s.b,s.hx,λk b e=>by
  rcases ij.mp b with z | rfl
  ·exact s.dn k z e
  ·exact c e⟩
noncomputable def He(p:Nat->List Nat)(y:Nat)(ks:List Nat):Nat->List Nat:=λz=>if z=y then ks else p z
theorem BIn.add{E:List Z2}{h:List Nat}{q:Nat->Int}{n a:Nat}{F:List Nat}{p:Nat->List Nat}{j x i:Nat}(s:BIn E h q n a F p j x i)(o:HOk E h)(A:∀e∈E,e.1<n/\e.2<n)(l:i<E.length)(c:hd h i=x)(t:VH (ZP E i) x∉F) :
  BIn E h q n a (F++[VH (ZP E i) x]) (He p (VH (ZP E i) x) (p x++[i])) j x (i+1):=by
 have b:=s.b;have sub:∀z∈F,z∈F++[VH (ZP E i) x]:=λz d=>bC _ d;have m:(F++[VH (ZP E i) x]).take j=F.take j:=g0 b.jl;have f:=bK s.hx;have y:ZP E i∈E:=by unfold ZP;rw[aG,aH l];exact cD l
 refine⟨⟨?_,λz d=>?_,sub _ b.fl,by rw[aj];exact bg b.jl (eO _ _),λz d=>?_,λz d=>?_,λz d k g e=>?_,λz d=>?_⟩,?_,λk g e=>?_⟩
 ·exact dB.mpr ⟨b.nd,by simp,λu B w C z=>t (by rw[<-aN.mp C,<-z];exact B)⟩
 ·rcases ak.mp d with w | w
  ·exact b.lt z w
  ·rw[aN.mp w];unfold VH;split
   ·exact(A _ y).2
   ·exact(A _ y).1
 ·unfold He;by_cases w:z=VH (ZP E i) x
  ·rw[m7 w,w];exact((b.pt x f).snoc o f l c t).more sub
  ·rw[m9 w];rcases ak.mp d with v | v
   ·exact(b.pt z v).more sub
   ·exact absurd (aN.mp v) w
 ·unfold He;rw[aj];by_cases w:z=VH (ZP E i) x
  ·rw[m7 w,aj];exact Nat.add_lt_add_right (b.sh x f) 1
  ·rw[m9 w];rcases ak.mp d with v | v
   ·exact dA (b.sh z v)
   ·exact absurd (aN.mp v) w
 ·rw[m] at d;exact sub _ (b.cl z d k g e)
 ·rw[m] at d;exact b.ge z d
 ·rw[ah (aO.mp s.hx).1];exact s.hx
 ·rcases ij.mp g with z | rfl
  ·exact sub _ (s.dn k z e)
  ·simp
theorem BIn.done{E:List Z2}{h:List Nat}{q:Nat->Int}{n a:Nat}{F:List Nat}{p:Nat->List Nat}{j x:Nat}(s:BIn E h q n a F p j x E.length)(i:q x<=(h.count x:Int)):BSr E h q n a F p (j+1):=by
 have b:=s.b;have g:=(aO.mp s.hx).1;have e:F.take (j+1)=F.take j++[x]:=by rw[List.take_succ,s.hx];rfl
 refine⟨b.nd,b.lt,b.fl,g,b.pt,b.sh,λz c k f d=>?_,λz c=>?_⟩
 ·rw[e] at c;rcases ak.mp c with w | w
  ·exact b.cl z w k f d
  ·rw[aN.mp w] at d ⊢;exact s.dn k f d
 ·rw[e] at c;rcases ak.mp c with w | w
  ·exact b.ge z w
  ·rw[aN.mp w];exact i
noncomputable def Eg(x:Int):Int:=if 0<x then x else 0
noncomputable def Be(n:Nat)(q:Nat->Int)(h:List Nat):Int:=sN n λv=>Eg ((h.count v:Int)-q v)
theorem Zev(n:Nat)(q:Nat->Int)(h:List Nat):0<=Be n q h:=CG λv _=>by unfold Eg;split<;>omega
theorem Bf{n:Nat}{q:Nat->Int}{h h':List Nat}{a x:Nat}(j:a<n)(O7:q a<(h.count a:Int))(free:(h.count x:Int)<q x)(b:∀v,(h'.count v:Int)=h.count v-b1 (decide (a=v))+b1 (decide (x=v))):Be n q h'<Be n q h:=by
 have ne:x≠a:=λz=>by rw[z] at free;omega
 have c:=Zef (f:=λv=>Eg ((h'.count v:Int)-q v)) (g:=λv=>Eg ((h.count v:Int)-q v)) j λv _ i=>by
  have d:b1 (decide (a=v))=0:=by rw[decide_eq_false λz=>i z.symm];rfl
  rw[b v,d];by_cases z:x=v
  ·subst z;have k:b1 (decide (x=x))=1:=by rw[decide_eq_true rfl];rfl
   unfold Eg;rw[m9 (by omega),m9 (by omega)]
  ·rw[decide_eq_false z];have:b1 aB=0:=rfl;rw[this,kl,gs]
 unfold Be;rw[c];have e:=b a;rw[decide_eq_true rfl,decide_eq_false ne] at e;have e:(h'.count a:Int)=h.count a-1+0:=e;unfold Eg;split<;>omega
end PK
namespace PW
open PK
structure WS where
 L:List Nat
 F:List Nat
 B:List (Nat×Nat×Nat)
noncomputable def RF(E:List Z2)(L F:List Nat):Option Nat:=(aD E.length).find? λk=>!decide (k∈L)&&(decide ((ZP E k).1∈F) != decide ((ZP E k).2∈F))
noncomputable def Uv(E:List Z2)(F:List Nat)(k:Nat):Nat:=if(ZP E k).1∈F then(ZP E k).2 else(ZP E k).1
noncomputable def atE(E:List Z2)(h j:Nat):Bool:=decide (h=(ZP E j).1) || decide (h=(ZP E j).2)
noncomputable def N0(E:List Z2)(L:List Nat)(h:Nat):Nat:=(L.filter (atE E h)).length
noncomputable def Uw(E:List Z2)(φ:Nat->Nat->Nat->Bool)(s:WS)(k:Nat):WS:=
 if φ k (Uv E s.F k) (N0 E (s.L++[k]) (Uv E s.F k))=aC then⟨s.L++[k],s.F++[Uv E s.F k],s.B++[(k,Uv E s.F k,N0 E (s.L++[k]) (Uv E s.F k))]⟩ else⟨s.L++[k],s.F,s.B⟩
noncomputable def XM(E:List Z2)(φ:Nat->Nat->Nat->Bool):Nat->WS->WS
 | 0,s=>s
 | n+1,s=>match RF E s.L s.F with
  | some k=>XM E φ n (Uw E φ s k)
  | none=>s
noncomputable def GI(b:Nat):WS:=⟨[],[b],[]⟩
theorem U0{E:List Z2}{L F:List Nat}{k:Nat}(h:RF E L F=ax k):k<E.length/\k∉L/\(decide ((ZP E k).1∈F) != decide ((ZP E k).2∈F))=aC:=by have a:=gh h;have b:=dJ h;simp only[ao,kq,decide_eq_false_iff_not] at a;exact⟨aY.mp b,a⟩
theorem Bg{E:List Z2}{L F:List Nat}{k:Nat}(h:RF E L F=ax k):Uv E F k∉F/\atE E (Uv E F k) k=aC/\∃o∈F,(ZP E k=(o,Uv E F k)\/ZP E k=(Uv E F k,o)):=by
 obtain⟨_,_,c⟩:=U0 h;unfold Uv atE;by_cases a:(ZP E k).1∈F
 ·by_cases b:(ZP E k).2∈F
  ·simp[a,b] at c
  ·rw[m7 a];exact⟨b,by simp,_,a,.inl rfl⟩
 ·by_cases b:(ZP E k).2∈F
  ·rw[m9 a];exact⟨a,by simp,_,b,.inr rfl⟩
  ·simp[a,b] at c
structure WInv(E:List Z2)(n b:Nat)(s:WS):Prop where
 ndL:s.L.Nodup
 ltL:∀k∈s.L,k<E.length
 ndF:s.F.Nodup
 ltF:∀h∈s.F,h<n
 hB:s.F=b::s.B.map (·.2.1)
 bl:∀x∈s.B,x.1∈s.L
 ndB:(s.B.map (·.1)).Nodup
 cn:∀q:Nat->Nat,(∀x∈s.B,q (ZP E x.1).1=q (ZP E x.1).2)->∀h∈s.F,q h=q b
theorem WInv.start{E:List Z2}{n b:Nat}(e:b<n):WInv E n b (GI b):=
 ⟨bu,λk c=>by simp[GI] at c,by simp[GI],λh a=>by simp[GI] at a;omega,rfl,λx d=>by simp[GI] at d,by simp[GI],λq _ h a=>by simp[GI] at a;rw[a]⟩
theorem QI{b:Type}{l:List b}{a:b}(h:l.Nodup)(n:a∉l):(l++[a]).Nodup:=by grind
theorem WInv.step{E:List Z2}{n b k:Nat}{s:WS}{φ:Nat->Nat->Nat->Bool}(F:∀e∈E,e.1<n/\e.2<n)(i:WInv E n b s)(v:RF E s.L s.F=ax k):WInv E n b (Uw E φ s k):=by
 obtain⟨g,p,_⟩:=U0 v;obtain⟨w,G,o,C,t⟩:=Bg v;have c:=QI i.ndL p
 have d:∀j∈s.L++[k],j<E.length:=λj A=>by
  rcases ak.mp A with z | z
  ·exact i.ltL j z
  ·rw[aN.mp z];exact g
 have B:ZP E k∈E:=by unfold ZP;rw[aG,aH g];exact cD g
 have lt:Uv E s.F k<n:=by
  have:=F _ B;rcases t with z | z<;>rw[z] at this
  ·exact this.2
  ·exact this.1
 unfold Uw;split
 ·refine⟨c,d,QI i.ndF w,λh l=>?_,?_,λx a=>?_,?_,λq m h l=>?_⟩
  ·rcases ak.mp l with z | z
   ·exact i.ltF h z
   ·rw[aN.mp z];exact lt
  ·show s.F++[_]=b::(s.B++[_]).map _;rw[bP,<-lJ,<-i.hB];rfl
  ·rcases ak.mp a with z | z
   ·exact bC _ (i.bl x z)
   ·rw[aN.mp z];exact aq _ (by simp)
  ·show((s.B++[_]).map _).Nodup;rw[bP];refine QI i.ndB λz=>?_;obtain⟨x,a,D⟩:=bR.mp z;have:=i.bl x a;rw[D] at this;exact p this
  ·have f:=i.cn q λx a=>m x (bC _ a);rcases ak.mp l with z | z
   ·exact f h z
   ·rw[aN.mp z];have:=m (k,Uv E s.F k,N0 E (s.L++[k]) (Uv E s.F k)) (aq _ (by simp));have u:=f o C;rcases t with y | y
    ·rw[y] at this;exact this.symm.trans u
    ·rw[y] at this;exact this.trans u
 ·exact⟨c,d,i.ndF,i.ltF,i.hB,λx a=>bC _ (i.bl x a),i.ndB,i.cn⟩
theorem WInv.walk{E:List Z2}{n b:Nat}{φ:Nat->Nat->Nat->Bool}(a:∀e∈E,e.1<n/\e.2<n):∀{m:Nat}{s:WS},WInv E n b s->WInv E n b (XM E φ m s)
 | 0,s,i=>i
 | m+1,s,i=>by
  unfold XM;split
  ·rename_i k c;exact WInv.walk a (i.step a c)
  ·exact i
theorem OJ{n:Nat}:∀{l:List Nat},l.Nodup->(∀x∈l,x<n)->l.length<=n:=by
 induction n with
 | zero=>
  intro l _ h
  cases l with
  | nil=>simp
  | cons a r=>exact absurd (h a (by simp)) (by omega)
 | succ n ih=>
  intro l d h
  have i:=ih (l:=l.filter (· != n)) (d.filter _) λx b=>by
   have:=dW.mp b;have g:=h x this.1;have j:x≠n:=by simpa using this.2
   omega
  have g:l.length<=(l.filter (· != n)).length+1:=by
   clear h i ih
   induction l with
   | nil=>simp
   | cons a r ih2=>
    have c:=av.mp d;rw[List.filter_cons];by_cases e:a=n
    ·subst e;have:r.filter (· != a)=r:=kF.mpr λx b=>by have:x≠a:=λz=>c.1 (z▸b);simpa using this
     simp[this]
    ·have f:(a != n)=aC:=by simpa using e
     rw[f];simp only[if_true,bM];have:=ih2 c.2;omega
  omega
theorem Je{E:List Z2}{n b:Nat}{φ:Nat->Nat->Nat->Bool}(a:∀e∈E,e.1<n/\e.2<n):∀{m:Nat}{s:WS},WInv E n b s->E.length<=m+s.L.length->RF E (XM E φ m s).L (XM E φ m s).F=aA
 | 0,s,i,h=>by
  unfold XM
  cases z:RF E s.L s.F with
  | none=>rfl
  | some k=>
   obtain⟨c,d,_⟩:=U0 z
   have:=OJ (n:=E.length) (QI i.ndL d) λx f=>by
    rcases ak.mp f with y | y
    ·exact i.ltL x y
    ·rw[aN.mp y];exact c
   rw[aj,cY] at this;omega
 | m+1,s,i,h=>by
  unfold XM
  cases z:RF E s.L s.F with
  | none=>exact z
  | some k=>
   refine Je a (i.step a z) ?_
   have:(Uw E φ s k).L.length=s.L.length+1:=by
    unfold Uw;split<;>simp
   omega
theorem Zew(E:List Z2)(φ:Nat->Nat->Nat->Bool)(s:WS)(k:Nat):(Uw E φ s k).L=s.L++[k]:=by unfold Uw;split<;>rfl
end PW
namespace PW
open L2 VL VX PK
theorem Bh{W:List (List Int)}{i:Nat}(h:i<(eW W).length):∃t:Int,(Z8 W)[i]?=ax [((ZP (eW W) i).1:Int),((ZP (eW W) i).2:Int),t]:=by
 have k:(Z8 W).map (λr=>((Zq r 0).toNat,(Zq r 1).toNat))=eW W:=by rw[GF];unfold Z8;rw[lK];congr 1;funext a;unfold VQ eA;rw[lK];congr 1;funext j;unfold Xo eAB;exact fK (by simp) (by intros;simp[Zq];omega)
 have d:∀r∈Z8 W,∃(a b:Nat) (t:Int),r=[(a:Int),(b:Int),t]:=λr c=>by obtain⟨a,_,c⟩:=dZ.mp c;obtain⟨j,_,c⟩:=dZ.mp c;obtain⟨t,_,rfl⟩:=bR.mp c;exact⟨a,a+1+j,t,rfl⟩
 have f:i<(Z8 W).length:=by rw[<-Ur];exact h
 obtain⟨a,b,t,e⟩:=d _ (cD f);refine⟨t,?_⟩;have m:ZP (eW W) i=(a,b):=by have g:=congrArg (λl=>l[i]?) k;simp only[aW] at g;rw[aH f,aH h,e] at g;unfold ZP;rw[aG,aH h];rw[<-g];rfl
 rw[aH f,e,m]
noncomputable def Zan(F:List Nat):List Nat:=(WC (nL F)).map mP
theorem Zao(F:List Nat):nL (Zan F)=WC (nL F):=by
 show((WC (nL F)).map mP).map (λ(i:Nat)=>(i:Int))=_;rw[bh]
 conv=>rhs;rw[<-List.map_id (WC (nL F))]
 refine ar λx a=>?_;have:=(Th _).mem_iff.mp a;obtain⟨j,_,rfl⟩:=bR.mp this;rfl
end PW
namespace PW
open PySem L2 VL VX PK
noncomputable def Qh(W:List (List Int))(k:Nat):List Int:=(Z8 W).getD k []
theorem Zap{W:List (List Int)}{k:Nat}(a:k<(eW W).length):∃t:Int,Qh W k=[((ZP (eW W) k).1:Int),((ZP (eW W) k).2:Int),t]:=by obtain⟨t,e⟩:=Bh a;refine⟨t,?_⟩;unfold Qh;rw[aG,e];rfl
noncomputable def Ux(W:List (List Int)):PV:=.lst ((Z8 W).map pP)
theorem Eh(W:List (List Int)):Y5 ((Z8 W).map pP)=(aD (eW W).length).map λ(i:Nat)=>.tup [.int (i:Int),pP (Qh W i)]:=by rw[YJ,aK,Ur];refine ar λi a=>?_;have a:=aY.mp a;rw[aG,aW,aH a];unfold Qh;rw[aG,aH a];rfl
theorem LB{W:List (List Int)}{k:Nat}(b:k<(eW W).length):ZW (Ux W) (.int (k:Int))=ax (pP (Qh W k)):=by
 have a:k<(Z8 W).length:=by rw[<-Ur];exact b
 refine Uz (xs:=(Z8 W).map pP) ?_;unfold Qh;rw[aW,aG,aH a];rfl
theorem Uy{W:List (List Int)}{k:Nat}(b:k<(eW W).length):ZW (pP (Qh W k)) (.int 0)=ax (.int ((ZP (eW W) k).1:Int))/\ZW (pP (Qh W k)) (.int 1)=ax (.int ((ZP (eW W) k).2:Int))/\R5 (pP (Qh W k)) aA (ax 2)=ax (pP [((ZP (eW W) k).1:Int),((ZP (eW W) k).2:Int)]):=by obtain⟨t,a⟩:=Zap b;rw[a];exact⟨rfl,rfl,rfl⟩
theorem RT{W:List (List Int)}{L F:List Nat}:YR [Ux W,.lst (iL (nL L)),.lst (iL (nL F))]=ax (U5 (RF (eW W) L F)):=by
 refine K1 (Zbs (L:=aD (eW W).length) (q:=λ(i:Nat)=>.tup [.int (i:Int),pP (Qh W i)]) (g:=λ(i:Nat)=>.int (i:Int)) (λk=>!decide (k∈L)&&(decide ((ZP (eW W) k).1∈F) != decide ((ZP (eW W) k).2∈F))) (λst=>∃x y,st=[ax (Ux W),ax (.lst (iL (nL L))),ax (.lst (iL (nL F))),x,y]) (by rw[<-Eh];rfl) ⟨aA,aA,rfl⟩ ?_ (λa e=>by unfold RF;rw[e];rfl) λe s=>?_)
 ·rintro k b s ⟨x,y,rfl⟩;obtain⟨d,c,_⟩:=Uy (aY.mp b)
  have f:∀p q:Bool,WU aC (.bl p) (.bl q)=ax (.bl (p != q)):=λp q=>by
   unfold WU;rw[m7 (by rfl)];cases p<;>cases q<;>simp
  exact⟨_,rfl,xa (xb (o2 rfl rfl (Ln k L))) (xb (o2 (o2 (o2 rfl rfl d) rfl (Su _ F)) (o2 (o2 rfl rfl c) rfl (Su _ F)) (f _ _))),rfl,_,_,rfl⟩
 ·rintro⟨x,y,rfl⟩;refine⟨.non,rfl,?_⟩;unfold RF;rw[e];rfl
noncomputable def bI(x:Nat×Nat×Nat):List Int:=[(x.1:Int),(x.2.1:Int),(x.2.2:Int)]
abbrev Zhc(W:List (List Int))(b:Nat)(C:PV)(s:WS)(x7 x8 x9:Option PV):ZE:=[ax (wP W),ax (.int (b:Int)),ax C,ax (Ux W),ax (.lst (iL (nL s.F))),ax (.lst (iL (nL s.L))),ax (.lst (s.B.map λx=>pP (bI x))),x7,x8,x9]
theorem Jf{W:List (List Int)}:∀e∈eW W,e.1<W.length/\e.2<W.length:=λe a=>by have:=Zbw e a;omega
theorem Zaq{E:List Z2}{k:Nat}(h:k<E.length):ZP E k∈E:=by unfold ZP;rw[aG,aH h];exact cD h
theorem Zex{s:ZE}{i:Nat}{fs:List XE}{ls:List PV}{Lm:ON}{l:PV}{v:Bool}(g:s[i]?=ax (ax (.clo Lm l)))(a:Qm fs s=ax ls)(d:YD l=aC)(c:Xm ls=aC)(b:R9 Lm l ls=ax (.bl v)):xV (D9 R9 i fs) s=ax v:=by unfold xV D9;rw[g];simp only;rw[a];simp only[aZ];rw[m7 (by rw[d,c];rfl),b];rfl
theorem Ei{W:List (List Int)}{L:List Nat}{h:Nat}{s:ZE}(a:∀j∈L,j<(eW W).length)(g:L.length<=1000)(d:Za 5 s=ax (.lst (iL (nL L))))(e:ZG 1 [8,3] s=[aA,ax (.int (h:Int)),ax (Ux W)]) :
  Ze ZQ [Zu 1 [8,3] (YY (Za 5)) (.one 0) (xB (Zl (Qp aB) (Za 1) (OO R5 (Zl ZW (Za 2) (Za 0)) OY (R4 (eC (.int 2)))))) (Za 0)] s=ax (.int (N0 (eW W) L h:Int)):=by
 refine c1 (Xj L (λ(i:Nat)=>.int (i:Int)) (λ(i:Nat)=>.int (i:Int)) (atE (eW W) h) (by unfold YY;rw[d];simp[nL]) (by omega) λy c=>⟨[ax (.int (y:Int)),ax (.int (h:Int)),ax (Ux W)],by rw[e];rfl,?_,λ_=>rfl⟩) (by simp[N0]);obtain⟨_,_,f⟩:=Uy (a y c);refine xb (o2 (b:=pP [((ZP (eW W) y).1:Int),((ZP (eW W) y).2:Int)]) rfl ?_ ?_)
 ·show((ZW (Ux W) (.int (y:Int))).bind λx=>R5 x aA (ax 2))=_;rw[LB (a y c)];exact f
 ·rw[C4];simp[atE,kL]
theorem Ej{W:List (List Int)}(ok:ZA W){b:Nat}(E:b<W.length){Lm:ON}{l:PV}{φ:Nat->Nat->Nat->Bool}(G:YD l=aC)
  (H:∀k h c:Nat,k<(eW W).length->h<W.length->R9 Lm l [.int (k:Int),.int (h:Int),.int (c:Int)]=ax (.bl (φ k h c))) :
  Si [wP W,.int (b:Int),.clo Lm l]=ax (.lst ((XM (eW W) φ (eW W).length (GI b)).B.map λx=>pP (bI x))):=by
 have M:=ok.few;have B:=VD ok;have X:(eW W).length<=441:=by rw[Ur];exact B.2
 refine K1 (ZO (Zr (c1 rfl B.1)) (ZO rfl (ZO rfl (ZO rfl (ZO (Zr (c3 rfl rfl rfl (RT (L:=[]) (F:=[b])))) (VR (GH (k:=(eW W).length) (λk st=>∃s A w,st=Zhc W b (.clo Lm l) s (ax (U5 (RF (eW W) s.L s.F))) A w/\WInv (eW W) W.length b s/\(eW W).length<=k+s.L.length/\XM (eW W) φ k s=XM (eW W) φ (eW W).length (GI b)) ⟨GI b,aA,aA,rfl,WInv.start E,by simp,rfl⟩ ?_) ?_))))))
 ·rintro k st ⟨s,A,w,rfl,d,C,p⟩
  cases e:RF (eW W) s.L s.F with
  | none=>exact .inl rfl
  | some j=>
   cases k with
   | zero=>
    have:=Je (φ:=φ) Jf d (m:=0) (by omega);unfold XM at this;rw[e] at this;cases this
   | succ k=>
    obtain⟨f,S,_⟩:=U0 e;obtain⟨T,O,o,U,I⟩:=Bg e
    have t:Uv (eW W) s.F j<W.length:=by
     have:=Jf _ (Zaq f);rcases I with z | z<;>rw[z] at this
     ·exact this.2
     ·exact this.1
    have P:=OJ d.ndL d.ltL;have Q:=OJ d.ndF d.ltF;have N:s.F.length=s.B.length+1:=by rw[d.hB];simp
    obtain⟨u,D,_⟩:=Uy f;have g:=LB f;let h:=Uv (eW W) s.F j;let c:=N0 (eW W) (s.L++[j]) h;refine .inr ⟨rfl,Z9 (IP rfl rfl (by omega)) (Z9 (Zr (vP (a:=(h:Int)) ?_)) (Z9 (Zr (vP (Ei (h:=h) (L:=s.L++[j]) (λi J=>?_) (by rw[aj,cY];omega) rfl rfl))) (Gr (R:=λst=>st=Zhc W b (.clo Lm l) (Uw (eW W) φ s j) (ax (.int (j:Int))) (ax (.int (h:Int))) (ax (.int (c:Int)))) (Gs (Zex rfl rfl G rfl (H j h c f t)) (λv=>Z9 (IP (k:=h) rfl rfl (by omega)) (O8 (Lo (λx=>pP (bI x)) (y:=(j,h,c)) rfl rfl (by omega)) ?_)) λv=>O8 rfl ?_) ?_)))⟩
    ·show _=ax (PV.int (Uv (eW W) s.F j:Int));unfold Uv;by_cases q:(ZP (eW W) j).1∈s.F
     ·rw[m7 q];exact NU (xb ((o2 (o2 (o2 rfl rfl g) rfl u) rfl (Su _ _)).trans (by rw[decide_eq_true q]))) (o2 (o2 rfl rfl g) rfl D)
     ·rw[m9 q];exact NV (xb ((o2 (o2 (o2 rfl rfl g) rfl u) rfl (Su _ _)).trans (by rw[decide_eq_false q]))) (o2 (o2 rfl rfl g) rfl u)
    ·rcases ak.mp J with z | z
     ·exact d.ltL i z
     ·rw[aN.mp z];exact f
    ·unfold Uw;rw[m7 v];rfl
    ·unfold Uw;rw[m9 (by rw[v];decide)];rfl
    ·rintro st rfl;refine O8 (Zr (c3 rfl rfl rfl RT)) ⟨k,by omega,Uw (eW W) φ s j,_,_,rfl,d.step Jf e,by rw[Zew,aj,cY];omega,?_⟩;rw[<-p]
     conv=>rhs;unfold XM
     rw[e]
 ·rintro st ⟨k,⟨s,A,w,rfl,d,C,p⟩,q⟩;refine⟨_,rfl,?_⟩;rw[<-p]
  cases k with
  | zero=>rfl
  | succ n=>
   unfold XM
   cases e:RF (eW W) s.L s.F with
   | none=>rfl
   | some h=>rw[e] at q;cases q
noncomputable def hV(h:List Nat):PV:=.lst (iL (nL h))
theorem GJ{h:List Nat}{k:Nat}(a:k<h.length):Zq (nL h) k=(hd h k:Int):=by unfold Zq hd nL;rw[aG,aW,aH a,aG,aH a];rfl
theorem Zey{h:List Nat}{k:Nat}(a:k<h.length):ZW (hV h) (.int (k:Int))=ax (.int (hd h k:Int)):=by rw[<-GJ a];exact Xi (by simpa [nL] using a)
theorem Zez(h:List Nat)(v:Nat):(nL h).count (v:Int)=h.count v:=by
 induction h with
 | nil=>rfl
 | cons a h ih=>
  show((a:Int)::nL h).count (v:Int)=_;rw[gg,gg,ih];by_cases q:a=v
  ·simp[q]
  ·have:¬(a:Int)=(v:Int):=by omega
   simp[q,this]
theorem PF(h:List Nat)(v:Nat):UL (hV h) (.int (v:Int))=ax (.int (h.count v:Int)):=by show(Yn (iL (nL h))).map _=_;rw[Yf];show ax (PV.int (((nL h).count (v:Int):Nat):Int))=_;rw[Zez]
theorem Jg{W:List (List Int)}{k x:Nat}(b:k<(eW W).length):WD [pP (Qh W k),.int (x:Int)]=ax (.int (VH (ZP (eW W) k) x:Int)):=by
 obtain⟨a,c,_⟩:=Uy b;refine WW (ret (ep ?_));unfold VH;by_cases q:x=(ZP (eW W) k).1
 ·rw[m7 q];exact NU (xb ((eqi rfl (o2 rfl rfl a)).trans (by rw[decide_eq_true (by omega)]))) (o2 rfl rfl c)
 ·rw[m9 q];exact NV (xb ((eqi rfl (o2 rfl rfl a)).trans (by rw[decide_eq_false (by omega)]))) (o2 rfl rfl a)
noncomputable def RU(n:Nat)(q:Nat->Int)(h:List Nat):Option Nat:=(aD n).find? λv=>decide ((h.count v:Int)>q v)
theorem Jh{h:List Nat}{Q:List Int}:Wi [hV h,pP Q]=ax (U5 (RU Q.length (Zq Q) h)):=by
 refine K1 (Zbs (L:=aD Q.length) (q:=λ(i:Nat)=>.tup [.int (i:Int),.int (Zq Q i)]) (g:=λ(i:Nat)=>.int (i:Int)) (λv=>decide ((h.count v:Int)>Zq Q v)) (λst=>∃x y,st=[ax (hV h),ax (pP Q),x,y]) (by rw[<-Zen];rfl) ⟨aA,aA,rfl⟩ ?_ (λa e=>by unfold RU;rw[e];rfl) ?_)
 ·rintro k b st ⟨x,y,rfl⟩;exact⟨_,rfl,xb (o2 (o2 rfl rfl (PF h k)) rfl rfl),rfl,_,_,rfl⟩
 ·rintro e s ⟨x,y,rfl⟩;exact⟨.non,rfl,by unfold RU;rw[e];rfl⟩
noncomputable def QJ(ks:List Nat):PV:=.cst (iL (nL ks))
noncomputable def kN(x:Nat):Yp:=.inl (x:Int)
theorem Bi{a b:Nat}(h:kN a=kN b):a=b:=by unfold kN at h;injection h with h;omega
noncomputable def dF(F:List Nat)(p:Nat->List Nat):PV:=.dK (F.map kN) (F.map λx=>QJ (p x))
theorem Zar(F:List Nat)(p:Nat->List Nat):ZC (F.map λx=>QJ (p x))=aC:=UH λx _=>Yb _
theorem Bj(F:List Nat)(p:Nat->List Nat)(y:Nat):WL (F.map kN) (F.map λx=>QJ (p x)) (kN y)=if y∈F then ax (QJ (p y)) else aA:=by
 unfold WL
 induction F with
 | nil=>rfl
 | cons a F ih=>
  rw[af,af,cQ,cf];by_cases q:a=y
  ·subst q;have:decide (kN a=kN a)=aC:=decide_eq_true rfl;rw[this,m7 (by simp)];rfl
  ·have:decide (kN a=kN y)=aB:=decide_eq_false λz=>q (Bi z);rw[this];have e:(y∈a::F)↔y∈F:=by rw[aa];exact⟨λz=>z.resolve_left λw=>q w.symm,.inr⟩
   simp only[e];exact ih
theorem Bk{F:List Nat}{p:Nat->List Nat}{y:Nat}(h:y∈F):V5 (dF F p) (.int (y:Int))=ax (QJ (p y)):=by show WL (F.map kN) (F.map λx=>QJ (p x)) (kN y)=_;rw[Bj,m7 h]
theorem Zhd(F:List Nat)(p:Nat->List Nat)(y:Nat):dIn (dF F p) (.int (y:Int))=ax (decide (y∈F)):=by
 show ax (WL (F.map kN) (F.map λx=>QJ (p x)) (kN y)).isSome=_;rw[Bj];by_cases q:y∈F
 ·rw[m7 q,decide_eq_true q];rfl
 ·rw[m9 q,decide_eq_false q];rfl
theorem Ze0{F:List Nat}{p:Nat->List Nat}{y:Nat}{b:List Nat}(h:y∉F)(d:F.length<=1000):An (dF F p) (.int (y:Int)) (QJ b)=ax (dF (F++[y]) (He p y b)):=by
 have n:kN y∉F.map kN:=λz=>by obtain⟨x,c,e⟩:=bR.mp z;exact h (by rw[<-Bi e];exact c)
 show(gd (ZC (F.map λx=>QJ (p x))&&ZI (QJ b)&&decide ((F.map kN).length<=10000))).bind (λ_=>ax (PV.dK (Pe (F.map kN) (kN y)) (Pf (F.map kN) (F.map λx=>QJ (p x)) (kN y) (QJ b))))=_;rw[Zar,show ZI (QJ b)=aC from Yb _,decide_eq_true (by rw[aK];omega)];rw[NJ n,NK n];show ax (PV.dK _ _)=ax (PV.dK _ _);have a:F.map (λx=>QJ (p x))=F.map λx=>QJ (He p y b x):=ar λx c=>by unfold He;rw[m9 λz=>h (by rw[<-z];exact c)]
 rw[bP,bP,a];congr 3;unfold He;simp
abbrev stY(W:List (List Int))(h:List Nat)(Q:List Int)(a:Nat)(F:List Nat)(p:Nat->List Nat)(j:Nat)(x7 x8 x9 x10:Option PV):ZE:=[ax (Ux W),ax (hV h),ax (pP Q),ax (.int (a:Int)),ax (dF F p),ax (hV F),ax (.int (j:Int)),x7,x8,x9,x10]
theorem LC(h:List Nat):Y5 (iL (nL h))=(aD h.length).map λ(i:Nat)=>.tup [.int (i:Int),.int (hd h i:Int)]:=by
 have l:(nL h).length=h.length:=by simp[nL]
 rw[YJ,aK,l];exact ar λi a=>by have a:=aY.mp a;rw[Xk (nL h) i (by rw[l];exact a),GJ a]
theorem Zas{L:List Nat}{i:Nat}(a:L.length<=1000):DX (QJ L) (.lst [.int (i:Int)])=ax (.lst (iL (nL (L++[i])))):=by show(Yn (iL (nL L))).bind _=_;rw[Yf,aZ,show([PV.int (i:Int)]:List PV)=iL [(i:Int)] from rfl,Yf,aZ];show(if(nL L).length+1<=10000 then ax (PV.lst (iL (nL L++[(i:Int)]))) else aA)=_;rw[m7 (by simp[nL];omega)];simp[nL]
theorem Bm{f:XE}{s:ZE}{L:List Nat}(q:f s=ax (.lst (iL (nL L)))):FG f s=ax (QJ L):=by unfold FG;rw[q];show(Yn (iL (nL L))).map _=_;rw[Yf];rfl
section
variable {W:List (List Int)} {h:List Nat} {Q:List Int} {a:Nat}
theorem Hf(ok:ZA W)(o:HOk (eW W) h)(hl:(eW W).length<=441)(hQ:Q.length=W.length)(Z:a<W.length)(O7:Zq Q a<(h.count a:Int))(R:∀G:List Nat,G.Nodup->(∀g∈G,g<W.length)->G≠[]->Qg G (eW W)<=(G.map (Zq Q)).sum) :
  ∃A x F,S1 [Ux W,hV h,pP Q,.int (a:Int)]=ax (QJ A)/\Pth (eW W) h F a A x/\(h.count x:Int)<Zq Q x/\A.length<=7:=by
 have N:=ok.few
 suffices g:YW NS (ZH 11 [Ux W,hV h,pP Q,.int (a:Int)]) λv=>∃A x F,v=QJ A/\Pth (eW W) h F a A x/\(h.count x:Int)<Zq Q x/\A.length<=7 by obtain⟨v,e,A,x,F,rfl,r⟩:=Oz g;exact⟨A,x,F,e,r⟩
 have S:BSr (eW W) h (Zq Q) W.length a [a] (λ_=>[]) 0:=
  ⟨by simp,λx n=>by rw[aN.mp n];exact Z,by simp,dH _,λx n=>by rw[aN.mp n];exact Pth.start o,λx n=>j9,λx n=>(cC n).elim,λx n=>(cC n).elim⟩
 have I:∀{F p j}(i:BSr (eW W) h (Zq Q) W.length a F p j),∃x,F[j]?=ax x/\x∈F/\ZW (hV F) (.int (j:Int))=ax (.int (x:Int))/\ZW (pP Q) (.int (x:Int))=ax (.int (Zq Q x)):=λ{F p j} i=>by have H:=i.goes o O7 R;have t:F[j]∈F:=cD H;refine⟨F[j],aH H,t,?_,Xi (by rw[hQ];exact i.lt _ t)⟩;rw[Zey H];unfold hd;rw[aG,aH H];rfl
 have O:∀{F p}{j x:Nat}{J D C f},ZW (hV F) (.int (j:Int))=ax (.int (x:Int))->ZW (pP Q) (.int (x:Int))=ax (.int (Zq Q x))->xB (Zl oGe (Zl UL (Za 1) (Zl ZW (Za 5) (Za 6))) (Zl ZW (Za 2) (Zl ZW (Za 5) (Za 6)))) (stY W h Q a F p j J D C f)=ax (decide (Zq Q x<=(h.count x:Int))):=λg E=>xb (vge (o2 rfl (o2 rfl rfl g) (PF h _)) (o2 rfl (o2 rfl rfl g) E));refine ZO (Zr (v:=dF [a] λ_=>[]) rfl) (ZO (Zr (v:=hV [a]) rfl) (ZO (Zr (v:=.int ((0:Nat):Int)) rfl) (VR (GH (λk st=>∃F p j J D C f,BSr (eW W) h (Zq Q) W.length a F p j/\st=stY W h Q a F p j J D C f/\k=W.length-j) ⟨[a],λ_=>[],0,aA,aA,aA,aA,S,rfl,rfl⟩ ?_) ?_)))
 ·rintro k st ⟨F,p,j,J,D,C,f,i,rfl,rfl⟩;obtain⟨x,n,t,g,E⟩:=I i;have H:=i.goes o O7 R;have X:=OJ i.nd i.lt;by_cases L:Zq Q x<=(h.count x:Int)
  ·refine .inr ⟨(O g E).trans (by rw[decide_eq_true L]),Z9 (Zr (ep (o2 rfl rfl g))) (Gr (Tu (ls:=Y5 (iL (nL h))) (λm s=>∃F p D C f,BIn (eW W) h (Zq Q) W.length a F p j x m/\s=stY W h Q a F p j (ax (.int (x:Int))) D C f) rfl ⟨F,p,D,C,f,⟨i,n,λk Y=>absurd Y (Nat.not_lt_zero _)⟩,rfl⟩ ?_) ?_)⟩
   ·rintro m l s u ⟨F,p,D,C,f,B,rfl⟩;rw[LC] at u;have P:m<h.length:=by simpa using(aO.mp u).1
    rw[aW,br P] at u;cases u;have M:m<(eW W).length:=by rw[<-o.len];exact P
    have t:x∈F:=bK B.hx;have X:F.length<=7:=bg (OJ B.b.nd B.b.lt) N;let y:=VH (ZP (eW W) m) (hd h m);refine⟨_,rfl,Z9 (Zr (c2 (o2 rfl rfl (LB M)) rfl (Jg M))) (Gs (xa (xb (eqi rfl rfl)) (p2:=!decide (y∈F)) (xb ?_)) (λw=>?_) λw=>O8 rfl ⟨F,p,_,_,_,B.pass λz=>?_,rfl⟩)⟩
    ·unfold JV;show(dIn (dF F p) (.int (y:Int))).map (λb=>PV.bl (if aC=aC then !b else b))=_;rw[Zhd];rfl
    ·obtain⟨c,d⟩:hd h m=x/\y∉F:=by simpa [kL] using w
     subst c;have:=B.b.sh (hd h m) t;exact Z9 (KO (k:=.int (y:Int)) (d:=dF F p) (Bm (o2 (o2 rfl rfl (Bk t)) rfl (Zas (by omega)))) rfl rfl (Ze0 d (by omega))) (O8 (IP rfl rfl (by omega)) ⟨_,_,_,_,_,B.add o Jf M rfl d,rfl⟩)
    ·subst z;simpa [y] using w
   ·rintro s ⟨T,p',y8,y9,U,B,rfl⟩;rw[show(Y5 (iL (nL h))).length=(eW W).length by rw[LC];simp[o.len]] at B;exact O8 rfl ⟨W.length-(j+1),by omega,T,p',j+1,_,_,_,_,B.done L,rfl,rfl⟩
  ·exact .inl ((O g E).trans (by rw[decide_eq_false L]))
 ·rintro s ⟨k,⟨F,p,j,J,D,C,f,i,rfl,rfl⟩,q⟩;obtain⟨x,n,t,g,E⟩:=I i;have lt:=of_decide_eq_false (bJ ((O g E).symm.trans q));have:=i.sh x t;have:=OJ i.nd i.lt;exact Tt (ep (o2 rfl (o2 rfl rfl g) (Bk t)) (Yb _)) ⟨p x,x,F,rfl,i.pt x t,by omega,by omega⟩
end
section
variable {W:List (List Int)} {h:List Nat} {Q:List Int}
abbrev stH(W:List (List Int))(Q:List Int)(h:List Nat)(x4 x5 x6:Option PV):ZE:=[ax (wP W),ax (pP Q),ax (Ux W),ax (hV h),x4,x5,x6]
theorem Ji(E:List Z2):∀(ks h:List Nat),(Wq E h ks).length=h.length
 | [],_=>rfl
 | k::ks,h=>by show(Wq E (Uu E h k) ks).length=_;rw[Ji E ks];unfold Uu;rw[cH]
theorem N1(E:List Z2):∀(ks h:List Nat)(k:Nat),Wq E h (ks++[k])=Uu E (Wq E h ks) k
 | [],_,_=>rfl
 | _::ks,_,k=>N1 E ks _ k
theorem Ek{n a:Nat}{q:Nat->Int}(e:RU n q h=ax a):a<n/\q a<(h.count a:Int):=by have m:=dJ e;have c:=gh e;exact⟨aY.mp m,of_decide_eq_true c⟩
theorem LD(ok:ZA W)(z:(eW W).length<=441)(n:Q.length=W.length)(B:∀G:List Nat,G.Nodup->(∀g∈G,g<W.length)->G≠[]->Qg G (eW W)<=(G.map (Zq Q)).sum) :
  ∃h,Uc [wP W,pP Q]=ax (hV h)/\HOk (eW W) h/\∀v,v<W.length->(h.count v:Int)<=Zq Q v:=by
 suffices g:YW RO (ZH 7 [wP W,pP Q]) λv=>∃h,v=hV h/\HOk (eW W) h/\∀v,v<W.length->(h.count v:Int)<=Zq Q v by obtain⟨v,e,h,rfl,r⟩:=Oz g;exact⟨h,e,r⟩
 let f:List Nat:=(aD (eW W).length).map λk=>(ZP (eW W) k).1
 have A:HOk (eW W) f:=⟨by simp[f],λk b=>.inl (by
  show((aD (eW W).length).map λk=>(ZP (eW W) k).1).getD k 0=_;rw[aG,aW,br b];rfl)⟩
 have u:∀h,Wi [hV h,pP Q]=ax (U5 (RU W.length (Zq Q) h)):=λh=>by rw[<-n];exact Jh
 refine ZO (Zr (c1 rfl (VD ok).1)) (ZO (Zr (v:=hV f) ((ZM (aD (eW W).length) (λk=>pP (Qh W k)) (λk=>.int ((ZP (eW W) k).1:Int)) ?_ (by simp;omega) λk b=>⟨_,rfl,rfl,ep (o2 rfl rfl (Uy (aY.mp b)).1)⟩).trans ?_)) (ZO (Zr (c2 rfl rfl (u _))) (VR (GH (λk st=>∃h j d,HOk (eW W) h/\st=stH W Q h (ax (U5 (RU W.length (Zq Q) h))) j d/\k=(Be W.length (Zq Q) h).toNat) ⟨f,aA,aA,A,rfl,rfl⟩ ?_) ?_)))
 ·show ax ((Z8 W).map pP)=_;rw[Ur]
  conv=>lhs;rw[<-Ou (Z8 W) []]
  rw[bh];rfl
 ·unfold hV nL;rw[bh,Zbu];rfl
 ·rintro k st ⟨h,j,d,o,rfl,rfl⟩
  cases e:RU W.length (Zq Q) h with
  | none=>exact .inl (xb rfl)
  | some a=>
   obtain⟨m,O7⟩:=Ek e;obtain⟨c,x,F,y,p,fr,_⟩:=Hf ok o z n m O7 B;have ls:=Bf m O7 fr p.cn;have D:=Zev W.length (Zq Q) (Wq (eW W) h c);refine .inr ⟨xb rfl,Z9 (Zr (c4 rfl rfl rfl rfl y)) (Gr (Zg6 (X:=c) (λi s=>∃d,s=stH W Q (Wq (eW W) h (c.take i)) (ax (.int (a:Int))) (ax (QJ c)) d) rfl ⟨d,rfl⟩ ?_) ?_)⟩
   ·rintro i s l ⟨d,rfl⟩;have b:=p.lt _ (cD l);have t:(Wq (eW W) h (c.take i)).length=(eW W).length:=by rw[Ji,o.len]
    refine O8 (Zeo (k:=c[i]) rfl (c2 (o2 rfl rfl (LB b)) (o2 rfl rfl (Zey (by rw[t];exact b))) (Jg b)) rfl (by simp only[nL,aK,t];exact b)) ⟨ax (.int ((c[i]:Nat):Int)),?_⟩;rw[List.take_succ_eq_append_getElem l,N1];show _=stH W Q (List.set _ _ _) _ _ _;unfold stH hV nL;rw[jU];rfl
   ·rintro s ⟨C,rfl⟩;rw[lG];exact O8 (Zr (c2 rfl rfl (u _))) ⟨_,by omega,_,_,_,p.ok,rfl,rfl⟩
 ·rintro s ⟨k,⟨h,j,d,o,rfl,rfl⟩,q⟩
  cases e:RU W.length (Zq Q) h with
  | some a=>rw[e] at q;cases q
  | none=>
   refine Tt rfl ⟨h,rfl,o,λv w=>?_⟩;have:=eZ.mp e v (aY.mpr w);simp only[decide_eq_true_eq] at this;omega
end
theorem OK(D:List Int):YD (pP D)=aC:=by
 show Xm (iL D)=aC
 induction D with
 | nil=>rfl
 | cons a r ih=>exact ih
theorem Hg{W:List (List Int)}(ok:ZA W){b:Nat}(e:b<W.length){Lm:ON}{l:PV}{φ:Nat->Nat->Nat->Bool}(i:YD l=aC)
  (f:∀k h c:Nat,k<(eW W).length->h<W.length->R9 Lm l [.int (k:Int),.int (h:Int),.int (c:Int)]=ax (.bl (φ k h c))) :
  UO [wP W,.int (b:Int),.clo Lm l]=ax (pP (nL (Zan ((XM (eW W) φ (eW W).length (GI b)).B.map (·.1))))):=by
 have d:=Ej ok e i f;generalize j:XM (eW W) φ (eW W).length (GI b)=s at d ⊢;have a:WInv (eW W) W.length b s:=by rw[<-j];exact WInv.walk Jf (WInv.start e)
 have m:=OJ a.ndF a.ltF;have o:s.F.length=s.B.length+1:=by rw[a.hB];simp
 have n:=ok.few;have g:(s.B.map λx=>PV.int (x.1:Int))=iL (nL (s.B.map (·.1))):=by simp[nL]
 refine WW (ret (CM ?_));rw[Zao];exact c1 (c1 ((ZM s.B (λx=>pP (bI x)) (λx=>.int (x.1:Int)) (by unfold YY;rw[c3 (D:=Si) rfl rfl rfl d];rfl) (by omega) λx p=>⟨_,rfl,rfl,rfl⟩).trans (by rw[g])) (IY (by rw[aK];omega))) rfl
noncomputable def OL(W:List (List Int))(P:List Int):List Int:=Om (Qe P (aT W.length 1)) (C1 W.length 0)
theorem Bn{W:List (List Int)}{P:List Int}(d:P.length=W.length){i:Nat}(c:i<W.length):Zq (OL W P) i=Zq P i+1-if i=0 then 1 else 0:=by
 unfold OL;rw[KQ (by rw[Vh,d];exact c),So (by rw[d];exact c)];have a:Zq (aT W.length 1) i=1:=by unfold Zq;rw[aG,bU,m7 c];rfl
 have b:Zq (C1 W.length 0) i=if i=0 then 1 else 0:=ZN c
 rw[a,b]
theorem Zat{W:List (List Int)}(ok:ZA W){P:List Int}(h:P.length=W.length)(k:Ut W P)(G:List Nat)(c:G.Nodup)(lt:∀g∈G,g<W.length)(ne:G≠[]):Qg G (eW W)<=(G.map (Zq (OL W P))).sum:=by
 obtain⟨g,e⟩:=iM G ne;have d:=k (λi=>decide (i∈G)) ⟨g,lt g e,decide_eq_true e⟩;have j:=C7 (w:=Zz W) (D:=Zq P) c lt (by rw[QH ok c lt];omega);have q:=QH ok c lt;unfold uW at d;rw[<-j] at d;unfold KZ at d
 have o:(G.map (Zq (OL W P))).sum=(G.map (Zq P)).sum+(G.map λi=>1-if i=0 then(1:Int) else 0).sum:=by
  rw[<-Um];congr 1;exact ar λi l=>by rw[Bn h (lt i l)];omega
 have n:∀G:List Nat,G.Nodup->(G.length:Int)-1<=(G.map λi=>1-if i=0 then(1:Int) else 0).sum/\(0∉G->(G.length:Int)<=(G.map λi=>1-if i=0 then(1:Int) else 0).sum):=λG=>by
  induction G with
  | nil=>intro _;exact⟨by decide,λ_=>by decide⟩
  | cons x G ih=>
   intro c;obtain⟨m,f⟩:=av.mp c;obtain⟨a,b⟩:=ih f;simp only[af,bZ,bM];by_cases z:x=0
   ·subst z;have:=b m;simp;omega
   ·simp[z];exact⟨by omega,λ_ w=>by have:=b w;omega⟩
 have p:=(n G c).1;omega
theorem El{h:List Nat}{k g c:Nat}(a:k<h.length):R9 YQ (QJ h) [.int (k:Int),.int (g:Int),.int (c:Int)]=ax (.bl (decide (hd h k=g))):=by
 unfold R9;rw[m7 rfl]
 exact o2 (o2 rfl rfl (show ZW (QJ h) (.int (k:Int))=ax (.int (hd h k:Int)) from Zey a)) rfl (by
  rw[ME];simp[kL])
noncomputable def Bo(W:List (List Int))(P:List Int)(T X:List Nat):Prop:=∃h,HOk (eW W) h/\(∀v,v<W.length->(h.count v:Int)<=Zq (OL W P) v)/\T=Zan ((XM (eW W) (λk g _=>decide (hd h k=g)) (eW W).length (GI 0)).B.map (·.1))/\X=((aD h.length).filter λk=>!decide (k∈T)).map (hd h)
theorem Zau{W:List (List Int)}(ok:ZA W){P:List Int}(d:P.length=W.length)(q:Ut W P):∃T X:List Nat,S3 [wP W,pP P]=ax (.tup [pP (nL T),pP (nL X)])/\Bo W P T X:=by
 have i:=ok.few;have j:=ok.pos;have t:(OL W P).length=W.length:=by unfold OL;rw[KP,Vh,d]
 have p:(eW W).length<=441:=by rw[Ur];exact(VD ok).2
 obtain⟨h,m,o,u⟩:=LD ok p t (Zat ok d q);have n:=o.len;have f:=Hg ok j (Lm:=YQ) (l:=QJ h) (φ:=λk g _=>decide (hd h k=g)) (OK (nL h)) λk g c e _=>El (by rw[n];exact e);generalize s:Zan ((XM (eW W) (λk g _=>decide (hd h k=g)) (eW W).length (GI 0)).B.map (·.1))=T at f;let X:List Nat:=((aD h.length).filter λk=>!decide (k∈T)).map (hd h);refine⟨T,X,WW (sq (Zr (c2 (c2 (b:=pP (aT W.length 1)) rfl (o2 (a:=.tup [.int 1]) rfl (c1 rfl K2) ?_) (Li (by rw[dO,d]) (by rw[d];omega))) (c2 rfl rfl (Ed (h:=0) i)) (KN (by simp[C1,Vh,d]) (by rw[Vh,d];omega)))) (sq (Zr (ep (Bm (c2 rfl rfl m)) (Yb _))) (sq (Zr (v:=pP (nL T)) ?_) (ret (ep (Zg7 rfl (c1 (a:=.lst (iL (nL X))) ((Xj (aD h.length) (λ(k:Nat)=>.tup [.int (k:Int),.int (hd h k:Int)]) (λ(k:Nat)=>.int (hd h k:Int)) (λk=>!decide (k∈T)) (by show ax (Y5 (iL (nL h)))=_;rw[LC]) (by simp;omega) λk e=>⟨_,rfl,xb (o2 rfl rfl (by rw[C4];simp only[Ll];rfl)),λ_=>rfl⟩).trans ?_) (T3 _))) (by simp)))))),h,o,u,s.symm,rfl⟩
 ·show(if ZC [PV.int 1]=aC/\[PV.int 1]≠[]/\1<=(W.length:Int)/\(W.length:Int)<=1000000/\[PV.int 1].length*((W.length:Int)).toNat<=10000 then ax (PV.tup (aT ((W.length:Int)).toNat [PV.int 1]).flatten) else aA)=_;rw[m7 ⟨rfl,by simp,by omega,by omega,by simp;omega⟩,bc,EW];simp
 ·show(UO [wP W,.int ((0:Nat):Int),.clo YQ (QJ h)]).bind _=_;rw[f,aZ,m7 (OK _)]
 ·show _=ax (PV.lst (iL (nL (((aD h.length).filter λk=>!decide (k∈T)).map (hd h)))));unfold nL;rw[bh,Zbu];rfl
end PW
namespace PW
open L2 VL VX PK
noncomputable def lpW(W:List (List Int)):Int:=((eW W).length:Int)-(W.length:Int)+1
theorem Jj{l:List Int}{n:Nat}(h:l.length=n)(c:n<=1000):Tj [pP l,.int (n:Int)]=ax (.bl aC):=by
 have c1:Ze VP [Za 0,eC (.ty "tuple")] [ax (pP l),ax (.int (n:Int))]=ax (.bl aC):=by simp
 have c2:Zl (WU aC) (Ze ZQ [Za 0]) (Za 1) [ax (pP l),ax (.int (n:Int))]=ax (.bl aB):=by
  have:Ze ZQ [Za 0] [ax (pP l),ax (.int (n:Int))]=ax (.int (n:Int)):=by show ax (PV.int ((iL l).length:Int))=_;rw[aK,h]
  rw[WB,this];show WU aC (.int (n:Int)) (.int (n:Int))=_;simp
 have a:Qq (E5 (Ka (xB (Ze VP [Za 0,eC (.ty "tuple")]))) (xB (Zl (WU aC) (Ze ZQ [Za 0]) (Za 1)))) (ZL (eP (eC (.bl aB)))) YH [ax (pP l),ax (.int (n:Int))]=ax (.nx [ax (pP l),ax (.int (n:Int))]):=by rw[T1,HQ,Kl,MC,c1];simp only[aZ,Zdy,cS,Bool.not_true,eV,if_false];rw[MC,c2];rfl
 have b:Zu 1 [] (OW (Za 0)) (.one 0) ZF (Ze Vc [Za 0]) [ax (pP l),ax (.int (n:Int))]=ax (.lst ((l.map λ_=>aC).map PV.bl)):=by rw[ZM l PV.int (λ_=>.bl aC) (Pk (by simp)) (by omega) (λi d=>⟨_,rfl,rfl,by simp[ZG,Cw]⟩),bh];rfl
 show YG 2 Ti _=_;unfold Ti;show(Zn _ _ [ax (pP l),ax (.int (n:Int))]).bind Tf=_
 rw[U4 a,Lk (v:=.bl aC) (by
  rw[SR,YB,Zx,b];show(lW (Fh [.lst ((l.map λ_=>aC).map PV.bl)]) λl=>if ZI l=aC then ax l else aA)=_;rw[Zdz];simp)]
 rfl
end PW
namespace PW
open PySem L2 VL VX PK
noncomputable def Jk(W:List (List Int)):List Int:=(aD W.length).map λh=>(Zw W h).sum/2-1
theorem Em{W:List (List Int)}(ok:ZA W):PU [wP W]=ax (pP (Jk W)):=by have b:=ok.few;exact WW (ret (CM (c1 (UU (λh=>(Zw W h).sum/2-1) (Y6 (c1 rfl K2) (by omega)) (by omega) λi a=>⟨_,rfl,rfl,vsb (vdv (c2 rfl rfl (Ol a)) rfl) rfl⟩) (T3 _))))
theorem Zaw(W:List (List Int)):(Jk W).length=W.length:=by simp[Jk]
theorem En{W:List (List Int)}(ok:ZA W)(u:VY W){P L:List Int}(f:P.length=W.length)(s:Ut W P)(m:P.sum=lpW W)(t:∀h,h<W.length->(Zq (Om (ZR W P L) (Jk W)) h).natAbs<=2^208) :
  ∃(S:List Int) (T X:List Nat),Ud [wP W,pP (ZR W P L)]=ax (.tup [pP (Ts S),pP P,pP (nL T),pP (nL X)])/\S.length=W.length/\Bo W P T X/\∃c,∀i,i<W.length->Zq L i+Zq S i=c:=by
 have C:=ok.few;have k:=ok.pos;let D:=ZR W P L;have a:D.length=W.length:=by show(ZR W P L).length=_;rw[YZ,f]
 have p:D.sum=lpW W:=by show(ZR W P L).sum=_;rw[QC ok f,m]
 have q:=K7 ok u (D:=Om D (Jk W)) (b:=0) (by rw[KP,a]) k t;have o:=K6 (W:=W) (D:=Om D (Jk W)) (b:=0) k;generalize OE W (Om D (Jk W)) 0=S0 at q o;obtain⟨z,y,n⟩:=Zet (λi=>Zq L i+Zq S0 i) k;have B:Way W P (Zq L) (Zq L z+Zq S0 z) S0 (ZR W D S0):=by refine⟨o,by rw[YZ,a],by rw[QC ok a,p,m],λi j=>by have:=n i j;omega,⟨z,y,by omega⟩,λi j=>?_⟩;rw[Zeu _ _ j,Lw (by rw[a];exact j),show Zq D i=Zq P i+gN W (Zq L) i from Lw (by rw[f];exact j),Tw];omega
 obtain⟨T,X,w,x⟩:=Zau ok f s
 suffices g:YW KD (ZH 7 [wP W,pP D]) λv=>∃S,v = .tup [pP (Ts S),pP P,pP (nL T),pP (nL X)]/\S.length=W.length/\∃c,∀i,i<W.length->Zq L i+Zq S i=c by obtain⟨v,e,S,rfl,l,r⟩:=Oz g;exact⟨S,T,X,e,l,x,r⟩
 have rt:Wh [wP W,pP D]=ax .non:=Zg3 (gof (xb (o2 (c1 rfl (Cv D)) (c1 rfl (C3 ok)) (by
  rw[ME];show ax (PV.bl (!decide (D.sum=lpW W)))=_;rw[decide_eq_true p];rfl))))
 refine ZO (Zg4 (c2 rfl rfl rt)) (ZO (Zr (c3 rfl (c2 rfl (c1 rfl (Em ok)) (KN (by rw[Zaw,a]) (by rw[a];omega))) rfl q)) (ZO (Zr (c3 rfl rfl rfl (Lj ok a o))) (ZO (Zr (c2 rfl rfl (Vi ok (by rw[YZ,a])))) (Ba ok s f m B λS F E d A=>ZO (Zr (c2 rfl rfl w)) (Tt (ep (by
  rw[TZ,Zx,c1 rfl (OD (l:=S) (by rw[d];exact k) (by rw[d];omega))];rfl) (by simp)) ⟨S,rfl,d,_,A⟩)))))
noncomputable def gQ(neg:Bool):PV->PV->Option PV
 | .int a,.int b=>ax (.bl (xor neg (Int.decEq a b).decide))
 | a,b=>WU neg a b
theorem Zhe(c:Bool):WU c=gQ c:=by
 funext a b;unfold gQ;split
 ·rename_i a b;show(if Vq 8 (.int a) (.int b)=aC then _ else _)=_;rw[m7 (show Vq 8 (.int a) (.int b)=aC from rfl)];by_cases h:a=b
  ·subst h;cases c<;>simp
  ·cases c<;>simp[h]
 ·rfl
noncomputable def blN:Nat->List (List Bool)
 | 0=>[[]]
 | k+1=>(blN k).flatMap λl=>[aC::l,aB::l]
theorem GK:∀l:List Bool,l∈blN l.length
 | []=>aN.mpr rfl
 | b::l=>dZ.mpr ⟨l,GK l,by cases b<;>simp⟩
noncomputable def okB(W:List (List Int))(p:List Int):Bool:=V9 W.length p&&decide (p.sum=lpW W)&&(blN W.length).all λl=>!l.any id || decide (2<=uW W p λi=>l.getD i aB)
noncomputable def Ze1(W:List (List Int)):Option PV->Option PV->Bool
 | some (.lst l),ax (.int t)=>match J5 l with
  | some ps=>decide (t=ps.length)&&decide ps.Nodup&&decide (ps.length<64)&&ps.all (okB W)
  | none=>aB
 | _,_=>aB
noncomputable def okW(f g:List PV->Option PV)(W:List (List Int)):Bool:=Ze1 W (f [wP W]) (g [wP W])
noncomputable def okK:(f:List (List Int)->Bool)×' ∀W,okW Sg Xn W=f W:=⟨_,λW=>by
 simp only[Sg,Gj,SY,NR,PB,Kv,Xn,Sh,WN,Tc,Ub,RN,V7,Px,UI,NI,Yo,Vd,Sd,Kq,X6,SU,Zhe];rfl⟩
noncomputable def Zhf(W:List (List Int)):Bool:=(blN W.length).any λl=>((aD W.length).all λa=>(aD W.length).all λb=>decide (Zz W a b<=0) || (l.getD a aB==l.getD b aB))&&(aD W.length).any λi=>l.getD i aB != l.getD 0 aB
theorem Bp{W:List (List Int)}(g:1<=W.length)(d:VY W):Zhf W=aB:=by
 refine ku.mpr λh=>?_;obtain⟨l,_,h⟩:=gM.mp h;obtain⟨m,c⟩:=cF.mp h;obtain⟨i,j,c⟩:=gM.mp c
 have:=d (λi=>l.getD i aB=aC) (λa b k f e=>by
  have:=au.mp (au.mp m a (aY.mpr k)) b (aY.mpr f);rcases Bool.or_eq_true_iff.mp this with z | z
  ·have:=of_decide_eq_true z;omega
  ·rw[eq_of_beq z]) i 0 (aY.mp j) g
 refine(bne_iff_ne.mp c) ?_
 revert this
 cases l.getD i aB<;>cases l.getD 0 aB<;>simp
noncomputable def okF(W:List (List Int)):Bool:=Zhf W || okK.1 W
noncomputable def mW:List Nat->List (List Int)
 | []=>[[0]]
 | [a]=>[[0,a],[a,0]]
 | [a,b,d]=>[[0,a,b],[a,0,d],[b,d,0]]
 | [a,b,c,d,e,f]=>[[0,a,b,c],[a,0,d,e],[b,d,0,f],[c,e,f,0]]
 | _=>[]
noncomputable def lsN:Nat->Nat->List (List Nat)
 | 0,_=>[[]]
 | k+1,m=>(aD (m+1)).flatMap λa=>(lsN k (m-a)).map (a::·)
theorem GL:∀(l:List Nat)(m:Nat),l.sum<=m->l∈lsN l.length m
 | [],m,_=>aN.mpr rfl
 | a::l,m,h=>by rw[bZ] at h;exact dZ.mpr ⟨a,aY.mpr (by omega),bR.mpr ⟨l,GL l _ (by omega),rfl⟩⟩
noncomputable def U1(p:List Nat)(k m:Nat):Bool:=(lsN k m).all λr=>okF (mW (p++r))
theorem spl{p:List Nat}{k m:Nat}(h:∀a,a<=m->U1 (p++[a]) k (m-a)=aC):U1 p (k+1) m=aC:=
 au.mpr λr b=>by
  obtain⟨a,d,b⟩:=dZ.mp b;obtain⟨r,c,rfl⟩:=bR.mp b;have:=au.mp (h a (by have:=aY.mp d;omega)) r c
  rwa [fD] at this
variable {p:List Nat} {k:Nat}
theorem Sw(b:U1 (p++[0]) k 0=aC):U1 p (k+1) 0=aC:=spl λa h=>by
 match a,h with
 | 0,_=>exact b
theorem OP(b:U1 (p++[0]) k 1=aC)(c:U1 (p++[1]) k 0=aC):U1 p (k+1) 1=aC:=spl λa h=>by
 match a,h with
 | 0,_=>exact b
 | 1,_=>exact c
theorem Jp(c:U1 (p++[0]) k 2=aC)(d:U1 (p++[1]) k 1=aC)(b:U1 (p++[2]) k 0=aC):U1 p (k+1) 2=aC:=spl λa h=>by
 match a,h with
 | 0,_=>exact c
 | 1,_=>exact d
 | 2,_=>exact b
theorem Bq(d:U1 (p++[0]) k 3=aC)(e:U1 (p++[1]) k 2=aC)(c:U1 (p++[2]) k 1=aC)(b:U1 (p++[3]) k 0=aC):U1 p (k+1) 3=aC:=spl λa h=>by
 match a,h with
 | 0,_=>exact d
 | 1,_=>exact e
 | 2,_=>exact c
 | 3,_=>exact b
theorem sp4(e:U1 (p++[0]) k 4=aC)(f:U1 (p++[1]) k 3=aC)(c:U1 (p++[2]) k 2=aC)(b:U1 (p++[3]) k 1=aC)(d:U1 (p++[4]) k 0=aC):U1 p (k+1) 4=aC:=spl λa h=>by
 match a,h with
 | 0,_=>exact e
 | 1,_=>exact f
 | 2,_=>exact c
 | 3,_=>exact b
 | 4,_=>exact d
theorem sp5(f:U1 (p++[0]) k 5=aC)(g:U1 (p++[1]) k 4=aC)(d:U1 (p++[2]) k 3=aC)(b:U1 (p++[3]) k 2=aC)(e:U1 (p++[4]) k 1=aC)(c:U1 (p++[5]) k 0=aC):U1 p (k+1) 5=aC:=spl λa h=>by
 match a,h with
 | 0,_=>exact f
 | 1,_=>exact g
 | 2,_=>exact d
 | 3,_=>exact b
 | 4,_=>exact e
 | 5,_=>exact c
end PW
namespace PW
open PySem L2 VL VX PK
theorem Zi1:U1 [] 0 5=aC:=by decide +kernel
theorem Zi2:U1 [] 1 5=aC:=sp5 (by decide +kernel) (by decide +kernel) (by decide +kernel) (by decide +kernel) (by decide +kernel) (by decide +kernel)
theorem Zi3:U1 [] 3 5=aC:=sp5 (sp5 (by decide +kernel) (by decide +kernel) (by decide +kernel) (by decide +kernel) (by decide +kernel) (by decide +kernel)) (sp4 (by decide +kernel) (by decide +kernel) (by decide +kernel) (by decide +kernel) (by decide +kernel)) (Bq (by decide +kernel) (by decide +kernel) (by decide +kernel) (by decide +kernel)) (Jp (by decide +kernel) (by decide +kernel) (by decide +kernel)) (OP (by decide +kernel) (by decide +kernel)) (Sw (by decide +kernel))
theorem Zi4:U1 [] 6 5=aC:=sp5 (sp5 (sp5 (sp5 (by decide +kernel) (by decide +kernel) (by decide +kernel) (by decide +kernel) (by decide +kernel) (by decide +kernel)) (sp4 (by decide +kernel) (by decide +kernel) (by decide +kernel) (by decide +kernel) (by decide +kernel)) (Bq (by decide +kernel) (by decide +kernel) (by decide +kernel) (by decide +kernel)) (Jp (by decide +kernel) (by decide +kernel) (by decide +kernel)) (OP (by decide +kernel) (by decide +kernel)) (Sw (by decide +kernel))) (sp4 (sp4 (by decide +kernel) (by decide +kernel) (by decide +kernel) (by decide +kernel) (by decide +kernel)) (Bq (by decide +kernel) (by decide +kernel) (by decide +kernel) (by decide +kernel)) (Jp (by decide +kernel) (by decide +kernel) (by decide +kernel)) (OP (by decide +kernel) (by decide +kernel)) (Sw (by decide +kernel))) (Bq (Bq (by decide +kernel) (by decide +kernel) (by decide +kernel) (by decide +kernel)) (Jp (by decide +kernel) (by decide +kernel) (by decide +kernel)) (OP (by decide +kernel) (by decide +kernel)) (Sw (by decide +kernel))) (Jp (Jp (by decide +kernel) (by decide +kernel) (by decide +kernel)) (OP (by decide +kernel) (by decide +kernel)) (Sw (by decide +kernel))) (OP (OP (by decide +kernel) (by decide +kernel)) (Sw (by decide +kernel))) (Sw (Sw (by decide +kernel)))) (sp4 (sp4 (sp4 (by decide +kernel) (by decide +kernel) (by decide +kernel) (by decide +kernel) (by decide +kernel)) (Bq (by decide +kernel) (by decide +kernel) (by decide +kernel) (by decide +kernel)) (Jp (by decide +kernel) (by decide +kernel) (by decide +kernel)) (OP (by decide +kernel) (by decide +kernel)) (Sw (by decide +kernel))) (Bq (Bq (by decide +kernel) (by decide +kernel) (by decide +kernel) (by decide +kernel)) (Jp (by decide +kernel) (by decide +kernel) (by decide +kernel)) (OP (by decide +kernel) (by decide +kernel)) (Sw (by decide +kernel))) (Jp (Jp (by decide +kernel) (by decide +kernel) (by decide +kernel)) (OP (by decide +kernel) (by decide +kernel)) (Sw (by decide +kernel))) (OP (OP (by decide +kernel) (by decide +kernel)) (Sw (by decide +kernel))) (Sw (Sw (by decide +kernel)))) (Bq (Bq (Bq (by decide +kernel) (by decide +kernel) (by decide +kernel) (by decide +kernel)) (Jp (by decide +kernel) (by decide +kernel) (by decide +kernel)) (OP (by decide +kernel) (by decide +kernel)) (Sw (by decide +kernel))) (Jp (Jp (by decide +kernel) (by decide +kernel) (by decide +kernel)) (OP (by decide +kernel) (by decide +kernel)) (Sw (by decide +kernel))) (OP (OP (by decide +kernel) (by decide +kernel)) (Sw (by decide +kernel))) (Sw (Sw (by decide +kernel)))) (Jp (Jp (Jp (by decide +kernel) (by decide +kernel) (by decide +kernel)) (OP (by decide +kernel) (by decide +kernel)) (Sw (by decide +kernel))) (OP (OP (by decide +kernel) (by decide +kernel)) (Sw (by decide +kernel))) (Sw (Sw (by decide +kernel)))) (OP (OP (OP (by decide +kernel) (by decide +kernel)) (Sw (by decide +kernel))) (Sw (Sw (by decide +kernel)))) (Sw (Sw (Sw (by decide +kernel))))
variable {W:List (List Int)}
theorem Zax(ok:ZA W):W=(aD W.length).map λi=>(aD W.length).map (Zz W i):=by
 refine fK (by simp) λi a c=>?_;rw[lI,List.getElem_range];have e:Zw W i=W[i]:=by unfold Zw;simp[a]
 refine Sr (by rw[<-e,ok.sq i a];simp) λj b=>?_;rw[<-e,ok.sq i a] at b;rw[ZN b,<-e];rfl
theorem Zi5(ok:ZA W)(g:W.length<=4):∃l:List Nat,W=mW l/\l.length=W.length*(W.length-1)/2:=by
 have f:=ok.pos;have b:=Zax ok;have a:∀i j,i<W.length->j<W.length->Zz W i j=((Zz W i j).toNat:Int):=λi j e c=>(fQ (ok.lo i j e c)).symm;have d:=ok.dia;have y:=ok.sym;rcases(by omega:W.length=1\/W.length=2\/W.length=3\/W.length=4) with h | h | h | h<;>rw[h] at b d y a ⊢
 ·refine⟨[],?_,rfl⟩;rw[b];show [[Zz W 0 0]]=[[0]];rw[d 0 (by omega)]
 ·refine⟨[(Zz W 0 1).toNat],?_,rfl⟩;rw[b];show [[Zz W 0 0,Zz W 0 1],[Zz W 1 0,Zz W 1 1]]=[[0,(((Zz W 0 1).toNat:Nat):Int)],[(((Zz W 0 1).toNat:Nat):Int),0]];rw[d 0 (by omega),d 1 (by omega),y 1 0 (by omega) (by omega),<-a 0 1 (by omega) (by omega)]
 ·refine⟨[(Zz W 0 1).toNat,(Zz W 0 2).toNat,(Zz W 1 2).toNat],?_,rfl⟩;rw[b];show [[Zz W 0 0,Zz W 0 1,Zz W 0 2],[Zz W 1 0,Zz W 1 1,Zz W 1 2],[Zz W 2 0,Zz W 2 1,Zz W 2 2]]=[[0,(((Zz W 0 1).toNat:Nat):Int),(((Zz W 0 2).toNat:Nat):Int)],[(((Zz W 0 1).toNat:Nat):Int),0,(((Zz W 1 2).toNat:Nat):Int)],[(((Zz W 0 2).toNat:Nat):Int),(((Zz W 1 2).toNat:Nat):Int),0]];rw[d 0 (by omega),d 1 (by omega),d 2 (by omega),y 1 0 (by omega) (by omega),y 2 0 (by omega) (by omega),y 2 1 (by omega) (by omega),<-a 0 1 (by omega) (by omega),<-a 0 2 (by omega) (by omega),<-a 1 2 (by omega) (by omega)]
 ·refine⟨[(Zz W 0 1).toNat,(Zz W 0 2).toNat,(Zz W 0 3).toNat,(Zz W 1 2).toNat,(Zz W 1 3).toNat,(Zz W 2 3).toNat],?_,rfl⟩;rw[b];show [[Zz W 0 0,Zz W 0 1,Zz W 0 2,Zz W 0 3],[Zz W 1 0,Zz W 1 1,Zz W 1 2,Zz W 1 3],[Zz W 2 0,Zz W 2 1,Zz W 2 2,Zz W 2 3],[Zz W 3 0,Zz W 3 1,Zz W 3 2,Zz W 3 3]]=[[0,(((Zz W 0 1).toNat:Nat):Int),(((Zz W 0 2).toNat:Nat):Int),(((Zz W 0 3).toNat:Nat):Int)],[(((Zz W 0 1).toNat:Nat):Int),0,(((Zz W 1 2).toNat:Nat):Int),(((Zz W 1 3).toNat:Nat):Int)],[(((Zz W 0 2).toNat:Nat):Int),(((Zz W 1 2).toNat:Nat):Int),0,(((Zz W 2 3).toNat:Nat):Int)],[(((Zz W 0 3).toNat:Nat):Int),(((Zz W 1 3).toNat:Nat):Int),(((Zz W 2 3).toNat:Nat):Int),0]];rw[d 0 (by omega),d 1 (by omega),d 2 (by omega),d 3 (by omega),y 1 0 (by omega) (by omega),y 2 0 (by omega) (by omega),y 2 1 (by omega) (by omega),y 3 0 (by omega) (by omega),y 3 1 (by omega) (by omega),y 3 2 (by omega) (by omega),<-a 0 1 (by omega) (by omega),<-a 0 2 (by omega) (by omega),<-a 1 2 (by omega) (by omega),<-a 0 3 (by omega) (by omega),<-a 1 3 (by omega) (by omega),<-a 2 3 (by omega) (by omega)]
theorem Zi6{l:List Nat}(ok:ZA (mW l))(i:l.length=(mW l).length*((mW l).length-1)/2):l.sum=(Z8 (mW l)).length:=by
 have h:=KR ok
 match l,i,h with
 | [],_,h=>
  have:(0:Int)=2*((Z8 (mW [])).length:Int):=h;simp only[gH];omega
 | [a],_,h=>
  have:(0+((a:Int)+0))+(((a:Int)+(0+0))+0)=2*((Z8 (mW [a])).length:Int):=h;simp only[bZ,gH];omega
 | [a,b,d],_,h=>
  have:(0+((a:Int)+((b:Int)+0)))+(((a:Int)+(0+((d:Int)+0)))+(((b:Int)+((d:Int)+(0+0)))+0))=2*((Z8 (mW [a,b,d])).length:Int):=h;simp only[bZ,gH];omega
 | [a,b,c,d,e,f],_,h=>
  have:(0+((a:Int)+((b:Int)+((c:Int)+0))))+(((a:Int)+(0+((d:Int)+((e:Int)+0))))+(((b:Int)+((d:Int)+(0+((f:Int)+0))))+(((c:Int)+((e:Int)+((f:Int)+(0+0))))+0)))=2*((Z8 (mW [a,b,c,d,e,f])).length:Int):=h;simp only[bZ,gH];omega
 | [a,b],i,_=>simp[mW] at i
 | [a,b,c,d],i,_=>simp[mW] at i
 | [a,b,c,d,e],i,_=>simp[mW] at i
 | a::b::c::d::e::f::g::r,i,_=>simp[mW] at i
theorem Ze4{f g:List PV->Option PV}(h:okW f g W=aC):∃ps:List (List Int),f [wP W]=ax (.lst (ps.map pP))/\g [wP W]=ax (.int (ps.length:Int))/\ps.Nodup/\ps.length<64/\∀p∈ps,V9 W.length p=aC/\p.sum=lpW W/\Ut W p:=by
 unfold okW Ze1 at h;split at h
 ·rename_i l t c x;split at h
  ·rename_i ps j;obtain⟨h,v⟩:=cF.mp h;obtain⟨h,w⟩:=cF.mp h;obtain⟨y,k⟩:=cF.mp h;refine⟨ps,by rw[c,RL j],by rw[x,of_decide_eq_true y],of_decide_eq_true k,of_decide_eq_true w,λp b=>?_⟩;obtain⟨q,n⟩:=cF.mp (au.mp v p b);obtain⟨d,e⟩:=cF.mp q;refine⟨d,of_decide_eq_true e,λs ⟨i,a,o⟩=>?_⟩;have u:∀i,i<W.length->((aD W.length).map s).getD i aB=s i:=λi a=>by simp[a]
   have m:=GK ((aD W.length).map s);rw[aK,bw] at m;have z:=au.mp n _ m;rw[show((aD W.length).map s).any id=aC from gM.mpr ⟨s i,bR.mpr ⟨i,aY.mpr a,rfl⟩,o⟩] at z;have z:=of_decide_eq_true (show decide _=aC from z);unfold uW at z ⊢
   rwa [Jc u] at z
  ·cases h
 ·cases h
end PW
namespace P4
open L2 VL PW
structure SzOk(Z:List Int)(mo:Nat):Prop where
 ne:0<Z.length
 le:Z.length<=100
 m8:mo<=8
 rg:∀v,v<Z.length->1<=Zq Z v/\Zq Z v<=4/\Zq Z v<=(mo:Int)+1
variable {Z:List Int} {mo:Nat}
theorem SzOk.at(z:SzOk Z mo){v:Nat}(h:v<Z.length):∃n:Nat,1<=n/\n<=4/\n<=mo+1/\ZW (.lst (iL Z)) (.int (v:Int))=ax (.int (n:Int)):=by have:=z.rg v h;exact⟨(Zq Z v).toNat,by omega,by omega,by omega,(Xi h).trans (by rw[fQ (by omega)])⟩
theorem Br{l:List Int}:ZQ [.lst (iL l)]=ax (.int (l.length:Int)):=by show ax (PV.int ((iL l).length:Int))=_;rw[aK]
theorem XN(x:Int){m:Nat}(h:0<m):∃v:Nat,v<m/\x%(m:Int)=(v:Int):=by have a:=lX x (show(m:Int)≠0 by omega);have b:=kZ x (show(0:Int)<(m:Int) by omega);exact⟨(x%(m:Int)).toNat,by omega,by omega⟩
theorem vmn{f g:XE}{s:ZE}{x:Int}{m v:Nat}(e:x%(m:Int)=(v:Int))(h:0<m)(q:f s=ax (.int x))(a:g s=ax (.int (m:Int))):Zl W4 f g s=ax (.int (v:Int)):=by rw[<-e];exact vmd q a
theorem vsc{f:XE}{s:ZE}{i:Nat}(q:f s=ax (.int (i:Int))):Zl Yt f (eC (.int 1)) s=ax (.int ((i+1:Nat):Int)):=Et (b:=1) q rfl
theorem GN{a b c n:Nat}(f:a<n)(g:b<n-1)(e:((a:Int)+1+(b:Int))%(n:Int)=(c:Int)):a≠c:=λz=>by
 subst z;have d:(a+1+b)%n=a:=by rw[show((a:Int)+1+(b:Int))=((a+1+b:Nat):Int) by omega,<-Int.natCast_emod] at e;omega
 by_cases w:a+1+b<n
 ·rw[fL w] at d;omega
 ·rw[k5 (by omega),fL (by omega)] at d;omega
noncomputable def Ze5(n:Nat)(p:Nat×Nat):Prop:=p.1<n/\p.2<n/\p.1≠p.2
noncomputable def prP(p:Nat×Nat):PV:=.tup [.int (p.1:Int),.int (p.2:Int)]
theorem Zbz{f g:XE}{s:ZE}{a b:Nat}(q:f s=ax (.int (a:Int)))(c:g s=ax (.int (b:Int))):eP (Wd [f,g]) s=ax (prP (a,b)):=ep (by rw[TZ,Zx,q,Zx,c];rfl)
theorem Jl(z:SzOk Z mo)(x:Int):∃(W:List (List Int)) (t:Nat),Vx [.int x,.lst (iL Z),.int (mo:Int)]=ax (wP W)/\ZA W/\VY W/\W.length<=4/\OH W.length W=2*(t:Int)/\t<=mo:=by
 have m8:=z.m8;have zl:=z.le;have zn:=z.ne
 suffices h:YW Vw (ZH 12 [.int x,.lst (iL Z),.int (mo:Int)]) λv=>∃(W:List (List Int)) (t:Nat),v=wP W/\ZA W/\VY W/\W.length<=4/\OH W.length W=2*(t:Int)/\t<=mo by obtain⟨v,e,W,t,rfl,r⟩:=Oz h;exact⟨W,t,e,r⟩
 obtain⟨v,hv,ev⟩:=XN x zn;obtain⟨n,n1,n5,nm,en⟩:=z.at hv;let st:Int->List Int->List (Nat×Nat)->Option PV->Option PV->Option PV->ZE:=λx o ps x6 x7 x8=>[ax (.int x),ax (.lst (iL Z)),ax (.int (mo:Int)),ax (.int (n:Int)),ax (.lst (iL o)),ax (.lst (ps.map prP)),x6,x7,x8,aA,aA,aA];refine ZO (Zr (vP (o2 rfl (vmn ev zn rfl (c1 rfl Br)) en))) (ZO (Zr (vP (vdv rfl (c1 rfl Br)))) (ZO rfl (ZO rfl ?_)));refine VR (CN (n:=n) (λi s=>∃y o k,s=st y o [] k aA aA/\NamesOk i o) rfl ⟨_,[],aA,rfl,NamesOk.nil⟩ ?_) ?_
 ·rintro i s hi ⟨y,o,k,rfl,E⟩;obtain⟨r,hr,P⟩:=XN y (m:=i+1) (by omega);exact Z9 (CO (n:=r) (vmn P (by omega) rfl (vsc rfl)) rfl rfl (by omega) (by rw[E.len];omega)) (O8 (Zr (vP (vdv rfl (Et rfl rfl)))) ⟨_,_,_,rfl,E.ins r⟩)
 rintro s ⟨y1,o,k,rfl,E⟩;let Pre:List (Nat×Nat)->Prop:=λps=>∀j p,ps[j]?=ax p->p.1=j+1/\p.2<j+1;refine VR (Zbr (m:=1) (n:=n) (λi s=>∃y ps k,s=st y o ps k aA aA/\ps.length+1=i/\Pre ps) rfl rfl ⟨y1,[],k,rfl,rfl,λj p h=>by simp at h⟩ ?_) ?_
 ·rintro i s D hi ⟨y,ps,k,rfl,lp,F⟩;obtain⟨r,hr,P⟩:=XN y (m:=i) (by omega);refine Z9 (Lo prP (y:=(i,r)) (Zbz rfl (vmn P (by omega) rfl rfl)) rfl (by omega)) (O8 (Zr (vP (vdv rfl rfl))) ⟨_,ps++[(i,r)],_,rfl,by simp;omega,λj p h=>?_⟩);by_cases z:j<ps.length
  ·rw[ah z] at h;exact F j p h
  ·have:j=ps.length:=by have:=(aO.mp h).1;simp at this;omega
   subst this;simp at h;subst h;exact⟨lp.symm,by omega⟩
 rintro s ⟨y2,ps,w6,rfl,lp,F⟩;obtain⟨r,hr,P⟩:=XN y2 (m:=mo+2-n) (by omega);have c7:(mo:Int)-(n:Int)+2=((mo+2-n:Nat):Int):=by omega
 obtain⟨G,hmo,m1,em⟩:∃G:Nat,G+n<=mo+1/\(1<=G->2<=n)/\Zl Ml (Ze Q7 [Zl Hy (Za 3) (eC (.int 1))]) (Zl W4 (Za 0) (Zl Yt (Zl W3 (Za 2) (Za 3)) (eC (.int 2)))) (st y2 o ps w6 aA aA)=ax (.int (G:Int)):=by
  have g:Ze Q7 [Zl Hy (Za 3) (eC (.int 1))] (st y2 o ps w6 aA aA)=ax (.int (if 1<n then 1 else 0)):=c1 (vgt (b:=1) rfl rfl) (by
   by_cases q:1<n
   ·rw[decide_eq_true q,m7 q];rfl
   ·rw[decide_eq_false q,m9 q];rfl)
  refine⟨if 1<n then r else 0,by split<;>omega,λh=>by revert h;split<;>omega,(vC (C:=CMul) (op:=(· * ·)) g (vmn P (by omega) rfl (by rw[<-c7];exact Et (vsb rfl rfl) rfl)) (.inl (by split<;>omega))).trans ?_⟩;split<;>simp
 refine ZO (Zr (vP em)) (ZO (Zr (vP (vdv rfl (Et (vsb rfl rfl) rfl)))) ?_);let O:List (Nat×Nat)->Prop:=λf=>(∀j,j<n-1->f[j]?=ps[j]?)/\∀p∈f,Ze5 n p
 have Q:O ps:=⟨λj _=>rfl,λp J=>by
  obtain⟨j,Y,e⟩:=dE J;have:=F j p (by rw[aH Y,e]);exact⟨by omega,by omega,by omega⟩⟩
 refine VR (CN (n:=G) (λi s=>∃y f k I,s=st y o f k (ax (.int (G:Int))) I/\f.length=n-1+i/\O f) rfl ⟨_,ps,w6,aA,rfl,by omega,Q⟩ ?_) ?_
 ·rintro i s hi ⟨y,f,k,I,rfl,lq,all⟩;have n2:=m1 (by omega);obtain⟨a,H,ea⟩:=XN y (m:=n) (by omega);obtain⟨b,L,S⟩:=XN (y/(n:Int)) (m:=n-1) (by omega);obtain⟨c,hc,ec⟩:=XN ((a:Int)+1+(b:Int)) (m:=n) (by omega);have cn:(n:Int)-1=((n-1:Nat):Int):=by omega
  refine Z9 (Zr (vP (vmn ea (by omega) rfl rfl))) (Z9 (Zr (vP (vdv rfl rfl))) (Z9 (Lo prP (y:=(a,c)) (Zbz rfl (vmn ec (by omega) (Et (Et rfl rfl) (vmn S (by omega) rfl (by rw[<-cn];exact vsb rfl rfl))) rfl)) rfl (by omega)) (O8 (Zr (vP (vdv rfl (vsb rfl rfl)))) ⟨_,f++[(a,c)],_,_,rfl,by simp;omega,λj Y=>?_,λp J=>?_⟩)))
  ·rw[ah (by omega)];exact all.1 j Y
  ·rcases ak.mp J with h | h
   ·exact all.2 p h
   ·rw[aN.mp h];exact⟨H,hc,GN H L ec⟩
 rintro s ⟨y3,f,v6,v8,rfl,lq,all⟩;let T:List (List Int)->Option PV->Option PV->Option PV->ZE:=λM I u B=>[ax (.int y3),ax (.lst (iL Z)),ax (.int (mo:Int)),ax (.int (n:Int)),ax (.lst (iL o)),ax (.lst (f.map prP)),v6,ax (.int (G:Int)),I,ax (.lst (rL M)),u,B];refine ZO (Zr (NT (n:=n) rfl (by omega))) (VR (Tu (ls:=f.map prP) (λi s=>∃M I u B,s=T M I u B/\Tied n M i/\Grown M o (min (i+1) n)) rfl ⟨_,v8,aA,aA,rfl,Tied.zero n,λj D N=>by omega⟩ ?_) ?_)
 ·rintro i l s hl ⟨M,I,u,B,rfl,d,R⟩;obtain⟨⟨A,p2⟩,J,rfl⟩:∃p,f[i]?=ax p/\prP p=l:=by simpa using hl
  have hi:i<f.length:=(aO.mp J).1;obtain⟨D,N,h3⟩:A<n/\p2<n/\A≠p2:=all.2 _ (bK J);have na:=E.at (x:=A) D;have nb:=E.at (x:=p2) N;have nn:=E.ne (x:=A) (y:=p2) D N h3;obtain⟨a,ea⟩:∃a:Nat,Zq o A=(a:Int):=⟨(Zq o A).toNat,by omega⟩;obtain⟨b,S⟩:∃b:Nat,Zq o p2=(b:Int):=⟨(Zq o p2).toNat,by omega⟩;have H:a<n:=by omega
  have L:b<n:=by omega
  have X:SD (iL o) (A:Int)=ax (.int (a:Int)):=by rw[Xi (by rw[E.len];exact D),ea]
  have U:SD (iL o) (p2:Int)=ax (.int (b:Int)):=by rw[Xi (by rw[E.len];exact N),S]
  obtain⟨gr1,gr2⟩:=d.grow H L;refine⟨_,rfl,Z9 (Zr (vP (Et (Lx d.mat.len d.mat.row H L rfl (o2 rfl rfl X) (o2 rfl rfl U)) rfl))) (Z9 (Ja d.mat H L rfl _ (o2 rfl rfl X) (o2 rfl rfl U) rfl) (O8 (NZ d.mat H L rfl _ (o2 rfl rfl U) (o2 rfl rfl X) rfl) ⟨upM M a b,_,_,_,rfl,d.up (by omega) H L (by omega),λj D N=>?_⟩))⟩;by_cases w:j<min (i+1) n
  ·exact(R.mono gr1) j D w
  ·have pp:=F i (A,p2) (by rw[<-all.1 i (by omega)];exact J);refine⟨p2,by omega,?_⟩;rw[show j=A by have:=pp.1;simp at this;omega,ea,S];exact gr2
 rintro s ⟨M,t8,t10,t11,rfl,d,R⟩;rw[aK,lq] at d R;exact Tt (GD (n:=n) (by rw[d.mat.len];omega) rfl) ⟨M,n-1+G,rfl,d.mat.web (by omega) (by omega),Grown.conn (n:=n) (λj D N=>R j D (by omega)) d.mat.len E,by rw[d.mat.len];exact n5,by rw[d.mat.len];exact d.sum,by omega⟩
end P4
namespace P4
open L2 VL PW
variable {Z:List Int} {mo:Nat}
theorem Jm{t:Nat}{W:List (List Int)}(ok:ZA W)(a:OH W.length W=2*(t:Int)):(Z8 W).length=t:=by
 have d:=KR ok;have c:sN W.length (λi=>(Zw W i).sum)=OH W.length W:=Zj λi b=>by rw[QB ok b,X4]
 rw[X4,c,a] at d;omega
theorem Zay(l:List PV){k:Nat}(h:k<=l.length):W6 l aA (ax (k:Int))=l.take k:=by unfold W6;rw[HT.sIx_nat,HT.sIx_none,dq h,mI,Nat.sub_zero]
theorem Ly(l:List PV){k:Nat}(h:k<=l.length):W6 l (ax (k:Int)) aA=l.drop k:=by unfold W6;rw[HT.sIx_nat,HT.sIx_none,dq h,b9 (by rw[bX];omega)]
noncomputable def Qi{α:Type}(k:Nat)(l:List α):List α:=l.drop k++l.take k
theorem LF{a:Type}{k:Nat}{l:List a}(h:k<=l.length):(Qi k l).length=l.length:=by unfold Qi;rw[aj,bX,bT];omega
theorem LH{a:Type}{k i:Nat}{l:List a}(h:k<=l.length)(b:i<l.length):(Qi k l)[i]?=l[(i+k)%l.length]?:=by
 unfold Qi;by_cases q:i<l.length-k
 ·rw[ah (by rw[bX];exact q),eU,fL (by omega),Nat.add_comm]
 ·rw[bA (by rw[bX];omega),bX,k5 (by omega),fL (by omega),eD (by omega)];congr 1;omega
noncomputable def Qj(k:Nat)(M:List (List Int)):List (List Int):=(Qi k M).map (Qi k)
theorem Wr{n k:Nat}{M:List (List Int)}(ok:MatOk n M)(f:k<n){i j:Nat}(e:i<n)(c:j<n):Zz (Qj k M) i j=Zz M ((i+k)%n) ((j+k)%n):=by
 have b:(i+k)%n<n:=jW _ (by omega);have d:Zw (Qj k M) i=Qi k (Zw M ((i+k)%n)):=by unfold Zw Qj;rw[aG,aW,LH (by rw[ok.len];omega) (by rw[ok.len];exact e),ok.len,aH (by rw[ok.len];exact b),aG,aH (by rw[ok.len];exact b)];rfl
 have a:=ok.row _ b;unfold Zz;rw[d];unfold Zq;rw[aG,aG,LH (by rw[a];omega) (by rw[a];exact c),a]
theorem GO{n k:Nat}{M:List (List Int)}(ok:MatOk n M)(d:k<n):MatOk n (Qj k M):=by
 have b:∀i,(i+k)%n<n:=λi=>jW _ (by omega);refine⟨by unfold Qj;rw[aK,LF (by rw[ok.len];omega),ok.len],λi a=>?_,λi j a c=>?_,λi j a c=>?_,λi j a c=>?_,λi a=>?_⟩
 ·have:Zw (Qj k M) i=Qi k (Zw M ((i+k)%n)):=by unfold Zw Qj;rw[aG,aW,LH (by rw[ok.len];omega) (by rw[ok.len];exact a),ok.len,aH (by rw[ok.len];exact b i),aG,aH (by rw[ok.len];exact b i)];rfl
  rw[this,LF (by rw[ok.row _ (b i)];omega),ok.row _ (b i)]
 ·rw[Wr ok d a c];exact ok.lo _ _ (b i) (b j)
 ·rw[Wr ok d a c];exact ok.hi _ _ (b i) (b j)
 ·rw[Wr ok d a c,Wr ok d c a];exact ok.sym _ _ (b i) (b j)
 ·rw[Wr ok d a a];exact ok.dia _ (b i)
theorem Jn{n k:Nat}(b:n<=4)(a:k<n)(f:Nat->Int):sN n (λi=>f ((i+k)%n))=sN n f:=by
 have:n=1\/n=2\/n=3\/n=4\/n=5:=by omega
 have:k=0\/k=1\/k=2\/k=3\/k=4:=by omega
 rcases ‹n=1\/_› with rfl | rfl | rfl | rfl | rfl<;>rcases ‹k=0\/_› with rfl | rfl | rfl | rfl | rfl<;>first
  | (exfalso;omega)
  | (simp[sN];done)
  | (simp[sN];omega)
theorem Zaz{n k:Nat}{M:List (List Int)}(ok:MatOk n M)(b:n<=4)(a:k<n):OH n (Qj k M)=OH n M:=by unfold OH;rw[Zj (g:=λi=>sN n (λj=>Zz M ((i+k)%n) ((j+k)%n))) λi d=>Zj λj c=>Wr ok a d c];rw[Jn b a (λx=>sN n (λj=>Zz M x ((j+k)%n)))];exact Zj λx _=>Jn b a (λy=>Zz M x y)
noncomputable def upL(n:Nat):List Int:=(aD n).map λ(i:Nat)=>(i:Int)
theorem LI{n i:Nat}(h:i<n):Zq (upL n) i=(i:Int):=ZN h
noncomputable def bkL(n k:Nat):List Int:=(aD n).map λ(i:Nat)=>(((i+n-k)%n:Nat):Int)
theorem Bt{n k i:Nat}(h:i<n):Zq (bkL n k) i=(((i+n-k)%n:Nat):Int):=ZN h
theorem GP{n k i:Nat}(b:k<n)(a:i<n):((i+n-k)%n+k)%n=i:=by rw[Nat.mod_add_mod,show i+n-k+k=i+n by omega,Nat.add_mod_right,fL a]
theorem Bv{n k:Nat}(c:n<=4)(b:k<n):NamesOk n (bkL n k):=by
 refine⟨by simp[bkL],?_,λx a=>?_,λx a=>?_⟩
 ·have:n=1\/n=2\/n=3\/n=4\/n=5:=by omega
  have:k=0\/k=1\/k=2\/k=3\/k=4:=by omega
  rcases ‹n=1\/_› with rfl | rfl | rfl | rfl | rfl<;>rcases ‹k=0\/_› with rfl | rfl | rfl | rfl | rfl<;>first
   | (exfalso;omega)
   | decide
 ·obtain⟨i,_,rfl⟩:=bR.mp a;omega
 ·obtain⟨i,_,rfl⟩:=bR.mp a;have:(i+n-k)%n<n:=jW _ (by omega);omega
theorem Bw{n k:Nat}{M:List (List Int)}(ok:MatOk n M)(g:n<=4)(a:k<n)(f:Grown M (upL n) n):VY (Qj k M):=by refine Grown.conn (n:=n) (l:=bkL n k) (λj h b=>?_) (GO ok a).len (Bv g a);obtain⟨d,c,e⟩:=f j h b;refine⟨d,c,?_⟩;rw[Bt b,Bt (by omega),bc,bc,Wr ok a (jW _ (by omega)) (jW _ (by omega)),GP a b,GP a (by omega)];rw[LI b,LI (by omega),bc,bc] at e;exact e
theorem Bx{n k:Nat}{M:List (List Int)}(ok:MatOk n M)(q:n<=4)(p:k<n){s:ZE}(g:Za 4 s=ax (.lst (rL M)))(c:Za 11 s=ax (.int (k:Int)))(m:ZG 1 [11] s=[aA,ax (.int (k:Int))]) :
  Zu 1 [11] (YY (Zl Dp (OO TV (Za 4) (R4 (Za 11)) OY) (OO TV (Za 4) OY (R4 (Za 11))))) (.one 0) ZF (Zl HK (OO TV (Za 0) (R4 (Za 1)) OY) (OO TV (Za 0) OY (R4 (Za 1)))) s=ax (.lst (rL (Qj k M))):=by
 have d:(rL M).length=n:=by unfold rL;rw[aK];exact ok.len
 have j:R4 (Za 11) s=ax (ax (k:Int)):=by unfold R4;rw[c]
 have s1:OO TV (Za 4) (R4 (Za 11)) OY s=ax (.lst ((rL M).drop k)):=by rw[Qs,g,j];show ax (PV.lst (W6 (rL M) (ax (k:Int)) aA))=_;rw[Ly _ (by omega)]
 have s2:OO TV (Za 4) OY (R4 (Za 11)) s=ax (.lst ((rL M).take k)):=by rw[Qs,g,j];show ax (PV.lst (W6 (rL M) aA (ax (k:Int))))=_;rw[Zay _ (by omega)]
 have o:YY (Zl Dp (OO TV (Za 4) (R4 (Za 11)) OY) (OO TV (Za 4) OY (R4 (Za 11)))) s=ax ((Qi k M).map λr=>.lst (iL r)):=by unfold YY;rw[WB,s1,s2];show((if((rL M).drop k).length+((rL M).take k).length<=10000 then ax (PV.lst ((rL M).drop k++(rL M).take k)) else aA).bind _)=_;rw[m7 (by rw[bX,bT];omega)];unfold Qi rL;rw[bP,kK,mO];rfl
 rw[ZM (Qi k M) (λr=>.lst (iL r)) (λr=>.lst (iL (Qi k r))) o (by rw[LF (by rw[ok.len];omega),ok.len];omega) (λr l=>⟨[ax (.lst (iL r)),ax (.int (k:Int))],by rw[m];rfl,rfl,?_⟩)]
 ·unfold Qj rL;rw[bh];rfl
 ·have t:r.length=n:=by
   have:r∈M:=by
    rcases ak.mp l with h | h
    ·exact jr h
    ·exact gY h
   obtain⟨i,f,e⟩:=dE this;have:=ok.row i (by rw[<-ok.len];exact f);unfold Zw at this;rw[aG,aH f] at this;rw[<-e];exact this
  refine o2 (a:=.lst (iL (r.drop k))) (b:=.lst (iL (r.take k))) ?_ ?_ ?_
  ·show ax (PV.lst (W6 (iL r) (ax (k:Int)) aA))=_;rw[CD]
  ·show ax (PV.lst (W6 (iL r) aA (ax (k:Int))))=_;rw[CC]
  ·show(if(iL (r.drop k)).length+(iL (r.take k)).length<=10000/\ZC (iL (r.drop k))=aC/\ZC (iL (r.take k))=aC then ax (PV.lst (iL (r.drop k)++iL (r.take k))) else aA)=_;rw[m7 ⟨by rw[aK,aK,bX,bT];omega,Yb _,Yb _⟩,<-bP];rfl
theorem sz45:SzOk [1,2,3,3,4] 5:=⟨by decide,by decide,by decide,by decide⟩
theorem p_web_ex{ns:List Int}(x:ns.length<=63)(z:SzOk Z mo):∃W,MN [.cst (iL ns),.lst (iL Z),.int (mo:Int)]=ax (wP W)/\ZA W/\VY W/\W.length<=4/\(Z8 W).length<=mo:=by
 have m8:=z.m8
 suffices h:YW Ga (ZH 12 [.cst (iL ns),.lst (iL Z),.int (mo:Int)]) λv=>∃W,v=wP W/\ZA W/\VY W/\W.length<=4/\(Z8 W).length<=mo by obtain⟨v,e,W,rfl,r⟩:=Oz h;exact⟨W,e,r⟩
 have Y8:=QG x 0;have Q:=λ{s:ZE} (h:Za 0 s=ax (.cst (iL ns)))=>xb (eqi (vmd (c2 (g:=eC (.int 0)) h rfl Y8) (show eC (.int 2) s=ax (.int 2) from rfl) (by decide)) (show eC (.int 1) s=ax (.int 1) from rfl));by_cases q:Zq ns 0%2=1
 ·obtain⟨W,t,e,ok,cn,l5,sm,A⟩:=Jl z (Zq ns 1);exact Zg5 ((Q rfl).trans (by rw[decide_eq_true q])) (Tt (c3 (c2 rfl rfl (QG x 1)) rfl rfl e) ⟨W,rfl,ok,cn,l5,by rw[Jm ok sm];exact A⟩)
 obtain⟨v,hv,ev⟩:=XD (Zq ns 0) (t:=1) (m:=Z.length) (by omega) z.ne;obtain⟨n,n1,C,nm,en⟩:=z.at hv;let st:List (List Int)->Nat->Option PV->Option PV->Option PV->Option PV->Option PV->ZE:=λM t H F E G o=>[ax (.cst (iL ns)),ax (.lst (iL Z)),ax (.int (mo:Int)),ax (.int (n:Int)),ax (.lst (rL M)),ax (.int (t:Int)),H,F,E,G,o,aA];refine ZO (gof ((Q rfl).trans (by rw[decide_eq_false q]))) (ZO (Zr (vP (o2 rfl (c3 (c2 rfl rfl Y8) rfl (c1 rfl Br) ev) en))) (ZO (Zr (NT (n:=n) rfl (by omega))) (ZO (Zr (vP rfl)) (VR (Zbr (m:=1) (n:=13) (λi s=>∃M t H F E G o,s=st M t H F E G o/\Tied n M t/\t<=mo/\(i<=n->t+1=i)/\Grown M (upL n) (min i n)) rfl rfl ⟨_,0,aA,aA,aA,aA,aA,rfl,Tied.zero n,by omega,λ_=>rfl,λj p I=>by omega⟩ ?_) ?_))))
 ·rintro i s p hi ⟨M,t,H,F,E,G,o,rfl,f,A,tl,B⟩;let c:=Zq ns i;obtain⟨a,l,J⟩:=XD c (t:=13) (m:=n) (by omega) (by omega);obtain⟨b,hb,eb⟩:=XD c (t:=17) (m:=max 1 (n-1)) (by omega) (by omega);obtain⟨d,hd,S⟩:=XN ((a:Int)+1+(b:Int)) (m:=n) (by omega);obtain⟨r,hr,er⟩:=XD c (t:=3) (m:=3) (by omega) (by omega);obtain⟨u,T,eu⟩:=XD c (t:=5) (m:=i) (by omega) (by omega)
  refine Z9 (Zr (c2 rfl rfl (QG x i))) (Z9 (Zr (c3 rfl rfl rfl J)) (Z9 (Zr (vP (vmn S (by omega) (Et (Et rfl rfl) (c3 rfl rfl (c2 (b:=.int ((n:Int)-1)) rfl (vsb rfl rfl) (R:=ax (.int ((max 1 (n-1):Nat):Int))) (by
   show ax (PV.int (if(n:Int)-1>1 then(n:Int)-1 else 1))=_;congr 2;split<;>omega)) eb)) rfl))) (Gr (R:=λs=>∃a d:Nat,s=st M t (ax (.int (i:Int))) (ax (.int c)) (ax (.int (a:Int))) (ax (.int (d:Int))) o/\a<n/\d<n/\(1<n->a≠d)/\(i<n->a=i/\d<i)) (Gs (xb (vlt rfl rfl)) (λw=>Z9 (Zr (vP rfl)) (O8 (Zr (c3 rfl rfl rfl eu)) ⟨i,u,rfl,of_decide_eq_true w,ke T (of_decide_eq_true w),λ_=>by omega,λ_=>⟨rfl,T⟩⟩)) λw=>O8 rfl ⟨a,d,rfl,l,hd,λO=>GN l (by omega) S,λX=>absurd X (of_decide_eq_false w)⟩) ?_)))
  rintro s ⟨a,d,rfl,l,hd,ne,ia⟩;refine Z9 (Zr (ep (ea (vgt (b:=1) rfl rfl) (ea (vlt rfl rfl) (vgt (b:=0) (c3 rfl rfl rfl er) rfl))))) (Gs (xo (xb (vlt rfl rfl)) (xb rfl)) (λw=>?_) λw=>O8 rfl ⟨M,t,_,_,_,_,_,rfl,f,A,λh=>?_,λj p I=>?_⟩)
  ·have w:i<n\/1<n/\t<mo/\0<r:=by simpa using w
   have O:1<n:=by omega
   have P:=Wb (t:=Zz M a d+1) (b:=d) f.mat.len f.mat.row l;obtain⟨L,N⟩:=f.grow l hd;refine Z9 (Ja f.mat l hd rfl _ rfl rfl (Et (Lx f.mat.len f.mat.row l hd rfl rfl rfl) rfl)) (Z9 (NZ f.mat l hd rfl (Zz M a d+1) rfl rfl ((Lx P.1 P.2 l hd rfl rfl rfl).trans (by rw[Q1 f.mat.len f.mat.row l hd,m7 ⟨rfl,rfl⟩]))) (O8 (Zr (vP (vsc rfl))) ⟨upM M a d,t+1,_,_,_,_,_,rfl,f.up (by omega) l hd (ne O),by omega,λh=>by omega,λj p I=>?_⟩));by_cases y:j<min i n
   ·exact(B.mono L) j p y
   ·obtain⟨rfl,hd'⟩:=ia (by omega);have hj:j=a:=by omega
    refine⟨d,by omega,?_⟩;rw[hj,LI l,LI hd,bc,bc];exact N
  ·have:¬i<n:=λy=>by rw[decide_eq_true y] at w;cases w
   omega
  ·have:¬i<n:=λy=>by rw[decide_eq_true y] at w;cases w
   exact B j p (by omega)
 rintro s ⟨M,t,y6,y7,y8,y9,Y,rfl,f,A,_,B⟩;obtain⟨k,D,U⟩:=XD (Zq ns 0) (t:=7) (m:=n) (by omega) (by omega);have okW:=GO f.mat D;have ok:ZA (Qj k M):=okW.web (by omega) (by omega);exact ZO (Zr (c3 (c2 rfl rfl Y8) rfl rfl U)) (ZO (Zr (Bx f.mat C D rfl rfl rfl)) (Tt (GD (n:=n) (by rw[okW.len];omega) rfl) ⟨_,rfl,ok,Bw f.mat C D λj p I=>B j p (by omega),by rw[okW.len];exact C,by rw[Jm (t:=t) ok (by rw[okW.len,Zaz f.mat C D];exact f.sum)];exact A⟩))
end P4
namespace PW
open PySem L2 VL VX PK
section
variable {W:List (List Int)}
theorem Ze7(ok:ZA W)(c:VY W)(g:W.length<=4)(i:(Z8 W).length<=5):okW Sg Xn W=aC:=by
 have f:=ok.pos;have d:=Bp f c;obtain⟨l,e,b⟩:=Zi5 ok g;subst e;have j:=Zi6 ok b;have m:=GL l 5 (by omega)
 have a:U1 [] l.length 5=aC:=by
  rcases(by omega:(mW l).length=1\/(mW l).length=2\/(mW l).length=3\/(mW l).length=4) with h | h | h | h<;>rw[h] at b<;>rw[b]
  ·exact Zi1
  ·exact Zi2
  ·exact Zi3
  ·exact Zi4
 have:=au.mp a l m;rw[jZ] at this;unfold okF at this;rw[d,mK,<-okK.2] at this;exact this
theorem Za0(ok:ZA W)(p:VY W)(I:W.length<=4)(E:(Z8 W).length<=5){b:Nat}(o:b<W.length){P:List Int}(s:V9 W.length P=aC)(j:P.sum=lpW W)(w:Ut W P) :
  ∃(S N:List Int) (G A B C:PV),Se [wP W,pP P,.int (b:Int)]=ax (.tup [pP S,pP N,G])/\N.length=W.length/\Ud [wP W,pP N]=ax (.tup [A,pP P,B,C]):=by
 unfold V9 at s;obtain⟨d,x⟩:=cF.mp s;have d:=of_decide_eq_true d;have big:(1000:Nat)<=2^208:=by decide +kernel
 obtain⟨S,N,F,u,R,g,st⟩:=Ec ok p d o λh c=>by
  have y:Zq P h∈P:=by unfold Zq;rw[aG,aH (by omega)];exact cD _
  have:=au.mp x _ y;simp only[ao,decide_eq_true_eq] at this;omega
 have e:N.length=W.length:=by rw[g,YZ,d]
 have z:N.sum=lpW W:=by rw[g,QC ok d,j]
 have Q:(lpW W).natAbs<=20:=by unfold lpW;rw[Ur];omega
 have O:(N.set b 0).sum.natAbs<=441:=by
  rw[OF,cH,e]
  have:=IX (f:=Zq (N.set b 0)) (n:=W.length) (M:=63) λh c=>by
   rw[PW.nth_set (by rw[e];exact c)];split
   ·decide
   ·rename_i q;have:=RQ ok st c q;omega
  omega
 have J:=Zaj (l:=N) (k:=b) (v:=0) (by rw[e];exact o)
 obtain⟨H,T,X,m,_⟩:=En (L:=S) ok p d w j λh c=>by
  rw[<-g,KQ (by rw[e];exact c),show Zq (Jk W) h=(Zw W h).sum/2-1 from ZN c]
  have D:((Zw W h).sum).natAbs<=W.length*9:=by
   rw[OF,ok.sq h c];exact IX λi t=>by have a:0<=Zq (Zw W h) i:=ok.lo h i c t;have b:Zq (Zw W h) i<=9:=ok.hi h i c t;omega
  by_cases q:h=b
  ·subst q;omega
  ·have:=RQ ok st c q;omega
 rw[<-g] at m;exact⟨_,N,_,_,_,_,u,e,m⟩
noncomputable def knB(L:List (List Int)):PV:=.dT (L.map kI) (L.map λ_=>.bl aC)
theorem Zhg{L:List (List Int)}{N:List Int}(h:N∉L):dIn (knB L) (pP N)=ax aB:=by
 show(My (pP N)).map _=_;rw[CZ];show ax (WL (L.map kI) (L.map λ_=>.bl aC) (kI N)).isSome=_;unfold WL
 induction L with
 | nil=>rfl
 | cons a L ih=>
  rw[af,af,cQ,cf];have:decide (kI a=kI N)=aB:=decide_eq_false λz=>h (by rw[C0 z];simp);rw[this];exact ih λz=>h (aQ _ z)
theorem Ze8{L:List (List Int)}{N:List Int}(h:N∉L)(d:L.length<=1000):An (knB L) (pP N) (.bl aC)=ax (knB (L++[N])):=by
 have c:kI N∉L.map kI:=λz=>by obtain⟨a,b,ea⟩:=bR.mp z;exact h (by rw[<-C0 ea];exact b)
 show(gd (ZC (L.map λ_=>PV.bl aC)&&ZI (.bl aC)&&decide ((L.map kI).length<=10000))).bind (λ_=>(My (pP N)).map _)=_;rw[show ZC (L.map λ_=>PV.bl aC)=aC from UH λ_ _=>rfl,decide_eq_true (by rw[aK];omega),CZ];show ax (PV.dT (Pe (L.map kI) (kI N)) (Pf (L.map kI) (L.map λ_=>PV.bl aC) (kI N) (.bl aC)))=_;rw[NJ c,NK c];unfold knB;rw[bP,bP];rfl
end
theorem law_true(ns:List Int)(e:ns.length<=63)(_:∀n∈ns,n.natAbs.log2<=1048576):D_law [.cst (iL ns)]=ax (.bl aC):=by
 obtain⟨W,ew,ok,E,H,J⟩:=P4.p_web_ex e P4.sz45;have Q:=ok.pos;obtain⟨b,Y,eb⟩:=XD (Zq ns 13) (t:=157) (m:=W.length) (by omega) Q;obtain⟨ps,ea,T,nd,hl,w⟩:=Ze4 (Ze7 ok E H J);let st:PV->Option PV->Option PV->ZE:=λd g q=>[ax (.cst (iL ns)),ax (wP W),ax (.int (b:Int)),ax (.lst (ps.map pP)),ax d,g,q];refine K1 (ZO (Zr (v:=wP W) ew) (ZO (Zr (c3 (c2 rfl rfl (QG e 13)) rfl (c1 rfl K2) eb)) (ZO (Zr (c1 rfl ea)) (ZO (gof (xb (o2 (b:=.int (ps.length:Int)) (c1 rfl T) (c1 (a:=.lst (ps.map pP)) rfl ?_) ?_))) (ZO (s1:=st (knB []) aA aA) rfl (VR (Tu (ls:=ps.map pP) (λi s=>∃L g q,s=st (knB L) g q/\L.length<=i/\∀N∈L,∃(j:Nat) (P:List Int) (A B C:PV),j<i/\ps[j]?=ax P/\Ud [wP W,pP N]=ax (.tup [A,pP P,B,C])) rfl ⟨[],aA,aA,rfl,aX _,λN h=>by simp at h⟩ ?_) ?_))))))
 ·simp
 ·rw[ME];simp
 ·rintro i l s f ⟨L,g,q,rfl,hL,c⟩;have hi:i<(ps.map pP).length:=(aO.mp f).1;rw[aK] at hi;obtain⟨P,eP,rfl⟩:∃P,ps[i]?=ax P/\pP P=l:=by simpa using f
  obtain⟨oP,X,fP⟩:=w P (bK eP);obtain⟨S,N,G,A,B,C,U,lN,u⟩:=Za0 ok E H J Y oP X fP;have x:N∉L:=λz=>by obtain⟨j,I,F,y,D,Z,ej,o⟩:=c N z;rw[u] at o;injection o with z;injection z with z;simp only[j6] at z;have:=pP_inj.mp z.2.1;subst this;obtain⟨h1,R⟩:=aO.mp eP;obtain⟨h2,e2⟩:=aO.mp ej;have:=(gK nd).mp (R.trans e2.symm);omega
  refine⟨_,rfl,Z9 (Zr (v:=.tup [pP S,pP N,G]) (c3 rfl rfl rfl U)) (Z9 (gof (xo (xn (p:=aC) (xb (c2 rfl rfl rfl))) (xo (xb (p:=aB) (o2 (c1 rfl rfl) rfl (by simp))) (xn (p:=aC) (xb (c2 (o2 rfl rfl rfl) (c1 rfl K2) (Jj lN (by omega)))))))) (Z9 (gof (xo (xb (p:=aB) ?_) (neq (l:=P) (o2 (c2 rfl (o2 rfl rfl rfl) u) rfl rfl) rfl))) (O8 (KO (v:=.bl aC) (k:=pP N) (d:=knB L) rfl (o2 rfl rfl rfl) rfl (Ze8 x (by omega))) ⟨L++[N],_,_,rfl,by simp;omega,λM O=>?_⟩)))⟩
  ·show((dIn (knB L) (pP N)).map _)=_;rw[Zhg x];rfl
  ·rcases ak.mp O with h | h
   ·obtain⟨j,I,F,y,D,Z,r⟩:=c M h;exact⟨j,I,F,y,D,by omega,r⟩
   ·rw[aN.mp h];exact⟨i,P,A,B,C,by omega,eP,u⟩
 ·rintro s ⟨L,g,q,rfl,_⟩;exact Tt (ep rfl) rfl
end PW
namespace PW
open PySem L2 VL
theorem cst_mk{K:aF}{h:bW}{mg:ay->Option aI}{x:ay}{v:Int}{t:Tok}(X:K.In h)(G:h.Ns cE mg)(y:gp K cE x=ax (ax (.int v t))):Cst mg x v:=⟨t,mL X G y⟩
theorem all_mk{P:bB}{w:b8}{K:aF}{mg:ay->Option aI}{fa:aL}(hfa:mg "law" = ax (.ref fa))(B:XZ mg)
  (Z_BASE:Cst mg "BASE" 0)
  (d0:Def K mg "_law_pick" P9)
  (d1:Def K mg "_law_read_web" VB)
  (d2:Def K mg "_law_at" Ih)
  (d3:Def K mg "_law_web" M3)
  (d4:Def K mg "_law_ties" Oa)
  (d5:Def K mg "_law_joins" Rc)
  (d6:Def K mg "_law_all" M4)
  (d7:Def K mg "reduced" Rf)
  (d8:Def K mg "evened" Ob)
  (d9:Def K mg "determinant" WR)
  (d10:Def K mg "ties_at" Rh)
  (d11:Def K mg "row_of" Oe)
  (d12:Def K mg "square_without" Xz)
  (d13:Def K mg "square_of" Uh)
  (d14:Def K mg "tree_count" VC)
  (d15:Def K mg "solved_below" Wm)
  (d16:Def K mg "nearing" Rj)
  (d17:Def K mg "gain" Ip)
  (d18:Def K mg "run" Ck)
  (d19:Def K mg "in_debt" Rk)
  (d20:Def K mg "borrowing" Ui)
  (d21:Def K mg "plus" Iu)
  (d22:Def K mg "least" M9)
  (d23:Def K mg "ties_to" Rl)
  (d24:Def K mg "house_to_burn" XX)
  (d25:Def K mg "burnt" La)
  (d26:Def K mg "settle" Of)
  (d27:Def K mg "_law_whole" Rr)
  (d28:Def K mg "_law_wholes" Tq)
  (d29:Def K mg "total" Lb)
  (d30:Def K mg "ties_of" Rt)
  (d31:Def K mg "loops" Lc)
  (d32:Def K mg "refuse_total" Wn)
  (d33:Def K mg "lacking_among" XY)
  (d34:Def K mg "minus" Ld)
  (d35:Def K mg "overfull" Tr)
  (d36:Def K mg "other_end" Uj)
  (d37:Def K mg "way_out" Rv)
  (d38:Def K mg "heads_for" Uk)
  (d39:Def K mg "tie_to_look_at" XA)
  (d40:Def K mg "walked" Og)
  (d41:Def K mg "tree_by" Rw)
  (d42:Def K mg "one_at" Oh)
  (d43:Def K mg "made_of" Rx)
  (d44:Def K mg "middle" Oi)
  (d45:Def K mg "broken" Oj)
  (d46:Def K mg "law" Cu)
  : ∃fd:eJ,(∀(s:aM)(u:aI),k9 s fd ⟨[u],[]⟩ [("_law_script",u)])/\∀base:bW,K.In base->base.Ns cE mg->RW P w K mg base L5 6 fa fd ["_law_script"] (YX K D_law 1):=by
 refine Dq d46 hfa (λ_ _ _ _ _ _ _=>rfl) λbase f fd _ _ F=>?_;have C_l_pick:Sk P w K mg base:=FO d0 B;have C_l_read_web:Vy P w K mg base:=O4 d1 B;have C_l_at:MW P w K mg base:=AR d2 B;have C_p_web:MX P w K mg base:=Ci d3 B C_l_at C_l_read_web C_l_pick;have C_l_ties:PX P w K mg base:=FP d4 B;have C_l_joins:S4 P w K mg base:=Ii d5 B;have C_l_all:MY P w K mg base:=Cj d6 B C_l_ties C_l_joins;have C_reduced:S5 P w K mg base:=Ik d7 B;have C_evened:Sl P w K mg base:=FQ d8 B C_reduced;have C_determinant:WQ P w K mg base:=Od d9 B C_evened;have C_ties_at:UR P w K mg base:=Im d10 B;have C_row_of:PY P w K mg base:=FT d11 B C_ties_at;have C_square_without:YS P w K mg base:=Sm d12 B C_row_of;have C_square_of:Ue P w K mg base:=M6 d13 B C_square_without;have C_tree_count:Vz P w K mg base:=O6 d14 B C_determinant C_square_of;have C_solved_below:Wk P w K mg base:=Qb d15 B C_evened;have C_nearing:US P w K mg base:=Io d16 B C_solved_below C_square_without;have C_gain:Ic P w K mg base:=AU d17 B;have C_run:Gk P w K mg base:=Zec d18 B C_gain;have C_in_debt:S6 P w K mg base:=Ir d19 B;have C_borrowing:WE P w K mg base:=M8 d20 B;have C_plus:PZ P w K mg base:=AW d21 B;have C_least:Qy P w K mg base:=Cm d22 B;have C_ties_to:UT P w K mg base:=Iw d23 B;have C_house_to_burn:XU P w K mg base:=Rq d24 B C_ties_to;have C_burnt:MZ P w K mg base:=Cn d25 B C_house_to_burn;have C_settle:P0 P w K mg base:=FU d26 B C_nearing C_run C_in_debt C_borrowing C_plus C_burnt C_least;have C_l_whole:S7 P w K mg base:=Iz d27 B;have C_l_wholes:To P w K mg base:=KI d28 B C_l_whole;have C_total:M0 P w K mg base:=Cp d29 B;have C_ties_of:Ve P w K mg base:=IA d30 B;have C_loops:M1 P w K mg base:=Cr d31 B C_ties_of;have C_refuse_total:Wl P w K mg base:=Qd d32 B C_total C_loops;have C_lacking_among:XW P w K mg base:=Ru d33 B C_ties_to;have C_minus:Qz P w K mg base:=Ct d34 B;have C_overfull:Tp P w K mg base:=KJ d35 B;have C_other_end:WG P w K mg base:=Lg d36 B;have C_way_out:S8 P w K mg base:=IB d37 B C_other_end;have C_heads_for:Ug P w K mg base:=Lh d38 B C_ties_of C_overfull C_way_out C_other_end;have C_tie_to_look_at:Xy P w K mg base:=Sn d39 B;have C_walked:P5 P w K mg base:=FV d40 B C_ties_of C_tie_to_look_at;have C_tree_by:S9 P w K mg base:=ID d41 B C_walked;have C_one_at:P6 P w K mg base:=FX d42 B;have C_made_of:Ra P w K mg base:=IE d43 B Z_BASE C_minus C_one_at C_plus C_heads_for C_tree_by;have C_middle:P7 P w K mg base:=FZ d44 B C_ties_at;have C_broken:P8 P w K mg base:=F0 d45 B Z_BASE C_refuse_total C_nearing C_minus C_middle C_run C_lacking_among C_borrowing C_plus C_made_of C_least;exact Zed F B C_p_web C_l_pick C_l_at C_l_all C_tree_count C_settle C_l_wholes C_broken
end PW
namespace PySem.W.Fast
def tw14754604528935582047:=()
def tw6125049424526184302:=()
def tw8371265069513201018:=()
def tw4557939716365333658:=()
def tw17408062310660180739:=()
def tw1266743660448501211:=()
def tw18101642022720590549:=()
def tw1214348921685095053:=()
def tw16664874020772923993:=()
def tw12759995924869839004:=()
def tw4227189791090271677:=()
def tw16413903939363889762:=()
def tw2659414959268935515:=()
def tw11943117693642763973:=()
def tw2046386231465789000:=()
def tw9316995932220222703:=()
def tw5404951810244197517:=()
def tw15296355074903333760:=()
def tw12403269158459102368:=()
def tw13746631365148852431:=()
def tw6905632509055361042:=()
def tw16992613811815957963:=()
def tw204788699965638902:=()
def tw1442334643043205011:=()
def tw13565348878045784206:=()
def tw15569950434776368741:=()
def tw16267264321583363672:=()
def tw1100669327356218590:=()
def tw6972308224854112373:=()
def tw18438910681325516251:=()
def tw11568349135163480555:=()
def tw5088301857212814739:=()
def tw5919898438815966352:=()
def tw2527554489313323437:=()
def tw18214515463924418275:=()
def tw948073867484478229:=()
def tw3781164670768991656:=()
def tw16363173158390706090:=()
def tw1670386040520920734:=()
def tw18247600374906519326:=()
def tw11376896568387872425:=()
def tw16909448530801892205:=()
def tw7769153248065385936:=()
def tw14453159325055423716:=()
def tw943984159598561012:=()
def tw5679698775795240084:=()
def tw16927034801229739524:=()
def tw4571514769045221843:=()
def tw7635091091377206058:=()
def tw615164799155906260:=()
def tw16173498471977010670:=()
def tw16698350442966306880:=()
def tw13196794024668573278:=()
def tw17437995096918526513:=()
def tw13641909441054685508:=()
def tw1808108071216250167:=()
def tw6432296489565225410:=()
def tw14950311428546121239:=()
def tw5835809924418798738:=()
def tw16762678469938563981:=()
def tw7467946738146160271:=()
def tw8260439372599925354:=()
def tw10770280473371805880:=()
def tw749241486696364292:=()
def tw7545881216418077802:=()
def tw42569654937851836:=()
def tw4316764898990698712:=()
def tw1240700086468274542:=()
def tw13836357177571061802:=()
def tw2593279754393883817:=()
def tw13705878647330162864:=()
def tw2654475891574923855:=()
def tw15760972526572335367:=()
def tw16274939318001401820:=()
def tw12823382451547985748:=()
def tw16514768268813051889:=()
def tw4988549908219242891:=()
def tw7027879897242026392:=()
def tw14650089697381240123:=()
def tw1698799714913483285:=()
def tw12991712160595214555:=()
def tw12869489752598845330:=()
def tw15524165594271127693:=()
def tw4454577769943992746:=()
def tw17820021519888559845:=()
def tw16667628392558977282:=()
def tw5350602658802325479:=()
def tw10950169180007485316:=()
def tw11579208542582837190:=()
def tw13091628714768370853:=()
def tw11006158577031725963:=()
def tw17144219169173050474:=()
def tw5736137922701788955:=()
def tw7341609232266822715:=()
def tw16897578841451452282:=()
def tw9607116522632789123:=()
def tw12899603253967438857:=()
def tw2907713265143549386:=()
def tw4146957947457930092:=()
def tw7215092079043422687:=()
def tw15806065432120399507:=()
def tw12560102032911636447:=()
def tw9560672216282008420:=()
def tw14288403643125200918:=()
end PySem.W.Fast
open PySem PySem.W PyProof.Rows
set_option maxRecDepth 100000 in
set_option maxHeartbeats 0 in
theorem PySem.Challenge.cw_purseweb_k75_whole_as_many_as_trees_holds : PySem.Challenge.rw_purseweb_k75_whole_as_many_as_trees.Holds := by
 w_on;o_law;k_head;(case hw=>w_witness2)
 k_fill
 refine VL.law_walkT (l:=gj) (D:=PW.D_law) (x:="_law_script") 6 rfl rfl ⟨rfl,by decide,by decide,rfl⟩ (λw=>by kernel_rfl) PW.law_true (λw h Y=>PySem.W.km_in_of Y) ?F
 case F=>
  intro w mg fa h KX G hmg
  refine' PW.all_mk hmg ?B ?Z0 ?d0 ?d1 ?d2 ?d3 ?d4 ?d5 ?d6 ?d7 ?d8 ?d9 ?d10 ?d11 ?d12 ?d13 ?d14 ?d15 ?d16 ?d17 ?d18 ?d19 ?d20 ?d21 ?d22 ?d23 ?d24 ?d25 ?d26 ?d27 ?d28 ?d29 ?d30 ?d31 ?d32 ?d33 ?d34 ?d35 ?d36 ?d37 ?d38 ?d39 ?d40 ?d41 ?d42 ?d43 ?d44 ?d45 ?d46
  case B=>constructor<;>(refine PySem.W.mg_none_of KX G ?_;k_is)
  case Z0=>(refine' PW.cst_mk KX G ?y;(case y=>k_is))
  case d0 | d1 | d2 | d3 | d4 | d5 | d6 | d7 | d8 | d9 | d10 | d11 | d12 | d13 | d14 | d15 | d16 | d17 | d18 | d19 | d20 | d21 | d22 | d23 | d24 | d25 | d26 | d27 | d28 | d29 | d30 | d31 | d32 | d33 | d34 | d35 | d36 | d37 | d38 | d39 | d40 | d41 | d42 | d43 | d44 | d45 | d46=>(refine' L2.def_mk KX G ?a ?l ?c ?k;(case a=>k_is);(case l=>k_is);(case c=>k_is);(case k=>k_is))
