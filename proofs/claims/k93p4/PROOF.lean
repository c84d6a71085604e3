import PyProof.Rows.All
import Wide.All
import OpenK.AllK
import Wide.FinOn
import Lean
import PyProof.EqAt
import PyProof.EqKinds
import PyProof.TupleCall
import PyProof.NeKinds
import PyProof.ListMulRoad
import PyProof.WalkInts
import PyProof.ListRange
import KE.KRevIter
import KE.KSortTup
import KE.KDictSum
import PyProof.Rows.SortWalk
import PyProof.ExcInit
import PyProof.InstStoreFacts
import OpenK.KMake
import OpenK.KCls
import PyProof.FString2
import PyProof.TupleOfSeq
import KE.KUnpack
import KE.KMinKey
import PySem.Challenge.RW_purseweb_k93_whole_trees_to_break_purses
open Option renaming none → aA,bind_some → aQ,map_some → bz,isSome_iff_exists → cT,some_ne_none → jN,map_eq_some_iff → ke,bind_eq_bind → mS,isSome_map → nT,getD_none → n9,bind → oM,pure_def → oO,none → pT,some → ax
open Bool renaming false → aB,true → aC,and_eq_true → aw,false_ne_true → bx,eq_iff_iff → jG,or_eq_true → jH,false_eq_true → jc,not_eq_true' → ju,and_eq_true_iff → mJ,not_true → m9,not_eq_true → oG
open List renaming range → aD,getElem?_eq_getElem → aE,getD_eq_getElem?_getD → aF,length_map → aJ,mem_singleton → aM,mem_cons_of_mem → aN,getElem?_eq_some_iff → aR,replicate → aS,length_append → aT,size_toArray → aU,mem_append → aV,getElem?_map → aX,mem_range → aY,mem_cons → aa,map_cons → af,mem_cons_self → ag,mem_append_right → ah,getElem?_append_left → aj,mem_append_left → ao,nodup_cons → aq,mem_map → ar,map_congr_left → au,mem_of_getElem? → av,map_append → ay,length_cons → az,getElem?_append_right → bA,length_take → bG,all_eq_true → bK,getElem_mem → bQ,sum_cons → bR,length_drop → bU,getElem?_set → bW,take_of_length_le → bY,map_map → bZ,getElem?_replicate → b7,lookup_cons → bh,mem_filter → bj,getElem_of_mem → bp,not_mem_nil → br,length_range → bt,length_singleton → bu,getElem?_eq_none → bw,getElem?_range → cC,length_set → cG,nodup_nil → cH,length_replicate → cL,nodup_append → cN,mem_of_mem_take → cW,find?_cons → c9,take_length → ck,nodup_range → cq,getElem?_take_of_lt → dA,zip_cons_cons → dG,length_eq_zero_iff → dI,take_succ_eq_append_getElem → dQ,filterMap_cons → dS,replicate_succ → dU,append_nil → dX,mem_of_find?_eq_some → dZ,length → df,mem_of_mem_drop → dh,append_assoc → dj,find?_eq_none → eM,range_succ → eY,take_sublist → e7,mem_erase_of_ne → e8,pairwise_map → fF,length_erase_of_mem → fI,length_pos_iff → fK,ext_getElem → fS,take_append_of_le_length → fU,map_nil → fX,getElem?_drop → fg,range_succ_eq_map → fu,filter_append → gA,sum_append → gE,map_drop → gH,flatten_cons → gL,ext_getElem? → gM,take_succ → gY,any_eq_true → g6,mem_flatMap → g7,exists_mem_of_ne_nil → g8,mem_map_of_mem → gj,length_flatMap → gk,set_eq_of_length_le → gs,map_take → gu,of_mem_zip → gx,foldl_cons → gy,mem_filterMap → hW,ne_nil_of_mem → iB,getElem?_set_self → iK,drop_eq_nil_of_le → iQ,length_pos_of_mem → iT,eraseIdx_eq_take_drop_succ → iU,countP_cons → i6,getElem?_set_ne → i9,mem_iff_getElem → ig,pairwise_append → ip,filter → jA,length_nil → jE,count_cons → jJ,find?_some → jK,countP_eq_length_filter → jL,filter_eq_self → jO,all_map → jT,length_eraseIdx_of_lt → j7,getElem?_zip_eq_some → jh,foldl_append → jq,flatMap_cons → js,all_cons → jz,idxOf_lt_length_iff → kC,getElem_inj → kO,eraseIdx_cons_succ → kW,getElem?_cons_succ → kX,pairwise_lt_range → kj,extract → km,getElem_cons_succ → ko,map_set → ky,filter_eq_nil_iff → kz,nil_append → lE,take_append_drop → lO,perm_cons_erase → mE,map_id → mI,any_cons → mZ,foldl → ml,getElem_range → nA,getElem_idxOf → nB,map_replicate → nE,mem_replicate → nI,idxOf_append → nW,perm_middle → nj,getElem_map → oA,cons_append → oE,map_flatMap → oF,take_left' → oQ,take_zero → o9,drop_zero → oz,take_nil → pH,drop_nil → pI
open PySem renaming wpAny_bind → aG,Value → aI,Addr → aL,Shared → aO,starEach → aP,wpAny_pure → aW,Str → bH,wpAny → bJ,Program → bM,Expr → bO,Heap → ba,World → bc,Around → bq,Stmt → cB,foldedSetIterable → cK,mainGlobals → cO,wpAny_mono → cU,wpAny_callSpecial?_slot → cV,SetTable → cX,behindInMarks → cY,wpAny_ite_split → cf,wpAny_call_entry → cj,mem_of_lookup → cu,wpAny_field → cx,wpAny_newObj_type → cy,bootBuiltins → dB,backTo → dC,wpAny_Call_Name_kw → dE,compareOp → dH,wpAny_truthy_bool → dN,Obj → dW,Pos → dw,binaryOp → dy,cLine → dz,wpAny_seqItems → eI,wpAny_setField_rec → eK,wpAny_passesOwn → eU,sysModules → fG,wpAny_holding → fH,FuncData → fL,NameKind → fM,sizeLine_eq → fT,call_meets → fY,Builtin → fj,Scope → gC,rawInt → gJ,wpAny_setState_of → gQ,IsPair → gU,codeAny_mono → gZ,wpAny_ite_false → gz,tupleKind_room_in1 → iA,swapsWith → iC,sliceBounds → iE,wpAny_setField → iP,wpAny_updateSeq_pair → ie,wpAny_execs_nil → jD,wpAny_loadPart' → jF,codeAny_builtin → jI,wpAny_setEntries_of → jM,intKind → jP,codeAny → jQ,codeAmong → jX,assignEach → jZ,wpAny_pyIter_tuple → j3,bindArgs → j4,wpAny_binaryOp_repeat_ref → je,pyNext → jv,wpAny_comprehension_free → jw,wpAny_onRaise → jx,wpAny_attempt → jy,tupleKind → kM,noFill_tuple_add → kP,wpAny_isInstance → kR,wpAny_askSetting → kU,builtinsNs → kZ,concat_meets → k8,getItem → k9,typeIs_int → kc,closureFor → kg,letOwnedTupleGo → lC,IsZip → lH,wpAny_isTrue_Compare1 → lN,builtinLookup_eq_fast → lU,wpAny_loadName_local → lX,keywordEach → lZ,fitsIndex_both → l8,compEnvC → lu,wpAny_newFunctionEnv → lx,firstArgMember → mC,isSubtype_type → mH,PassesOwn → mM,Keyword → mN,Arguments → mO,notedBy → mP,wpAny_loadName_cell → mQ,wpAny_standAt → mW,seq_tuple_add → mX,attributeBase → mY,Env → ma,isTrue → md,wpAny_call → me,IsPart → mh,wpAny_rule → mw,intKind_is → nC,CmpOp → nK,BindsTo → nP,seqIndex_neg → nQ,valueAt → nS,callerA → nX,pyIter → nY,seqIndex? → n8,pickOrder → nu,seqIndex_of → oI,wpAny_of_eq → oJ,wpAny_letGo → oK,standAt → oT,GenState → oV,wpAny_Name → oW,Operator → oX,backToKw → o4,bindL → o5,bindC → o6,atKey → o8,relayAll → oj,defaultsOf → ox,Within → pN,Result → pQ,layNew → pR
open PySem.W renaming Frag → aH,kia_one → cZ,codeIn → dM,kitOne → dO,fnOf → dP,kla_fn → gV,tabObj → gX,keepIn → iM,tabIn → i8,nsIn → jS,cellsFrom_some → k6,envX → kq,mem_of_lookupK → ku,instObj → lA,CodeHd → lW,lookIn → lY,callWith_K → mf,kitx_list → nM,kitx_dict → nO,plainGet → nZ,findIn → oZ,noTabs → oy,mg_of → pE
open PySem.Heap renaming get?_push_of_some → aK,lt_size → a9,get?_push_size → ak,SameBut → cP,size_push → cR,get?_update_self → eO,get?_update_other → kb,ExtBut → mB
open Nat renaming le_refl → aZ,lt_of_lt_of_le → bB,ne_of_lt → bN,le_trans → cD,le_of_lt → cJ,lt_irrefl → cS,lt_succ_of_lt → cz,zero_le → dq,lt_succ_self → dt,mod_eq_of_lt → du,min_eq_left → eV,le_add_right → fQ,ne_of_gt → fW,lt_of_le_of_lt → fZ,mod_lt → gW,le_succ → iG,mul_le_mul_right → jC,add_zero → jR,mul_le_mul → j9,lt_succ_iff_lt_or_eq → kL,min_eq_right → kS,zero_lt_one → lK,strongRecOn → lM,add_left_cancel → mR,mod_eq_sub_mod → nH,mul_comm → nR,lt_trans → nU,le_succ_of_le → nV,succ_le_succ → ng
open Option.some renaming inj → bC,injEq → jm
open PySem.F renaming plainAttrs_list → bT,slot_list_append → cE,type_list_append → cF,args_tuple_add_2 → gn,entry_tuple_add → iD,slot_tuple_add → iN,slot_dict_get → iV,slot_list_insert → kE,type_list_insert → kF,slot_list_extend → kG,type_list_extend → kH,args_dict_get_3 → kQ,entry_dict_get → kf,slot_set_iter → lV
open Int renaming toNat_natCast → bV,mul_comm → cQ,mul_assoc → cg,neg_mul → dJ,mul_nonneg → dR,le_refl → dY,mul_sub → fC,mul_zero → fD,zero_mul → fE,mul_le_mul_of_nonneg_left → fV,mul_left_comm → gR,fdiv_eq_ediv_of_nonneg → gS,toNat_of_nonneg → g9,ofNat_inj → gv,toNat → iH,mul_add → jB,add_zero → jV,lt_or_gt_of_ne → ja,eq_of_mul_eq_mul_left → ji,one_mul → jr,mul_fdiv_cancel_left → kJ,lt_mul_ediv_self_add → kK,add_mul → mD,natAbs_mul → mK,mul_ediv_self_le → mL,emod_lt_of_pos → nF,mul_one → oH,emod_nonneg → oR,not_lt → pA,fdiv → pV
open Ne renaming symm → bX
open True renaming intro → b8
open PySem.SetTable renaming below → b9,has → dc,insertAt → e9,turns → fR,runEnd → hU,freeSlot → jn,layClean → jo,slot → kA,bits → kB,fill → kD,probeStart → mU,laid → m6,fits → m7,orStandIn → mz,advance → nt,tooFull → oB,fresh → og,Probe → oh,probe → ot
open PyProof.Rows renaming callWith_type1 → bg,slot_tuple_getitem → fJ,callWith_builtin1 → fO,step_dedup → iI,envOfC → iZ,IntsAre → i7,AllBare → k5,subscriptTail_builtinR → ka,Constant_none → mV,boot_range → oY,Subscript_ → o7,step_dedup → ou,Call_ → pL
open Classical renaming byContradiction → cA
open PySem.NameKind renaming free → cI,cell → gG
open Array renaming length_toList → cM,getElem?_toList → da,toList_append → dk,getElem?_eq_getElem → eR,getElem?_eq_none → iJ,toList_push → iO,toArray_toList → ij,getElem_toList → ik,getD → j6,getElem?_eq_some_iff → j8,replicate → lJ,toList_extract → mF,toList → pO
open PySem.Heap.SameBut renaming update → cw
open False renaming elim → dD
open PySem.Value renaming int → di,ref → jW,type → kY,none → oU,isStrOf → pC
open PyProof.Rows.F renaming plain_set_update_loop → dm,entry_set_update_loop → gh
open PySem.Calls renaming spliced_cons → eB,spliced_nil → gK,Name_function_global → jY,callWith_builtin → kd,evalArgs_plain → l6
open PySem.Obj renaming data_mapFields → eJ,isFreed_of_fields → iW,cls_mapFields → jj,mapSeq → mj
open PySem.Builtin.Slice renaming slicePlaces → eQ,sliceAdjust → jd
open PySem.PassesOwn renaming never → eZ
open PySem.SetTable.probe renaming go → fA
open ForInStep renaming yield → gD
open PySem.SetTable.below renaming go → gO
open PySem.Builtin.Int renaming intBits → gg
open PySem.Builtin.List renaming listTooLong → gp,listLengthHint → jU
open List.Perm renaming refl → iR,swap → oq
open PySem.SetTable.layClean renaming free → iS
open PySem.Challenge renaming pw_purseweb_k93_whole_trees_to_break_purses → iX,rw_purseweb_k93_whole_trees_to_break_purses → iY
open PySem.Around renaming under_plainId → iu,frames_deeper → l3
open Or renaming inl → j5,inr → mq
open PySem.Builtin.SmallTypes renaming nextOf → jf
open PySem.W.WData renaming weightAll → kT,int → nh
open PySem.SeqAt renaming EqAt → kh
open PySem.SeqAt.EqAt renaming same → lI,int_int → mx,of_refs → my
open Sum renaming inl → nJ,inr → oS
open PyProof.Rows.IsTup renaming new → n6
open List.cons renaming injEq → oN
open PySem.Builtin.Frozenset renaming updateFrom → oP,newClass → om,slot0 → pM
open PySem.SetTable.Met.empty renaming injEq → pJ
open Prod.mk renaming injEq → pK
open PySem.IsRange renaming new → pS
open PySem.Shared renaming heap → pU
theorem p9.{u}{c:Prop}{h:Decidable c}(b:c){a:Sort u}{t e:a}:ite c t e=t:=if_pos b
theorem pW.{u}{c:Prop}{h:Decidable c}(b:Not c){a:Sort u}{t e:a}:ite c t e=e:=if_neg b
noncomputable section
set_option Elab.async false
set_option linter.all false
set_option maxRecDepth 100000
namespace L2
open PySem PySem.Spec PyProof.Rows
abbrev Y8:=Sum Int bH
noncomputable def M6:Y8->aI->Bool
 | .inl k,v=>aI.isInt k v
 | .inr x,v=>pC x v
noncomputable def Zne(w:bc):Y8->Int
 | .inl k=>hashInt k
 | .inr x=>hashStr w x
theorem Yu:∀{k:Y8}{v:aI},M6 k v=aC->(∃i t,k=nJ i/\v=di i t)\/(∃x t,k=oS x/\v=aI.str x t)
 | .inl i,v,h=>by obtain⟨t,e⟩:=aI.isInt_shape h;exact .inl ⟨i,t,rfl,e⟩
 | .inr x,v,h=>by obtain⟨t,e⟩:=aI.isStrOf_shape h;exact .inr ⟨x,t,rfl,e⟩
theorem Dx(i:Int)(t:Tok):M6 (.inl i) (.int i t)=aC:=by simp[M6,aI.isInt]
theorem Dy(x:bH)(t:Tok):M6 (.inr x) (.str x t)=aC:=by simp[M6,pC]
theorem Zhn(a b:Int):decide ((nJ a:Y8)=nJ b)=(a==b):=by grind
theorem Zho(a b:bH):decide ((oS a:Y8)=oS b)=decide (a=b):=by simp
theorem Zhp(a:Int)(b:bH):decide ((nJ a:Y8)=oS b)=aB:=decide_eq_false (λq=>nomatch q)
theorem Zhq(a:bH)(b:Int):decide ((oS a:Y8)=nJ b)=aB:=decide_eq_false (λq=>nomatch q)
noncomputable def Yv(prog:bM)(w:bc):PySem.KeyKind prog w Y8 where
 is:=M6
 hash:=Zne w
 inj:=λv a b ha hb=>by
  rcases Yu ha with⟨i,t,rfl,rfl⟩ | ⟨x,t,rfl,rfl⟩
  ·rcases Yu hb with⟨j,u,rfl,e⟩ | ⟨y,u,rfl,e⟩
   ·injection e with e1 _;rw[e1]
   ·exact nomatch e
  ·rcases Yu hb with⟨j,u,rfl,e⟩ | ⟨y,u,rfl,e⟩
   ·exact nomatch e
   ·injection e with e1 _;rw[e1]
 byValue:=λk v h=>by rcases Yu h with⟨i,t,rfl,rfl⟩ | ⟨x,t,rfl,rfl⟩<;>rfl
 pyHash:=λhv h=>by
  rcases Yu hv with⟨i,t,rfl,rfl⟩ | ⟨x,t,rfl,rfl⟩
  ·exact wpAny_pyHash_int h
  ·exact wpAny_pyHash_str h
 eqBool:=λhu hv h=>by
  rcases Yu hu with⟨i,t,rfl,rfl⟩ | ⟨x,t,rfl,rfl⟩
  ·rcases Yu hv with⟨j,u,rfl,rfl⟩ | ⟨y,u,rfl,rfl⟩
   ·rw[Zhn] at h;exact wpAny_eqBool_int h
   ·rw[Zhp] at h;exact kh.int_str i t y u _ _ _ _ h
  ·rcases Yu hv with⟨j,u,rfl,rfl⟩ | ⟨y,u,rfl,rfl⟩
   ·rw[Zhq] at h;exact kh.str_int x t j u _ _ _ _ h
   ·rw[Zho] at h;exact wpAny_eqBool_str h
 «strs»:=λk x t v h=>by
  rcases Yu h with⟨i,u,rfl,e⟩ | ⟨y,u,rfl,e⟩
  ·exact nomatch e
  ·injection e with e1 _;subst e1;cases v<;>rfl
theorem JR(prog:bM)(w:bc)(i:Int)(t:Tok):(Yv prog w).is (.inl i) (.int i t)=aC:=Dx i t
theorem JS(prog:bM)(w:bc)(x:bH)(t:Tok):(Yv prog w).is (.inr x) (.str x t)=aC:=Dy x t
inductive V where
 | non | bl (b:Bool) | int (i:Int) | str (x:bH) | byt (b:Array UInt8) | flt (b:UInt64) | ref (a:aL) | ty (n:String)
 deriving DecidableEq
noncomputable def RelV:V->aI->Prop
 | .non,u=>u=oU
 | .bl b,u=>u=aI.bool b
 | .int i,u=>∃t,u=di i t
 | .str x,u=>∃t,u=aI.str x t
 | .byt b,u=>∃t,u=aI.bytes b t
 | .flt b,u=>∃t,u=aI.float b t
 | .ref a,u=>u=jW a
 | .ty n,u=>u=kY n
abbrev Vals:List V->List aI->Prop:=Paired RelV
theorem Vals.length{xs:List V}{a:List aI}(r:Vals xs a):xs.length=a.length:=Paired.length r
theorem Vals.get:∀{xs:List V}{us:List aI}{i:Nat}{x:V},Vals xs us->xs[i]?=ax x->∃u,us[i]?=ax u/\RelV x u
 | _,_,_,_,.nil,e=>by simp at e
 | _,_,0,_,.cons r _,e=>by simp at e;subst e;exact⟨_,rfl,r⟩
 | _,_,i+1,x,.cons _ t,e=>by obtain⟨u,b,a⟩:=Vals.get (i:=i) (x:=x) t (by simpa using e);exact⟨u,by simpa using b,a⟩
theorem Vals.set{x:V}{u:aI}(r:RelV x u):∀{xs:List V}{us:List aI}(i:Nat),Vals xs us->Vals (xs.set i x) (us.set i u)
 | _,_,_,.nil=>.nil
 | _,_,0,.cons _ t=>.cons r t
 | _,_,i+1,.cons q t=>.cons q (Vals.set r i t)
theorem Vals.append:∀{xs ys:List V}{us ws:List aI},Vals xs us->Vals ys ws->Vals (xs++ys) (us++ws)
 | _,_,_,_,.nil,s=>s
 | _,_,_,_,.cons r t,s=>.cons r (Vals.append t s)
theorem Vals.take:∀{xs:List V}{us:List aI}(n:Nat),Vals xs us->Vals (xs.take n) (us.take n)
 | _,_,0,_=>.nil
 | _,_,_+1,.nil=>.nil
 | _,_,n+1,.cons r t=>.cons r (Vals.take n t)
theorem Vals.drop:∀{xs:List V}{us:List aI}(n:Nat),Vals xs us->Vals (xs.drop n) (us.drop n)
 | _,_,0,r=>r
 | _,_,_+1,.nil=>.nil
 | _,_,n+1,.cons _ t=>Vals.drop n t
noncomputable def RelO:Option V->Option aI->Prop
 | some v,ax u=>RelV v u
 | none,aA=>True
 | _,_=>False
noncomputable def KV{κ:Type}:List (κ×V)->List (κ×aI)->Prop:=Paired λ(p:κ×V) (q:κ×aI)=>p.1=q.1/\RelV p.2 q.2
noncomputable def kV:Y8->V
 | .inl i=>.int i
 | .inr x=>.str x
inductive HO where
 /-- a list -/
 | lst (xs:List V)
 /-- a tuple (never changes) -/
 | tup (xs:List V)
 /-- a dict whose keys are ints and texts;one whose keys are tuples of ints and texts (the empty one is both) -/
 | dK (p4:List (Y8×V)) | dT (p4:List (List Y8×V))
 /-- a set of ints: p8 members,p8 size -/
 | set (S:Int->Bool) (n:Nat)
 /-- an instance of the class at C,p8 dict at dx,p8 attributes -/
 | ins (C dx:aL) (fs:List (bH×V))
 /-- the dict of the instance at x -/
 | own (x:aL)
 /-- the dict of an exception -/
 | xd (fs:List (bH×V))
 /-- a bound method,f of x -/
 | met (f x:aL)
 /-- a range object lo,lo+1,.. below hi -/
 | rng (lo hi:Int)
 /-- a thing that is known to the object (the script;a dict while a loop walks it): read,never written while it is so -/
 | frz (o:dW) (u:HO)
 /-- a code object's table -/
 | tbl (ps:Array aI)
 /-- any other thing,by what is aC of p8 one object (a def of one's own: SetO a S n:=HO.ext λh=>..) -/
 | ext (φ:ba->Prop)
abbrev Hp:=aL->Option HO
noncomputable def upd(H:Hp)(a:aL)(o:HO):Hp:=λb=>if b=a then ax o else H b
theorem Zk{H:Hp}{a:aL}{o:HO}:upd H a o a=ax o:=by unfold upd;rw[p9 rfl]
theorem upd_ne{H:Hp}{a b:aL}{o:HO}(h:b≠a):upd H a o b=H b:=by unfold upd;rw[pW h]
theorem Zkj{H:Hp}{a b:aL}{o u:HO}(h:H a=ax o)(h':H b=ax u)(d:o≠u):a≠b:=by grind
theorem Zr{H:Hp}{a b:aL}{o:HO}(h:H a=ax o)(h':H b=aA):a≠b:=by grind
noncomputable def Po(x:bH):Bool:=x=="tree_of" || x=="still_by" || x=="made_of"
noncomputable def Oz(x:bH):bH:=x++".<locals>."++"<lambda>"
noncomputable def HU(o:dW)(q:bH):Prop:=∃vs t,o.data = .fields vs/\vs[1]?=ax (.str q t)
noncomputable def Wh(q:bH)(H:Hp)(ps:List aI):Prop:=TriplesOk ps/\∀pos v,jX pos ps=ax v->∃c o,v = .ref c/\H c=ax (.frz o (.own 0))/\HU o q
theorem OA{h:ba}{T:aI}{xs:Array aI}{n:Nat}{o:dW}(e:(h.push { cls:=T,data:=.seq xs n }).get? h.objs.size=ax o):o.dict=aA:=by rw[ak _ rfl] at e;cases e;rfl
section
variable (P:bM) (w:bc)
noncomputable def ObjOk(H:Hp)(h:ba)(a:aL):HO->Prop
 | .lst xs=>xs.length<=sizeLine/\∃(p8:List aI) (n:Nat),Vals xs p8/\h.get? a=ax { cls:=.type "list",data:=.seq p8.toArray n }
 | .tup xs=>(xs.length<=sizeLine/\∀o,h.get? a=ax o->o.dict=aA)/\∃p8:List aI,Vals xs p8/\IsTup h a p8.toArray
 | .dK p4=>p4.length<=sizeLine/\(a==fG)=aB/\∃vs,KV p4 vs/\h.DictOf (Yv P w) a vs
 | .dT p4=>p4.length<=sizeLine/\(a==fG)=aB/\∃xs:List (List Y8×aL×aI),
   Paired (λ(p:List Y8×V) (q:List Y8×aL×aI)=>p.1=q.1/\H q.2.1=ax (.tup (p.1.map kV))/\RelV p.2 q.2.2) p4 xs/\
   ∃o es ep,h.get? a=ax o/\o.ExactDict/\o.data = .dict es ep/\es.toList=xs.map (entryOfKey (kM (Yv P w)))/\(xs.map (·.1)).Nodup
 | .set S n=>h.SetOf (jP P w) a S n
 | .ins C dx fs=>H dx=ax (.own a)/\fs.length<=1000/\dx≠a/\h.get? a=ax (lA C dx)/\
   ∃mA,h.Ns1 dx mA/\(∀f,RelO (fs.lookup f) (mA f))/\pN mA (fs.map (·.1))
 | .own _=>∃o,h.get? a=ax o
 | .xd fs=>∃mA,h.Ns1 a mA/\∀f,RelO (fs.lookup f) (mA f)
 | .rng lo hi=>∃t u v,h.get? a=ax { cls:=.type "range",data:=.fields #[.int lo t,.int hi u,.int 1 v] }
 | .frz o u=>h.get? a=ax o/\ObjOk H h a u
 | .tbl ps=>∃(q:bH) (t:Tok) (ps':Array aI),ps[0]?=ax (.str q t)/\h.get? a=ax { cls:=.none,data:=.fields ps' }/\Wh q H ps'.toList
 | .met f x=>h.get? a=ax (PySem.W.methodObj (.ref f) (.ref x))
 | .ext φ=>φ h/\(∃o,h.get? a=ax o)/\∀h1 h2:ba,φ h1->(∀o,h1.get? a=ax o->h2.get? a=ax o)->φ h2
noncomputable def HOk(H:Hp)(h:ba):Prop:=∀a o,H a=ax o->ObjOk P w H h a o
end
section
variable {P:bM} {w:bc} {H H':Hp} {h h':ba} {a:aL} {o:HO}
theorem ObjOk.lt(x:ObjOk P w H h a o):a<h.objs.size:=by
 cases o with
 | lst xs=>obtain⟨_,_,_,_,e⟩:=x;exact a9 e
 | tup xs=>obtain⟨_,_,_,p⟩:=x;exact p.lt
 | dK p4=>obtain⟨_,_,_,_,o,_,_,e,_⟩:=x;exact a9 e
 | dT p4=>obtain⟨_,_,_,_,o,_,_,e,_⟩:=x;exact a9 e
 | set S n=>obtain⟨o,_,_,_,e,_⟩:=x;exact a9 e
 | ins C dx fs=>obtain⟨_,_,_,e,_⟩:=x;exact a9 e
 | own y=>obtain⟨_,e⟩:=x;exact a9 e
 | xd fs=>obtain⟨_,⟨_,_,_,e,_⟩,_⟩:=x;exact a9 e
 | rng lo hi=>obtain⟨_,_,_,e⟩:=x;exact a9 e
 | frz ob u=>obtain⟨e,_⟩:=x;exact a9 e
 | tbl ps=>obtain⟨_,_,_,_,e,_⟩:=x;exact a9 e
 | met f y=>exact a9 (show h.get? a=ax _ from x)
 | ext φ=>obtain⟨_,⟨_,e⟩,_⟩:=x;exact a9 e
theorem Paired.mapP{c d:Type}{F G:c->d->Prop}:∀{l₁:List c}{l₂:List d},Paired F l₁ l₂->(∀a b,F a b->G a b)->Paired G l₁ l₂
 | _,_,.nil,_=>.nil
 | _,_,.cons r t,f=>.cons (f _ _ r) (Paired.mapP t f)
theorem ObjOk.stay(x:ObjOk P w H h a o)(k:∀b u,(b=a\/H b=ax (.own a))->h.get? b=ax u->h'.get? b=ax u)
  (E:∀b,H b=ax (.own a)->H' b=ax (.own a)) (F:∀b xs,H b=ax (.tup xs)->H' b=ax (.tup xs)) (J:∀b u,H b=ax (.frz u (.own 0))->H' b=ax (.frz u (.own 0))):ObjOk P w H' h' a o:=by
 induction o with
 | lst xs=>obtain⟨z,l,n,r,e⟩:=x;exact⟨z,l,n,r,k _ _ (.inl rfl) e⟩
 | tup xs=>obtain⟨z,l,r,g,e,c⟩:=x;exact⟨⟨z.1,λo q=>by rw[k _ _ (.inl rfl) e] at q;cases q;exact z.2 _ e⟩,l,r,g,k _ _ (.inl rfl) e,c⟩
 | dK p4=>obtain⟨z,y,vs,r,g,i,ep,e,c⟩:=x;exact⟨z,y,vs,r,g,i,ep,k _ _ (.inl rfl) e,c⟩
 | dT p4=>
  obtain⟨z,y,xs,r,g,i,ep,e,c⟩:=x;exact⟨z,y,xs,Paired.mapP r λp q z=>⟨z.1,F _ _ z.2.1,z.2.2⟩,g,i,ep,k _ _ (.inl rfl) e,c⟩
 | set S n=>obtain⟨g,i,ep,t,e,c⟩:=x;exact⟨g,i,ep,t,k _ _ (.inl rfl) e,c⟩
 | ins C dx fs=>
  obtain⟨d,z,ne,e,s,⟨m,i,ep,A,c⟩,r⟩:=x;exact⟨E _ d,z,ne,k _ _ (.inl rfl) e,s,⟨m,i,ep,k _ _ (.inr d) A,c⟩,r⟩
 | own y=>obtain⟨g,e⟩:=x;exact⟨g,k _ _ (.inl rfl) e⟩
 | xd fs=>obtain⟨s,⟨m,i,ep,e,c⟩,r⟩:=x;exact⟨s,⟨m,i,ep,k _ _ (.inl rfl) e,c⟩,r⟩
 | rng lo hi=>obtain⟨t,u,v,e⟩:=x;exact⟨t,u,v,k _ _ (.inl rfl) e⟩
 | frz g u ih=>obtain⟨e,q⟩:=x;exact⟨k _ _ (.inl rfl) e,ih q⟩
 | tbl ps=>
  obtain⟨q,t,j,G,e,B,I⟩:=x;refine⟨q,t,j,G,k a _ (.inl rfl) e,B,λpos v D=>?_⟩;obtain⟨c,o,M,A,L⟩:=I pos v D;exact⟨c,o,M,J c o A,L⟩
 | met f y=>
  have e:=x;exact k a _ (.inl rfl) e
 | ext φ=>obtain⟨p,⟨o,e⟩,st⟩:=x;exact⟨st _ _ p λo q=>k _ _ (.inl rfl) q,⟨o,k _ _ (.inl rfl) e⟩,st⟩
theorem HOk.lt(x:HOk P w H h)(e:H a=ax o):a<h.objs.size:=(x a o e).lt
theorem HOk.fresh(x:HOk P w H h)(e:h.objs.size<=a):H a=aA:=by
 cases q:H a with
 | none=>rfl
 | some u=>exact absurd (bB (x.lt q) e) (cS _)
theorem HOk.kept(x:HOk P w H h)(k:∀b u,h.get? b=ax u->h'.get? b=ax u):HOk P w H h':=λa o e=>
 (x a o e).stay (λb u _ q=>k b u q) (λ_ q=>q) (λ_ _ q=>q) λ_ _ q=>q
theorem HOk.laid(x:HOk P w H h)(k:∀b u,h.get? b=ax u->h'.get? b=ax u)(g:h.objs.size<=a)(new:ObjOk P w (upd H a o) h' a o):HOk P w (upd H a o) h':=λb u e=>by
 have d:=x.fresh g;by_cases f:b=a
 ·subst f;rw[Zk] at e;cases e;exact new
 ·rw[upd_ne f] at e;exact(x b u e).stay (λc v _ q=>k c v q) (λc q=>by rw[upd_ne (Zr q d)];exact q) (λc xs q=>by rw[upd_ne (Zr q d)];exact q) λc u q=>by rw[upd_ne (Zr q d)];exact q
end
noncomputable def Rd(H:Hp)(a:aL)(u:HO):Prop:=H a=ax u\/∃o,H a=ax (.frz o u)
theorem Rd.ok{P:bM}{w:bc}{H:Hp}{h:ba}{a:aL}{u:HO}(r:Rd H a u)(x:HOk P w H h):ObjOk P w H h a u:=by
 rcases r with r | ⟨o,r⟩
 ·exact x a u r
 ·obtain⟨_,q⟩:=x a _ r;exact q
noncomputable def UU:Option HO->Prop
 | some (.lst _)=>True
 | some (.dK _)=>True
 | some (.dT _)=>True
 | some (.set _ _)=>True
 | some (.ins _ _ _)=>True
 | some (.ext _)=>True
 | _=>False
section
variable {P:bM} {w:bc} {H:Hp} {h h':ba} {x e:aL} {o':HO}
theorem HOk.write(ok:HOk P w H h)(f:UU (H x))(n:e=x\/H e=ax (.own x))(k:∀b u,b≠e->h.get? b=ax u->h'.get? b=ax u)(l:∃u,h'.get? e=ax u)
  (new:ObjOk P w (upd H x o') h' x o'):HOk P w (upd H x o') h':=λb u q=>by
 have d:∀c y,H c=ax (.own y)->c≠x:=λc y r z=>by subst z;rw[r] at f;exact f
 have g:∀c xs,H c=ax (.tup xs)->c≠x:=λc xs r z=>by subst z;rw[r] at f;exact f
 by_cases j:b=x
 ·subst j;rw[Zk] at q;cases q;exact new
 ·rw[upd_ne j] at q;by_cases a:b=e
  ·have m:H b=ax (.own x):=by
    rcases n with z | z
    ·exact absurd (a.trans z) j
    ·rw[a];exact z
   rw[q] at m;cases m;obtain⟨v,o⟩:=l;exact⟨v,by rw[a];exact o⟩
  ·refine(ok b u q).stay (λc v i r=>k c v ?_ r) (λc r=>by rw[upd_ne (d c b r)];exact r) (λc xs r=>by rw[upd_ne (g c xs r)];exact r) λc v r=>by rw[upd_ne (λz=>by subst z;rw[r] at f;exact f)];exact r
   rcases i with rfl | i
   ·exact a
   ·rintro rfl;rcases n with z | z
    ·exact d c b i z
    ·rw[i] at z;cases z;exact j rfl
end
structure Un(fs ex:List aL)(H H':Hp)(h h':ba):Prop where
 keep:∀b o,h.get? b=ax o->H b=aA->b∉fs->b∉ex->h'.get? b=ax o
 slot:∀b o,h.get? b=ax o->H b=aA->b∈fs->b∉ex->∃sl,h'.get? b=ax { o with slots:=sl }
 free:∀b o,h.get? b=ax o->H b=aA->b∉ex->H' b=aA
 there:∀b o,h.get? b=ax o->b∉ex->∃o',h'.get? b=ax o'
 tups:∀b xs,H b=ax (.tup xs)->H' b=ax (.tup xs)
 frzs:∀b o u,H b=ax (.frz o u)->H' b=ax (.frz o u)
 tbls:∀b ps,H b=ax (.tbl ps)->∃more,H' b=ax (.tbl (ps++more))
section
variable {fs fs' ex ex':List aL} {H H1 H2:Hp} {h h1 h2 h':ba} {a x e:aL} {o:HO}
theorem Un.any(u:Un fs ex H H1 h h1){b:aL}{a:dW}(q:h.get? b=ax a)(n:H b=aA)(d:b∉ex):∃sl,h1.get? b=ax { a with slots:=sl }:=by
 by_cases c:b∈fs
 ·exact u.slot b a q n c d
 ·exact⟨a.slots,u.keep b a q n c d⟩
theorem Un.kept(k:∀b u,h.get? b=ax u->h'.get? b=ax u):Un fs ex H H h h':=
 ⟨λb a q _ _ _=>k b a q,λb a q _ _ _=>⟨a.slots,k b a q⟩,λ_ _ _ n _=>n,λb a q _=>⟨a,k b a q⟩,λ_ _ q=>q,λ_ _ _ q=>q,λ_ c q=>⟨#[],by rw[q];simp⟩⟩
theorem Un.refl:Un fs ex H H h h:=Un.kept λ_ _ q=>q
theorem Un.laid(k:∀b u,h.get? b=ax u->h'.get? b=ax u)(d:h.objs.size<=a)(c:H a=aA):Un fs ex H (upd H a o) h h' where
 keep:=λb u q _ _ _=>k b u q
 slot:=λb u q _ _ _=>⟨u.slots,k b u q⟩
 free:=λb u q n _=>by rw[upd_ne (bN (bB (a9 q) d))];exact n
 there:=λb u q _=>⟨u,k b u q⟩
 tups:=λb xs q=>by rw[upd_ne (Zr q c)];exact q
 frzs:=λb u xs q=>by rw[upd_ne (Zr q c)];exact q
 tbls:=λb e q=>⟨#[],by rw[upd_ne (Zr q c),q];simp⟩
theorem Un.write(c:UU (H x))(l:e=x\/H e=ax (.own x))(k:∀b u,b≠e->h.get? b=ax u->h'.get? b=ax u)(d:∃u,h'.get? e=ax u):Un fs ex H (upd H x o) h h':=by
 have i:∀b,H b=aA->b≠x:=λb n z=>by subst z;rw[n] at c;exact c
 have g:∀b,H b=aA->b≠e:=λb n z=>by
  subst z;rcases l with r | r
  ·exact i b n r
  ·rw[n] at r;cases r
 have f:∀b u,H b=ax u->¬UU (ax u)->b≠x:=λb u q j z=>by subst z;rw[q] at c;exact j c
 refine⟨λb u q n _ _=>k b u (g b n) q,λb u q n _ _=>⟨u.slots,k b u (g b n) q⟩,λb u q n _=>by rw[upd_ne (i b n)];exact n,λb u q _=>?_,
  λb xs q=>by rw[upd_ne (f b _ q λz=>z)];exact q,λb u xs q=>by rw[upd_ne (f b _ q λz=>z)];exact q,λb m q=>⟨#[],by rw[upd_ne (f b _ q λz=>z),q];simp⟩⟩
 by_cases a:b=e
 ·subst a;exact d
 ·exact⟨u,k b u a q⟩
end
noncomputable def TabsH(K:aH)(mg:bH->Option aI)(base:ba)(H:Hp):Prop:=∀(q:bH)(c:aL),Po q=aC->dM K (.ref c) q=aC->
 ∃Pt ps t,lW base c Pt/\H Pt=ax (.tbl ps)/\ps[0]?=ax (.str (Oz q) t)/\base.BuiltinsAt mg Pt
theorem TabsH.un{K:aH}{mg:bH->Option aI}{a:ba}{fs j:List aL}{H f:Hp}{h h':ba}(t:TabsH K mg a H)(u:Un fs j H f h h'):TabsH K mg a f:=λq c l i=>by
 obtain⟨Pt,b,tk,o,m,e,g⟩:=t q c l i;obtain⟨more,k⟩:=u.tbls Pt b m
 have d:0<b.size:=by
  cases z:b.size with
  | zero=>rw[iJ (by omega)] at e;cases e
  | succ n=>omega
 exact⟨Pt,_,tk,o,k,by rw[Array.getElem?_append_left d];exact e,g⟩
noncomputable def trk(h:ba)(H:Hp):List aL:=(aD h.objs.size).filter λa=>(H a).isSome
noncomputable def Kb(h:ba)(H:Hp):ba:=PySem.W.hideAll h (trk h H)
theorem Dz(h:ba)(H:Hp):(Kb h H).objs.size=h.objs.size:=PySem.W.hideAll_size _ _
theorem BA{h:ba}{H:Hp}{b:aL}{o:dW}(e:h.get? b=ax o)(n:H b=aA):(Kb h H).get? b=ax o:=
 PySem.W.hideAll_get _ e λa=>by have q:=(bj.mp a).2;rw[n] at q;simp at q
theorem Zc4{h:ba}{H:Hp}{b:aL}{o:dW}(e:(Kb h H).get? b=ax o):h.get? b=ax o/\H b=aA:=by
 have a:=PySem.W.of_hideAll (trk h H) e;refine⟨a,?_⟩
 cases q:H b with
 | none=>rfl
 | some x=>
  have c:b∈trk h H:=bj.mpr ⟨aY.mpr (a9 a),by simp[q]⟩;have z:(Kb h H).get? b=aA:=PySem.W.hideAll_none (trk h H) c;rw[z] at e;cases e
noncomputable def Zc5(g h:ba)(L:aL):List (aL×dW):=(aD h.objs.size).filterMap λa=>if a=L\/(g.get? a).isSome=aC then aA else(h.get? a).map λo=>(a,o)
noncomputable def YC(g h:ba)(L d:aL):List (aL×dW):=(Zc5 g h L).filter λp=>decide (p.1≠d)
structure Mod(K:aH)(mg:bH->Option aI)(base:ba):Prop where
 kin:K.In base
 glob:base.Ns cO mg
 blt:∃mb,base.Ns kZ mb/\∀x:bH,x≠"__name__"->mb x=dB x
 nolimit:base.NoLimit
structure Cx where
 prog:bM
 w:bc
 K:aH
 mg:bH->Option aI
 base:ba
 A:bq
 N:List bH
 s₀:aO
 H₀:Hp
 env:ma
 outer:List ma
 stack:List ma
 ex:List aL
 fn:bH->Bool
 calm:Bool
 pn:List (aL×dW)
 xe:aI->aO->Prop
noncomputable def Kc(l:List ma):List aL:=l.filterMap (·.frame)
abbrev Cx.fs(X:Cx):List aL:=Kc X.outer
noncomputable def Vis(sc:gC)(x:bH):Prop:=sc.names.lookup x=ax .local\/sc.names.lookup x=ax .cell\/sc.names.lookup x=ax .free
noncomputable def BB(sc:gC)(x:bH):Prop:=sc.names.lookup x=ax .local\/sc.names.lookup x=ax .cell
noncomputable def Znf(env:ma)(h:ba)(m:bH->Option aI)(x:bH)(u:aI):Prop:=
 (env.kindOf x=ax .local/\m x=ax u)\/((env.kindOf x=ax .cell\/env.kindOf x=ax .free)/\∃c,env.cells.lookup x=ax c/\h.IsCell c (ax u))
structure Cx.Ok(X:Cx):Prop where
 mod:Mod X.K X.mg X.base
 kind:X.env.scope.kind = .function
 glob:X.env.globals=cO
 blt:X.env.builtins=kZ
 above:X.s₀.heap.objs.size<=X.env.locals
 inj:∀x y c,X.env.cells.lookup x=ax c->X.env.cells.lookup y=ax c->x=y
 has:∀x,(X.env.kindOf x=ax .cell\/X.env.kindOf x=ax .free)->∃c,X.env.cells.lookup x=ax c
 cab:∀x c,X.fn x=aC->X.env.cells.lookup x=ax c->X.s₀.heap.objs.size<=c
 hd:X.calm=aC->X.A.handled=aA
 frames:X.A.frames=ax X.stack
 stk:X.stack=X.outer\/(X.stack=X.env::X.outer/\X.env.frame=ax X.env.locals)
 exf:∀b∈X.ex,b≠X.env.locals/\∀x c,X.env.cells.lookup x=ax c->c≠b
 bs:∀b o,X.base.get? b=ax o->X.s₀.heap.get? b=ax o/\X.H₀ b=aA
 bsz:X.base.objs.size<=X.s₀.heap.objs.size
 noex:∀b o,X.base.get? b=ax o->b∉X.ex
 exfs:∀b∈X.ex,b∉X.fs
 funs:X.s₀.heap.FunFrames X.base X.outer
 frf:∀b∈X.fs,X.H₀ b=aA
 tab:TabsH X.K X.mg X.base X.H₀
 cod:∀q:bH,X.env.func≠aA->X.env.qual=q++".<locals>."->Po q=aC->dM X.K X.env.code q=aC
structure Inv(X:Cx)(p0:List (aL×dW))(σ:List (Option V))(H:Hp)(s:aO):Prop where
 ok:X.Ok
 os:s.os=X.s₀.os
 bare:k5 s.gens
 base:Un X.fs X.ex X.H₀ H X.s₀.heap s.heap
 loc:∃m,s.heap.Ns X.env.locals m/\∀(i:Nat)(x:bH)(v:V),X.N[i]?=ax x->σ[i]?=ax (ax v)->Vis X.env.scope x->∃u,RelV v u/\Znf X.env s.heap m x u
 cell:∀x c,X.env.cells.lookup x=ax c->∃v,s.heap.IsCell c v
 free:H X.env.locals=aA
 freeC:∀x c,X.env.cells.lookup x=ax c->H c=aA
 pin:∀p∈X.pn++p0,s.heap.get? p.1=ax p.2/\H p.1=aA/\p.1≠X.env.locals/\p.1∉X.fs/\∀v,p.2.data≠.cell v
 hok:HOk X.prog X.w H s.heap
 len:σ.length=X.N.length
section
variable {X:Cx} {p0:List (aL×dW)} {σ:List (Option V)} {H H':Hp} {s:aO} {h':ba}
theorem Cx.Ok.nofr(ok:X.Ok){b:aL}{o:dW}(e:X.base.get? b=ax o):b∉X.fs:=λa=>by have:=(ok.funs.mem a).1;rw[e] at this;cases this
theorem Inv.bs(I:Inv X p0 σ H s):∀b o,X.base.get? b=ax o->s.heap.get? b=ax o/\H b=aA:=λb o e=>
 ⟨I.base.keep b o (I.ok.bs b o e).1 (I.ok.bs b o e).2 (I.ok.nofr e) (I.ok.noex b o e),I.base.free b o (I.ok.bs b o e).1 (I.ok.bs b o e).2 (I.ok.noex b o e)⟩
theorem Inv.bk(I:Inv X p0 σ H s):∀b o,X.base.get? b=ax o->s.heap.get? b=ax o:=λb o e=>(I.bs b o e).1
theorem Inv.mod(I:Inv X p0 σ H s):Mod X.K X.mg X.base:=I.ok.mod
theorem Inv.kIn(I:Inv X p0 σ H s):X.K.In s.heap:=I.ok.mod.kin.keeps I.bk
theorem Inv.fr(I:Inv X p0 σ H s):∃m,Fr X.base X.env.locals s.heap m:=
 let⟨m,a,_⟩:=I.loc
 ⟨m,a,I.bk,cD I.ok.bsz I.ok.above⟩
theorem Inv.lt(I:Inv X p0 σ H s):X.env.locals<s.heap.objs.size:=let⟨_,a,_⟩:=I.loc;a.lt
theorem Inv.sz(I:Inv X p0 σ H s):X.s₀.heap.objs.size<=s.heap.objs.size:=cD I.ok.above (cJ I.lt)
theorem Inv.nofs(I:Inv X p0 σ H s){a:aL}(h:s.heap.objs.size<=a):a∉X.fs:=λb=>by obtain⟨_,o,c,_⟩:=I.ok.funs.mem b;exact absurd (bB (a9 c) (cD I.sz h)) (cS _)
theorem Inv.cne(I:Inv X p0 σ H s):∀x c,X.env.cells.lookup x=ax c->c≠X.env.locals:=λx c e z=>by obtain⟨v,o,d,hd⟩:=I.cell x c e;obtain⟨m,⟨f,g,ep,b,a,_⟩,_⟩:=I.loc;rw[z,b] at d;cases d;rw[a] at hd;cases hd
theorem Inv.funs(I:Inv X p0 σ H s):s.heap.FunFrames X.base X.outer:=by
 have all:∀(l:List ma),(∀b∈Kc l,b∈X.fs)->X.s₀.heap.FunFrames X.base l->s.heap.FunFrames X.base l:=by
  intro l
  induction l with
  | nil=>intro _ _;trivial
  | cons env r ih=>
   intro f j;obtain⟨k,⟨L,o,c,h,g,hd⟩,i⟩:=j;have a:L∈X.fs:=f L (by unfold Kc;rw[dS,c];exact ag);obtain⟨m,e⟩:=I.base.slot L o g (I.ok.frf L a) a λz=>I.ok.exfs L z a;exact⟨k,⟨L,_,c,h,e,hd⟩,ih (λb d=>f b (by unfold Kc;rw[dS,c];exact aN _ d)) i⟩
 exact all X.outer (λ_ d=>d) I.ok.funs
theorem Inv.stack(I:Inv X p0 σ H s):s.heap.FunFrames X.base X.stack:=by
 rcases I.ok.stk with e | ⟨e,b⟩
 ·rw[e];exact I.funs
 ·rw[e];obtain⟨m,a,_⟩:=I.loc;refine .cons (by rw[I.ok.kind];decide) b a ?_ I.funs;exact ba.get?_none_of_le (cD I.ok.bsz I.ok.above)
theorem Inv.stkSub(I:Inv X p0 σ H s):∀b∈Kc X.stack,b∈X.env.locals::X.fs:=λb a=>by
 rcases I.ok.stk with e | ⟨e,c⟩
 ·rw[e] at a;exact aN _ a
 ·rw[e] at a;unfold Kc at a;rw[dS,c] at a;exact a
theorem Inv.stkFree(I:Inv X p0 σ H s):∀b∈Kc X.stack,H b=aA:=λb a=>by
 rcases aa.mp (I.stkSub b a) with e | a
 ·rw[e];exact I.free
 ·obtain⟨_,o,c,_⟩:=I.ok.funs.mem a;exact I.base.free b o c (I.ok.frf b a) λz=>I.ok.exfs b z a
theorem Inv.step{Q:Array oV}{t':Nat}{T:Drawn}{ch:List aL}(I:Inv X p0 σ H s)
  (f:∀b∈ch,(b∈X.ex\/X.s₀.heap.objs.size<=b)/\b≠X.env.locals/\(∀x c,X.env.cells.lookup x=ax c->c≠b)/\∀p∈X.pn++p0,p.1≠b)
  (keep:∀b o,b≠X.env.locals->b∉X.fs->b∉ch->s.heap.get? b=ax o->H b=aA->h'.get? b=ax o)
  (w:∀b o,b≠X.env.locals->b∈X.fs->b∉ch->s.heap.get? b=ax o->H b=aA->∃N,h'.get? b=ax { o with slots:=N }) (free:∀b o,b∉ch->s.heap.get? b=ax o->H b=aA->H' b=aA)
  (y:∀b o,b∉ch->s.heap.get? b=ax o->∃D,h'.get? b=ax D)
  (C:∀b xs,H b=ax (.tup xs)->H' b=ax (.tup xs)) (J:∀b o u,H b=ax (.frz o u)->H' b=ax (.frz o u)) (F:∀b L,H b=ax (.tbl L)->∃more,H' b=ax (.tbl (L++more)))
  (ns:∀m,s.heap.Ns X.env.locals m->h'.Ns X.env.locals m) (O:HOk X.prog X.w H' h') (U:k5 Q) :
  Inv X p0 σ H' { s with heap:=h',gens:=Q,drawn:=T,toks:=t' }:=by
 have E:∀b o,X.s₀.heap.get? b=ax o->b≠X.env.locals:=λb o e=>bN (bB (a9 e) I.ok.above)
 have j:∀b o,X.s₀.heap.get? b=ax o->b∉X.ex->b∉ch:=λb o e a A=>by
  rcases(f b A).1 with z | z
  ·exact a z
  ·exact absurd (bB (a9 e) z) (cS _)
 have h:∀x c,X.env.cells.lookup x=ax c->∀v,s.heap.IsCell c v->h'.IsCell c v:=λx c e v ⟨o,B,hd⟩=>by
  have g:=λz=>(f c z).2.2.1 x c e rfl;by_cases P:c∈X.fs
  ·obtain⟨N,q⟩:=w c o (I.cne x c e) P g B (I.freeC x c e);exact⟨_,q,hd⟩
  ·exact⟨o,keep c o (I.cne x c e) P g B (I.freeC x c e),hd⟩
 refine⟨I.ok,I.os,U,⟨λb o e n A a=>?_,λb o e n A a=>?_,λb o e n a=>?_,λb o e a=>?_,λb xs e=>C b xs (I.base.tups b xs e),λb o xs e=>J b o xs (I.base.frzs b o xs e),λb L e=>?_⟩,?_,λx c e=>?_,?_,λx c e=>?_,λp S=>?_,O,I.len⟩
 ·exact keep b o (E b o e) A (j b o e a) (I.base.keep b o e n A a) (I.base.free b o e n a)
 ·obtain⟨N,t⟩:=I.base.slot b o e n A a;obtain⟨M,G⟩:=w b _ (E b o e) A (j b o e a) t (I.base.free b o e n a);exact⟨M,G⟩
 ·obtain⟨D,t⟩:=I.base.there b o e a;exact free b D (j b o e a) t (I.base.free b o e n a)
 ·obtain⟨D,t⟩:=I.base.there b o e a;exact y b D (j b o e a) t
 ·obtain⟨m1,t⟩:=I.base.tbls b L e;obtain⟨Z,G⟩:=F b _ t;exact⟨m1++Z,by rw[G,Array.append_assoc]⟩
 ·obtain⟨m,W,Y⟩:=I.loc;refine⟨m,ns m W,λi x v t G e3=>?_⟩;obtain⟨u,r,l⟩:=Y i x v t G e3;refine⟨u,r,?_⟩;rcases l with l | ⟨k,c,e,z⟩
  ·exact .inl l
  ·exact .inr ⟨k,c,e,h x c e _ z⟩
 ·obtain⟨v,z⟩:=I.cell x c e;exact⟨v,h x c e v z⟩
 ·obtain⟨m,⟨o,_,_,B,_⟩,_⟩:=I.loc;exact free _ o (λz=>(f _ z).2.1 rfl) B I.free
 ·obtain⟨v,o,B,hd⟩:=I.cell x c e;exact free c o (λz=>(f c z).2.2.1 x c e rfl) B (I.freeC x c e)
 ·obtain⟨e,n,ne,R,d⟩:=I.pin p S;have g:=λz=>(f p.1 z).2.2.2 p S rfl;exact⟨keep p.1 p.2 ne R g e n,free p.1 p.2 g e n,ne,R,d⟩
theorem Inv.un{t':Nat}(I:Inv X p0 σ H s)(u:Un X.fs [] H H' s.heap h')(d:HOk X.prog X.w H' h'):Inv X p0 σ H' { s with heap:=h',toks:=t' }:=by
 obtain⟨m,⟨o,k,ep,g,r⟩,_⟩:=id I.loc;obtain⟨p,h⟩:=u.any g I.free (by simp)
 exact I.step (ch:=[]) (λ_ z=>nomatch z) (λb o _ f _ e n=>u.keep b o e n f (by simp)) (λb o _ f _ e n=>u.slot b o e n f (by simp)) (λb o _ e n=>u.free b o e n (by simp)) (λb o _ e=>u.there b o e (by simp)) u.tups u.frzs u.tbls (λq j=>by
  obtain⟨l,es',c,a,i⟩:=j;rw[g] at a;cases a;exact⟨_,es',c,h,i⟩) d I.bare
theorem Inv.call{k:Array oV}{t':Nat}{l:Drawn}{ch:List aL}(I:Inv X p0 σ H s)(u:Un (Kc X.stack) ch H H' s.heap h')(i:HOk X.prog X.w H' h')(q:k5 k)
  (f:∀b∈ch,(b∈X.ex\/X.s₀.heap.objs.size<=b)/\b≠X.env.locals/\(∀x c,X.env.cells.lookup x=ax c->c≠b)/\∀p∈X.pn++p0,p.1≠b) :
  Inv X p0 σ H' { s with heap:=h',gens:=k,drawn:=l,toks:=t' }:=by
 obtain⟨m,⟨o,y,ep,j,r⟩,_⟩:=id I.loc;obtain⟨B,g⟩:=u.any j I.free λz=>(f _ z).2.1 rfl
 exact I.step f (λb o g w a e n=>u.keep b o e n (λz=>(aa.mp (I.stkSub b z)).elim g w) a) (λb o _ _ a e n=>u.any e n a) (λb o a e n=>u.free b o e n a) (λb o a e=>u.there b o e a) u.tups u.frzs u.tbls (λC v=>by
  obtain⟨A,es',h,d,t⟩:=v;rw[j] at d;cases d;exact⟨_,es',h,g,t⟩) i q
theorem Inv.turned{t':Nat}{a:aL}(I:Inv X p0 σ H s)(k:∀b o,b≠a->s.heap.get? b=ax o->h'.get? b=ax o)(j:H a=aA)(g:a≠X.env.locals)
  (l:a∈X.ex\/X.s₀.heap.objs.size<=a) (y:∀x c,X.env.cells.lookup x=ax c->c≠a) (t:∀p∈X.pn++p0,p.1≠a):Inv X p0 σ H { s with heap:=h',toks:=t' }:=by
 have f:∀b u,H b=ax u->b≠a:=λb u e z=>by rw[z,j] at e;cases e
 refine I.step (ch:=[a]) (λb A=>?_) (λb o _ _ d e _=>k b o (λz=>d (by simp[z])) e) (λb o _ _ d e _=>⟨o.slots,k b o (λz=>d (by simp[z])) e⟩) (λ_ _ _ _ n=>n)
  (λb o d e=>⟨o,k b o (λz=>d (by simp[z])) e⟩) (λ_ _ e=>e) (λ_ _ _ e=>e) (λb B e=>⟨#[],by rw[e];simp⟩) (λm w=>?_) (λb u e=>?_) I.bare
 ·have e:b=a:=by simpa using A
  subst e;exact⟨l,g,y,t⟩
 ·obtain⟨o,i,ep,h,r⟩:=w;exact⟨o,i,ep,k _ o (bX g) h,r⟩
 ·refine(I.hok b u e).stay (λc v d q=>k c v ?_ q) (λ_ q=>q) (λ_ _ q=>q) λ_ _ q=>q;rcases d with z | z
  ·rw[z];exact f b u e
  ·exact f c _ z
theorem Inv.tok(I:Inv X p0 σ H s)(t:Nat):Inv X p0 σ H { s with toks:=t }:=I.un Un.refl I.hok
theorem Inv.kept{t':Nat}(I:Inv X p0 σ H s)(k:∀b u,s.heap.get? b=ax u->h'.get? b=ax u):Inv X p0 σ H { s with heap:=h',toks:=t' }:=I.un (Un.kept k) (I.hok.kept k)
theorem Inv.laid{a:aL}{o:HO}{t':Nat}(I:Inv X p0 σ H s)(k:∀b u,s.heap.get? b=ax u->h'.get? b=ax u)(c:s.heap.objs.size<=a)(new:ObjOk X.prog X.w (upd H a o) h' a o) :
  Inv X p0 σ (upd H a o) { s with heap:=h',toks:=t' }:=I.un (Un.laid k c (I.hok.fresh c)) (I.hok.laid k c new)
theorem Inv.write{x e:aL}{o:HO}{t':Nat}(I:Inv X p0 σ H s)(d:UU (H x))(c:e=x\/H e=ax (.own x))(k:∀b u,b≠e->s.heap.get? b=ax u->h'.get? b=ax u)(a:∃u,h'.get? e=ax u)
  (new:ObjOk X.prog X.w (upd H x o) h' x o):Inv X p0 σ (upd H x o) { s with heap:=h',toks:=t' }:=I.un (Un.write d c k a) (I.hok.write d c k a new)
theorem Inv.weak{a:List (Option V)}(I:Inv X p0 σ H s)(c:a.length=σ.length)(w:∀(i:Nat) v,a[i]?=ax (ax v)->σ[i]?=ax (ax v)):Inv X p0 a H s:=
 ⟨I.ok,I.os,I.bare,I.base,let⟨m,d,b⟩:=I.loc;⟨m,d,λi x v g e f=>b i x v g (w i v e) f⟩,I.cell,I.free,I.freeC,I.pin,I.hok,c.trans I.len⟩
theorem Inv.pins_of{a:List (aL×dW)}(I:Inv X p0 σ H s)(h:∀p∈a,s.heap.get? p.1=ax p.2/\H p.1=aA/\p.1≠X.env.locals/\p.1∉X.fs/\∀v,p.2.data≠.cell v):Inv X a σ H s:=
 ⟨I.ok,I.os,I.bare,I.base,I.loc,I.cell,I.free,I.freeC,λp b=>(aV.mp b).elim (λz=>I.pin p (ao _ z)) (h p),I.hok,I.len⟩
theorem JT{N:List bH}(d:N.Nodup){i j:Nat}{x:bH}(a:N[i]?=ax x)(b:N[j]?=ax x):i=j:=by obtain⟨g,e⟩:=aR.mp a;obtain⟨f,c⟩:=aR.mp b;exact(kO d).mp (e.trans c.symm)
theorem DA{M:Model}{A:bq}{E:aI->aO->Prop}{i:Nat}{x:bH}{v:V}{u:aI}{Q:Unit->aO->Prop}(I:Inv X p0 σ H s)(hN:X.N.Nodup)(P:X.N[i]?=ax x)(w:BB X.env.scope x)(r:RelV v u)
  (h:∀s',Inv X p0 (σ.set i (ax v)) H s'->(∃a,cP a s.heap s'.heap/\(a=X.env.locals\/X.env.cells.lookup x=ax a))->Q () s') (hf:X.fn x=aC\/X.env.scope.names.lookup x=ax .local:=by first | exact .inl rfl | exact .inr rfl | assumption):bJ M A (storeName X.env x u) Q E s:=by
 obtain⟨m,hn,hl⟩:=id I.loc;have S:(X.env.scope.kind==.class || (X.env.scope.kind==.module&&X.env.locals != X.env.globals))=aB:=by rw[I.ok.kind];rfl
 have D:i<σ.length:=by rw[I.len];exact(aR.mp P).1
 have cne:=I.cne
 have g:∀{a:aL}{h':ba},(∃o,s.heap.get? a=ax o/\H a=aA)->cP a s.heap h'->HOk X.prog X.w H h':=λ{a h'} ha f b ob e=>by
  obtain⟨_,_,B⟩:=ha;refine(I.hok b ob e).stay (λc U t q=>(f.2 c ?_).trans q) (λ_ q=>q) (λ_ _ q=>q) λ_ _ q=>q;rintro rfl;rcases t with rfl | t
  ·rw[B] at e;cases e
  ·rw[B] at t;cases t
 rcases w with F | F
 ·refine wpAny_storeName_local F hn (λh' Y f=>?_) S;obtain⟨oL,_,_,hoL,_⟩:=id hn;refine h _ ⟨I.ok,I.os,I.bare,⟨λb o e n L w=>?_,λb o e n L w=>?_,I.base.free,λb o e w=>?_,I.base.tups,I.base.frzs,I.base.tbls⟩,⟨_,Y,λj y v' l C e3=>?_⟩,λy c e=>?_,I.free,I.freeC,λp hp=>?_,g ⟨oL,hoL,I.free⟩ f,by simpa using I.len⟩ ⟨_,f,.inl rfl⟩
  ·exact(f.2 b (bN (bB (a9 e) I.ok.above))).trans (I.base.keep b o e n L w)
  ·obtain⟨sl,l⟩:=I.base.slot b o e n L w;exact⟨sl,(f.2 b (bN (bB (a9 e) I.ok.above))).trans l⟩
  ·obtain⟨Z,l⟩:=I.base.there b o e w;exact⟨Z,(f.2 b (bN (bB (a9 e) I.ok.above))).trans l⟩
  ·by_cases G:j=i
   ·subst G;rw[P] at l;cases l;rw[iK D] at C;cases C;exact⟨u,r,.inl ⟨F,by simp⟩⟩
   ·rw[i9 (bX G)] at C;obtain⟨u',r',q⟩:=hl j y v' l C e3;refine⟨u',r',?_⟩;rcases q with⟨k,e⟩ | ⟨k,c,e,z⟩
    ·refine .inl ⟨k,?_⟩;have:y≠x:=λe=>G (JT hN l (e▸P));simp[this,e]
    ·exact .inr ⟨k,c,e,z.sameBut f (cne y c e)⟩
  ·obtain⟨U,z⟩:=I.cell y c e;exact⟨U,z.sameBut f (cne y c e)⟩
  ·obtain⟨e,n,ne,nf,d⟩:=I.pin p hp;exact⟨(f.2 p.1 ne).trans e,n,ne,nf,d⟩
 ·have J:X.fn x=aC:=by
   rcases hf with z | z
   ·exact z
   ·rw[z] at F;cases F
  obtain⟨c,t⟩:=I.ok.has x (.inl F);obtain⟨U,z⟩:=I.cell x c t;refine wpAny_storeName_cell I.ok.kind F t z (λh' R f=>?_);obtain⟨oc,O,T⟩:=id z;refine h { s with heap:=h' } ⟨I.ok,I.os,I.bare,⟨λb o e n L w=>?_,λb o e n L w=>?_,I.base.free,λb o e w=>?_,I.base.tups,I.base.frzs,I.base.tbls⟩,⟨m,hn.sameBut f (bX (cne x c t)),λj y v' l C e3=>?_⟩,λy W e=>?_,I.free,I.freeC,λp hp=>?_,g ⟨oc,O,I.freeC x c t⟩ f,by simpa using I.len⟩ ⟨c,f,.inr t⟩
  ·exact(f.2 b (bN (bB (a9 e) (I.ok.cab x c J t)))).trans (I.base.keep b o e n L w)
  ·obtain⟨sl,l⟩:=I.base.slot b o e n L w;exact⟨sl,(f.2 b (bN (bB (a9 e) (I.ok.cab x c J t)))).trans l⟩
  ·obtain⟨Z,l⟩:=I.base.there b o e w;exact⟨Z,(f.2 b (bN (bB (a9 e) (I.ok.cab x c J t)))).trans l⟩
  ·by_cases G:j=i
   ·subst G;rw[P] at l;cases l;rw[iK D] at C;cases C;exact⟨u,r,.inr ⟨.inl F,c,t,R⟩⟩
   ·rw[i9 (bX G)] at C;obtain⟨u',r',q⟩:=hl j y v' l C e3;refine⟨u',r',?_⟩;rcases q with q | ⟨k,W,e,z'⟩
    ·exact .inl q
    ·refine .inr ⟨k,W,e,z'.sameBut f ?_⟩;rintro rfl;exact G (JT hN l (I.ok.inj _ _ _ e t▸P))
  ·by_cases N:W=c
   ·subst N;exact⟨_,R⟩
   ·obtain⟨w2,z2⟩:=I.cell y W e;exact⟨w2,z2.sameBut f N⟩
  ·obtain⟨e,n,ne,nf,d⟩:=I.pin p hp;refine⟨(f.2 p.1 ?_).trans e,n,ne,nf,d⟩;intro q;rw[q,O] at e;have q':oc=p.2:=bC e;exact d U (by rw[<-q'];exact T)
theorem S6{M:Model}{A:bq}{E:aI->aO->Prop}{i:Nat}{x:bH}{v:V}{u:aI}{Q:Unit->aO->Prop}(I:Inv X p0 σ H s)(d:X.N.Nodup)(e:X.N[i]?=ax x)(b:BB X.env.scope x)(r:RelV v u)
  (h:∀a,Inv X p0 (σ.set i (ax v)) H a->Q () a) (f:X.fn x=aC\/X.env.scope.names.lookup x=ax .local:=by first | exact .inl rfl | exact .inr rfl | assumption):bJ M A (storeName X.env x u) Q E s:=
 DA I d e b r (λa c _=>h a c) f
theorem Inv.call'{a:aO}{ch:List aL}(I:Inv X p0 σ H s)(h:a.os=s.os)(u:Un (Kc X.stack) ch H H' s.heap a.heap)(d:HOk X.prog X.w H' a.heap)(g:k5 a.gens)
  (f:∀b∈ch,(b∈X.ex\/X.s₀.heap.objs.size<=b)/\b≠X.env.locals/\(∀x c,X.env.cells.lookup x=ax c->c≠b)/\∀p∈X.pn++p0,p.1≠b):Inv X p0 σ H' a:=by
 obtain⟨h',k,j,t',i⟩:=a;have e:=h;subst e;exact I.call u d g f
end
abbrev XK:=aI->Option aL->Hp->Prop
abbrev St:=List (Option V)
abbrev VK:=V->Hp->Prop
abbrev TE:=St->Hp->VK->Prop
abbrev TT:=St->Hp->(Bool->Hp->Prop)->Prop
abbrev TA:=St->Hp->(List V->Hp->Prop)->Prop
structure Y9 where
 nx:St->Hp->Prop
 rt:VK
 bk:St->Hp->Prop:=λ_ _=>False
 ct:St->Hp->Prop:=λ_ _=>False
abbrev TS:=Y9->St->Hp->Prop
noncomputable def EP(X:Cx)(p0:List (aL×dW))(σ:St)(Q:VK)(u:aI)(s':aO):Prop:=∃v H',Inv X p0 σ H' s'/\RelV v u/\Q v H'
noncomputable def TP(X:Cx)(p0:List (aL×dW))(σ:St)(Q:Bool->Hp->Prop)(b:Bool)(s':aO):Prop:=∃H',Inv X p0 σ H' s'/\Q b H'
noncomputable def AP(X:Cx)(p0:List (aL×dW))(σ:St)(Q:List V->Hp->Prop)(us:List aI)(s':aO):Prop:=∃vs H',Inv X p0 σ H' s'/\Vals vs us/\Q vs H'
noncomputable def SP(X:Cx)(p0:List (aL×dW))(D:Y9)(f:Flow)(s':aO):Prop:=
 match f with
 | .next=>∃σ' H',Inv X p0 σ' H' s'/\D.nx σ' H'
 | .brk=>∃σ' H',Inv X p0 σ' H' s'/\D.bk σ' H'
 | .cont=>∃σ' H',Inv X p0 σ' H' s'/\D.ct σ' H'
 | .ret u=>∃v σ' H',Inv X p0 σ' H' s'/\RelV v u/\D.rt v H'
noncomputable def PE(X:Cx)(e:bO)(t:TE):Prop:=
 ∀(p0:List (aL×dW))(s:aO)(σ:St)(H:Hp)(Q:VK),Inv X p0 σ H s->t σ H Q->bJ (model X.prog X.w) X.A (eval e X.env) (EP X p0 σ Q) X.xe s
noncomputable def PT(X:Cx)(e:bO)(t:TT):Prop:=
 ∀(p0:List (aL×dW))(s:aO)(σ:St)(H:Hp)(Q:Bool->Hp->Prop),Inv X p0 σ H s->t σ H Q->bJ (model X.prog X.w) X.A (md e X.env (eval e X.env)) (TP X p0 σ Q) X.xe s
noncomputable def PW(X:Cx)(e:bO)(t:TT):Prop:=
 ∀(whole:Sem aI)(p0:List (aL×dW))(s:aO)(σ:St)(H:Hp)(Q:Bool->Hp->Prop),Inv X p0 σ H s->t σ H Q->bJ (model X.prog X.w) X.A (md e X.env whole) (TP X p0 σ Q) X.xe s
theorem PW.pt{X:Cx}{e:bO}{t:TT}(h:PW X e t):PT X e t:=h _
noncomputable def PA(X:Cx)(es:List bO)(t:TA):Prop:=
 ∀(pos:dw)(p0:List (aL×dW))(s:aO)(σ:St)(H:Hp)(Q:List V->Hp->Prop),Inv X p0 σ H s->t σ H Q->bJ (model X.prog X.w) X.A (spliced (dC pos (aP es X.env))) (AP X p0 σ Q) X.xe s
noncomputable def PS(X:Cx)(st:cB)(t:TS):Prop:=
 ∀(p0:List (aL×dW))(s:aO)(σ:St)(H:Hp)(D:Y9),Inv X p0 σ H s->t D σ H->bJ (model X.prog X.w) X.A (exec st X.env) (SP X p0 D) X.xe s
noncomputable def PSs(X:Cx)(st:List cB)(t:TS):Prop:=
 ∀(p0:List (aL×dW))(s:aO)(σ:St)(H:Hp)(D:Y9),Inv X p0 σ H s->t D σ H->bJ (model X.prog X.w) X.A (execs st X.env) (SP X p0 D) X.xe s
theorem Yo{b:Type}{t:Sem b}{Q c:b->aO->Prop}{M:Model}{A:bq}{E:aI->aO->Prop}{s:aO}(h:bJ M A t Q E s)(d:∀a s,Q a s->c a s):bJ M A t c E s:=cU h d λ_ _ x=>x
section
variable {X:Cx}
theorem bin{a b:bO}{l k:TE}(p:PE X a l)(A:PE X b k){i:List (aL×dW)}{s:aO}{d:St}{H:Hp}{R:V->V->Hp->Prop}(I:Inv X i d H s)(h:l d H λx j=>k d j λy c=>R x y c)
  {m:Type} {Q:m->aO->Prop} {f:aI->aI->Sem m}
  (q:∀v u s2 x y c,Inv X i d c s2->RelV x v->RelV y u->R x y c->bJ (model X.prog X.w) X.A (f v u) Q X.xe s2) :
  bJ (model X.prog X.w) X.A (eval a X.env) (λv g=>bJ (model X.prog X.w) X.A (eval b X.env) (λu e=>bJ (model X.prog X.w) X.A (f v u) Q X.xe e) X.xe g) X.xe s:=by
 refine Yo (p i s d H _ I h) λv s1 ⟨x,j,t,o,w⟩=>?_;refine Yo (A i s1 d j _ t w) λu s2 ⟨y,c,B,z,n⟩=>?_;exact q v u s2 x y c B o z n
noncomputable def Pp(i:Nat):TE:=λσ H Q=>∃v,σ[i]?=ax (ax v)/\Q v H
noncomputable def tC(v:V):TE:=λ_ H Q=>Q v H
theorem BC{i:Nat}{x:bH}{pos:dw}(p:X.N[i]?=ax x)(j:Vis X.env.scope x)(hd:(x==("__debug__" : bH))=aB:=by decide)(f:(x==("__classdict__" : bH))=aB:=by decide):PE X (.Name x pos) (Pp i):=by
 intro k s q H Q I h;obtain⟨v,e,h⟩:=h;obtain⟨m,n,o⟩:=I.loc;obtain⟨u,r,l⟩:=o i x v p e j;have b:EP X k q Q u s:=⟨v,H,I,r,h⟩;rcases l with⟨d,t⟩ | ⟨d,c,g,a⟩
 ·exact oW (lX I.ok.kind d n t b) hd
 ·rcases d with d | d
  ·exact oW (mQ I.ok.kind d g a b) hd
  ·exact oW (wpAny_loadName_free I.ok.kind d g a b f) hd
theorem Zhr{i j pos}:PE X (.Constant (.int i) j pos) (tC (.int i)):=λ_ _ _ H _ I h=>wpAny_Constant_int ⟨.int i,H,I.tok _,⟨_,rfl⟩,h⟩
theorem Zkk{b j pos}:PE X (.Constant (.bool b) j pos) (tC (.bl b)):=λ_ _ _ H _ I h=>Constant_bool ⟨.bl b,H,I,rfl,h⟩
theorem Zhs{j pos}:PE X (.Constant .none j pos) (tC .non):=λ_ _ _ H _ I h=>mV ⟨.non,H,I,rfl,h⟩
noncomputable def Gl(X:Cx)(x:bH):Prop:=X.env.kindOf x=ax .globalImplicit
theorem Kd{E:aI->aO->Prop}{b:List (aL×dW)}{s:aO}{c:St}{H:Hp}{x:bH}{u:aI}{pos:dw}{Q:aI->aO->Prop}(I:Inv X b c H s)(a:Gl X x)(d:X.mg x=ax u)(h:Q u s)
  (hd:(x==("__debug__" : bH))=aB:=by decide):bJ (model X.prog X.w) X.A (eval (.Name x pos) X.env) Q E s:=
 jY I.ok.kind a (Calls.loadGlobal_global (by rw[I.ok.glob];exact I.mod.glob.keeps I.bk) d h) hd
theorem XZ{E:aI->aO->Prop}{b:List (aL×dW)}{s:aO}{f:St}{H:Hp}{x:bH}{u:aI}{pos:dw}{Q:aI->aO->Prop}(I:Inv X b f H s)(c:Gl X x)(g:X.mg x=aA)(a:dB x=ax u)(h:Q u s)
  (d:x≠"__name__":=by decide) (hd:(x==("__debug__" : bH))=aB:=by decide):bJ (model X.prog X.w) X.A (eval (.Name x pos) X.env) Q E s:=by
 obtain⟨j,e,i⟩:=I.mod.blt;exact jY I.ok.kind c (Calls.loadGlobal_builtin (by rw[I.ok.glob];exact I.mod.glob.keeps I.bk) g (by rw[I.ok.blt];exact e.keeps I.bk) ((i x d).trans a) h) hd
theorem Zc6{x:bH}{v:V}{u:aI}{pos:dw}(a:Gl X x)(b:X.mg x=ax u)(r:RelV v u)(hd:(x==("__debug__" : bH))=aB:=by decide):PE X (.Name x pos) (tC v):=
 λ_ _ _ H _ I h=>Kd I a b ⟨v,H,I,r,h⟩ hd
theorem Zc7{x:bH}{v:V}{u:aI}{pos:dw}(a:Gl X x)(c:X.mg x=aA)(b:dB x=ax u)(r:RelV v u)(d:x≠"__name__":=by decide)(hd:(x==("__debug__" : bH))=aB:=by decide):PE X (.Name x pos) (tC v):=
 λ_ _ _ H _ I h=>XZ I a c b ⟨v,H,I,r,h⟩ d hd
variable {a b:bO} {ta tb:TE} {pos:dw}
noncomputable def PC(X:Cx)(op:nK)(a b:bO)(t:TE):Prop:=
 ∀(p0:List (aL×dW))(s:aO)(σ:St)(H:Hp)(Q:VK),Inv X p0 σ H s->t σ H Q->
  bJ (model X.prog X.w) X.A (eval a X.env) (λv s₁=>bJ (model X.prog X.w) X.A (eval b X.env) (λu s₂=>bJ (model X.prog X.w) X.A (dH op v u) (EP X p0 σ Q) X.xe s₂) X.xe s₁) X.xe s
theorem BD(b:bO){op:nK}(h:op≠.In)(a:op≠.NotIn):cY op b=aB:=by
 have d:(op==nK.In)=aB:=by cases op<;>first | rfl | exact absurd rfl h
 have c:(op==nK.NotIn)=aB:=by cases op<;>first | rfl | exact absurd rfl a
 cases b<;>simp[cY,d,c]
noncomputable def Zkl(ta:TE):TE:=λσ H Q=>ta σ H λx H1=>Q (.bl (decide (x = .non))) H1
noncomputable def Zgs(ta:TE):TE:=λσ H Q=>ta σ H λx H1=>Q (.bl (!decide (x = .non))) H1
theorem RelV.none_iff{x:V}{v:aI}(r:RelV x v):(v==oU)=decide (x = .non):=by
 cases x with
 | non=>cases r;rfl
 | bl _=>cases r;rfl
 | int _=>obtain⟨t,rfl⟩:=r;rfl
 | str _=>obtain⟨t,rfl⟩:=r;rfl
 | byt _=>obtain⟨t,rfl⟩:=r;rfl
 | flt _=>obtain⟨t,rfl⟩:=r;rfl
 | ref _=>cases r;rfl
 | ty _=>cases r;rfl
theorem Zht{j pos'}(i:PE X a ta):PC X .Is a (.Constant .none j pos') (Zkl ta):=by intro b s f H Q I h;refine Yo (i b s f H _ I h) λv s1 ⟨x,c,d,e,g⟩=>?_;exact mV (is_none_gen ⟨.bl _,c,d,by rw[e.none_iff];rfl,g⟩)
theorem Zc8{j pos'}(i:PE X a ta):PC X .IsNot a (.Constant .none j pos') (Zgs ta):=by intro b s f H Q I h;refine Yo (i b s f H _ I h) λv s1 ⟨x,c,d,e,g⟩=>?_;exact mV (isnot_none_gen ⟨.bl _,c,d,by rw[e.none_iff];rfl,g⟩)
noncomputable def tB(t:TE):TT:=λσ H Q=>t σ H λx H1=>∃c,x = .bl c/\Q c H1
theorem HV{op:nK}{t:TE}(h:PC X op a b t)(e:cY op b=aB:=by first | exact BD _ (by decide) (by decide) | rfl):PT X (.Compare a [op] [b] pos) (tB t):=by intro f s k H Q I n;refine lN (Yo (h f s k H _ I n) λv s1 e=>Yo e λu s2 m=>Yo m λc o ⟨x,g,j,i,l⟩=>?_) e;obtain⟨d,rfl,q⟩:=l;cases i;exact dN ⟨g,j,q⟩
theorem Zhu{e:bO}{t:TE}(h:PE X e t)(g:∀whole,md e X.env whole=(do let v <-whole;oT e.pos;holding [v] (truthy v)):=by intro _;rfl):PT X e (tB t):=by intro a s i H Q I k;refine isTrue_plain (Yo (h a s i H _ I k) λv s1 ⟨x,b,f,c,j⟩=>?_) (g _);obtain⟨d,rfl,q⟩:=j;cases c;exact dN ⟨b,f,q⟩
variable {tA tB':TT} {YC:List bO}
noncomputable def Zkm(t u:TT):TT:=λσ H Q=>t σ H λc H1=>if c=aC then u σ H1 Q else Q aB H1
noncomputable def tOr(t u:TT):TT:=λσ H Q=>t σ H λc H1=>if c=aC then Q aC H1 else u σ H1 Q
noncomputable def Zng(t:TT):TT:=λσ H Q=>t σ H λc H1=>Q (!c) H1
theorem Zc9(f:PT X a tA):PW X (.BoolOp .And [a] pos) tA:=by
 intro g b s d H Q I h;refine isTrue_and (Yo (f b s d H Q I h) λc s1 e=>?_)
 cases c with
 | true=>exact isTrue_and_nil e
 | false=>exact e
theorem Zhv(f:PT X a tA):PW X (.BoolOp .Or [a] pos) tA:=by
 intro g b s d H Q I h;refine isTrue_or (Yo (f b s d H Q I h) λc s1 e=>?_)
 cases c with
 | false=>exact isTrue_or_nil e
 | true=>exact e
theorem Zhw(l:PT X a tA)(k:PW X (.BoolOp .And (b::YC) pos) tB'):PW X (.BoolOp .And (a::b::YC) pos) (Zkm tA tB'):=by
 intro j d s g H Q I h;refine isTrue_and (Yo (l d s g H _ I h) λc s1 ⟨e,f,i⟩=>?_)
 cases c with
 | true=>exact k j d s1 g e Q f i
 | false=>exact⟨e,f,i⟩
theorem Zkn(l:PT X a tA)(k:PW X (.BoolOp .Or (b::YC) pos) tB'):PW X (.BoolOp .Or (a::b::YC) pos) (tOr tA tB'):=by
 intro j d s g H Q I h;refine isTrue_or (Yo (l d s g H _ I h) λc s1 ⟨e,f,i⟩=>?_)
 cases c with
 | true=>exact⟨e,f,i⟩
 | false=>exact k j d s1 g e Q f i
theorem Zhx(f:PT X a tA):PT X (.UnaryOp .Not a pos) (Zng tA):=by intro b s e H Q I h;exact isTrue_not (f b s e H (λc d=>Q (!c) d) I h)
noncomputable def Zko(ta tb:TE):TE:=λσ H Q=>ta σ H λx H1=>∃c,x = .bl c/\if c=aC then tb σ H1 Q else Q (.bl aB) H1
noncomputable def Zkp(ta:TE):TE:=λσ H Q=>ta σ H λx H1=>∃c,x = .bl c/\Q (.bl (!c)) H1
theorem Zhy{op}{t:TE}(h:PE X a t):PE X (.BoolOp op [a] pos) t:=λb s d H Q I c=>BoolOp_one (h b s d H Q I c)
theorem Zhz(l:PE X a ta)(j:PE X (.BoolOp .And (b::YC) pos) tb):PE X (.BoolOp .And (a::b::YC) pos) (Zko ta tb):=by
 intro e s i H Q I h;refine BoolOp_and (Yo (l e s i H _ I h) λv s1 ⟨x,f,g,k,d⟩=>?_);obtain⟨c,rfl,d⟩:=d;cases k;refine dN ?_
 cases c with
 | true=>exact j e s1 i f Q g d
 | false=>exact⟨.bl aB,f,g,rfl,d⟩
theorem Zh0(j:PE X a ta):PE X (.UnaryOp .Not a pos) (Zkp ta):=by intro d s i H Q I h;refine UnaryOp_ (Yo (j d s i H _ I h) λv s1 ⟨x,e,f,g,b⟩=>?_);obtain⟨c,rfl,b⟩:=b;cases g;exact not_of (dN ⟨.bl (!c),e,f,rfl,b⟩)
noncomputable def tIf(t:TT)(ta tb:TE):TE:=λσ H Q=>t σ H λc H1=>if c=aC then ta σ H1 Q else tb σ H1 Q
theorem BE{c:bO}(l:PT X c tA)(m:PE X a ta)(k:PE X b tb):PE X (.IfExp c a b pos) (tIf tA ta tb):=by
 intro e s f H Q I h;refine wpAny_IfExp (Yo (l e s f H _ I h) λd s1 ⟨g,i,j⟩=>?_)
 cases d with
 | true=>exact m e s1 f g Q i j
 | false=>exact k e s1 f g Q i j
end
noncomputable def SqL(K:aH)(H:Hp)(a:aL)(xs:List V):Prop:=
 Rd H a (.lst xs)\/
  ∃(o:dW) (p8:Array aI) (n:Nat),K.lookup a=ax o/\o.cls = .type "list"/\o.dict=aA/\o.data = .seq p8 n/\p8.size<=sizeLine/\Vals xs p8.toList
noncomputable def SqT(K:aH)(H:Hp)(a:aL)(xs:List V):Prop:=
 Rd H a (.tup xs)\/
  ∃(o:dW) (p8:Array aI) (n:Nat),K.lookup a=ax o/\o.cls = .type "tuple"/\o.data = .seq p8 n/\p8.size<=sizeLine/\Vals xs p8.toList
noncomputable def Znh:aI->Option V
 | .none=>ax .non
 | .bool b=>ax (.bl b)
 | .int i _=>ax (.int i)
 | .str x _=>ax (.str x)
 | .bytes b _=>ax (.byt b)
 | .float b _=>ax (.flt b)
 | .ref a=>ax (.ref a)
 | .type n=>ax (.ty n)
 | _=>aA
theorem RelV.abs{x:V}{u:aI}(r:RelV x u):Znh u=ax x:=by
 cases x with
 | non=>cases r;rfl
 | bl _=>cases r;rfl
 | int _=>obtain⟨t,rfl⟩:=r;rfl
 | str _=>obtain⟨t,rfl⟩:=r;rfl
 | byt _=>obtain⟨t,rfl⟩:=r;rfl
 | flt _=>obtain⟨t,rfl⟩:=r;rfl
 | ref _=>cases r;rfl
 | ty _=>cases r;rfl
theorem RelV.inj{x y:V}{u:aI}(r:RelV x u)(q:RelV y u):x=y:=bC (r.abs.symm.trans q.abs)
theorem Vals.inj:∀{xs ys:List V}{us:List aI},Vals xs us->Vals ys us->xs=ys
 | _,_,_,.nil,.nil=>rfl
 | _,_,_,.cons r t,.cons r' t'=>by rw[r.inj r',Vals.inj t t']
section
variable {X:Cx} {p0:List (aL×dW)} {σ:St} {H:Hp} {s:aO} {a:aL} {xs ys:List V}
theorem SqL.of{K:aH}(h:H a=ax (.lst xs)):SqL K H a xs:=.inl (.inl h)
theorem SqT.of{K:aH}(h:H a=ax (.tup xs)):SqT K H a xs:=.inl (.inl h)
theorem Inv.list(I:Inv X p0 σ H s)(h:SqL X.K H a xs):∃b:List aI,Vals xs b/\PlainL s.heap a b.toArray/\xs.length<=sizeLine:=by
 rcases h with h | ⟨o,b,n,f,d,hd,c,g,r⟩
 ·obtain⟨z,b,n,r,e⟩:=h.ok I.hok;exact⟨b,r,⟨_,n,e,rfl,rfl,rfl⟩,z⟩
 ·refine⟨b.toList,r,⟨o,n,I.kIn a o f,d,hd,by simpa using c⟩,?_⟩;have e:=r.length;simp only[cM] at e;omega
theorem Inv.tuple(I:Inv X p0 σ H s)(h:SqT X.K H a xs):∃b:List aI,Vals xs b/\IsTup s.heap a b.toArray/\xs.length<=sizeLine:=by
 rcases h with h | ⟨o,b,n,f,d,c,g,r⟩
 ·obtain⟨z,b,r,p⟩:=h.ok I.hok;exact⟨b,r,p,z.1⟩
 ·refine⟨b.toList,r,⟨o,I.kIn a o f,d,n,by simpa using c⟩,?_⟩;have e:=r.length;simp only[cM] at e;omega
theorem Inv.list_inj(I:Inv X p0 σ H s)(h:SqL X.K H a xs)(h':SqL X.K H a ys):xs=ys:=by
 obtain⟨g,r,⟨o,n,e,_,_,d⟩,_⟩:=I.list h;obtain⟨b,i,⟨j,k,c,_,_,f⟩,_⟩:=I.list h';rw[e] at c;cases c;rw[d] at f;injection f with d1 _
 have:g=b:=by simpa using congrArg pO d1
 subst this;exact r.inj i
theorem Inv.tuple_inj(I:Inv X p0 σ H s)(h:SqT X.K H a xs)(h':SqT X.K H a ys):xs=ys:=by
 obtain⟨g,r,⟨o,e,_,n,d⟩,_⟩:=I.tuple h;obtain⟨b,i,⟨j,c,_,k,f⟩,_⟩:=I.tuple h';rw[e] at c;cases c;rw[d] at f;injection f with d1 _
 have:g=b:=by simpa using congrArg pO d1
 subst this;exact r.inj i
end
abbrev Cx.wish(X:Cx)(E:aI->aO->Prop):Cx:={ X with xe:=E }
abbrev Cx.nox(X:Cx):Cx:=X.wish λ_ _=>False
theorem Cx.Ok.wish{X:Cx}(ok:X.Ok)(E:aI->aO->Prop):(X.wish E).Ok:=
 ⟨ok.mod,ok.kind,ok.glob,ok.blt,ok.above,ok.inj,ok.has,ok.cab,ok.hd,ok.frames,ok.stk,ok.exf,ok.bs,ok.bsz,ok.noex,ok.exfs,ok.funs,ok.frf,ok.tab,ok.cod⟩
theorem Cx.Ok.unwish{X:Cx}{E:aI->aO->Prop}(ok:(X.wish E).Ok):X.Ok:=
 ⟨ok.mod,ok.kind,ok.glob,ok.blt,ok.above,ok.inj,ok.has,ok.cab,ok.hd,ok.frames,ok.stk,ok.exf,ok.bs,ok.bsz,ok.noex,ok.exfs,ok.funs,ok.frf,ok.tab,ok.cod⟩
section
variable {X:Cx} {p0:List (aL×dW)} {σ:St} {H:Hp} {s:aO} {E:aI->aO->Prop}
theorem Inv.wish(I:Inv X p0 σ H s)(E:aI->aO->Prop):Inv (X.wish E) p0 σ H s:=⟨I.ok.wish E,I.os,I.bare,I.base,I.loc,I.cell,I.free,I.freeC,I.pin,I.hok,I.len⟩
theorem Inv.unwish(I:Inv (X.wish E) p0 σ H s):Inv X p0 σ H s:=⟨I.ok.unwish,I.os,I.bare,I.base,I.loc,I.cell,I.free,I.freeC,I.pin,I.hok,I.len⟩
theorem SP.unwish{D:Y9}{f:Flow}{c:aO}(h:SP (X.wish E) p0 D f c):SP X p0 D f c:=by
 cases f with
 | next=>obtain⟨a,b,I,q⟩:=h;exact⟨a,b,I.unwish,q⟩
 | brk=>obtain⟨a,b,I,q⟩:=h;exact⟨a,b,I.unwish,q⟩
 | cont=>obtain⟨a,b,I,q⟩:=h;exact⟨a,b,I.unwish,q⟩
 | ret u=>obtain⟨v,a,b,I,r,q⟩:=h;exact⟨v,a,b,I.unwish,r,q⟩
theorem PSs.nox{st:List cB}{t:TS}(h:PSs X.nox st t):PSs X st t:=λa s c H D I b=>
 cU (h a s c H D (I.wish _) b) (λ_ _ q=>q.unwish) λ_ _ z=>dD z
end
section
variable {X:Cx} {st:cB} {YC:List cB} {t u:TS} {e:bO} {te:TE} {pos:dw}
noncomputable def Zgt:TS:=λD σ H=>D.nx σ H
noncomputable def Zni(t u:TS):TS:=λD σ H=>t { D with nx:=u D } σ H
theorem Zda:PSs X [] Zgt:=λ_ _ a H _ I h=>jD ⟨a,H,I,h⟩
theorem JU(g:PS X st t)(c:PSs X YC u):PSs X (st::YC) (Zni t u):=by
 intro b s i H D I h;refine wpAny_execs_cons (Yo (g b s i H { D with nx:=u D } I h) λf s1 q=>?_)
 cases f with
 | next=>
  obtain⟨a,d,e,q⟩:=q;exact c b s1 a d D e q
 | ret v=>exact q
 | brk=>exact q
 | cont=>exact q
theorem Zdb(b:PS X st t):PSs X [st] t:=by
 intro a s c H D I h;refine wpAny_execs_cons (Yo (b a s c H D I h) λf s1 q=>?_)
 cases f with
 | next=>exact jD q
 | ret v=>exact q
 | brk=>exact q
 | cont=>exact q
theorem Inv.quiet{a:List (aL×dW)}{b:St}{H:Hp}{s:aO}(I:Inv X a b H s):interactive X.env=aB:=by simp[interactive,I.ok.kind]
noncomputable def F5(te:TE):TS:=λD σ H=>te σ H λ_ H1=>D.nx σ H1
theorem Y3(f:PE X e te)(g:iC e aA pos.line X.env=pure aB:=by rfl):PS X (.Expr e pos) (F5 te):=by intro b s a H D I h;exact wpAny_Expr_any (Yo (f b s a H _ I h) λv s1 ⟨x,c,d,j,i⟩=>⟨a,c,d,i⟩) I.quiet g
noncomputable def Znj(te:TE):TS:=λD σ H=>te σ H D.rt
theorem HW(g:PE X e te):PS X (.Return (ax e) pos) (Znj te):=by intro b s a H D I h;exact wpAny_Return_some (Yo (g b s a H _ I h) λv s1 ⟨x,c,d,f,i⟩=>⟨x,a,c,d,f,i⟩)
noncomputable def Znk(c:TT)(t u:TS):TS:=λD σ H=>c σ H λb H1=>if b=aC then t D σ H1 else u D σ H1
theorem Zkq{c:bO}{a b:List cB}{i:TT}(l:PT X c i)(m:PSs X a t)(n:PSs X b u):PS X (.If c a b pos) (Znk i t u):=by
 intro e s f H D I h;refine wpAny_If (Yo (l e s f H _ I h) λd s1 ⟨g,j,k⟩=>?_)
 cases d with
 | true=>exact m e s1 f g D j k
 | false=>exact n e s1 f g D j k
end
abbrev TG:=V->St->Hp->(St->Hp->Prop)->Prop
abbrev TGs:=List V->St->Hp->(St->Hp->Prop)->Prop
noncomputable def PG(X:Cx)(target:bO)(t:TG):Prop:=
 ∀(p0:List (aL×dW))(s:aO)(σ:St)(H:Hp)(v:V)(u:aI)(Q:St->Hp->Prop),Inv X p0 σ H s->RelV v u->t v σ H Q->
  bJ (model X.prog X.w) X.A (assign target X.env u) (λ_ s'=>∃σ' H',Inv X p0 σ' H' s'/\Q σ' H') X.xe s
noncomputable def PGs(X:Cx)(ts:List bO)(t:TGs):Prop:=
 ∀(p0:List (aL×dW))(s:aO)(σ:St)(H:Hp)(vs:List V)(us:List aI)(Q:St->Hp->Prop),Inv X p0 σ H s->Vals vs us->t vs σ H Q->
  bJ (model X.prog X.w) X.A (assignInOrder ((jZ ts X.env).map (·.2)) us) (λ_ s'=>∃σ' H',Inv X p0 σ' H' s'/\Q σ' H') X.xe s
abbrev Zh1:=V->V->V->Hp->(Hp->Prop)->Prop
noncomputable def Zkr(X:Cx)(t:Zh1):Prop:=
 ∀(p0:List (aL×dW))(s:aO)(σ:St)(H:Hp)(o i v:V)(ov iv u:aI)(Q:Hp->Prop),Inv X p0 σ H s->RelV o ov->RelV i iv->RelV v u->t o i v H Q->
  bJ (model X.prog X.w) X.A (setItem ov iv u) (λ_ s'=>∃H',Inv X p0 σ H' s'/\Q H') X.xe s
abbrev TIp:=V->V->Hp->VK->Prop
noncomputable def PIp(X:Cx)(op:oX)(t:TIp):Prop:=
 ∀(p0:List (aL×dW))(s:aO)(σ:St)(H:Hp)(x y:V)(v u:aI)(Q:VK),Inv X p0 σ H s->RelV x v->RelV y u->t x y H Q->
  bJ (model X.prog X.w) X.A (inplaceOp op v u) (EP X p0 σ Q) X.xe s
section
variable {X:Cx} {pos:dw}
noncomputable def Sq(i:Nat):TG:=λv σ H Q=>Q (σ.set i (ax v)) H
theorem P7{i:Nat}{x:bH}(c:X.N.Nodup)(d:X.N[i]?=ax x)(a:BB X.env.scope x)(e:X.fn x=aC\/X.env.scope.names.lookup x=ax .local:=by first | exact .inl rfl | exact .inr rfl | assumption):PG X (.Name x pos) (Sq i):=by intro g s j H v u Q I r h;exact wpAny_assign_Name (S6 I c d a r (λf b=>⟨_,H,b,h⟩) e)
noncomputable def Zks:TGs:=λvs σ H Q=>vs=[]/\Q σ H
noncomputable def Zgv(t:TG)(u:TGs):TGs:=λvs σ H Q=>∃v r,vs=v::r/\t v σ H λσ' H'=>u r σ' H' Q
theorem Yh:PGs X [] Zks:=by intro b s a H vs c Q I r h;obtain⟨e,h⟩:=h;subst e;cases r;exact assignInOrder_nil ⟨a,H,I,h⟩
theorem Zv{e:bO}{a:List bO}{t:TG}{u:TGs}(f:PG X e t)(l:PGs X a u)
  (g:(jZ (e::a) X.env).map (·.2)=assign e X.env::(jZ a X.env).map (·.2):=by rfl):PGs X (e::a) (Zgv t u):=by
 intro c s j H vs n Q I r h;obtain⟨v,o,m,h⟩:=h;subst m
 cases r with
 | cons r rr=>
  rw[g];refine assignInOrder_cons (Yo (f c s j H _ _ _ I r h) λ_ s1 ⟨b,d,i,k⟩=>?_);exact l c s1 b d _ _ Q i rr k
noncomputable def Zkt(K:aH)(n:Nat)(t:TGs):TG:=λv σ H Q=>∃a xs,v = .ref a/\SqT K H a xs/\xs.length=n/\t xs σ H Q
theorem YI{c:List bO}{k:Nat}{t:TGs}{n:Nat}(j:X.calm=aC)(h:PGs X c t)
  (m:(jZ c X.env).length=n:=by rfl) (d:(jZ c X.env).findIdx? (·.1)=aA:=by rfl):PG X (.Tuple c k pos) (Zkt X.K n t):=by
 intro i s w H v u Q I r f;obtain⟨a,xs,z,x,p,f⟩:=f;subst z;cases r;obtain⟨A,g,l,B⟩:=I.tuple x;refine assign_Tuple_tuple (I.ok.hd j) l (by simp[m,<-p,g.length]) d λh' y=>?_;have q:=I.kept (t':=s.toks) λb o e=>y b o (bN (a9 e)) e;exact h i _ w H xs _ Q q (by simpa using g) f
noncomputable def Zh2(to ti:TE)(t:Zh1):TG:=λv σ H Q=>to σ H λo H1=>ti σ H1 λi H2=>t o i v H2 λH3=>Q σ H3
theorem Sz{o i:bO}{f e:TE}{t:Zh1}(j:PE X o f)(z:PE X i e)(n:Zkr X t)
  (F:∀v,assign (.Subscript o i pos) X.env v=(do
   let a <-holding [v] (eval o X.env);let b <-holding [v,a] (eval i X.env)
   oT pos
   holding [v,a,b] (setItem a b v)
   release [v,a,b] []):=by intro _;rfl):PG X (.Subscript o i pos) (Zh2 f e t):=by
 intro d s c H v u Q I r h;refine aG (fH (Yo (j d s c H _ I h) λa s1 ⟨x,g,w,m,A⟩=>?_));refine aG (fH (Yo (z d s1 c g _ w A) λb s2 ⟨y,p,C,B,l⟩=>?_));refine aG (mW (aG (fH (Yo (n d s2 c p x y v a b u _ C m B r l) λ_ E ⟨D,k,q⟩=>?_))));exact wpAny_release ⟨c,D,k,q⟩
noncomputable def Ke(te:TE)(g:TG):TS:=λD σ H=>te σ H λx H1=>g x σ H1 D.nx
theorem UW{a e:bO}{d:TE}{g:TG}(n:PE X e d)(i:PG X a g)(k:swapsWithSole [a] e pos.line X.env=pure aB:=by rfl)(p:swappedStores [a] e X.env=pure aA:=by rfl)
  (l:(jZ [a] X.env).map (·.2)=[assign a X.env]:=by rfl):PS X (.Assign [a] e pos) (Ke d g):=by
 intro b s c H D I h;refine wpAny_Assign_stores (Yo (n b s c H _ I h) λv s1 ⟨x,f,m,j,o⟩=>?_) k p;rw[l];exact Yo (i b s1 c f x v _ m j o) λ_ s2 q=>q
theorem BF{i:Nat}{x:bH}{e:bO}{a:TE}{pos':dw}(l:X.N.Nodup)(n:X.N[i]?=ax x)(p:BB X.env.scope x)(k:PE X e a)(f:iC e (ax (.Name x pos')) pos.line X.env=pure aB:=by rfl)(g:X.fn x=aC\/X.env.scope.names.lookup x=ax .local:=by first | exact .inl rfl | exact .inr rfl | assumption) :
  PS X (.Assign [.Name x pos'] e pos) (Ke a (Sq i)):=by
 intro b s m H D I h;refine wpAny_Assign_Name (Yo (k b s m H _ I h) λv s1 ⟨y,c,j,d,o⟩=>?_) f;exact S6 j l n p d (λs2 q=>⟨_,c,q,o⟩) g
noncomputable def Zku(i:Nat)(te:TE)(ti:TIp):TS:=λD σ H=>∃x,σ[i]?=ax (ax x)/\te σ H λy H1=>ti x y H1 λz H2=>D.nx (σ.set i (ax z)) H2
theorem Zh3{i:Nat}{x:bH}{e:bO}{A:TE}{op:oX}{o:TIp}{pos':dw}(R:X.N.Nodup)(t:X.N[i]?=ax x)(n:BB X.env.scope x)(Q:PE X e A)(E:PIp X op o)(N:X.fn x=aC\/X.env.scope.names.lookup x=ax .local:=by first | exact .inl rfl | exact .inr rfl | assumption) :
  PS X (.AugAssign (.Name x pos') op e pos) (Zku i A o):=by
 intro g s q H D I h;obtain⟨v,Y,h⟩:=h;obtain⟨m,J,O⟩:=I.loc;have j:Vis X.env.scope x:=by rcases n with k | k;exact .inl k;exact .inr (.inl k)
 obtain⟨u,r,l⟩:=O i x v t Y j;refine wpAny_AugAssign_Name ?_;have p:bJ (model X.prog X.w) X.A (eval e X.env) (λw f=>bJ (model X.prog X.w) X.A (inplaceOp op u w) (λr d=>bJ (model X.prog X.w) X.A (storeName X.env x r) (λ_=>SP X g D .next) X.xe d) X.xe f) X.xe s:=by refine Yo (Q g s q H _ I h) λw s1 ⟨y,B,P,L,S⟩=>?_;refine Yo (E g s1 q B v y u w _ P r L S) λz s2 ⟨zv,M,W,U,G⟩=>?_;exact S6 W R t n U (λZ F=>⟨_,M,F,G⟩) N
 rcases l with⟨a,T⟩ | ⟨a,c,C,b⟩
 ·exact lX I.ok.kind a J T p
 ·rcases a with a | a
  ·exact mQ I.ok.kind a C b p
  ·rcases n with k | k
   ·have:X.env.scope.names.lookup x=ax .free:=a;rw[k] at this;cases this
   ·have:X.env.scope.names.lookup x=ax .free:=a;rw[k] at this;cases this
noncomputable def ipI(f:Int->Int->Int):TIp:=λx y H Q=>∃i j,x = .int i/\y = .int j/\Q (.int (f i j)) H
theorem Zh4:PIp X .Add (ipI λi j=>i+j):=by intro e s f H x y v u Q I a b h;obtain⟨i,j,d,c,q⟩:=h;subst d;subst c;obtain⟨t,rfl⟩:=a;obtain⟨t',rfl⟩:=b;exact iadd_int ⟨.int _,H,I.tok _,⟨_,rfl⟩,q⟩
end
section
variable {X:Cx} {pos:dw}
noncomputable def Zh5(c:TT)(tb:TS):TS:=λD σ H=>∃W:Nat->St->Hp->Prop,(∃m,W m σ H)/\∀m σ H,W m σ H->
 c σ H λb H1=>if b=aC then ∃N:St->Hp->Prop,(∀σ' H',N σ' H'->∃m',m'<m/\W m' σ' H')/\tb { D with nx:=N,ct:=N,bk:=D.nx } σ H1 else D.nx σ H1
theorem BG{c:bO}{e:List cB}{x:TT}{u:TS}(A:mM (model X.prog X.w) X.A X.env X.xe)(E:PT X c x)(L:PSs X e u):PS X (.While c e [] pos) (Zh5 x u):=by
 intro k s G H D I h;obtain⟨W,⟨M,J⟩,turn⟩:=h;refine wpAny_While (codeAny_whileLoop (λn B=>∃σ' H',Inv X k σ' H' B/\W n σ' H') ?_ M ⟨G,H,I,J⟩);rintro n s1 ⟨d,t,F,C⟩;refine eU A (Yo (E k s1 d t _ F (turn n d t C)) λb s2 ⟨w,z,i⟩=>?_)
 cases b with
 | true=>
  obtain⟨N,y,i⟩:=i;refine eU A (Yo (L k s2 d w _ z i) λf O j=>?_)
  cases f with
  | next=>
   obtain⟨a,g,l,m⟩:=j;obtain⟨q,p,o⟩:=y a g m;exact⟨q,p,a,g,l,o⟩
  | cont=>
   obtain⟨a,g,l,m⟩:=j;obtain⟨q,p,o⟩:=y a g m;exact⟨q,p,a,g,l,o⟩
  | brk=>exact j
  | ret v=>exact j
 | false=>
  exact jD ⟨d,w,z,i⟩
end
structure It where
 go:Nat->Hp->Prop
 yld:Nat->Hp->V->Hp->Prop
 stop:Nat->Hp->Prop
noncomputable def Sk(X:Cx)(p0:List (aL×dW))(H:Hp)(b:aL):Prop:=
 H b=aA/\b≠X.env.locals/\b∉X.fs/\(b∈X.ex\/X.s₀.heap.objs.size<=b)/\(∀x c,X.env.cells.lookup x=ax c->c≠b)/\∀p∈X.pn++p0,p.1≠b
theorem Inv.fpOk{X:Cx}{f:List (aL×dW)}{h:St}{H d:Hp}{s:aO}{b:aL}(I:Inv X f h H s)(a:s.heap.objs.size<=b)(g:d b=aA):Sk X f d b:=by
 refine⟨g,fW (bB I.lt a),I.nofs a,.inr (cD I.sz a),λx c e z=>?_,λp i z=>?_⟩
 ·obtain⟨v,q⟩:=I.cell x c e;exact absurd (bB q.lt (by rw[z];exact a)) (cS _)
 ·exact absurd (bB (a9 (I.pin p i).1) (by rw[z];exact a)) (cS _)
structure JV(P:bM)(w:bc)(K:aH)(tg:bO)(J:It)(fp:List aL)(it:aL)(tn:Nat->ba->Prop):Prop where
 mem:it∈fp
 obj:∀i h,tn i h->∀b∈fp,∃o,h.get? b=ax o/\∀v,o.data≠.cell v
 keep:∀i h h',tn i h->(∀b∈fp,∀o,h.get? b=ax o->h'.get? b=ax o)->tn i h'
 item:∀(X:Cx),X.prog=P->X.w=w->X.K=K->X.calm=aC->∀(i:Nat)(p0:List (aL×dW))(s:aO)(σ:St)(H:Hp)(E:aI->aO->Prop),Inv X p0 σ H s->(∀b∈fp,Sk X p0 H b)->tn i s.heap->J.go i H->
  bJ (model P w) X.A (jv (.ref it)) (λr s1=>∃u,r=ax u/\
   bJ (model P w) X.A (lC tg (.ref it) u) (λ_ s2=>∃x H',Inv X p0 σ H' s2/\RelV x u/\J.yld i H x H'/\tn (i+1) s2.heap/\∀b∈fp,H' b=aA) E s1) E s
 done:∀(X:Cx),X.prog=P->X.w=w->X.K=K->X.calm=aC->∀(i:Nat)(p0:List (aL×dW))(s:aO)(σ:St)(H:Hp)(E:aI->aO->Prop),Inv X p0 σ H s->(∀b∈fp,Sk X p0 H b)->tn i s.heap->J.stop i H->
  bJ (model P w) X.A (jv (.ref it)) (λr s1=>r=aA/\Inv X p0 σ H s1) E s
 self:∀(A:bq)(i:Nat)(s:aO)(Q:aI->aO->Prop)(E:aI->aO->Prop),tn i s.heap->Q (.ref it) s->bJ (model P w) A (nY (.ref it)) Q E s
abbrev TI:=St->Hp->(It->Hp->Prop)->Prop
noncomputable def PIE(X:Cx)(p0:List (aL×dW))(σ:St)(tg:bO)(R:It->Hp->Prop)(itv:aI)(s2:aO):Prop:=
 ∃(it:aL) (fp:List aL) (tn:Nat->ba->Prop) (J:It) (H':Hp),itv = .ref it/\Inv X p0 σ H' s2/\JV X.prog X.w X.K tg J fp it tn/\tn 0 s2.heap/\(∀b∈fp,Sk X p0 H' b)/\R J H'
noncomputable def PI(X:Cx)(tg iter:bO)(wi:TI):Prop:=
 ∀(p0:List (aL×dW))(s:aO)(σ:St)(H:Hp)(R:It->Hp->Prop),Inv X p0 σ H s->wi σ H R->
  bJ (model X.prog X.w) X.A (eval iter X.env) (λv s1=>bJ (model X.prog X.w) X.A (nY v) (PIE X p0 σ tg R) X.xe s1) X.xe s
theorem BH{M:Model}{A:bq}{E:aI->aO->Prop}{s:aO}{c:bO}{b:aL}{u:aI}{o:dW}{n:String}{vs:Array aI}{Q:Unit->aO->Prop}(f:s.heap.get? b=ax o)(e:o.cls = .type n)(hd:o.data = .fields vs)
    (d:["enumerate","zip","dict_itemiterator","dict_reverseitemiterator","odict_iterator","itertools.zip_longest","itertools.pairwise"].contains n=aB) (a:Q () s):bJ M A (lC c (.ref b) u) Q E s:=by
  cases c<;>first
    | exact aW a
    | (cases u<;>first
        | exact aW a
        | (refine aG (wpAny_load f ?_)
           rw[e,hd];show bJ M A (if(["enumerate","zip","dict_itemiterator","dict_reverseitemiterator","odict_iterator","itertools.zip_longest","itertools.pairwise"].contains n&&vs[0]?==ax (gJ _))=aC then _ else _) Q E s;rw[pW (by intro h;rw[d] at h;cases h)];exact aW a))
noncomputable def Itl(K:aH)(a:aL):It:=
 ⟨λi H=>∃xs x,SqL K H a xs/\xs[i]?=ax x,λi H x H'=>H'=H/\∀xs,SqL K H a xs->xs[i]?=ax x,λi H=>∃xs,SqL K H a xs/\xs.length<=i⟩
noncomputable def Itt(K:aH)(a:aL):It:=
 ⟨λi H=>∃xs x,SqT K H a xs/\xs[i]?=ax x,λi H x H'=>H'=H/\∀xs,SqT K H a xs->xs[i]?=ax x,λi H=>∃xs,SqT K H a xs/\xs.length<=i⟩
noncomputable def Itr(lo:Int)(n:Nat):It:=⟨λi _=>i<n,λi H x H'=>H'=H/\x = .int (lo+i),λi _=>n<=i⟩
theorem DB{P:bM}{w:bc}{K:aH}{W:bO}(a f:aL):JV P w K W (Itl K a) [f] f (λi h=>h.IsListIter f a i) where
 mem:=by simp
 obj:=λi h st b g=>by
  have e:b=f:=by simpa using g
  subst e;obtain⟨o,e,c,d⟩:=st;exact⟨o,e,λv z=>by rw[d] at z;cases z⟩
 keep:=λi h h' st k=>st.at λo e=>k f (by simp) o e
 item:=by intro X t F G J i L s T H E I l st n;subst t F G;obtain⟨xs,x,m,C⟩:=n;obtain⟨Q,D,p,U⟩:=I.list m;obtain⟨u,N,Y⟩:=D.get C;obtain⟨y,f1,Z,A,q,B⟩:=l f (by simp);refine wpAny_pyNext_list_item st p.isList (by simpa using N) λh' j O=>?_;have R:=I.turned (t':=s.toks) (λb o g e=>(O.2 b g).trans e) y f1 A q B;obtain⟨o,e,c,d⟩:=id j;exact⟨u,rfl,BH e c d rfl ⟨x,H,R,Y,⟨rfl,λys S=>by rw[I.list_inj S m];exact C⟩,j,λb g=>(l b g).1⟩⟩
 done:=by intro X t F G J i L s T H E I l st n;subst t F G;obtain⟨xs,m,C⟩:=n;obtain⟨Q,D,p,U⟩:=I.list m;obtain⟨y,f1,Z,A,q,B⟩:=l f (by simp);have hl:=D.length;exact wpAny_pyNext_list_end (I.ok.hd J) st p.isList (by simp;omega) λh' M=>⟨rfl,I.turned (λb o g e=>M b o g e) y f1 A q B⟩
 self:=λ_ _ _ _ _ st h=>wpAny_pyIter_listiter st h
theorem HX{P:bM}{w:bc}{K:aH}{W:bO}(a f:aL):JV P w K W (Itt K a) [f] f (λi h=>h.IsTupleIter f a i) where
 mem:=by simp
 obj:=λi h st b g=>by
  have e:b=f:=by simpa using g
  subst e;obtain⟨o,e,c,d⟩:=st;exact⟨o,e,λv z=>by rw[d] at z;cases z⟩
 keep:=λi h h' st k=>st.at λo e=>k f (by simp) o e
 item:=by intro X t F G J i L s T H E I l st n;subst t F G;obtain⟨xs,x,m,C⟩:=n;obtain⟨Q,D,p,U⟩:=I.tuple m;obtain⟨u,N,Y⟩:=D.get C;obtain⟨y,f1,Z,A,q,B⟩:=l f (by simp);refine wpAny_pyNext_tuple_item st (p) (by simpa using N) λh' j O=>?_;have R:=I.turned (t':=s.toks) (λb o g e=>(O.2 b g).trans e) y f1 A q B;obtain⟨o,e,c,d⟩:=id j;exact⟨u,rfl,BH e c d rfl ⟨x,H,R,Y,⟨rfl,λys S=>by rw[I.tuple_inj S m];exact C⟩,j,λb g=>(l b g).1⟩⟩
 done:=by intro X t F G J i L s T H E I l st n;subst t F G;obtain⟨xs,m,C⟩:=n;obtain⟨Q,D,p,U⟩:=I.tuple m;obtain⟨y,f1,Z,A,q,B⟩:=l f (by simp);have hl:=D.length;exact wpAny_pyNext_tuple_end (I.ok.hd J) st (p) (by simp;omega) λh' M=>⟨rfl,I.turned (λb o g e=>M b o g e) y f1 A q B⟩
 self:=λ_ _ _ _ _ st h=>wpAny_pyIter_tupleiter st h
theorem HY{P:bM}{w:bc}{K:aH}{L:bO}(a:aL)(lo:Int)(n:Nat):JV P w K L (Itr lo n) [a] a (λi h=>IsRangeIter h a (lo+(i:Nat)*1) ((n:Int)-(i:Nat)) 1) where
 mem:=by simp
 obj:=λi h st b c=>by
  have e:b=a:=by simpa using c
  subst e
  exact⟨_,st,λv z=>by
   have G:=z;cases G⟩
 keep:=λi h h' st k=>k a (by simp) _ st
 item:=by intro X x A B g i u s y H E I f st j;subst x A B;obtain⟨m,f1,M,p,l,q⟩:=f a (by simp);have W:=Walks.range (prog:=X.prog) (w:=X.w) (I.ok.hd g) a lo 1 n;refine W.item i s _ _ j st λv h' tk C d F=>?_;obtain⟨t,rfl⟩:=C;have J:Inv X u y H { s with heap:=h',toks:=tk }:=I.turned (λb o c e=>F b o (by simpa using c) e) m f1 p l q;refine⟨_,rfl,BH d rfl rfl rfl ⟨.int (lo+i),H,J,⟨t,?_⟩,⟨rfl,rfl⟩,d,λb c=>(f b c).1⟩⟩;rw[oH]
 done:=by intro X x A B g i u s y H E I f st j;obtain⟨m,f1,M,p,l,q⟩:=f a (by simp);exact wpAny_pyNext_range_end (I.ok.hd g) st (by have:n<=i:=j;omega) λh' D=>⟨rfl,I.turned (λb o c e=>D b o c e) m f1 p l q⟩
 self:=λ_ _ _ _ _ st h=>wpAny_pyIter_rangeiter st h
section
variable {X:Cx} {tg:bO}
noncomputable def Zkw(K:aH)(tl:TE):TI:=λσ H R=>tl σ H λx H1=>∃a,x = .ref a/\(∃xs,SqL K H1 a xs)/\R (Itl K a) H1
noncomputable def Znm(K:aH)(tl:TE):TI:=λσ H R=>tl σ H λx H1=>∃a,x = .ref a/\(∃xs,SqT K H1 a xs)/\R (Itt K a) H1
theorem Zdc{l:bO}{d:TE}(j:PE X l d):PI X tg l (Zkw X.K d):=by
 intro f s k H R I h;refine Yo (j f s k H _ I h) λv s1 ⟨x,g,c,i,m⟩=>?_;obtain⟨a,e,⟨xs,t⟩,q⟩:=m;subst e;cases i;obtain⟨u,w,p,y⟩:=c.list t;refine wpAny_pyIter_list p.isList ?_;refine⟨s1.heap.objs.size,[s1.heap.objs.size],_,_,g,rfl,c.kept λb o e=>aK _ e,DB a _,⟨_,ak _ rfl,rfl,rfl⟩,λb n=>?_,q⟩;have e:b=s1.heap.objs.size:=by simpa using n
 subst e;exact c.fpOk (aZ _) (c.hok.fresh (aZ _))
theorem Zh6{l:bO}{d:TE}(j:PE X l d):PI X tg l (Znm X.K d):=by
 intro f s k H R I h;refine Yo (j f s k H _ I h) λv s1 ⟨x,g,c,i,m⟩=>?_;obtain⟨a,e,⟨xs,t⟩,q⟩:=m;subst e;cases i;obtain⟨u,w,p,y⟩:=c.tuple t;refine j3 (p) ?_;refine⟨s1.heap.objs.size,[s1.heap.objs.size],_,_,g,rfl,c.kept λb o e=>aK _ e,HX a _,⟨_,ak _ rfl,rfl,rfl⟩,λb n=>?_,q⟩;have e:b=s1.heap.objs.size:=by simpa using n
 subst e;exact c.fpOk (aZ _) (c.hok.fresh (aZ _))
theorem JW{c:List (aL×dW)}{f:St}{H:Hp}{s:aO}{R:It->Hp->Prop}{E:aI->aO->Prop}{lo a:Int}{t u v:Tok}{tk:Nat}(I:Inv X c f H s)(h : -(2^62)<=lo)(j:lo<2^62)(i : -(2^62)<=a)(g:a<2^62)
  (q:R (Itr lo (a-lo).toNat) H):bJ (model X.prog X.w) X.A (nY (.ref s.heap.objs.size)) (PIE X c f tg R) E { s with heap:=s.heap.push { cls:=.type "range",data:=.fields #[.int lo t,.int a u,.int 1 v] },toks:=tk }:=by
 refine wpAny_pyIter_range (pS ..) (small_one h j i g) ?_;have d:Inv X c f H { s with heap:=s.heap.push { cls:=.type "range",data:=.fields #[.int lo t,.int a u,.int 1 v] },toks:=tk }:=I.kept λb o e=>aK _ e
 refine⟨(s.heap.push { cls:=.type "range",data:=.fields #[.int lo t,.int a u,.int 1 v] }).objs.size,[(s.heap.push { cls:=.type "range",data:=.fields #[.int lo t,.int a u,.int 1 v] }).objs.size],_,_,H,rfl,
  d.kept λb o e=>aK _ e,HY _ lo (a-lo).toNat,?_,λb k=>?_,q⟩
 ·have m:lo+((0:Nat):Int)*1=lo:=by simp
  have l:(((a-lo).toNat:Nat):Int)-((0:Nat):Int)=fj.Range.rangeSize lo a 1:=by rw[rangeSize_one];split<;>omega
  rw[m,l];exact ak _ rfl
 ·have e:b=(s.heap.push { cls:=.type "range",data:=.fields #[.int lo t,.int a u,.int 1 v] }).objs.size:=by simpa using k
  subst e;exact d.fpOk (aZ _) (d.hok.fresh (aZ _))
noncomputable def Zkx(ta:TA):TI:=λσ H R=>ta σ H λvs H1=>∃j:Int,vs=[.int j]/\-(2^62)<=j/\j<2^62/\R (Itr 0 j.toNat) H1
noncomputable def Zky(ta:TA):TI:=λσ H R=>ta σ H λvs H1=>∃i j:Int,vs=[.int i,.int j]/\(-(2^62)<=i/\i<2^62/\-(2^62)<=j/\j<2^62)/\R (Itr i (j-i).toNat) H1
theorem DC{a:bO}{c:TA}{p pos:dw}(g:Gl X "range")(o:X.mg "range" = aA)(l:PA X [a] c)(k:aP [a] X.env=[(aB,eval a X.env)]:=by rfl):PI X tg (.Call (.Name "range" p) [a] [] pos) (Zkx c):=by
 intro d s n H R I h;refine pL (XZ I g o oY (bg (Yo (l pos d s n H _ I h) λv s1 ⟨vs,u,m,i,b⟩=>?_) k rfl));obtain⟨j,e,b,f,q⟩:=b;subst e
 cases i with
 | cons r rr=>
  cases rr;obtain⟨t,rfl⟩:=r;exact call_range_1 (JW m (by omega) (by omega) b f (by simpa using q))
theorem DD{a b:bO}{f:TA}{p pos:dw}(l:Gl X "range")(y:X.mg "range" = aA)(u:PA X [a,b] f)(n:aP [a,b] X.env=[(aB,eval a X.env),(aB,eval b X.env)]:=by rfl)(c:aP [b] X.env=[(aB,eval b X.env)]:=by rfl) :
  PI X tg (.Call (.Name "range" p) [a,b] [] pos) (Zky f):=by
 intro g s w H R I h;refine pL (XZ I l y oY (bg (Yo (u pos g s w H _ I h) λA s1 ⟨vs,z,v,m,d⟩=>?_) (by rw[n,c]) (by rw[c];rfl)));obtain⟨i,j,e,⟨d,k,o,x⟩,q⟩:=d;subst e
 cases m with
 | cons r rr=>
  cases rr with
  | cons r' rr=>
   cases rr;obtain⟨t,rfl⟩:=r;obtain⟨t',rfl⟩:=r';exact call_range_2 (JW v d k o x q)
noncomputable def Znn(wi:TI)(g:TG)(tb:TS):TS:=λD σ H=>wi σ H λJ H1=>∃W:Nat->Nat->St->Hp->Prop,(∃m,W 0 m σ H1)/\∀i m σ H,W i m σ H->
 (J.stop i H/\D.nx σ H)\/(J.go i H/\∃N:St->Hp->Prop,(∀σ' H',N σ' H'->∃m',m'<m/\W (i+1) m' σ' H')/\∀x H',J.yld i H x H'->g x σ H' λσ2 H2=>tb { D with nx:=N,ct:=N,bk:=D.nx } σ2 H2)
noncomputable def R7(fp:List aL)(h:ba):List (aL×dW):=fp.filterMap λb=>(h.get? b).map λo=>(b,o)
theorem Ua{a:List aL}{h:ba}{b:aL}{o:dW}(c:b∈a)(e:h.get? b=ax o):(b,o)∈R7 a h:=hW.mpr ⟨b,c,by rw[e];rfl⟩
theorem DE{a:List aL}{h:ba}{p:aL×dW}(f:p∈R7 a h):p.1∈a/\h.get? p.1=ax p.2:=by
 obtain⟨b,c,e⟩:=hW.mp f
 cases q:h.get? b with
 | none=>rw[q] at e;cases e
 | some o=>
  rw[q] at e;have d:=bC e;subst d;exact⟨c,q⟩
theorem Inv.pinned{a:List (aL×dW)}{g:St}{H:Hp}{s:aO}{c:List aL}(I:Inv X a g H s)(j:∀b∈c,Sk X a H b)(i:∀b∈c,∃o,s.heap.get? b=ax o/\∀v,o.data≠.cell v):Inv X (a++R7 c s.heap) g H s:=
 I.pins_of λp l=>(aV.mp l).elim (λz=>I.pin p (ah _ z)) λz=>by obtain⟨h,e⟩:=DE z;obtain⟨k,f1,m,_⟩:=j p.1 h;obtain⟨o,f,d⟩:=i p.1 h;rw[e] at f;cases f;exact⟨e,k,f1,m,d⟩
theorem Inv.unpinned{a c:List (aL×dW)}{b:St}{H:Hp}{s:aO}(I:Inv X (a++c) b H s):Inv X a b H s:=I.pins_of λp d=>I.pin p (ah _ (ao _ d))
theorem Zh7{j:bO}{w:List cB}{wi:TI}{g:TG}{tb:TS}{pos:dw}(B:mM (model X.prog X.w) X.A X.env X.xe)(hc:X.calm=aC)(hi:PI X tg j wi)(hg:PG X tg g)(k:PSs X w tb)
  (hs:∀x,cK j X.env x=pure x:=by intro _;rfl):PS X (.For tg j w [] pos) (Znn wi g tb):=by
 intro z s σ H D I h;refine wpAny_For (Yo (hi z s σ H _ I h) λv s1 h1=>Yo h1 λitv s2 h2=>?_) hs;obtain⟨it,C,Z,J,H2,e,I2,T,R,f2,W,⟨m0,w0⟩,turn⟩:=h2;subst e
 -- what stays aC of the iterator's objects through the loop
 have p:∀{H':Hp},(∀b∈C,H' b=aA)->∀b∈C,Sk X z H' b:=λhn b k=>⟨hn b k,(f2 b k).2⟩;refine codeAny_forLoop_any (λn s'=>∃i σ' H',Inv X z σ' H' s'/\Z i s'.heap/\(∀b∈C,H' b=aA)/\W i n σ' H') ?_ m0 ⟨0,σ,H2,I2,R,λb k=>(f2 b k).1,w0⟩;rintro n s3 ⟨i,q,L,U,F,E,w3⟩;rcases turn i n q L w3 with⟨G,qn⟩ | ⟨go,N,hN,step⟩
 ·refine eU B (Yo (T.done X rfl rfl rfl hc i z s3 q L X.xe U (p E) F G) λr s4 ⟨P,I4⟩=>?_);subst P;exact jD ⟨q,L,I4,qn⟩
 ·refine eU B (Yo (T.item X rfl rfl rfl hc i z s3 q L X.xe U (p E) F go) λr s4 ⟨u,P,h4⟩=>?_);subst P;refine eU B (Yo h4 λ_ s5 ⟨x,Y,I5,r5,y5,y,O⟩=>?_);have S:=I5.pinned (p O) (T.obj _ _ y);refine eU B (Yo (hg _ s5 q Y x u _ S r5 (step x Y y5)) λ_ s6 ⟨Q,H6,I6,q6⟩=>?_);refine eU B (Yo (k _ s6 Q H6 _ I6 q6) λf M t=>?_);have again:∀{a:St}{c:Hp},Inv X (z++R7 C s5.heap) a c M->N a c->∃m,m<n/\∃i σ' H',Inv X z σ' H' M/\Z i M.heap/\(∀b∈C,H' b=aA)/\W i m σ' H':=λ{a c} l A=>by obtain⟨m',hm,w7⟩:=hN a c A;refine⟨m',hm,i+1,a,c,l.unpinned,T.keep _ _ _ y λb k o e=>(l.pin (b,o) (ah _ (ah _ (Ua k e)))).1,λb k=>?_,w7⟩;obtain⟨o,e,d⟩:=T.obj _ _ y b k;exact(l.pin (b,o) (ah _ (ah _ (Ua k e)))).2.1
  cases f with
  | next=>obtain⟨a,c,l,A⟩:=t;exact again l A
  | cont=>obtain⟨a,c,l,A⟩:=t;exact again l A
  | brk=>obtain⟨a,c,l,t⟩:=t;exact⟨a,c,l.unpinned,t⟩
  | ret v=>obtain⟨x7,a,c,l,r7,t⟩:=t;exact⟨x7,a,c,l.unpinned,r7,t⟩
end
abbrev R2:=V->V->Hp->VK->Prop
noncomputable def TH(X:Cx)(f:aI->aI->Sem aI)(r:R2):Prop:=
 ∀(p0:List (aL×dW))(s:aO)(σ:St)(H:Hp)(x y:V)(v u:aI)(Q:VK),Inv X p0 σ H s->RelV x v->RelV y u->r x y H Q->
  bJ (model X.prog X.w) X.A (f v u) (EP X p0 σ Q) X.xe s
noncomputable def UnR(X:Cx)(f:aI->Sem aI)(r:V->Hp->VK->Prop):Prop:=
 ∀(p0:List (aL×dW))(s:aO)(σ:St)(H:Hp)(x:V)(v:aI)(Q:VK),Inv X p0 σ H s->RelV x v->r x H Q->
  bJ (model X.prog X.w) X.A (f v) (EP X p0 σ Q) X.xe s
noncomputable def XW(X:Cx)(f:aI)(r:List V->Hp->VK->Prop):Prop:=
 ∀(p0:List (aL×dW))(s:aO)(σ:St)(H:Hp)(xs:List V)(us:List aI)(Q:VK),Inv X p0 σ H s->Vals xs us->r xs H Q->
  bJ (model X.prog X.w) X.A (call f us) (EP X p0 σ Q) X.xe s
noncomputable def Znp(X:Cx)(r:V->Hp->(Bool->Hp->Prop)->Prop):Prop:=
 ∀(p0:List (aL×dW))(s:aO)(σ:St)(H:Hp)(x:V)(v:aI)(Q:Bool->Hp->Prop),Inv X p0 σ H s->RelV x v->r x H Q->
  bJ (model X.prog X.w) X.A (truthy v) (TP X p0 σ Q) X.xe s
noncomputable def tOp(r:R2)(ta tb:TE):TE:=λσ H Q=>ta σ H λx H1=>tb σ H1 λy H2=>r x y H2 Q
noncomputable def tUn(r:V->Hp->VK->Prop)(ta:TE):TE:=λσ H Q=>ta σ H λx H1=>r x H1 Q
noncomputable def rI(C:Int->Int->Prop)(g:Int->Int->V):R2:=λx y H Q=>∃i j,x = .int i/\y = .int j/\C i j/\Q (g i j) H
noncomputable def rI0(g:Int->Int->V):R2:=λx y H Q=>∃i j,x = .int i/\y = .int j/\Q (g i j) H
noncomputable def rU(g:Int->V):V->Hp->VK->Prop:=λx H Q=>∃i,x = .int i/\Q (g i) H
section
variable {X:Cx} {a b c:bO} {ta tb tc:TE} {pos:dw}
theorem Zh8(m:PE X a ta)(t:PE X b tb){i:List (aL×dW)}{s:aO}{d:St}{H:Hp}{R:V->V->Hp->Prop}(I:Inv X i d H s)
  (h:ta d H λx j=>tb d j λy c=>R x y c) {Q:aI->aO->Prop} {f:aI->aI->Sem aI}
  (n:∀v u s2 x y c,Inv X i d c s2->RelV x v->RelV y u->R x y c->bJ (model X.prog X.w) X.A (f v u) Q X.xe s2) :
  bJ (model X.prog X.w) X.A (eval a X.env) (λv g=>bJ (model X.prog X.w) X.A (eval b X.env) (λu e=>bJ (model X.prog X.w) X.A (f v u) Q X.xe e) X.xe g) X.xe s:=by
 refine Yo (m i s d H _ I h) λv s1 ⟨x,j,o,l,p⟩=>?_;refine Yo (t i s1 d j _ o p) λu s2 ⟨y,c,w,q,k⟩=>?_;exact n v u s2 x y c w l q k
theorem F6{op:oX}{r:R2}(d:TH X (dy op) r)(i:PE X a ta)(k:PE X b tb):PE X (.BinOp a op b pos) (tOp r ta tb):=by intro c s j H Q I h;exact wpAny_BinOp (Zh8 i k I h λv u s2 x y g l e f q=>d c s2 j g x y v u Q l e f q)
theorem Zkz{op:UnaryOp}{r:V->Hp->VK->Prop}(g:UnR X (unaryOp op) r)(j:PE X a ta):PE X (.UnaryOp op a pos) (tUn r ta):=by intro b s c H Q I h;exact UnaryOp_ (Yo (j b s c H _ I h) λv s1 ⟨x,d,e,f,i⟩=>g b s1 c d x v Q e f i)
theorem opI{f:aI->aI->Sem aI}{C:Int->Int->Prop}{g:Int->Int->Int}
  (rule:∀(i j:Int)(t u:Tok)(s:aO)(Q:aI->aO->Prop)(E:aI->aO->Prop),C i j->Q (.int (g i j) s.toks) { s with toks:=s.toks+1 }->bJ (model X.prog X.w) X.A (f (.int i t) (.int j u)) Q E s) :
  TH X f (rI C λi j=>.int (g i j)):=by
 intro d s e H x y v u Q I b c h;obtain⟨i,j,rfl,rfl,a,q⟩:=h;obtain⟨t,rfl⟩:=b;obtain⟨t',rfl⟩:=c;exact rule i j t t' s _ _ a ⟨.int (g i j),H,I.tok _,⟨_,rfl⟩,q⟩
theorem Zk1{f:aI->aI->Sem aI}{g:Int->Int->Int}
  (rule:∀(i j:Int)(t u:Tok)(s:aO)(Q:aI->aO->Prop)(E:aI->aO->Prop),Q (.int (g i j) s.toks) { s with toks:=s.toks+1 }->bJ (model X.prog X.w) X.A (f (.int i t) (.int j u)) Q E s) :
  TH X f (rI0 λi j=>.int (g i j)):=by
 intro c s d H x y v u Q I a b h;obtain⟨i,j,rfl,rfl,q⟩:=h;obtain⟨t,rfl⟩:=a;obtain⟨t',rfl⟩:=b;exact rule i j t t' s _ _ ⟨.int (g i j),H,I.tok _,⟨_,rfl⟩,q⟩
theorem Zdd{f:aI->aI->Sem aI}{g:Int->Int->Bool}
  (rule:∀(i j:Int)(t u:Tok)(s:aO)(Q:aI->aO->Prop)(E:aI->aO->Prop),Q (.bool (g i j)) s->bJ (model X.prog X.w) X.A (f (.int i t) (.int j u)) Q E s) :
  TH X f (rI0 λi j=>.bl (g i j)):=by
 intro c s d H x y v u Q I a b h;obtain⟨i,j,rfl,rfl,q⟩:=h;obtain⟨t,rfl⟩:=a;obtain⟨t',rfl⟩:=b;exact rule i j t t' s _ _ ⟨.bl (g i j),H,I,rfl,q⟩
noncomputable def BI(i j:Int):Prop:=0<j/\j<1073741824
noncomputable def Zgw(i j:Int):Prop:=j≠0/\j.natAbs<1073741824
noncomputable def Zk2(i j:Int):Prop:=0<=j/\j<=1000000/\i.natAbs<2^64
noncomputable def CMul(i j:Int):Prop:=(-(2^64)<i/\i<2^64)\/(-(2^64)<j/\j<2^64)
theorem CMul.ok{i j:Int}(h:CMul i j):IntMulOk i j:=by
 rcases h with⟨b,a⟩ | ⟨b,a⟩
 ·exact .of_left (intBits_le_64 b a)
 ·exact .of_right (intBits_le_64 b a)
theorem Zh9:TH X (dy .Add) (rI0 λi j=>.int (i+j)):=Zk1 λ_ _ _ _ _ _ _ q=>add_int q
theorem Zia:TH X (dy .Sub) (rI0 λi j=>.int (i-j)):=Zk1 λ_ _ _ _ _ _ _ q=>sub_int q
theorem Zib:TH X (dy .Mult) (rI CMul λi j=>.int (i*j)):=opI λ_ _ _ _ _ _ _ a q=>mul_int q a.ok
theorem Zde:TH X (dy .FloorDiv) (rI BI λi j=>.int (i/j)):=opI λi j _ _ _ _ _ a q=>by have c:=a.1;have b:=a.2;exact floordiv_int (by omega) (by rw[gS i (by omega)];exact q) (.inl (PyProof.noPylong_small (by omega)))
theorem Zic:TH X (dy .Mod) (rI (λ_ j=>0<j) λi j=>.int (i%j)):=opI λi j _ _ _ _ _ a q=>by exact mod_int' (by omega) (by rw[Int.fmod_eq_emod_of_nonneg i (by omega)];exact q)
theorem unI{f:aI->Sem aI}{g:Int->Int}
  (rule:∀(i:Int)(t:Tok)(s:aO)(Q:aI->aO->Prop)(E:aI->aO->Prop),Q (.int (g i) s.toks) { s with toks:=s.toks+1 }->bJ (model X.prog X.w) X.A (f (.int i t)) Q E s) :
  UnR X f (rU λi=>.int (g i)):=by
 intro b s c H x v Q I a h;obtain⟨i,rfl,q⟩:=h;obtain⟨t,rfl⟩:=a;exact rule i t s _ _ ⟨.int (g i),H,I.tok _,⟨_,rfl⟩,q⟩
theorem Zid:UnR X (unaryOp .USub) (rU λi=>.int (-i)):=unI λ_ _ _ _ _ q=>neg_int q
end
section
variable {X:Cx} {a b c:bO} {ta tb tc:TE} {pos:dw}
theorem BJ:TH X (dH .Lt) (rI0 λi j=>.bl (decide (i<j))):=Zdd λ_ _ _ _ _ _ _ q=>lt_int q
theorem Zk3:TH X (dH .LtE) (rI0 λi j=>.bl (decide (i<=j))):=Zdd λ_ _ _ _ _ _ _ q=>le_int q
theorem Zgx:TH X (dH .Gt) (rI0 λi j=>.bl (decide (j<i))):=Zdd λ_ _ _ _ _ _ _ q=>gt_int q
theorem Zk4:TH X (dH .GtE) (rI0 λi j=>.bl (decide (j<=i))):=Zdd λ_ _ _ _ _ _ _ q=>ge_int q
theorem UX(b:bO){op:nK}(h:op≠.In:=by decide)(a:op≠.NotIn:=by decide):cY op b=aB:=by
 have d:(op==nK.In)=aB:=by cases op<;>first | rfl | exact absurd rfl h
 have c:(op==nK.NotIn)=aB:=by cases op<;>first | rfl | exact absurd rfl a
 cases b<;>simp[cY,d,c]
theorem Zdf{op:nK}{r:R2}(d:TH X (dH op) r)(i:PE X a ta)(l:PE X b tb)(k:cY op b=aB):PE X (.Compare a [op] [b] pos) (tOp r ta tb):=by intro c s j H Q I h;exact wpAny_Compare1 (Zh8 i l I h λv u s2 x y g m e f q=>d c s2 j g x y v u Q m e f q) k
noncomputable def F7(t:TE):TT:=λσ H Q=>t σ H λx H'=>∃k,x = .bl k/\Q k H'
theorem Zdg{op:nK}{r:R2}(i:TH X (dH op) r)(q:PE X a ta)(C:PE X b tb)(A:cY op b=aB):PT X (.Compare a [op] [b] pos) (F7 (tOp r ta tb)):=by
 intro d s f H Q I h
 refine lN (Yo (q d s f H _ I h) λv s1 ⟨x,g,t,n,w⟩=>Yo (C d s1 f g _ t w) λu s2 ⟨y,o,D,B,l⟩=>
  Yo (i d s2 f o x y v u _ D n B l) λc F ⟨z,E,j,m,k,e,p⟩=>?_) A
 subst e;cases m;exact dN ⟨E,j,p⟩
noncomputable def BK(r r':R2)(ta tb tc:TE):TE:=λσ H Q=>ta σ H λx H1=>tb σ H1 λy H2=>r x y H2 λz H3=>∃k,z = .bl k/\
 (if k=aC then tc σ H3 λw' H4=>r' y w' H4 Q else Q (.bl aB) H3)
theorem BL{op f:nK}{r m:R2}(A:TH X (dH op) r)(j:TH X (dH f) m)(M:PE X a ta)(U:PE X b tb)(w:PE X c tc)
  (T:lastMarks [op,f] [b,c]=aB:=by with_unfolding_all rfl):PE X (.Compare a [op,f] [b,c] pos) (BK r m ta tb tc):=by
 intro g s i H Q I h
 refine Compare_chain (Yo (M g s i H _ I h) λv s1 ⟨x,t,O,F,R⟩=>chain_link (Yo (U g s1 i t _ O R) λu s2 ⟨y,J,W,o,C⟩=>
  Yo (A g s2 i J x y v u _ W F o C) λd G ⟨z,p,l,E,k,e,n⟩=>?_)) T
 subst e;cases E;refine dN ?_
 cases k with
 | false=>exact ite_ff ⟨.bl aB,p,l,rfl,n⟩
 | true=>exact ite_tt (chain_last (Yo (w g G i p _ l n) λD L ⟨N,B,q,P,S⟩=>j g L i B y N u D Q q o P S))
noncomputable def Zk5(K:aH)(x:V)(H:Hp)(k:Bool):Prop:=
 match x with
 | .non=>k=aB
 | .bl b=>k=b
 | .int i=>k=(i != 0)
 | .str y=>y.length<=sizeLine/\k=((y.length:Int) != 0)
 | .byt y=>y.size<=sizeLine/\k=((y.size:Int) != 0)
 | .ref p=>(∃xs,SqL K H p xs/\k = !xs.isEmpty)\/(∃xs,SqT K H p xs/\k = !xs.isEmpty)\/∃p4,H p=ax (.dK p4)/\k = !p4.isEmpty
 | _=>False
theorem HZ{b:Type}{a:List (b×V)}{vs:List (b×aI)}(r:KV a vs):(!vs.isEmpty) = !a.isEmpty:=by cases r<;>rfl
theorem OB{xs:List V}{a:List aI}(r:Vals xs a):(!a.toArray.isEmpty) = !xs.isEmpty:=by cases r<;>simp
theorem Kf:(sizeLine:Nat)<2^63:=by rw[fT];decide
theorem Zie:Znp X (λx H Q=>∃k,Zk5 X.K x H k/\Q k H):=by
 intro u s A H x v Q I d h;obtain⟨k,e,q⟩:=h;have w:=fT
 cases x with
 | non=>
  cases d;have a:=e;subst a;exact truthy_none ⟨H,I,q⟩
 | bl b=>
  cases d;have a:=e;subst a;exact dN ⟨H,I,q⟩
 | int i=>
  obtain⟨t,rfl⟩:=d;have a:=e;subst a;exact PySem.P.truthy_int ⟨H,I,q⟩
 | str y=>
  obtain⟨t,rfl⟩:=d;obtain⟨o,a⟩:=e;subst a;exact PySem.P.truthy_str (by omega) ⟨H,I.tok _,q⟩
 | byt y=>
  obtain⟨t,rfl⟩:=d;obtain⟨o,a⟩:=e;subst a;exact PySem.W.truthy_bytes (by omega) ⟨H,I.tok _,q⟩
 | ref p=>
  cases d;have a:=e;rcases a with⟨xs,f,a⟩ | ⟨xs,f,a⟩ | ⟨z,f,a⟩
  ·subst a;obtain⟨n,r,g,j⟩:=I.list f;have c:=r.length;exact wpAny_truthy_list g.isList (by simp only[aU];omega) ⟨H,I.tok _,by rw[OB r];exact q⟩
  ·subst a;obtain⟨n,r,g,j⟩:=I.tuple f;have c:=r.length;exact truthy_tuple g (by simp only[aU];omega) ⟨H,I.tok _,by rw[OB r];exact q⟩
  ·subst a;obtain⟨j,l,vs,r,m⟩:=I.hok p _ f;have c:=Paired.length r;exact wpAny_truthy_dict l m (by omega) ⟨H,I.tok _,by rw[HZ r];exact q⟩
 | _=>exact(e).elim
theorem BM(l:PE X a ta)(g:∀whole,md a X.env whole=(do let v <-whole;oT a.pos;holding [v] (truthy v))) :
  PT X a (λb H Q=>ta b H λx c=>∃k,Zk5 X.K x c k/\Q k c):=by
 intro d s b H Q I h;exact isTrue_plain (Yo (l d s b H _ I h) λv s1 ⟨x,e,f,i,j⟩=>Zie d s1 b e x v Q f i j) (g _)
theorem Sr{x:V}{a:List aI}(r:Vals [x] a):∃u,a=[u]/\RelV x u:=by
 cases r with
 | cons r1 r2=>cases r2;exact⟨_,rfl,r1⟩
theorem Zgy{x y:V}{a:List aI}(r:Vals [x,y] a):∃u w',a=[u,w']/\RelV x u/\RelV y w':=by
 cases r with
 | cons r1 r2=>
  cases r2 with
  | cons r3 r4=>cases r4;exact⟨_,_,rfl,r1,r3⟩
theorem DF(b:X.calm=aC):XW X (.builtin "max") (λxs H Q=>∃i j,xs=[.int i,.int j]/\Q (.int (if j>i then j else i)) H):=by
 intro c s f H xs e Q I r h;obtain⟨i,j,rfl,q⟩:=h;obtain⟨u,d,rfl,⟨t,rfl⟩,⟨t',rfl⟩⟩:=Zgy r;refine max_two_ints (I.ok.hd b) λh' tk k=>⟨_,H,I.kept k,?_,q⟩;by_cases a:j>i
 ·rw[p9 a,p9 a];exact⟨_,rfl⟩
 ·rw[pW a,pW a];exact⟨_,rfl⟩
theorem DG:XW X (.type "int") (λxs H Q=>(∃i,xs=[.int i]/\Q (.int i) H)\/∃k,xs=[.bl k]/\Q (.int (if k then 1 else 0)) H):=by
 intro b s d H xs c Q I r h;rcases h with⟨i,rfl,q⟩ | ⟨k,rfl,q⟩
 ·obtain⟨u,rfl,t,rfl⟩:=Sr r;exact call_int_int ⟨.int i,H,I,⟨_,rfl⟩,q⟩
 ·obtain⟨u,rfl,a⟩:=Sr r;cases a;exact call_int_bool ⟨.int (if k then 1 else 0),H,I.tok _,⟨_,rfl⟩,q⟩
noncomputable def Zk6(K:aH)(x:V)(H:Hp)(n:Nat):Prop:=
 match x with
 | .str y=>y.length<=sizeLine/\n=y.length
 | .byt y=>y.size<=sizeLine/\n=y.size
 | .ref p=>(∃xs,SqL K H p xs/\n=xs.length)\/∃xs,SqT K H p xs/\n=xs.length
 | _=>False
theorem BN:XW X (.builtin "len") (λxs H Q=>∃x n,xs=[x]/\Zk6 X.K x H n/\Q (.int n) H):=by
 intro l s v H xs m Q I r h;obtain⟨x,n,rfl,e,q⟩:=h;obtain⟨u,rfl,c⟩:=Sr r;have o:=fT
 cases x with
 | str y=>
  obtain⟨t,rfl⟩:=c;obtain⟨j,b⟩:=e;subst b;exact len_str (by omega) ⟨.int _,H,I.tok _,⟨_,rfl⟩,q⟩
 | byt y=>
  obtain⟨t,rfl⟩:=c;obtain⟨j,b⟩:=e;subst b;exact PySem.W.len_bytes (by omega) ⟨.int _,H,I.tok _,⟨_,rfl⟩,q⟩
 | ref p=>
  cases c;have b:=e;rcases b with⟨xs,g,b⟩ | ⟨xs,g,b⟩
  ·subst b;obtain⟨i,f,d,k⟩:=I.list g;have a:=f.length;exact Calls.call_len_list d.isList (by simp only[aU];omega) ⟨.int xs.length,H,I.tok _,⟨_,by simp only[aU];rw[a]⟩,q⟩
  ·subst b;obtain⟨i,f,d,k⟩:=I.tuple g;have a:=f.length;exact len_tuple d (by simp only[aU];omega) ⟨.int xs.length,H,I.tok _,⟨_,by simp only[aU];rw[a]⟩,q⟩
 | _=>exact(e).elim
end
structure ObjM(h:ba)(x dx C:aL)(mA:bH->Option aI):Prop where
 obj:h.get? x=ax (lA C dx)
 ns:h.Ns1 dx mA
 ne:dx≠x
theorem DH{h:ba}{c:aL}{f:bH->Option aI}(n:h.Ns1 c f):∃od,h.get? c=ax od/\∀name,lY name od=ax (f name):=by
 obtain⟨o,d,ep,g,hd,k,_,l⟩:=n;refine⟨o,g,λname=>?_⟩;have e:=l name;unfold nsFind findBy at e;rw[<-Array.find?_toList] at e;unfold lY;rw[hd]
 dsimp only
 split
 ·rename_i y q;rw[q] at e;exact congrArg ax e
 ·rename_i q;rw[q] at e;have a:d.toList.any (·.refKey)=aB:=by rw[List.any_eq_false];intro y j;obtain⟨z,t,b⟩:=k y (Array.mem_toList_iff.mp j);simp[DictEntry.refKey,b]
  have i:¬d.toList.any (·.refKey)=aC:=by rw[a];exact bx
  rw[pW i];exact congrArg ax e
theorem ObjM.look{h:ba}{x c C:aL}{b:bH->Option aI}(I:ObjM h x c C b):∃a,PySem.W.InstAt h x (lA C c) C (ax a)/\∀name,lY name a=ax (b name):=
 let⟨a,e,d⟩:=DH I.ns
 ⟨a,⟨I.obj,rfl,rfl,e⟩,d⟩
theorem RelO.some_of{v:V}{o:Option aI}(r:RelO (ax v) o):∃u,o=ax u/\RelV v u:=by
 cases o with
 | none=>exact(r).elim
 | some u=>exact⟨u,rfl,r⟩
section
variable {P:bM} {w:bc} {H H':Hp} {h h':ba} {a C dx:aL} {fs fs':List (bH×V)}
theorem Zdh(c:HOk P w H h)(e:H a=ax (.ins C dx fs)):∃b,ObjM h a dx C b/\(∀f,RelO (fs.lookup f) (b f))/\pN b (fs.map (·.1))/\fs.length<=1000/\H dx=ax (.own a):=by obtain⟨d,z,ne,g,b,n,r,q⟩:=(c a _ e);exact⟨b,⟨g,n,ne⟩,r,q,z,d⟩
end
structure Cls(K:aH)(C:aL):Prop where
 pg:nZ K C bH.empty=aC
 hd:PySem.W.hasDictIn K C=aC
 po:PySem.W.plainOver K C=aC
 sa:oZ K (.ref C) "__setattr__" = ax (ax (.builtin "object.__setattr__"))
theorem Cls.get{K:aH}{C:aL}(c:Cls K C)(f:bH):nZ K C f=aC:=c.pg
section
variable {X:Cx} {p0:List (aL×dW)} {σ:St} {H:Hp} {s:aO} {A:bq} {E:aI->aO->Prop} {Q:aI->aO->Prop} {c:aI} {b:Bool}
inductive TyOf(K:aH)(H:Hp):V->aI->Prop where
 | non:TyOf K H .non (.type "NoneType")
 | bl (x:Bool):TyOf K H (.bl x) (.type "bool")
 | int (i:Int):TyOf K H (.int i) (.type "int")
 | str (x:bH):TyOf K H (.str x) (.type "str")
 | flt (x:UInt64):TyOf K H (.flt x) (.type "float")
 | lst {a:aL} {xs:List V} (e:H a=ax (.lst xs)):TyOf K H (.ref a) (.type "list")
 | frz {a:aL} {o:dW} {xs:List V} (e:H a=ax (.frz o (.lst xs))):TyOf K H (.ref a) (.type "list")
 | tup {a:aL} {xs:List V} (e:H a=ax (.tup xs)):TyOf K H (.ref a) (.type "tuple")
 | dK {a:aL} {p4:List (Y8×V)} (e:H a=ax (.dK p4)):TyOf K H (.ref a) (.type "dict")
 | dT {a:aL} {p4:List (List Y8×V)} (e:H a=ax (.dT p4)):TyOf K H (.ref a) (.type "dict")
 | ins {a C dx:aL} {fs:List (bH×V)} (e:H a=ax (.ins C dx fs)) (cl:Cls K C) (ha:oZ K (.ref C) "__class__" = ax (ax (.builtin "object.__class__")))
   (hn:PySem.W.specialIn K (.builtin "object.__class__") "__get__" = ax (ax (.builtin "getset_descriptor.__get__"))) (htk:PySem.W.takesIn K (.builtin "object.__class__")=ax aC)
   (hm:PySem.W.mroIn K C (.type "object")=ax aC):TyOf K H (.ref a) (.ref C)
theorem DI{x:V}{u t:aI}(I:Inv X p0 σ H s)(d:RelV x u)(ty:TyOf X.K H x t)(e:dO X.K t c=ax b)(h:∀tk,Q (.bool b) { s with toks:=tk }) :
  bJ (model X.prog X.w) A (call (.builtin "isinstance") [u,c]) Q E s:=by
 cases ty with
 | non=>cases (d);exact cZ PySem.W.kitx_none I.kIn b8 e (λz=>nomatch z) h
 | bl y=>cases (d);exact cZ PySem.W.kitx_bool I.kIn b8 e (λz=>nomatch z) h
 | int i=>obtain⟨t,q⟩:=(d);cases q;exact cZ PySem.W.kitx_int I.kIn b8 e (λz=>nomatch z) h
 | str y=>obtain⟨t,q⟩:=(d);cases q;exact cZ PySem.W.kitx_str I.kIn b8 e (λz=>nomatch z) h
 | flt y=>obtain⟨t,q⟩:=(d);cases q;exact cZ PySem.W.kitx_float I.kIn b8 e (λz=>nomatch z) h
 | @lst a xs ea=>
  cases (d);obtain⟨_,_,n,_,f⟩:=(I.hok a _ ea);exact cZ nM I.kIn ⟨_,f,rfl⟩ e (λz=>nomatch z) h
 | @frz a ob xs ea=>
  cases (d);obtain⟨_,_,_,n,_,f⟩:=(I.hok a _ ea);exact cZ nM I.kIn ⟨_,f,rfl⟩ e (λz=>nomatch z) h
 | @tup a xs ea=>
  cases (d);obtain⟨_,_,_,p⟩:=(I.hok a _ ea);obtain⟨o,f,g,_⟩:=p;exact cZ PySem.W.kitx_tuple I.kIn ⟨o,f,g⟩ e (λz=>nomatch z) h
 | @dK a p4 ea=>
  cases (d);obtain⟨_,_,vs,_,p⟩:=(I.hok a _ ea);obtain⟨o,j,ep,f,g,_⟩:=p;exact cZ nO I.kIn ⟨o,f,g.1⟩ e (λz=>nomatch z) h
 | @dT a p4 ea=>
  cases (d);obtain⟨_,_,xs,_,o,j,ep,f,g,_⟩:=(I.hok a _ ea);exact cZ nO I.kIn ⟨o,f,g.1⟩ e (λz=>nomatch z) h
 | @ins a C dx fs ea cl ha hn htk hm=>
  cases (d);obtain⟨l,O,_⟩:=Zdh I.hok ea;obtain⟨k,J,_⟩:=O.look;exact cZ (PySem.W.kitx_own (cl.get _) cl.hd ha hn htk hm) I.kIn J e (λz=>nomatch z) h
end
structure Room(k:Nat)(A:bq):Prop where
 hd:A.handled=aA
 dp:A.depth+3*k+5<recursionLimit
 un:A.units+16*k+200<dz
 gd:A.guards=ax []
theorem Room.mono{j k:Nat}{A:bq}(r:Room k A)(h:j<=k):Room j A:=⟨r.hd,by have:=r.dp;omega,by have:=r.un;omega,r.gd⟩
theorem Room.deeper{k:Nat}{A:bq}(r:Room (k+1) A)(env:ma):Room k (A.deeper env):=
 ⟨r.hd,by have:=r.dp;show A.depth+1+3*k+5<_;omega,by have:=r.un;show A.units+3+16*k+200<_;omega,r.gd⟩
theorem Room.depth{k:Nat}{A:bq}(r:Room k A):A.depth<recursionLimit:=by have:=r.dp;omega
theorem Room.units{k:Nat}{A:bq}(r:Room k A):A.units+64<dz:=by have:=r.un;omega
noncomputable def DJ:TA:=λ_ H Q=>Q [] H
noncomputable def Q4(ta:TE)(tr:TA):TA:=λσ H Q=>ta σ H λx H1=>tr σ H1 λxs H2=>Q (x::xs) H2
section
variable {X:Cx} {e:bO} {es:List bO} {te:TE} {t:TA} {pos:dw}
theorem Y0:PA X [] DJ:=λ_ _ _ _ H Q I h=>gK ⟨[],H,I,.nil,h⟩
theorem Z2(k:PE X e te)(j:PA X es t)(g:aP (e::es) X.env=(aB,eval e X.env)::aP es X.env:=by rfl):PA X (e::es) (Q4 te t):=by intro pos a s b H Q I h;rw[g];refine eB (Yo (k a s b H _ I h) λu s1 ⟨x,c,l,f,m⟩=>?_);exact Yo (j pos a s1 b c _ l m) λp s2 ⟨xs,i,o,n,d⟩=>⟨x::xs,i,o,.cons f n,d⟩
noncomputable def Zk7(t:TA):TE:=λσ H Q=>t σ H λxs H1=>xs.length<=sizeLine/\∀p,H1 p=aA->Q (.ref p) (upd H1 p (.tup xs))
noncomputable def Znq(t:TA):TE:=λσ H Q=>t σ H λxs H1=>xs.length<=sizeLine/\∀p,H1 p=aA->Q (.ref p) (upd H1 p (.lst xs))
theorem H9{x1}(h:PA X es t):PE X (.Tuple es x1 pos) (Zk7 t):=by intro c s i H Q I j;refine wpAny_Tuple_spliced (Yo (h pos c s i H _ I j) λf s1 ⟨xs,d,a,r,z,q⟩=>⟨by rw[<-r.length];exact z,?_⟩);have g:=a.hok.fresh (aZ _);refine⟨.ref s1.heap.objs.size,upd d s1.heap.objs.size (.tup xs),a.laid (λb u e=>aK _ e) (aZ _) ?_,rfl,q _ g⟩;exact⟨⟨z,λo e=>OA e⟩,f,r,⟨_,ak _ rfl,rfl,_,rfl⟩⟩
theorem BO(h:PA X es t):PE X (.List es pos) (Znq t):=by intro c s i H Q I j;refine wpAny_List_spliced (Yo (h pos c s i H _ I j) λf s1 ⟨xs,d,a,r,z,q⟩=>⟨by rw[<-r.length];exact z,?_⟩);have g:=a.hok.fresh (aZ _);refine⟨.ref s1.heap.objs.size,upd d s1.heap.objs.size (.lst xs),a.laid (λb u e=>aK _ e) (aZ _) ?_,rfl,q _ g⟩;exact⟨z,f,0,r,ak _ rfl⟩
end
abbrev Sp:=List V->Hp->VK->XK->Prop
abbrev CXT:=List ma->Hp->aO->XK->aI->aO->Prop
structure Env0(P:bM)(w:bc)(K:aH)(mg:bH->Option aI)(base:ba)(A:bq)(outer:List ma)(s:aO)(H:Hp):Prop where
 frames:A.frames=ax outer
 mod:Mod K mg base
 bs:∀b o,base.get? b=ax o->s.heap.get? b=ax o/\H b=aA
 bsz:base.objs.size<=s.heap.objs.size
 funs:s.heap.FunFrames base outer
 frf:∀b∈Kc outer,H b=aA
 tab:TabsH K mg base H
 hok:HOk P w H s.heap
 bare:k5 s.gens
noncomputable def CE(outer:List ma)(P:bM)(w:bc)(H:Hp)(s:aO)(Q:VK)(u:aI)(s':aO):Prop:=
 ∃v H',s'.os=s.os/\k5 s'.gens/\Un (Kc outer) [] H H' s.heap s'.heap/\HOk P w H' s'.heap/\RelV v u/\Q v H'
noncomputable def CR(CX:CXT)(outer:List ma)(P:bM)(w:bc)(H:Hp)(s:aO)(Q:VK)(E:XK)(r:pQ)(s':aO):Prop:=
 match r with
 | .ok (.ret u)=>CE outer P w H s Q u s'
 | .ok _=>False
 | .error e=>CX outer H s E e s'
structure Pq(P:bM)(w:bc)(K:aH)(mg:bH->Option aI)(base:ba)(CX:CXT)(k:Nat)(f:aL)(fd:fL)(ps:List bH)(sp:Sp):Prop where
 len:∀vs H Q E,sp vs H Q E->vs.length=ps.length
 run:∀(A:bq)(outer:List ma)(s:aO)(H:Hp)(args:Args)(us:List aI)(vs:List V)(Q:VK)(E:XK),Room k A->Env0 P w K mg base A outer s H->nP s fd args (ps.zip us)->Vals vs us->sp vs H Q E->
  jQ (model P w) A (.call (.ref f) args) (CR CX outer P w H s Q E) s
section
variable {X:Cx} {p0:List (aL×dW)} {σ:St} {H:Hp} {s s':aO}
theorem Inv.env0(I:Inv X p0 σ H s):Env0 X.prog X.w X.K X.mg X.base X.A X.stack s H:=
 ⟨I.ok.frames,I.ok.mod,I.bs,cD I.ok.bsz I.sz,I.stack,I.stkFree,I.ok.tab.un I.base,I.hok,I.bare⟩
theorem Inv.after{Q:VK}{u:aI}(I:Inv X p0 σ H s)(h:CE X.stack X.prog X.w H s Q u s'):EP X p0 σ Q u s':=by obtain⟨v,e,os,a,un,c,r,q⟩:=h;obtain⟨i,g,d,t,f⟩:=s';obtain rfl:=os;exact⟨v,e,I.call un c a (λb z=>absurd z (by simp)),r,q⟩
end
noncomputable def Zg0(sp:Sp)(dvs:List V)(E:XK)(t:TA):TE:=λσ H Q=>t σ H λvs H1=>sp (vs++dvs) H1 Q E
noncomputable def Binds(K:aH)(fd:fL)(ps:List bH)(ds:List aI):Prop:=
 ∀(s:aO)(us:List aI),K.In s.heap->(us++ds).length=ps.length->nP s fd ⟨us,[]⟩ (ps.zip (us++ds))
theorem Binds.all{K:aH}{d:fL}{b:List bH}(h:∀a:List aI,a.length=b.length->j4 d ⟨a,[]⟩=pure (b.zip a)):Binds K d b []:=λs a _ c=>by rw[dX] at c ⊢;exact .of_eq (h a c)
noncomputable def Ga(CX:CXT)(X:Cx)(E:XK):Prop:=∀(p0:List (aL×dW))(σ:St)(H:Hp)(s:aO)(e:aI)(s':aO),Inv X p0 σ H s->CX X.stack H s E e s'->X.xe e s'
section
variable {X:Cx} {CX:CXT} {k:Nat} {f C:aL} {fd:fL} {ps:List bH} {sp:Sp} {dvs:List V} {ds:List aI} {E:XK} {x m:bH} {p pos apos:dw} {e o:bO} {es:List bO} {ta:TE} {t:TA}
theorem Zif{c:List (aL×dW)}{d:St}{H:Hp}{s:aO}{Q:VK}{a:List aI}{vs:List V}(F:Pq X.prog X.w X.K X.mg X.base CX k f fd ps sp)(j:Room k X.A)(m:Binds X.K fd ps ds)(hd:Vals dvs ds)(n:Ga CX X E)
  (I:Inv X c d H s) (r:Vals vs a) (h:sp (vs++dvs) H Q E):bJ (model X.prog X.w) X.A (call (.ref f) a) (EP X c d Q) X.xe s:=by
 have g:=r.append hd;have l:(a++ds).length=ps.length:=by rw[<-g.length];exact F.len _ _ _ _ h
 refine me (gZ (F.run X.A X.stack s H ⟨a,[]⟩ (a++ds) (vs++dvs) Q E j I.env0 (m s a I.kIn l) g h) λr i b=>?_)
 cases r with
 | error e=>exact n c d H s e i I b
 | ok fl=>
  cases fl with
  | ret u=>exact I.after b
  | next=>exact dD b
  | brk=>exact dD b
  | cont=>exact dD b
theorem Zdi(F:Pq X.prog X.w X.K X.mg X.base CX k f fd ps sp)(i:Room k X.A)(g:Gl X x)(o:X.mg x=ax (.ref f))(n:iM X.K (.ref f)=aC)(u:Binds X.K fd ps ds)(hd:Vals dvs ds)(v:Ga CX X E)
  (j:PA X (e::es) t) (a:(x==("__debug__" : bH))=aB:=by decide) (l:aP (e::es) X.env=(aB,eval e X.env)::aP es X.env:=by rfl) (b:(dC pos (aP es X.env)).any (·.1)=aB:=by rfl) :
  PE X (.Call (.Name x p) (e::es) [] pos) (Zg0 sp dvs E t):=by
 intro d s m H Q I h;refine dE (Kd I g o ?_ a);refine mf I.ok.mod.kin n (Yo (j pos d s m H _ I h) λy s1 ⟨vs,w,c,r,q⟩=>⟨c.kIn,?_⟩) l b;exact Zif F i u hd v c r q
end
noncomputable def PK(X:Cx)(kws:List mN)(t:TA):Prop:=
 ∀(pos:dw)(p0:List (aL×dW))(s:aO)(σ:St)(H:Hp)(Q:List V->Hp->Prop),Inv X p0 σ H s->t σ H Q->bJ (model X.prog X.w) X.A (evalAll ((o4 pos (lZ kws X.env)).map (·.2))) (AP X p0 σ Q) X.xe s
structure Zq(N P:List bH)(sc:gC):Prop where
 kind:sc.kind = .function
 co:sc.isCoroutine=aB
 gen:sc.isGenerator=aB
 nd:N.Nodup
 pre:N.take P.length=P
 par:∀x∈P,sc.names.lookup x=ax .local\/sc.names.lookup x=ax .cell
 nofree:∀y∈sc.names,y.2≠.free
theorem M7{kindOf:bH->Option fM}{x:bH}:∀{binds:List (bH×aI)}{m:bH->Option aI},(∀v,(x,v)∉binds)->o5 kindOf binds m x=m x
 | [],_,_=>rfl
 | (n,v)::r,m,h=>by
  unfold o5;rw[M7 λw a=>h w (aN _ a)];split
  ·have:x≠n:=by rintro rfl;exact h v ag
   simp[this]
  ·rfl
theorem M8{kindOf:bH->Option fM}{x:bH}:∀{binds:List (bH×aI)}{m:bH->Option aI},(∀v,(x,v)∉binds)->o6 kindOf binds m x=m x
 | [],_,_=>rfl
 | (n,v)::r,m,h=>by
  unfold o6;rw[M8 λw a=>h w (aN _ a)];split
  ·rfl
  ·have:x≠n:=by rintro rfl;exact h v ag
   simp[this]
theorem M9{kindOf:bH->Option fM}{x:bH}{v:aI}:∀{P:List bH}{vs:List aI}{i:Nat}{m:bH->Option aI},P.Nodup->P[i]?=ax x->vs[i]?=ax v->kindOf x=ax .local->
  o5 kindOf (P.zip vs) m x=ax v
 | [],_,_,_,_,h,_,_=>by simp at h
 | _::_,[],_,_,_,_,h,_=>by simp at h
 | p::P,w::vs,0,m,nd,h1,h2,hk=>by simp at h1 h2;subst h1;subst h2;show o5 kindOf ((p,w)::P.zip vs) m p=_;unfold o5;rw[M7 λv a=>(aq.mp nd).1 (gx a).1,p9 hk];simp
 | p::P,w::vs,i+1,m,nd,h1,h2,hk=>by show o5 kindOf ((p,w)::P.zip vs) m x=_;unfold o5;exact M9 (i:=i) (aq.mp nd).2 (by simpa using h1) (by simpa using h2) hk
theorem La{kindOf:bH->Option fM}{x:bH}{v:aI}:∀{P:List bH}{vs:List aI}{i:Nat}{m:bH->Option aI},P.Nodup->P[i]?=ax x->vs[i]?=ax v->kindOf x≠ax .local->
  o6 kindOf (P.zip vs) m x=ax v
 | [],_,_,_,_,h,_,_=>by simp at h
 | _::_,[],_,_,_,_,h,_=>by simp at h
 | p::P,w::vs,0,m,nd,h1,h2,hk=>by simp at h1 h2;subst h1;subst h2;show o6 kindOf ((p,w)::P.zip vs) m p=_;unfold o6;rw[M8 λv a=>(aq.mp nd).1 (gx a).1,pW hk];simp
 | p::P,w::vs,i+1,m,nd,h1,h2,hk=>by show o6 kindOf ((p,w)::P.zip vs) m x=_;unfold o6;exact La (i:=i) (aq.mp nd).2 (by simpa using h1) (by simpa using h2) hk
noncomputable def start(N:List bH)(vs:List V):St:=vs.map ax++aS (N.length-vs.length) aA
noncomputable def OC(CX:CXT)(P:bM)(w:bc)(K:aH)(mg:bH->Option aI)(base:ba)(N:List bH)(qual:bH)(scope:gC)(f:aL)(cd:aI)(A:bq)(outer:List ma)(s:aO)(H:Hp)(E:XK):Cx where
 prog:=P
 w:=w
 K:=K
 mg:=mg
 base:=base
 A:=A.deeper (iZ qual scope s.heap.objs.size f cd)
 N:=N
 s₀:=s
 H₀:=H
 env:=iZ qual scope s.heap.objs.size f cd
 outer:=outer
 stack:=iZ qual scope s.heap.objs.size f cd::outer
 ex:=[]
 calm:=aC
 fn:=λ_=>aC
 pn:=[]
 xe:=λe s'=>bJ (model P w) (A.deeper (iZ qual scope s.heap.objs.size f cd)) (leaving (iZ qual scope s.heap.objs.size f cd) e) (λ_ s''=>CX outer H s E e s'') (λe' s''=>CX outer H s E e' s'') s'
theorem JX{a:gC}{n:Nat}{x:bH}(h:a.names.lookup x=ax .cell):∃c,(cellsFrom n a.names []).lookup x=ax c:=by have q:=k6 a.names n [] (.inl h);exact cT.mp q
theorem F8{a b c:bH}(h:a++c=b++c):a=b:=by
 obtain⟨a⟩:=a;obtain⟨b⟩:=b;have d:a++c.cps=b++c.cps:=congrArg bH.cps h;have e:a.toList++c.cps.toList=b.toList++c.cps.toList:=by rw[<-dk,<-dk,d]
 have f:=Array.toList_inj.mp (List.append_cancel_right e);rw[f]
theorem DK{O:CXT}{P:bM}{w:bc}{K:aH}{mg:bH->Option aI}{n:ba}{N o:List bH}{g:bH}{d:gC}{f:aL}{D:aI}{A:bq}{j:List ma}{s s1:aO}{H:Hp}{E:XK}{J:List aI}{vs:List V}
  (L:dM K D g=aC) (S:Zq N o d) (hd:A.handled=aA) (m:Env0 P w K mg n A j s H) (X:vs.length=o.length) (r:Vals vs J)
  (x:InCallC s s.heap.objs.size (o5 (iZ g d s.heap.objs.size f D).kindOf (o.zip J) λ_=>aA) (cellsFrom (s.heap.objs.size+1) d.names []) (o6 (iZ g d s.heap.objs.size f D).kindOf (o.zip J) λ_=>aA) s1) :
  Inv (OC O P w K mg n N g d f D A j s H E) [] (start N vs) H s1:=by
 have R:o.length<=N.length:=by have:=congrArg df S.pre;rw[bG] at this;omega
 obtain⟨G,tk,rfl,Q⟩:=x.done;have t:∀b:aL,b∉(OC O P w K mg n N g d f D A j s H E).ex:=λb z=>absurd (show b∈([]:List aL) from z) (by simp)
 refine⟨⟨m.mod,S.kind,rfl,rfl,aZ _,λy z c G l=>?_,λy B=>?_,λy c _ h=>?_,λ_=>hd,l3 m.frames,.inr ⟨rfl,rfl⟩,λb z=>absurd z (t b),m.bs,m.bsz,λb _ _=>t b,λb z=>absurd z (t b),m.funs,m.frf,m.tab,λq _ U _=>by rw[<-F8 U];exact L⟩,
  rfl,m.bare,Un.kept Q,⟨_,x.toInCall.ns,λi y v G l Y=>?_⟩,λy c h=>⟨_,x.cell y c h⟩,m.hok.fresh (aZ _),λy c h=>?_,λp F=>absurd (show p∈([]:List (aL×dW)) from F) (by simp),m.hok.kept Q,?_⟩
 ·exact name_of_addr x.apart (cu G) (cu l)
 ·have B:=B;rcases B with B | B
  ·exact JX B
  ·exact absurd rfl (S.nofree _ (cu B))
 ·exact cJ (x.above y c (cu h))
 ·have I:i<vs.length:=by
   unfold start at l;by_cases I:i<vs.length
   ·exact I
   ·rw[bA (by simpa using I)] at l;rw[b7] at l;split at l<;>cases l
  have T:vs[i]?=ax v:=by
   unfold start at l;rw[aj (by simpa using I),aX] at l
   cases e:vs[i]? with
   | none=>rw[e] at l;cases l
   | some a=>rw[e] at l;cases l;rfl
  obtain⟨u,M,W⟩:=r.get T;have F:o[i]?=ax y:=by rw[<-S.pre,dA (by omega)];exact G
  have C:o.Nodup:=by rw[<-S.pre];exact S.nd.sublist (e7 _ _)
  refine⟨u,W,?_⟩;rcases S.par y (av F) with k | k
  ·exact .inl ⟨k,M9 C F M k⟩
  ·obtain⟨c,e⟩:=JX k;refine .inr ⟨.inl k,c,e,?_⟩;have q:=x.cell y c e;rw[La C F M (by show d.names.lookup y≠_;rw[k];decide)] at q;exact q
 ·exact m.hok.fresh (cJ (x.above y c (cu h)))
 ·unfold start;show _=N.length;rw[aT,aJ,cL];omega
theorem XX{O:CXT}{P:bM}{w:bc}{K:aH}{mg:bH->Option aI}{i:ba}{k:Nat}{f:aL}{name d:bH}{h:mO}{j:List cB}{a:gC}{Z kV D pm g ct oc:aI}{an od:Option aL}
  {T:Array (Option aI)} {N M:List bH} {W:Sp} (lk:K.lookup f=ax ⟨oc,od,.func (dP name d h j a Z kV D pm an g ct),T⟩) (L:dM K g d=aC) (S:Zq N M a)
  (len:∀vs H Q E,W vs H Q E->vs.length=M.length)
  (z:∀(A:bq)(c:List ma)(s:aO)(H:Hp)(vs:List V)(Q:VK)(E:XK),Room k (A.deeper (iZ d a s.heap.objs.size f g))->W vs H Q E->
   ∃t,PSs (OC O P w K mg i N d a f g A c s H E) j t/\t { nx:=λ_ m=>Q .non m,rt:=Q } (start N vs) H) :
  Pq P w K mg i O (k+1) f (dP name d h j a Z kV D pm an g ct) M W:=by
 refine⟨len,λA c s H args us vs Q E X G hb r F=>?_⟩;have hl:=len _ _ _ _ F;have KX:=G.mod.kin.keeps λb o e=>(G.bs b o e).1;have U:=G.mod.nolimit.keeps λb o e=>(G.bs b o e).1
 have p:∀y∈M.zip us,a.names.lookup y.1=ax .local\/(a.names.lookup y.1=ax .cell/\((cellsFrom (s.heap.objs.size+1) a.names []).lookup y.1).isSome=aC):=λ⟨n,v⟩ hy=>by
  rcases S.par n (gx hy).1 with q | q
  ·exact .inl q
  ·exact .inr ⟨q,k6 _ _ _ (.inl q)⟩
 refine codeAny_call_function X.depth (KX _ _ lk) rfl S.co S.gen rfl (PySem.W.codeRec_of KX L) (hb _ _ _ _ ?_);refine wpAny_newFunctionEnv_cells S.kind p λenv he s1 x=>?_;subst he;refine⟨U.keeps x.toInCall.keep,codeAny_func ?_⟩;obtain⟨t,ht,hq⟩:=z A c s H vs Q E (X.deeper _) F;have I:Inv (OC O P w K mg i N d a f g A c s H E) [] (start N vs) H s1:=DK L S X.hd G hl r x;refine cU (ht [] s1 (start N vs) H _ I hq) (λfl R B=>?_) λe R B=>B
 have C:∀{l:St}{m:Hp}{v:V}{u:aI},Inv (OC O P w K mg i N d a f g A c s H E) [] l m R->RelV v u->Q v m->CE c P w H s Q u R:=
  λ{l m v u} J Y q=>⟨v,m,J.os,J.bare,J.base,J.hok,Y,q⟩
 cases fl with
 | ret u=>
  obtain⟨v,l,m,J,Y,q⟩:=B;exact C J Y q
 | next=>
  obtain⟨l,m,J,q⟩:=B;exact C (v:=V.non) J rfl q
 | brk=>
  obtain⟨_,_,_,q⟩:=B;exact dD q
 | cont=>
  obtain⟨_,_,_,q⟩:=B;exact dD q
section
variable {X:Cx} {x:bH} {p pos:dw} {e:bO} {es:List bO} {t:TA} {id T:String} {r:List V->Hp->VK->Prop}
noncomputable def tCB(r:List V->Hp->VK->Prop)(t:TA):TE:=λσ H Q=>t σ H λvs H1=>r vs H1 Q
theorem JY(i:XW X (.builtin id) r)(j:Gl X x)(v:X.mg x=aA)(f:dB x=ax (.builtin id))(n:PA X (e::es) t)(k:x≠"__name__":=by decide)(a:(x==("__debug__" : bH))=aB:=by decide)
  (q:aP (e::es) X.env=(aB,eval e X.env)::aP es X.env:=by rfl) (b:(dC pos (aP es X.env)).any (·.1)=aB:=by rfl):PE X (.Call (.Name x p) (e::es) [] pos) (tCB r t):=by
 intro c s d H Q I h;refine dE (XZ I j v f ?_ k a);exact fO (Yo (n pos c s d H _ I h) λm s1 ⟨vs,g,o,l,u⟩=>i c s1 d g vs m Q o l u) q b
theorem Lb(i:XW X (.type T) r)(j:Gl X x)(v:X.mg x=aA)(f:dB x=ax (.type T))(n:PA X (e::es) t)(k:x≠"__name__":=by decide)(a:(x==("__debug__" : bH))=aB:=by decide)
  (q:aP (e::es) X.env=(aB,eval e X.env)::aP es X.env:=by rfl) (b:(dC pos (aP es X.env)).any (·.1)=aB:=by rfl):PE X (.Call (.Name x p) (e::es) [] pos) (tCB r t):=by
 intro c s d H Q I h;refine dE (XZ I j v f ?_ k a);exact bg (Yo (n pos c s d H _ I h) λm s1 ⟨vs,g,o,l,u⟩=>i c s1 d g vs m Q o l u) q b
end
end L2
namespace HT
open PySem PyProof.Rows
section
variable {prog:bM} {w:bc} {A:bq} {E:aI->aO->Prop} {s:aO}
theorem cat_tup{t b:aL}{vs a:List aI}{Q:aI->aO->Prop}(y:IsTup s.heap t vs.toArray)(C:IsTup s.heap b a.toArray)(o:vs≠[])
  (z:a=[]->Q (.ref t) s) (B:a≠[]->Q (.ref s.heap.objs.size) { s with heap:=s.heap.push { cls:=.type "tuple",data:=.seq (vs++a).toArray } })
  (m:vs.length+a.length<=sizeLine):bJ (model prog w) A (dy .Add (.ref t) (.ref b)) Q E s:=by
 obtain⟨⟨j,v,f,p⟩,h,x,n,hd⟩:=id y;obtain⟨⟨u,g,data2,d⟩,c,l,q,k⟩:=id C;subst x hd l k;have e:vs.toArray++a.toArray=(vs++a).toArray:=by simp
 by_cases i:a=[]
 ·exact k8 ⟨_,h,rfl⟩ ⟨_,c,rfl⟩ kP mX iN iD (gn _ _)
   (tuple_addW1 t b vs.toArray a.toArray n q v g p d (by simpa using o) (by simp[i])) ⟨h,c,z i⟩
 ·refine k8 ⟨_,h,rfl⟩ ⟨_,c,rfl⟩ kP mX iN iD (gn _ _)
   (tuple_addW2 t b vs.toArray a.toArray n q v g p d (by simpa using o) (by simpa using i) (by rw[aU];exact m)) ⟨h,c,?_⟩
  rw[e];exact B i
noncomputable def sIx(n d:Nat):Option Int->Nat
 | none=>d
 | some v=>if v<0 then(v+(n:Int)).toNat else min v.toNat n
theorem sIx_none(n d:Nat):sIx n d aA=d:=rfl
theorem sIx_nat(n d k:Nat):sIx n d (ax (k:Int))=min k n:=rfl
theorem F9(v:Int)(n d:Nat):(if v<0 then max (v+(n:Int)) 0 else min v (n:Int))=((sIx n d (ax v):Nat):Int):=by
 show(if v<0 then max (v+(n:Int)) 0 else min v (n:Int))=(((if v<0 then(v+(n:Int)).toNat else min v.toNat n):Nat):Int);by_cases a:v<0
 ·simp only[p9 a];omega
 ·simp only[pW a];omega
theorem Gb(lo a:Option Int)(n:Nat):jd lo a 1 (n:Int)=(((sIx n 0 lo:Nat):Int),((sIx n n a:Nat):Int)):=by
 refine Prod.ext ?_ ?_
 ·cases lo with
  | none=>rfl
  | some v=>exact F9 v n 0
 ·cases a with
  | none=>rfl
  | some v=>exact F9 v n n
theorem Gd(i j:Nat):eQ (i:Int) (j:Int) 1=j-i:=by
 unfold eQ;split<;>omega
theorem OD{v:aI}{o:Option Int}{Q:Option Int->aO->Prop}(p:mh v o)(h:Q o s):bJ (model prog w) A (fj.Slice.slicePartIndex v) Q E s:=by
 cases p with
 | none=>exact slicePart_none h
 | int i t=>exact slicePart_int h
theorem R8{d:aL}{f e:aI}{lo b:Option Int}{n:Nat}{Q:Int×Int×Nat->aO->Prop}(j:s.heap.IsSliceOf d f e .none)(g:mh f lo)(i:mh e b)
  (h:Q (((sIx n 0 lo:Nat):Int),1,sIx n n b-sIx n 0 lo) s):bJ (model prog w) A (fj.Slice.sliceApplied (.ref d) (pure (n:Int))) Q E s:=by
 obtain⟨os,a,k,c⟩:=id j;refine aG (aG (cx a c rfl (aG (cx a c rfl (aG (cx a c rfl (aW ?_)))))));refine aG (slicePart_none ?_);refine aG (OD g (aG (OD i (aG (aW ?_)))));show bJ _ _ (match jd lo b 1 (n:Int) with | (lo,b)=>pure (lo,(1:Int),eQ lo b 1)) _ _ s;rw[Gb lo b n];show bJ _ _ (pure (((sIx n 0 lo:Nat):Int),(1:Int),eQ ((sIx n 0 lo:Nat):Int) ((sIx n n b:Nat):Int) 1)) _ _ s;rw[Gd];exact aW h
theorem BP(xs:Array aI)(i k:Nat):((aD k).filterMap λ(m:Nat)=>xs[((i:Int)+(m:Int)*1).toNat]?).toArray=((xs.toList.drop i).take k).toArray:=by
 have e:(λ(m:Nat)=>xs[((i:Int)+(m:Int)*1).toNat]?)=λm=>xs[i+m]?:=by
  funext m;have:((i:Int)+(m:Int)*1).toNat=i+m:=by omega
  rw[this]
 rw[e];have:=pick_run xs i k;rw[List.filterMap_map] at this;have a:((λx=>xs[x]?) ∘ λx=>i+x)=λm=>xs[i+m]?:=rfl;rw[a] at this;rw[this]
theorem getItem_tuple_cut{t e:aL}{items:Array aI}{l k:aI}{lo b:Option Int}{Q:aI->aO->Prop}(c:IsTup s.heap t items)(j:s.heap.IsSliceOf e l k .none)(n:mh l lo)(o:mh k b)
  (p:¬(sIx items.size 0 lo=0/\sIx items.size items.size b=items.size))
  (h:Q (.ref s.heap.objs.size) { s with heap:=s.heap.push { cls:=.type "tuple",data:=.seq ((items.toList.drop (sIx items.size 0 lo)).take (sIx items.size items.size b-sIx items.size 0 lo)).toArray } })
  (m:items.size<=sizeLine):bJ (model prog w) A (k9 (.ref t) (.ref e)) Q E s:=by
 have a:sizeOk (.seq ((items.toList.drop (sIx items.size 0 lo)).take (sIx items.size items.size b-sIx items.size 0 lo)).toArray):=by show((items.toList.drop (sIx items.size 0 lo)).take (sIx items.size items.size b-sIx items.size 0 lo)).toArray.size<=sizeLine;rw[aU,bG,bU,cM];omega
 obtain⟨os,d,i,u⟩:=id j;have f:s.TypeIs (.ref e) "slice":=⟨os,d,i⟩;unfold k9
 try with_reducible refine fH ?_
 first | refine aG (aW ?_) | skip
 refine aG (wpAny_sequenceKey c.typeIs rfl ?_)
 refine aG (cV c.typeIs fJ
  (cj fJ c.typeIs entry_tuple_getitem ?_ (args_tuple_getitem _ _)))
 show bJ _ _ (fj.Tuple.tupleItemsOf (.ref t) >>= _) _ _ s;refine aG (tupleItemsOf_ c ?_);refine aG (wpAny_typeOf f ?_);refine aG (R8 j n o ?_);have g:¬((((sIx items.size 0 lo:Nat):Int)==0&&(1:Int)==1&&(sIx items.size items.size b-sIx items.size 0 lo)==items.size)=aC):=by intro q;rw[aw,aw] at q;have x:=eq_of_beq q.1.1;have v:=eq_of_beq q.2;exact p ⟨by omega,by omega⟩
 show bJ _ _ (if(((sIx items.size 0 lo:Nat):Int)==0&&(1:Int)==1&&(sIx items.size items.size b-sIx items.size 0 lo)==items.size)=aC then _ else _) _ _ s;rw[pW g,BP]
 first
  | exact aG (cy (aW ⟨_,rfl,aW h⟩) a)
  | exact aG (cy (aG (aW (aW ⟨_,rfl,aW h⟩))) a)
  | exact aG (aG (cy (aW (aW ⟨_,rfl,aW h⟩)) a))
  | exact aG (aG (cy (aW ⟨_,rfl,aW h⟩) a))
end
end HT
namespace L2
open PySem PySem.Spec PyProof.Rows
abbrev TO:=St->Hp->(Option Int->Hp->Prop)->Prop
noncomputable def PO(X:Cx)(e:Option bO)(t:TO):Prop:=
 ∀(p0:List (aL×dW))(s:aO)(σ:St)(H:Hp)(Q:Option Int->Hp->Prop),Inv X p0 σ H s->t σ H Q->
  bJ (model X.prog X.w) X.A (evalPart e X.env) (λu s'=>∃o H',Inv X p0 σ H' s'/\mh u o/\Q o H') X.xe s
noncomputable def Zdj:TO:=λ_ H Q=>Q aA H
noncomputable def Zk8(t:TE):TO:=λσ H Q=>t σ H λx H1=>∃i,x = .int i/\Q (ax i) H1
theorem SA{ns:List Int}:∀{a:List aI},Vals (ns.map V.int) a->i7 a ns:=by
 induction ns with
 | nil=>intro a r;rw[fX] at r;cases r;exact .nil
 | cons n ns ih=>
  intro a r
  cases r with
  | cons r1 r2=>
   obtain⟨t,e⟩:=r1;subst e;exact .cons n t (ih r2)
section
variable {X:Cx} {e:bO} {te:TE} {lo hi:Option bO} {tl th:TO} {pos p2:dw}
theorem Zdk:PO X aA Zdj:=by intro a s b H Q I h;exact aW ⟨aA,H,I,.none,h⟩
theorem Zdl(h:PE X e te):PO X (ax e) (Zk8 te):=by intro a s g H Q I f;refine Yo (h a s g H _ I f) λu s1 ⟨x,b,c,d,j⟩=>?_;obtain⟨i,rfl,q⟩:=j;obtain⟨t,rfl⟩:=d;exact⟨ax i,b,c,.int i t,q⟩
noncomputable def SlR(X:Cx)(r:V->Option Int->Option Int->Hp->VK->Prop):Prop:=
 ∀(p0:List (aL×dW))(s:aO)(σ:St)(H:Hp)(x:V)(v vl vu:aI)(lo hi:Option Int)(sl:aL)(Q:VK),Inv X p0 σ H s->RelV x v->s.heap.IsSliceOf sl vl vu .none->mh vl lo->mh vu hi->r x lo hi H Q->
  ∃T id,typeLookup (.type T) "__getitem__" = pure (ax (.builtin id))/\s.TypeIs v T/\bJ (model X.prog X.w) X.A (k9 v (.ref sl)) (EP X p0 σ Q) X.xe s
noncomputable def tSl(r:V->Option Int->Option Int->Hp->VK->Prop)(te:TE)(tl th:TO):TE:=λσ H Q=>te σ H λx H1=>tl σ H1 λl H2=>th σ H2 λu H3=>r x l u H3 Q
theorem JZ{r:V->Option Int->Option Int->Hp->VK->Prop}(B:SlR X r)(F:PE X e te)(D:PO X lo tl)(w:PO X hi th):PE X (.Subscript e (.Slice lo hi aA p2) pos) (tSl r te tl th):=by intro a s d H Q I h;refine o7 (Yo (F a s d H _ I h) λv s1 ⟨x,k,E,t,G⟩=>?_);refine wpAny_Slice (Yo (D a s1 d k _ E G) λg s2 ⟨l,A,J,y,o⟩=>Yo (w a s2 d A _ J o) λf c ⟨u,i,m,z,C⟩=>?_);refine aW ?_;have j:Inv X a d i { c with heap:=c.heap.push { cls:=.type "slice",data:=.fields #[g,f,.none] } }:=m.kept λb M q=>aK _ q;obtain⟨T,id,L,n,p⟩:=B a { c with heap:=c.heap.push { cls:=.type "slice",data:=.fields #[g,f,.none] } } d i x v g f l u c.heap.objs.size Q j t (ba.IsSliceOf.new ..) y z C;exact tail_any n L p rfl
noncomputable def DL(xs:List V)(lo hi:Option Int):List V:=(xs.drop (HT.sIx xs.length 0 lo)).take (HT.sIx xs.length xs.length hi-HT.sIx xs.length 0 lo)
theorem Q5(xs:List V)(lo a:Option Int):(DL xs lo a).length<=xs.length:=by unfold DL;rw[bG,bU];omega
noncomputable def Zns(K:aH):V->Option Int->Option Int->Hp->VK->Prop:=λx lo hi H Q=>∃a xs,x = .ref a/\SqT K H a xs/\
 ¬(HT.sIx xs.length 0 lo=0/\HT.sIx xs.length xs.length hi=xs.length)/\∀p,H p=aA->Q (.ref p) (upd H p (.tup (DL xs lo hi)))
theorem Zig:SlR X (Zns X.K):=by
 intro t s z H x v y w lo f u Q I i l j k h;obtain⟨a,xs,rfl,n,p,q⟩:=h;cases i;obtain⟨m,r,d,g⟩:=I.tuple n;have c:m.toArray.size=xs.length:=by rw[aU];exact r.length.symm
 refine⟨"tuple",_,fJ.lookup,d.typeIs,?_⟩;refine HT.getItem_tuple_cut d l j k (by rw[c];exact p) ?_ (by rw[c];exact g);rw[c];refine⟨.ref s.heap.objs.size,_,I.laid (λb A q=>aK _ q) (aZ _) ?_,rfl,q _ (I.hok.fresh (aZ _))⟩;exact⟨⟨cD (Q5 xs lo f) g,λo e=>OA e⟩,_,(r.drop (HT.sIx xs.length 0 lo)).take (HT.sIx xs.length xs.length f-HT.sIx xs.length 0 lo),n6 _ _⟩
noncomputable def Zk9(K:aH):R2:=λx y H Q=>∃a b xs ys,x = .ref a/\y = .ref b/\SqT K H a xs/\SqT K H b ys/\xs≠[]/\xs.length+ys.length<=sizeLine/\
 (ys=[]->Q (.ref a) H)/\(ys≠[]->∀p,H p=aA->Q (.ref p) (upd H p (.tup (xs++ys))))
theorem Vals.nil_iff{xs:List V}{a:List aI}(r:Vals xs a):a=[]↔xs=[]:=by
 cases r with
 | nil=>simp
 | cons _ _=>simp
theorem Zdm:TH X (dy .Add) (Zk9 X.K):=by intro A s C H x y v u Q I i l h;obtain⟨a,b,xs,D,rfl,rfl,m,p,t,g,n,j⟩:=h;cases i;cases l;obtain⟨B,d,k,_⟩:=I.tuple m;obtain⟨f,c,p2,_⟩:=I.tuple p;refine HT.cat_tup k p2 (λz=>t (d.nil_iff.mp z)) (λz=>⟨.ref a,H,I,rfl,n (c.nil_iff.mp z)⟩) (λz=>?_) (by rw[<-d.length,<-c.length];exact g);refine⟨.ref s.heap.objs.size,_,I.laid (λb E q=>aK _ q) (aZ _) ?_,rfl,j (λw=>z (c.nil_iff.mpr w)) _ (I.hok.fresh (aZ _))⟩;exact⟨⟨by rw[aT];exact g,λo e=>OA e⟩,_,d.append c,n6 _ _⟩
end
noncomputable def J0(n:Nat)(i:Int):Option Nat:=if 0<=i then(if i<n then ax i.toNat else aA) else if -(n:Int)<=i then ax (i+n).toNat else aA
noncomputable def R9{α:Type}(xs:List α)(i:Int):Option α:=(J0 xs.length i).bind λj=>xs[j]?
theorem Ea{n:Nat}{i:Int}{j:Nat}(h:J0 n i=ax j):n8 i n=ax j/\j<n/\-(n:Int)<=i/\i<n:=by
 unfold J0 at h;by_cases b:0<=i
 ·rw[p9 b] at h;by_cases a:i<n
  ·rw[p9 a] at h;have e:=bC h;exact⟨by rw[oI b a,e],by omega,by omega,a⟩
  ·rw[pW a] at h;cases h
 ·rw[pW b] at h;by_cases a : -(n:Int)<=i
  ·rw[p9 a] at h;have e:=bC h;exact⟨by rw[nQ (by omega) a,e],by omega,a,by omega⟩
  ·rw[pW a] at h;cases h
theorem Kg{a:Type}{xs:List a}{i:Int}{v:a}(h:R9 xs i=ax v):∃j,n8 i xs.length=ax j/\xs[j]?=ax v/\j<xs.length/\-(xs.length:Int)<=i/\i<xs.length:=by
 unfold R9 at h
 cases e:J0 xs.length i with
 | none=>rw[e] at h;cases h
 | some j=>
  rw[e] at h;obtain⟨f,b,c,d⟩:=Ea e;exact⟨j,f,h,b,c,d⟩
theorem TJ{a:Type}{xs:List a}{j:Nat}{v:a}(h:xs[j]?=ax v):R9 xs (j:Int)=ax v:=by
 have b:=(aR.mp h).1;have e:J0 xs.length (j:Int)=ax j:=by unfold J0;rw[p9 (by omega),p9 (by omega)];simp
 unfold R9;rw[e];exact h
noncomputable def Kh(b:bO):Prop:=∀o i,subscripted b aB o i=operate [o,i] (k9 o i)
noncomputable def IxR(X:Cx)(r:R2):Prop:=
 ∀(value slice:bO)(p0:List (aL×dW))(s:aO)(σ:St)(H:Hp)(x y:V)(v u:aI)(Q:VK),Inv X p0 σ H s->RelV x v->RelV y u->r x y H Q->
  subscripted slice aB v u=operate [v,u] (k9 v u)->bJ (model X.prog X.w) X.A (subscriptTail value slice v u) (EP X p0 σ Q) X.xe s
noncomputable def MtR(X:Cx)(id:String)(r:V->List V->Hp->VK->Prop):Prop:=
 ∀(p0:List (aL×dW))(s:aO)(σ:St)(H:Hp)(x:V)(xs:List V)(v:aI)(us:List aI)(Q:VK),Inv X p0 σ H s->RelV x v->Vals xs us->r x xs H Q->
  bJ (model X.prog X.w) X.A (call (.builtin id) (v::us)) (EP X p0 σ Q) X.xe s
section
variable {X:Cx} {a b:bO} {ta tb:TE} {pos:dw}
theorem IxR.or{r g:R2}(h:IxR X r)(h':IxR X g):IxR X (λx y H Q=>r x y H Q\/g x y H Q):=by
 intro a b c s i H x y v u Q I d e q f;rcases q with q | q
 ·exact h a b c s i H x y v u Q I d e q f
 ·exact h' a b c s i H x y v u Q I d e q f
theorem J1{r:R2}(i:IxR X r)(j:PE X a ta)(l:PE X b tb)(f:Kh b):PE X (.Subscript a b pos) (tOp r ta tb):=by intro c s k H Q I h;exact o7 (Zh8 j l I h λv u s2 x y g m d e q=>i a b c s2 k g x y v u Q m d e q (f _ _))
noncomputable def Zih(K:aH):R2:=λx y H Q=>∃p xs i v,x = .ref p/\y = .int i/\SqL K H p xs/\R9 xs i=ax v/\Q v H
noncomputable def Zla(K:aH):R2:=λx y H Q=>∃p xs i v,x = .ref p/\y = .int i/\SqT K H p xs/\R9 xs i=ax v/\Q v H
noncomputable def Zlb:R2:=λx y H Q=>∃z i c,x = .str z/\y = .int i/\z.length<=sizeLine/\R9 z.cps.toList i=ax c/\Q (.str ⟨#[c]⟩) H
theorem ix_list:IxR X (Zih X.K):=by
 intro d f m s E H x y v u Q I n o h g;obtain⟨p,xs,i,z,rfl,rfl,G,D,q⟩:=h;cases n;obtain⟨t,rfl⟩:=o;obtain⟨C,r,e,N⟩:=I.list G;obtain⟨j,b,F,M,A,J⟩:=Kg D;obtain⟨w,l,Xp⟩:=r.get F;have B:=r.length;have L:=Kf;have a:EP X m E Q w s:=⟨z,H,I,Xp,q⟩;by_cases k:0<=i
 ·have c:i.toNat=j:=by rw[oI k J] at b;exact bC b
  exact item_listR e.isList k (by omega) (by rw[c];simpa using l) a g
 ·have c:(i+(C.toArray.size:Int)).toNat=j:=by rw[nQ (by omega) A] at b;rw[aU,<-B];exact bC b
  exact ka e.isList.typeIs slot_list_getitem.lookup
   (wpAny_getItem_list_neg e.isList (by omega) (by rw[aU]<;>omega) (by omega) (by rw[c];simpa using l) ⟨rfl,a⟩) g
theorem ix_tup:IxR X (Zla X.K):=by
 intro b c e s o H x y v u Q I f g h k;obtain⟨p,xs,i,z,rfl,rfl,B,n,q⟩:=h;cases f;obtain⟨t,rfl⟩:=g;obtain⟨G,r,d,J⟩:=I.tuple B;obtain⟨j,l,A,F,E,L⟩:=Kg n;obtain⟨w,C,Xp⟩:=r.get A;have m:=r.length;have D:=Kf;have a:EP X e o Q w s:=⟨z,H,I,Xp,q⟩
 exact ka d.typeIs slot_tuple_getitem.lookup
  (getItem_tuple d (by omega) (by omega) (by rw[aU,<-m];exact l) (by simpa using C) ⟨rfl,a⟩) k
theorem Zii:IxR X Zlb:=by
 intro a b A s D H x y v u Q I e f h k;obtain⟨z,i,c,rfl,rfl,E,m,q⟩:=h;obtain⟨t,rfl⟩:=e;obtain⟨t',rfl⟩:=f;obtain⟨j,d,n,C,g,w⟩:=Kg m;have l:z.cps.toList.length=z.length:=by simp[bH.length]
 rw[l] at d g w;have B:=Kf
 exact tail_any (typeIs_str s z t) slot_str_getitem.lookup (getItem_str (by
  have p:decide (i < -(2^63:Int))=aB:=decide_eq_false (by omega);have o:decide (i ≥ 2^63)=aB:=decide_eq_false (by omega);rw[p,o,Bool.or_false]) (by rw[d];simpa using n) ⟨.str ⟨#[c]⟩,H,I.tok _,⟨_,rfl⟩,q⟩) k
noncomputable def rIx(K:aH):R2:=λx y H Q=>Zih K x y H Q\/Zla K x y H Q\/Zlb x y H Q
theorem Zij:IxR X (rIx X.K):=ix_list.or (ix_tup.or Zii)
theorem Ge(a:List aI)(n j:Nat)(u:aI):mj (·.setIfInBounds j u) { cls:=.type "list",data:=.seq a.toArray n }={ cls:=.type "list",data:=.seq (a.set j u).toArray n }:=by simp[mj]
theorem Inv.lst{b:List (aL×dW)}{c:St}{H:Hp}{s:aO}{p:aL}{xs:List V}(I:Inv X b c H s)(h:H p=ax (.lst xs)) :
  ∃(a:List aI) (n:Nat),Vals xs a/\s.heap.get? p=ax { cls:=.type "list",data:=.seq a.toArray n }/\xs.length<=sizeLine:=by
 obtain⟨z,a,n,r,e⟩:=I.hok p _ h;exact⟨a,n,r,e,z⟩
theorem Inv.lstUpd{g:List (aL×dW)}{k:St}{H:Hp}{s:aO}{p:aL}{xs c:List V}{j a:List aI}{n d:Nat}{f:dW->dW}(I:Inv X g k H s)(h:H p=ax (.lst xs))
  (l:s.heap.get? p=ax { cls:=.type "list",data:=.seq j.toArray n }) (i:f { cls:=.type "list",data:=.seq j.toArray n }={ cls:=.type "list",data:=.seq a.toArray d }) (r:Vals c a) (o:c.length<=sizeLine) (t:Nat) :
  Inv X g k (upd H p (.lst c)) { s with heap:=s.heap.update p f,toks:=t }:=by
 have e:(s.heap.update p f).get? p=ax { cls:=.type "list",data:=.seq a.toArray d }:=by rw[eO f l (by rw[i]<;>rfl),i]
 refine I.write (by rw[h];trivial) (.inl rfl) (λb u m q=>(kb _ _ (bX m)).trans q) ⟨_,e⟩ ?_;exact⟨o,a,d,r,e⟩
noncomputable def BQ:V->V->V->Hp->(Hp->Prop)->Prop:=λo i v H Q=>∃p xs k j,o = .ref p/\i = .int k/\H p=ax (.lst xs)/\J0 xs.length k=ax j/\Q (upd H p (.lst (xs.set j v)))
theorem WO:Zkr X BQ:=by
 intro C s E H o i v F G u Q I z y A h;obtain⟨p,xs,k,j,rfl,rfl,w,x,q⟩:=h;cases z;obtain⟨t,rfl⟩:=y;obtain⟨l,n,r,b,B⟩:=I.lst w;obtain⟨a,J,g,e⟩:=Ea x;have c:=r.length;have D:=Kf
 have f:=
  I.lstUpd w b (Ge l n j u) (r.set A j) (by rw[cG];exact B) s.toks
 by_cases m:0<=k
 ·have d:k.toNat=j:=by rw[oI m e] at a;exact bC a
  exact PySem.W.ki_setAt b m (by omega) (by rw[aU,<-c];exact e) (by rw[d];exact⟨_,f,q⟩)
 ·have d:(k+(l.toArray.size:Int)).toNat=j:=by rw[nQ (by omega) g] at a;rw[aU,<-c];exact bC a
  exact PySem.W.ki_setBack b (by omega) (by rw[aU,<-c];exact g) (by omega) (by rw[d];exact⟨_,f,q⟩)
theorem Ki(lo a:Option Int)(n:Nat):(iE lo a aA n).1=((HT.sIx n 0 lo:Nat):Int)/\(iE lo a aA n).2.1=((HT.sIx n n a:Nat):Int)/\(iE lo a aA n).2.2=1:=by
 refine⟨?_,?_,rfl⟩
 ·cases lo with
  | none=>simp[iE,HT.sIx]
  | some i=>
   simp only[iE,HT.sIx,n9];by_cases h:i<0
   ·simp only[h,if_true]<;>omega
   ·simp only[h,if_false]<;>omega
 ·cases a with
  | none=>simp[iE,HT.sIx]
  | some i=>
   simp only[iE,HT.sIx,n9];by_cases h:i<0
   ·simp only[h,if_true]<;>omega
   ·simp only[h,if_false]<;>omega
theorem MK(a:List aI)(lo b:Option Int):slicePick a.toArray lo b aA=((a.drop (HT.sIx a.length 0 lo)).take (HT.sIx a.length a.length b-HT.sIx a.length 0 lo)).toArray:=by
 obtain⟨e,c,d⟩:=Ki lo b a.toArray.size;unfold slicePick;rw[e,c,d];simp only[sliceRange_one,pick_run]<;>rfl
noncomputable def Znt(K:aH):V->Option Int->Option Int->Hp->VK->Prop:=λx lo hi H Q=>∃a xs,x = .ref a/\SqL K H a xs/\∀p,H p=aA->Q (.ref p) (upd H p (.lst (DL xs lo hi)))
theorem Zdn:SlR X (Znt X.K):=by intro m s u H x v t o lo e n Q I f j g i h;obtain⟨a,xs,rfl,k,q⟩:=h;cases f;obtain⟨p,r,d,l⟩:=I.list k;have c:=r.length;refine⟨"list",_,slot_list_getitem.lookup,d.isList.typeIs,?_⟩;refine wpAny_getItem_list_slice d.isList j g i .none (by simp) ?_ (by rw[aU]<;>omega);rw[MK,<-c];refine⟨.ref s.heap.objs.size,_,I.laid (λb w q=>aK _ q) (aZ _) ?_,rfl,q _ (I.hok.fresh (aZ _))⟩;exact⟨cD (Q5 xs lo e) l,_,0,(r.drop (HT.sIx xs.length 0 lo)).take (HT.sIx xs.length xs.length e-HT.sIx xs.length 0 lo),ak _ rfl⟩
theorem Ub:XW X (.type "list") (λxs H Q=>∃p f,xs=[.ref p]/\(SqL X.K H p f\/SqT X.K H p f)/\∀l,H l=aA->Q (.ref l) (upd H l (.lst f))):=by
 intro x s z H xs A Q I r h;obtain⟨p,f,rfl,k,q⟩:=h;obtain⟨u,rfl,y⟩:=Sr r;cases y
 have g:∀(a:List aI),Vals f a->f.length<=sizeLine->∀(h':ba)(d:Nat),(∀b o',s.heap.get? b=ax o'->h'.get? b=ax o')->
   h'.get? s.heap.objs.size=ax { cls:=.type "list",dict:=aA,data:=.seq a.toArray d,slots:=#[] }->EP X x z Q (.ref s.heap.objs.size) { s with heap:=h' }:=λa c m h' d j e=>
  ⟨.ref s.heap.objs.size,_,I.laid j (aZ _) (show ObjOk X.prog X.w _ h' _ (.lst f) from⟨m,a,d,c,e⟩),rfl,q _ (I.hok.fresh (aZ _))⟩
 rcases k with k | k
 ·obtain⟨a,c,w,m⟩:=I.list k;have i:=c.length;obtain⟨o,v,t,n,hd⟩:=w.isList;exact call_list_seq p (.inl rfl) v t hd (λh' d j e=>g a c m h' d j e) (by simp only[aU]<;>omega)
 ·obtain⟨a,c,w,m⟩:=I.tuple k;have i:=c.length;obtain⟨o,v,t,n,hd⟩:=w;exact call_list_seq p (.inr rfl) v t hd (λh' d j e=>g a c m h' d j e) (by simp only[aU]<;>omega)
theorem Zu:XW X (.type "tuple") (λxs H Q=>∃p a,xs=[.ref p]/\((SqL X.K H p a/\∀l,H l=aA->Q (.ref l) (upd H l (.tup a)))\/(SqT X.K H p a/\Q (.ref p) H))):=by
 intro v s x H xs w Q I r h;obtain⟨p,a,rfl,h⟩:=h;obtain⟨u,rfl,m⟩:=Sr r;cases m;rcases h with⟨f,q⟩ | ⟨f,q⟩
 ·obtain⟨i,d,c,k⟩:=I.list f;have g:=d.length;refine call_tuple_list c.isList (λh' n=>?_) (by simp only[aU]<;>omega);have j:=I.kept (t':=s.toks) n
  have t:=
   j.laid (t':=s.toks) (λb o e=>aK _ e) (aZ _) (show ObjOk X.prog X.w _ _ _ (.tup a) from⟨⟨k,λo e=>OA e⟩,i,d,n6 _ _⟩)
  exact⟨.ref h'.objs.size,_,t,rfl,q _ (j.hok.fresh (aZ _))⟩
 ·obtain⟨i,d,c,k⟩:=I.tuple f;exact call_tuple_same c ⟨.ref p,H,I,rfl,q⟩
noncomputable def tyV(K:aH)(T:String)(x:V)(H:Hp):Prop:=match x with
 | .str _=>T = "str"
 | .int _=>T = "int"
 | .ref p=>(T = "list"/\∃xs,SqL K H p xs)\/(T = "tuple"/\∃o,K.lookup p=ax o/\o.cls = .type "tuple"/\o.dict=aA)\/
   (T = "dict"/\((∃p4,H p=ax (.dK p4))\/∃p4,H p=ax (.dT p4)))\/(T = "set"/\∃S n,H p=ax (.set S n))\/(T = "tuple"/\∃xs,H p=ax (.tup xs))
 | _=>False
theorem Zik{j:List (aL×dW)}{q:St}{H:Hp}{s:aO}{T:String}{x:V}{v:aI}(I:Inv X j q H s)(r:RelV x v)(ty:tyV X.K T x H) :
  s.TypeIs v T/\∀a,v = .ref a->∃ob,s.heap.get? a=ax ob/\ob.dict=aA:=by
 cases x with
 | str z=>
  obtain⟨t,rfl⟩:=r;cases (ty);exact⟨typeIs_str s z t,λ_ e=>nomatch e⟩
 | int i=>
  obtain⟨t,rfl⟩:=r;cases (ty);exact⟨kc s i t,λ_ e=>nomatch e⟩
 | ref p=>
  cases r;rcases ty with⟨rfl,xs,u⟩ | ⟨rfl,o,b,k,hd⟩ | ⟨rfl,b⟩ | ⟨rfl,S,n,b⟩ | ⟨rfl,xs,b⟩;rotate_left 4
  ·obtain⟨z,l,_,o,g,f,_⟩:=(I.hok p _ b);refine⟨⟨o,g,f⟩,λa e=>?_⟩;cases e;exact⟨o,g,z.2 o g⟩
  ·obtain⟨l,_,h,_⟩:=I.list u;refine⟨h.isList.typeIs,λa e=>?_⟩;cases e;obtain⟨o,n,e,c,hd,_⟩:=h;exact⟨o,e,hd⟩
  ·refine⟨⟨o,I.kIn p o b,k⟩,λa e=>?_⟩;cases e;exact⟨o,I.kIn _ o b,hd⟩
  ·have z:∃o,s.heap.get? p=ax o/\o.ExactDict:=by
    rcases b with⟨m,b⟩ | ⟨m,b⟩
    ·obtain⟨_,_,_,_,o,_,_,e,d,_⟩:=I.hok p _ b;exact⟨o,e,d⟩
    ·obtain⟨_,_,_,_,o,_,_,e,d,_⟩:=I.hok p _ b;exact⟨o,e,d⟩
   obtain⟨o,e,d⟩:=z;refine⟨⟨o,e,d.1⟩,λa f=>?_⟩;cases f;exact⟨o,e,d.2.1⟩
  ·obtain⟨o,_,_,_,e,d,_⟩:=I.hok p _ b;refine⟨⟨o,e,d.1⟩,λa f=>?_⟩;cases f;exact⟨o,e,d.2.1⟩
 | _=>exact dD ty
noncomputable def tBM(K:aH)(T:String)(r:V->List V->Hp->VK->Prop)(to:TE)(t:TA):TE:=λσ H Q=>to σ H λx H1=>tyV K T x H1/\t σ H1 λxs H2=>r x xs H2 Q
variable {o e:bO} {es:List bO} {to:TE} {t:TA} {name:bH} {apos p5:dw} {T id:String} {r:V->List V->Hp->VK->Prop}
theorem WQ(q:PlainAttrs T)(f:Slot T name id)(i:typeOf (.builtin id)=pure (.type "method_descriptor"))(D:MtR X id r)(p:PE X o to)(B:PA X (e::es) t)
  (b:mY o name X.env (eval o X.env)=eval o X.env:=by rfl)
  (d:((dC p5 (aP (e::es) X.env)).all (λx=>!x.1)&&(o4 p5 (lZ [] X.env)).all (λx=>x.1.isSome)
   &&decide ((e::es).length+([]:List mN).length+(if([]:List mN).isEmpty then 0 else 1)<30))=aC:=by rfl)
  (c:(apos.endLine==p5.line)=aC:=by rfl) (y:aP (e::es) X.env=(aB,eval e X.env)::aP es X.env:=by rfl) (a:(dC p5 (aP es X.env)).any (·.1)=aB:=by rfl) :
  PE X (.Call (.Attribute o name apos) (e::es) [] p5) (tBM X.K T r to t):=by
 intro g s j H Q I h;refine wpAny_Call_method_late b d c rfl (Yo (p g s j H _ I h) λv s1 ⟨x,n,l,k,ty,C⟩=>?_);obtain⟨z,E⟩:=Zik l k ty;refine⟨T,id,q,f,i,z,E,?_⟩;have m:=B p5 g s1 j n _ l C;rw[y] at m ⊢;refine kd (by show(aB || (dC p5 (aP es X.env)).any (·.1))=aB;rw[a]<;>rfl) (l6 ?_);exact Yo m λw s2 ⟨vs,A,G,F,u⟩=>D g s2 j A x vs v w Q G k F u
end
noncomputable def MtM(X:Cx)(id:String)(r:V->List V->Hp->VK->Prop):Prop:=
 ∀(p0:List (aL×dW))(s:aO)(σ:St)(H:Hp)(x:V)(xs:List V)(v:aI)(us:List aI)(Q:VK),Inv X p0 σ H s->RelV x v->Vals xs us->r x xs H Q->
  bJ (model X.prog X.w) X.A (call (.builtin id) (v::us)) (EP X p0 σ Q) X.xe s
theorem Vals.one:∀{x:V}{us:List aI},Vals [x] us->∃u,us=[u]/\RelV x u
 | _,_,.cons r .nil=>⟨_,rfl,r⟩
theorem Vals.two:∀{x y:V}{us:List aI},Vals [x,y] us->∃u v,us=[u,v]/\RelV x u/\RelV y v
 | _,_,_,.cons r (.cons q .nil)=>⟨_,_,rfl,r,q⟩
theorem Vals.dropLast{xs:List V}{a:List aI}(h:Vals xs a):Vals xs.dropLast a.dropLast:=by
 induction h with
 | nil=>exact .nil
 | cons r t ih=>
  cases t with
  | nil=>exact .nil
  | cons q t'=>exact .cons r ih
theorem Vals.eraseIdx:∀{xs:List V}{us:List aI}(i:Nat),Vals xs us->Vals (xs.eraseIdx i) (us.eraseIdx i)
 | _,_,_,.nil=>.nil
 | _,_,0,.cons _ t=>t
 | _,_,i+1,.cons r t=>.cons r (Vals.eraseIdx i t)
theorem Vals.rep{xs:List V}{a:List aI}(h:Vals xs a):∀k:Nat,Vals (aS k xs).flatten (aS k a).flatten
 | 0=>.nil
 | k+1=>by rw[dU,dU,gL,gL];exact Vals.append h (Vals.rep h k)
theorem Lc{a:Type}:∀(l:List a)(i:Nat),(l.eraseIdx i).length<=l.length
 | [],_=>aZ _
 | _::_,0=>iG _
 | _::r,i+1=>ng (Lc r i)
theorem Qa(a:List aI):∀(k:Nat)(acc:List aI),
  ml (λb d=>b++d) acc.toArray (aS k a.toArray)=(acc++(aS k a).flatten).toArray
 | 0,acc=>by simp
 | k+1,acc=>by
  have e:acc.toArray++a.toArray=(acc++a).toArray:=by simp
  have c:(acc++a)++(aS k a).flatten=acc++(aS (k+1) a).flatten:=by rw[dU,gL,dj]
  rw[<-c,<-Qa a k (acc++a),<-e,dU,gy]
section
variable {X:Cx} {p0:List (aL×dW)} {σ:St} {H:Hp} {s:aO} {l b:aL} {xs ys zs:List V}
theorem Inv.lset{b a:List aI}{n:Nat}{f:Array aI->Array aI}{t':Nat}(I:Inv X p0 σ H s)(g:H l=ax (.lst xs))
  (e:s.heap.get? l=ax { cls:=.type "list",data:=.seq b.toArray n }) (j:f b.toArray=a.toArray) (c:Vals ys a) (i:ys.length<=sizeLine) :
  Inv X p0 σ (upd H l (.lst ys)) { s with heap:=s.heap.update l (mj f),toks:=t' }:=by
 have q:=PySem.IsL.update e f;rw[j] at q;refine I.write (by rw[g];exact trivial) (.inl rfl) (λk u d h=>(kb s.heap (mj f) (bX d)).trans h) ⟨_,q⟩ ?_;exact⟨i,a,_,c,q⟩
theorem Inv.lnew{a:List aI}{t':Nat}(I:Inv X p0 σ H s)(b:Vals ys a)(c:ys.length<=sizeLine) :
  Inv X p0 σ (upd H s.heap.objs.size (.lst ys)) { s with heap:=s.heap.push { cls:=.type "list",data:=.seq a.toArray },toks:=t' }:=
 I.laid (λ_ _ q=>aK _ q) (aZ _) ⟨c,a,0,b,ak _ rfl⟩
theorem Inv.fresh(I:Inv X p0 σ H s):H s.heap.objs.size=aA:=I.hok.fresh (aZ _)
theorem Inv.lstM(I:Inv X p0 σ H s)(b:H l=ax (.lst xs)):xs.length<=sizeLine/\∃(a:List aI) (n:Nat),Vals xs a/\xs.length=a.length/\s.heap.get? l=ax { cls:=.type "list",data:=.seq a.toArray n }:=by obtain⟨z,a,n,r,e⟩:=I.hok l _ b;exact⟨z,a,n,r,r.length,e⟩
theorem J2{n:Nat}(h:n<=sizeLine):gp n=aB:=by exact decide_eq_false (by omega)
end
section
variable {X:Cx}
noncomputable def Eb:V->List V->Hp->VK->Prop:=λx vs H Q=>∃l xs y,x = .ref l/\vs=[y]/\H l=ax (.lst xs)/\xs.length<sizeLine/\Q .non (upd H l (.lst (xs++[y])))
theorem Xa:MtM X "list.append" Eb:=by intro g s k H x vs v i Q I b d h;obtain⟨l,xs,y,rfl,rfl,a,m,q⟩:=h;cases b;obtain⟨u,rfl,f⟩:=d.one;obtain⟨z,c,n,r,j,e⟩:=I.lstM a;refine fY F.slot_list_append ⟨_,e,rfl⟩ F.entry_list_append (F.args_list_append_2 _ _) (PySem.list_append l c.toArray n u (by rw[aU];omega)) ⟨e,?_⟩;refine⟨.non,_,I.lset a e (by simp) (r.append (.cons f .nil)) ?_,rfl,q⟩;rw[aT,bu];omega
noncomputable def Ec:V->List V->Hp->VK->Prop:=λx vs H Q=>∃l b xs zs,x = .ref l/\vs=[.ref b]/\H l=ax (.lst xs)/\H b=ax (.lst zs)/\xs.length+zs.length<=sizeLine/\Q .non (upd H l (.lst (xs++zs)))
theorem Ld:MtM X "list.extend" Ec:=by
 intro y s D H x vs v A Q I j p h;obtain⟨l,b,xs,C,rfl,rfl,g,m,E,q⟩:=h;cases j;obtain⟨u,rfl,w⟩:=p.one;cases w;obtain⟨z,d,n,r,B,e⟩:=I.lstM g;obtain⟨G,a,k,o,i,t⟩:=I.lstM m;have f:d.toArray.size+a.toArray.size<=sizeLine:=by rw[aU,aU];omega
 have c:¬(!d.toArray.isEmpty&&gp (d.toArray.size+a.toArray.size))=aC:=by rw[J2 f,Bool.and_false];exact bx
 refine fY F.slot_list_extend ⟨_,e,rfl⟩ F.entry_list_extend (F.args_list_extend_2 _ _)
  (AutoSeq1.list_extend_list_list_0 l d.toArray n b a.toArray k c (by omega) (by omega)) ⟨e,t,?_⟩
 refine⟨.non,_,I.lset g e (by simp) (r.append o) ?_,rfl,q⟩;rw[aT];omega
noncomputable def BR:V->List V->Hp->VK->Prop:=λx vs H Q=>∃l xs i k y,x = .ref l/\vs=[.int i]/\H l=ax (.lst xs)/\-(2^63)<=i/\i<2^63/\n8 i xs.length=ax k/\xs[k]?=ax y/\Q y (upd H l (.lst (xs.eraseIdx k)))
theorem BS:MtM X "list.pop" BR:=by
 intro B s D H x vs v C Q I c o h;obtain⟨l,xs,i,k,y,rfl,rfl,b,d,m,j,g,q⟩:=h;cases c;obtain⟨u,rfl,A⟩:=o.one;obtain⟨t,rfl⟩:=A;obtain⟨z,a,n,r,f,e⟩:=I.lstM b;obtain⟨w,p,Xp⟩:=r.get g
 refine fY F.slot_list_pop ⟨_,e,rfl⟩ F.entry_list_pop (F.args_list_pop_2 _ _)
  (MeetsSeq.list_pop_at l a.toArray n i t k w (l8 d m) (by rw[aU,<-f];exact j) (by rw[<-da];exact p) (by rw[aU];omega)) ⟨e,?_⟩
 refine⟨y,_,I.lset b e ?_ (r.eraseIdx k) ?_,Xp,q⟩
 ·show a.toArray.eraseIdxIfInBounds k=(a.eraseIdx k).toArray;rw[List.eraseIdxIfInBounds_toArray]
 ·have:=Lc xs k;omega
noncomputable def Zld:R2:=λx y H Q=>∃l b xs zs,x = .ref l/\y = .ref b/\H l=ax (.lst xs)/\H b=ax (.lst zs)/\xs.length+zs.length<=sizeLine/\∀p,H p=aA->Q (.ref p) (upd H p (.lst (xs++zs)))
theorem BU:TH X (dy .Add) Zld:=by
 intro o s A H x y v u Q I f g h;obtain⟨l,b,xs,w,rfl,rfl,i,j,B,q⟩:=h;cases f;cases g;obtain⟨z,c,n,r,p,e⟩:=I.lstM i;obtain⟨C,a,t,k,d,m⟩:=I.lstM j;refine PySem.P.add_list e m ?_ (by rw[aU,aU];omega);have ea:c.toArray++a.toArray=(c++a).toArray:=by simp
 rw[ea];exact⟨.ref _,_,I.lnew (r.append k) (by rw[aT];omega),rfl,q _ I.fresh⟩
noncomputable def Znv:R2:=λx y H Q=>∃l k xs,x = .ref l/\y = .int k/\H l=ax (.lst xs)/\-(2^63)<=k/\k<2^63/\xs.length*k.toNat<=sizeLine/\
 ∀p,H p=aA->Q (.ref p) (upd H p (.lst (aS k.toNat xs).flatten))
theorem Kj{a:Type}(xs:List a)(k:Nat):(aS k xs).flatten.length=k*xs.length:=by simp
theorem Zil:TH X (dy .Mult) Znv:=by
 intro L s M H x y v u Q I w A h;obtain⟨l,k,xs,rfl,rfl,E,B,J,j,q⟩:=h;cases w;obtain⟨t,rfl⟩:=A;obtain⟨z,b,n,r,C,e⟩:=I.lstM E;have f:b.toArray.size*k.toNat<=sizeLine:=by rw[aU,<-C];exact j
 have i:¬b.toArray.size*k.toNat>(2^63-1)/8:=by
  have:(sizeLine:Nat)<=(2^63-1)/8:=by decide
  omega
 have g:¬(!Builtin.List.listFitsIndex k)=aC:=by rw[l8 B J];exact bx
 have c:¬gp (b.toArray.size*k.toNat)=aC:=by rw[J2 f];exact bx
 have d:ml (λp G=>p++G) #[] (aS (if b.toArray.isEmpty=aC then 0 else k.toNat) b.toArray)=(aS k.toNat b).flatten.toArray:=by
  have D:=λm=>by have:=Qa b m [];rw[lE] at this;exact this
  rw[D]
  cases b with
  | nil=>simp
  | cons a r'=>rw[pW (by simp)]
 refine je rfl ⟨_,e,rfl⟩ (λo=>kc o k t) noFill_list_mul F.fills_int_mul F.slot_int_rmul repeat_list F.slot_int_index.lookup
  (fY F.slot_int_rmul (kc s k t) F.entry_int_rmul (F.args_int_rmul_2 _ _) (int___rmul___int_list k t l b.toArray n)
   ⟨e,rfl,⟨_,e,rfl⟩,fY F.slot_list_mul ⟨_,e,rfl⟩ F.entry_list_mul (F.args_list_mul_2 _ _) (AutoListH.list___mul___list_int_3 l b.toArray n k t g i c) ⟨e,?_⟩⟩)
 rw[d];exact⟨.ref _,_,I.lnew (r.rep k.toNat) (by rw[Kj,nR];exact j),rfl,q _ I.fresh⟩
end
end L2
namespace Att
open PySem PySem.W PySem.Calls PyProof.Rows
theorem Pr{P:Params}{h:ba}:∀(ns:List Int)(vs:List aI),WellAll P h vs (ns.map nh)->i7 vs ns:=by
 intro ns
 induction ns with
 | nil=>
  intro vs w;cases w;exact .nil
 | cons n ns ih=>
  intro vs w
  cases w with
  | cons a b=>
   cases a;exact .cons _ _ (ih _ b)
theorem script_of{l:OpenLaw}{n:Nat}(o:l.most=ax n){P:Params}{h:ba}{b:List WData}{e:List aI}
  (c:l.row.toRowW.claim.pre b=aC) (i:WellAll P h e b) :
  ∃a vs ns,e=[jW a]/\b=[WData.list (ns.map nh)]/\h.get? a=ax { cls:=.type "list",data:=.seq vs.toArray }/\i7 vs ns/\ns.length<=n:=by
 have j:=(pre_splitW c).1;have m:=(pre_splitW c).2;obtain⟨d,r,rfl,p,s⟩:=hasAllW_cons j;obtain rfl:=hasAllW_nil s;obtain⟨xs,rfl,q⟩:=hasW_list p;obtain⟨ns,rfl⟩:=items_int q
 have f:ns.length<=n:=by
  have g:(WTm.not (.lt (.lit (.int (n:Int))) (.len (.arg 0)))).holds [] { args:=[.list (ns.map .int)] }=aC:=by have g:=(holds_andW m).1;rw[o] at g;exact g
  have k:=condW_of g (w_not (w_lt w_lit (w_len_list (w_arg rfl))))
  first
   | (rw[decide_eq_true q'] at k;exact absurd k rfl)
   | (simp at k;omega)
 cases i with
 | cons w1 w2=>
  cases w2
  cases w1 with
  | list ho hall=>exact⟨_,_,ns,rfl,rfl,ho,Pr ns _ hall,f⟩
theorem post_true(l:OpenLaw)(a:List WData):l.row.toRowW.claim.post a (.bool aC) a=aC:=
 postW_of
  (show WShape.has [] (.bool aC) .bool=aC by first | rfl | decide | simp[WShape.arms])
  (w_eq_bool (w_res rfl) w_lit) rfl
end Att
namespace L2
open PySem PySem.Spec PyProof.Rows
section
variable {κ:Type} [DecidableEq κ]
noncomputable def S7(p4:List (κ×V))(k:κ):Option V:=(p4.find? λkv=>decide (kv.1=k)).map (·.2)
noncomputable def UP(p4:List (κ×V))(k:κ)(v:V):List (κ×V):=
 if(p4.any λkv=>decide (kv.1=k))=aC then p4.map (λkv=>if kv.1=k then(kv.1,v) else kv) else p4++[(k,v)]
theorem S8{p:κ×V}{r:List (κ×V)}{k:κ}(e:p.1=k):S7 (p::r) k=ax p.2:=by simp[S7,e]
theorem S9{p:κ×V}{r:List (κ×V)}{k:κ}(e:¬p.1=k):S7 (p::r) k=S7 r k:=by simp[S7,e]
theorem J3(k:κ):∀p4:List (κ×V),(p4.any λa=>decide (a.1=k))=(S7 p4 k).isSome
 | []=>rfl
 | p::r=>by
  rw[mZ];by_cases e:p.1=k
  ·simp only[S8 e,decide_eq_true e,Bool.true_or,Option.isSome_some]
  ·rw[S9 e,decide_eq_false e,Bool.false_or];exact J3 k r
theorem UY(a:List (κ×V))(k:κ)(v:V):(UP a k v).length<=a.length+1:=by
 unfold UP;split
 ·rw[aJ];omega
 ·rw[aT,az,jE];omega
theorem RelO.isSome_eq{o:Option V}{u:Option aI}(r:RelO o u):o.isSome=u.isSome:=by
 cases o with
 | none=>cases u with
  | none=>rfl
  | some _=>exact(r).elim
 | some _=>cases u with
  | none=>exact(r).elim
  | some _=>rfl
theorem RelO.getD{o:Option V}{u:Option aI}{d:V}{a:aI}(r:RelO o u)(b:RelV d a):RelV (o.getD d) (u.getD a):=by
 cases o with
 | none=>cases u with
  | none=>exact b
  | some _=>exact(show False from r).elim
 | some _=>cases u with
  | none=>exact(show False from r).elim
  | some _=>exact r
theorem KV.val{c:List (κ×V)}{vs:List (κ×aI)}(r:KV c vs)(k:κ):RelO (S7 c k) (nS vs k):=by
 induction r with
 | nil=>exact b8
 | @cons p q ps qs h t ih=>
  obtain⟨d,f⟩:=h;by_cases e:p.1=k
  ·have a:=d.symm.trans e;have b:nS (q::qs) k=ax q.2:=by simp[nS,a]
   rw[S8 e,b];exact f
  ·have a:¬q.1=k:=λz=>e (d.trans z);have b:nS (q::qs) k=nS qs k:=by simp[nS,a]
   rw[S9 e,b];exact ih
theorem KV.any{b:List (κ×V)}{vs:List (κ×aI)}(r:KV b vs)(k:κ):(b.any λa=>decide (a.1=k))=vs.any λa=>decide (a.1=k):=by
 unfold KV at r
 induction r with
 | nil=>rfl
 | cons h t ih=>rw[mZ,mZ,ih,h.1]
theorem KV.repl{c:List (κ×V)}{vs:List (κ×aI)}(r:KV c vs)(k:κ){y:V}{u:aI}(f:RelV y u) :
  KV (c.map λa=>if a.1=k then(a.1,y) else a) (vs.map λa=>if a.1=k then(a.1,u) else a):=by
 induction r with
 | nil=>exact .nil
 | @cons p q ps qs h t ih=>
  rw[af,af];refine .cons ?_ ih;obtain⟨b,d⟩:=h;by_cases e:p.1=k
  ·rw[p9 e,p9 (b.symm.trans e)];exact⟨b,f⟩
  ·rw[pW e,pW (λz=>e (b.trans z))];exact⟨b,d⟩
theorem KV.put{a:List (κ×V)}{vs:List (κ×aI)}(r:KV a vs)(k:κ){y:V}{u:aI}(b:RelV y u):KV (UP a k y) (stored vs k u):=by
 unfold UP stored;rw[r.any k];by_cases e:(vs.any λc=>decide (c.1=k))=aC
 ·rw[p9 e,p9 e];exact r.repl k b
 ·rw[pW e,pW e];exact Paired.snoc r ⟨rfl,b⟩
theorem KV.length{a:List (κ×V)}{vs:List (κ×aI)}(r:KV a vs):a.length=vs.length:=Paired.length r
end
theorem Lf{P:bM}{w:bc}{k:Y8}{u:aI}(r:RelV (kV k) u):(Yv P w).is k u=aC:=by
 cases k with
 | inl i=>obtain⟨t,e⟩:=(r);subst e;exact JR P w i t
 | inr x=>obtain⟨t,e⟩:=(r);subst e;exact JS P w x t
theorem Lg{P:bM}{w:bc}:∀{ks:List Y8}{us:List aI},Vals (ks.map kV) us->ItemsAre (Yv P w) ks us
 | [],_,r=>by rw[fX] at r;cases r;exact .nil
 | k::ks,_,r=>by
  rw[af] at r
  cases r with
  | cons h t=>exact .cons (Lf h) (Lg t)
abbrev KT(H:Hp):List (List Y8×V)->List (List Y8×aL×aI)->Prop:=Paired λp q=>p.1=q.1/\H q.2.1=ax (.tup (p.1.map kV))/\RelV p.2 q.2.2
theorem KT.val{H:Hp}{c:List (List Y8×V)}{xs:List (List Y8×aL×aI)}(r:KT H c xs)(k:List Y8):RelO (S7 c k) ((o8 xs k).map (·.2)):=by
 induction r with
 | nil=>exact b8
 | @cons p q ps qs h t ih=>
  obtain⟨d,_,f⟩:=h;by_cases e:p.1=k
  ·have a:=d.symm.trans e;have b:o8 (q::qs) k=ax q.2:=by simp[o8,a]
   rw[S8 e,b];exact f
  ·have a:¬q.1=k:=λz=>e (d.trans z);have b:o8 (q::qs) k=o8 qs k:=by simp[o8,a]
   rw[S9 e,b];exact ih
theorem KT.repl{H:Hp}{d:List (List Y8×V)}{xs:List (List Y8×aL×aI)}(r:KT H d xs)(k:List Y8){y:V}{u:aI}(g:RelV y u) :
  KT H (d.map λb=>if b.1=k then(b.1,y) else b) (xs.map (putAt k u)):=by
 induction r with
 | nil=>exact .nil
 | @cons p q ps qs h t ih=>
  rw[af];refine .cons ?_ ih;obtain⟨a,c,f⟩:=h;unfold putAt;by_cases e:p.1=k
  ·rw[p9 e,p9 (a.symm.trans e)];exact⟨a,c,g⟩
  ·rw[pW e,pW (λz=>e (a.trans z))];exact⟨a,c,f⟩
theorem KT.put{H:Hp}{a:List (List Y8×V)}{xs:List (List Y8×aL×aI)}(r:KT H a xs)(k:List Y8){b:aL}{y:V}{u:aI}(d:H b=ax (.tup (k.map kV)))(c:RelV y u) :
  KT H (UP a k y) (storedH xs k b u):=by
 have e:(a.any λf=>decide (f.1=k))=(o8 xs k).isSome:=by rw[J3,(r.val k).isSome_eq,nT]
 unfold UP storedH;rw[e];by_cases q:(o8 xs k).isSome=aC
 ·rw[p9 q,p9 q];exact r.repl k c
 ·rw[pW q,pW q];exact Paired.snoc r ⟨rfl,d,c⟩
theorem KT.keeps{H a:Hp}{c:List (List Y8×V)}{xs:List (List Y8×aL×aI)}(r:KT H c xs)(d:∀b ys,H b=ax (.tup ys)->a b=ax (.tup ys)):KT a c xs:=
 Paired.mapP r λ_ _ z=>⟨z.1,d _ _ z.2.1,z.2.2⟩
section
variable {P:bM} {w:bc} {H:Hp} {h:ba} {a:aL}
theorem Zg1{u:HO}(ok:HOk P w H h)(e:Rd H a u):ObjOk P w H h a u:=e.ok ok
theorem Lh{b:List (Y8×V)}(ok:HOk P w H h)(e:Rd H a (.dK b)):b.length<=sizeLine/\(a==fG)=aB/\∃vs,KV b vs/\h.DictOf (Yv P w) a vs:=
 Zg1 ok e
theorem Zg2{b:List (Y8×V)}(ok:HOk P w H h)(e:H a=ax (.dK b)):b.length<=sizeLine/\(a==fG)=aB/\∃vs,KV b vs/\h.DictOf (Yv P w) a vs:=Lh ok (.inl e)
theorem OE{b:List Y8}(ok:HOk P w H h)(e:H a=ax (.tup (b.map kV))):(kM (Yv P w)).is h b a:=by obtain⟨_,f,r,o,g,c,n,d⟩:=(ok a _ e);exact⟨o,f.toArray,n,g,c,d,by simpa using Lg r⟩
theorem Li{c:List (List Y8×V)}(ok:HOk P w H h)(e:Rd H a (.dT c)):c.length<=sizeLine/\(a==fG)=aB/\
  ∃xs,KT H c xs/\h.DictOfH (kM (Yv P w)) a xs:=by
 obtain⟨z,y,xs,r,o,d,ep,g,j,i,f,k⟩:=(Zg1 ok e);refine⟨z,y,xs,r,o,d,ep,g,j,i,f,λx b=>?_,k⟩
 have all:∀{l:List (List Y8×V)}{m:List (List Y8×aL×aI)},KT H l m->∀x∈m,(kM (Yv P w)).is h x.1 x.2.1:=by
  intro l m q
  induction q with
  | nil=>intro x b;exact nomatch b
  | @cons p q ps qs hq t ih=>
   intro x b;rcases aa.mp b with e | b
   ·subst e;exact OE ok (by rw[<-hq.1];exact hq.2.1)
   ·exact ih x b
 exact all r x b
theorem Zle{b:List (List Y8×V)}(ok:HOk P w H h)(e:H a=ax (.dT b)):b.length<=sizeLine/\(a==fG)=aB/\
  ∃xs,KT H b xs/\h.DictOfH (kM (Yv P w)) a xs:=Li ok (.inl e)
end
noncomputable def J4(H:Hp)(a:aL)(y:V)(r:Option V):Prop:=
 (∃p4 k,Rd H a (.dK p4)/\y=kV k/\r=S7 p4 k)\/∃p4 k b,Rd H a (.dT p4)/\y = .ref b/\H b=ax (.tup (k.map kV))/\r=S7 p4 k
noncomputable def Zlf(H:Hp)(a:aL)(y v:V)(H':Hp):Prop:=
 (∃p4 k,H a=ax (.dK p4)/\y=kV k/\p4.length<sizeLine/\H'=upd H a (.dK (UP p4 k v)))\/
 ∃p4 k b,H a=ax (.dT p4)/\y = .ref b/\H b=ax (.tup (k.map kV))/\p4.length<sizeLine/\H'=upd H a (.dT (UP p4 k v))
section
variable {X:Cx} {p0:List (aL×dW)} {σ:St} {H:Hp} {s:aO} {a:aL} {y v:V} {u r:aI} {o:Option V} {A:bq} {E:aI->aO->Prop}
theorem Inv.big(I:Inv X p0 σ H s):fG<s.heap.objs.size:=by have h:=(I.mod.glob.keeps I.bk).lt;exact nU (by decide) h
theorem DM{Q:aI->aO->Prop}(q:A.units+1<dz)(I:Inv X p0 σ H s)(g:J4 H a y (ax v))(n:RelV y u)(h:∀d s',Inv X p0 σ H s'->RelV v d->Q d s') :
  bJ (model X.prog X.w) A (k9 (.ref a) u) Q E s:=by
 rcases g with⟨t,k,e,f,l⟩ | ⟨t,k,b,e,f,o,l⟩
 ·subst f;obtain⟨z,hd,vs,c,j⟩:=Lh I.hok e;obtain⟨d,m,Xp⟩:=RelO.some_of (by rw[l];exact c.val k);exact wpAny_getItem_of (Lf n) j.mapOf m (h d _ (I.tok _) Xp)
 ·subst f;cases (n);obtain⟨z,hd,xs,c,j⟩:=Li I.hok e;obtain⟨d,m,Xp⟩:=RelO.some_of (by rw[l];exact c.val k);obtain⟨p,w,i⟩:=ke.mp m;refine wpAny_getItem_heap (iA q) (OE I.hok o) j w ?_;rw[i];exact h d _ (I.tok _) Xp
theorem Zdo{Q:aI->aO->Prop}(m:A.units+1<dz)(I:Inv X p0 σ H s)(g:J4 H a y o)(i:RelV y u)(h:∀s',Inv X p0 σ H s'->Q (.bool (!o.isSome)) s') :
  bJ (model X.prog X.w) A (dH .NotIn u (.ref a)) Q E s:=by
 rcases g with⟨n,k,e,d,l⟩ | ⟨n,k,b,e,d,j,l⟩
 ·subst d;obtain⟨z,hd,vs,c,f⟩:=Lh I.hok e;refine wpAny_notIn_of (Lf i) hd f.mapOf ?_;rw[<-(c.val k).isSome_eq,<-l];exact h _ (I.tok _)
 ·subst d;cases (i);obtain⟨z,hd,xs,c,f⟩:=Li I.hok e;refine wpAny_notIn_heap (iA m) (OE I.hok j) hd f ?_;have q:=(c.val k).isSome_eq;rw[nT] at q;rw[<-q,<-l];exact h _ (I.tok _)
theorem Kk{h':ba}{t':Nat}{c:HO}(I:Inv X p0 σ H s)(g:UU (H a))(f:cP a s.heap h')(e:∃q,h'.get? a=ax q)(new:ObjOk X.prog X.w (upd H a c) h' a c) :
  Inv X p0 σ (upd H a c) { s with heap:=h',toks:=t' }:=
 I.write g (.inl rfl) (λb q d z=>(f.2 b d).trans z) e new
theorem BV{P:bM}{w:bc}{e:Hp}{h':ba}{b:List (Y8×V)}{vs:List (Y8×aI)}(z:b.length<=sizeLine)(hd:(a==fG)=aB)(c:KV b vs)(d:h'.DictOf (Yv P w) a vs) :
  ObjOk P w e h' a (.dK b):=⟨z,hd,vs,c,d⟩
theorem DN{B:Hp}{Q:Unit->aO->Prop}(G:A.units+1<dz)(I:Inv X p0 σ H s)(g:Zlf H a y v B)(x:RelV y u)(D:RelV v r)(h:∀s',Inv X p0 σ B s'->Q () s') :
  bJ (model X.prog X.w) A (setItem (.ref a) u r) Q E s:=by
 rcases g with⟨i,k,e,m,l,p⟩ | ⟨i,k,b,e,m,w,l,p⟩
 ·subst m p;obtain⟨z,hd,vs,d,t⟩:=Zg2 I.hok e;have O:vs.length<=sizeLine:=by rw[<-d.length];exact z
  have o:(UP i k v).length<=sizeLine:=by have:=UY i k v;omega
  refine wpAny_setItem_pairs (Lf x) t λh' f n=>h _ ?_;have M:∃q,h'.get? a=ax q:=let⟨q,_,_,j,_⟩:=f;⟨q,j⟩;exact Kk I (by rw[e];exact b8) n M (BV o hd (d.put k D) f)
 ·subst m p;cases (x);obtain⟨z,hd,xs,d,t⟩:=Zle I.hok e;have O:xs.length<=sizeLine:=by rw[<-Paired.length d];exact z
  have o:(UP i k v).length<=sizeLine:=by have:=UY i k v;omega
  refine wpAny_setItem_heap (iA G) (OE I.hok w) t λh' f n=>h _ ?_;obtain⟨q,F,ep,j,N,L,J,_,P⟩:=f;refine Kk I (by rw[e];exact b8) n ⟨q,j⟩ ⟨o,hd,_,(d.put k w D).keeps λc R C=>?_,q,F,ep,j,N,L,J,P⟩;rw[upd_ne (Zkj C e (λz=>nomatch z))];exact C
end
noncomputable def Zim(i:bO):Prop:=∀ov iv,subscripted i aB ov iv=operate [ov,iv] (k9 ov iv)
theorem Zdp{prog:bM}{w:bc}{A:bq}{E:aI->aO->Prop}{s:aO}{env:ma}{b a:bO}{pos:dw}{T id:String}{Q:aI->aO->Prop}
  (l:typeLookup (.type T) "__getitem__" = pure (ax (.builtin id))) (k:Zim a)
  (h:bJ (model prog w) A (eval b env) (λo f=>bJ (model prog w) A (eval a env) (λi c=>c.TypeIs o T/\bJ (model prog w) A (k9 o i) Q E c) E f) E s) :
  bJ (model prog w) A (eval (.Subscript b a pos) env) Q E s:=by
 refine o7 (cU h (λo f h₁=>cU h₁ (λi c d=>?_) λ_ _ x=>x) λ_ _ x=>x);obtain⟨m,d⟩:=d;refine aG ?_;refine aG (wpAny_specialOf m l ?_);have g:bJ (model prog w) A (subscripted a aB o i) (λr e=>bJ (model prog w) A (letTemporaryGo b o r >>= λ_=>pure r) Q E e) E c:=by rw[k o i];exact wpAny_operating (cU d (λr e j=>aG (wpAny_letTemporaryGo (aW j))) λ_ _ x=>x)
 first
  | exact aW (aG g)
  | exact aG (aW (aG g))
  | exact aG g
theorem J5{X:Cx}{d:List (aL×dW)}{h:St}{H:Hp}{s:aO}{a:aL}{y:V}{o:Option V}(I:Inv X d h H s)(g:J4 H a y o):s.TypeIs (.ref a) "dict":=by
 rcases g with⟨f,k,e,_,_⟩ | ⟨f,k,b,e,_,_,_⟩
 ·obtain⟨_,_,vs,_,c⟩:=Lh I.hok e;exact c.typeIs
 ·obtain⟨_,_,xs,_,c⟩:=Li I.hok e;exact c.typeIs
noncomputable def Zg3(td ty:TE):TE:=λσ H Q=>td σ H λx H1=>ty σ H1 λy H2=>∃a v,x = .ref a/\J4 H2 a y (ax v)/\Q v H2
noncomputable def Ed(ty td:TE):TE:=λσ H Q=>ty σ H λy H1=>td σ H1 λx H2=>∃a o,x = .ref a/\J4 H2 a y o/\Q (.bl (!o.isSome)) H2
noncomputable def sDPut(td ty tv:TE):TS:=λD σ H=>tv σ H λv H1=>td σ H1 λx H2=>ty σ H2 λy H3=>∃a H4,x = .ref a/\Zlf H3 a y v H4/\D.nx σ H4
section
variable {X:Cx} {o i e value:bO} {pos pos' tpos:dw} {td ty tv:TE}
theorem Zdq(n:X.A.units+1<dz)(f:PE X o td)(w:PE X i ty)(p:Zim i):PE X (.Subscript o i pos) (Zg3 td ty):=by intro b s c H Q I h;refine Zdp PySem.F.slot_dict_getitem.lookup p (Yo (f b s c H _ I h) λu s1 ⟨x,e,t,k,z⟩=>Yo (w b s1 c e _ t z) λD s2 ⟨y,q,d,m,a,v,A,g,l⟩=>?_);subst A;obtain rfl:=k;exact⟨J5 d g,DM n d g m λB C j Xp=>⟨v,q,j,Xp,l⟩⟩
theorem DO(m:X.A.units+1<dz)(q:PE X i ty)(e:PE X o td):PC X .NotIn i o (Ed ty td):=by intro b s c H Q I h;refine Yo (q b s c H _ I h) λB s1 ⟨y,d,p,l,v⟩=>Yo (e b s1 c d _ p v) λu s2 ⟨x,n,z,j,a,t,w,g,k⟩=>?_;subst w;obtain rfl:=j;exact Zdo m z g l λA f=>⟨.bl (!t.isSome),n,f,rfl,k⟩
theorem Ee(q:X.A.units+1<dz)(j:PE X o td)(B:PE X i ty)(d:PE X value tv)(t:iC value (ax (.Subscript o i pos')) pos.line X.env=pure aB) :
  PS X (.Assign [.Subscript o i pos'] value pos) (sDPut td ty tv):=by
 intro c s b H D I h;refine wpAny_Assign_Subscript (Yo (d c s b H _ I h) λr s1 ⟨v,f,A,G,C⟩=>Yo (j c s1 b f _ A C) λu s2 ⟨x,w,F,m,n⟩=>Yo (B c s2 b w _ F n) λM J ⟨y,N,k,p,a,l,E,g,z⟩=>?_) t;subst E;obtain rfl:=m;exact DN q k g p G λL e=>⟨b,l,e,z⟩
end
theorem BW{P:bM}{w:bc}{H:Hp}(h:ba)(a:fG<h.objs.size):ObjOk P w H (h.push { cls:=.type "dict",data:=.dict #[] }) h.objs.size (.dK []):=
 ⟨dq _,beq_eq_false_iff_ne.mpr (bX (bN a)),[],.nil,ba.DictOf.new h⟩
theorem BX{P:bM}{w:bc}{H:Hp}(h:ba)(a:fG<h.objs.size):ObjOk P w H (h.push { cls:=.type "dict",data:=.dict #[] }) h.objs.size (.dT []):=
 ⟨dq _,beq_eq_false_iff_ne.mpr (bX (bN a)),[],.nil,_,#[],0,ak _ rfl,⟨rfl,rfl,rfl⟩,rfl,rfl,cH⟩
noncomputable def Zin:TE:=λ_ H Q=>∀p,H p=aA->Q (.ref p) (upd H p (.dT []))
section
variable {X:Cx} {pos:dw}
theorem BY:PE X (.Dict [] [] pos) Zin:=λb s c H Q I h=>
 wpAny_Dict_empty ⟨.ref s.heap.objs.size,_,I.laid (a:=s.heap.objs.size) (o:=.dT []) (t':=s.toks) (λ_ _ q=>aK _ q) (aZ _) (BX s.heap I.big),rfl,h _ (I.hok.fresh (aZ _))⟩
end
noncomputable def Gf:List (TE×TE)->St->Hp->(List (V×V)->Hp->Prop)->Prop
 | [],_,H,Q=>Q [] H
 | (tk,tv)::r,σ,H,Q=>tk σ H λx H1=>tv σ H1 λy H2=>Gf r σ H2 λps H3=>Q ((x,y)::ps) H3
abbrev VV:List (V×V)->List (aI×aI)->Prop:=Paired λp q=>RelV p.1 q.1/\RelV p.2 q.2
noncomputable def PPs(X:Cx)(pos:dw)(keys:List (Option bO))(values:List bO)(trs:List (TE×TE)):Prop:=
 ∀(p0:List (aL×dW))(s:aO)(σ:St)(H:Hp)(Q:List (V×V)->Hp->Prop),Inv X p0 σ H s->Gf trs σ H Q->
  bJ (model X.prog X.w) X.A (evalPairs (pairTrees keys values X.env pos)) (λvs s'=>∃ps H',Inv X p0 σ H' s'/\VV ps vs/\Q ps H') X.xe s
theorem Zdr{X:Cx}{pos:dw}:PPs X pos [] [] []:=λa s b H Q I h=>pairTrees_nil_walk ⟨[],H,I,.nil,h⟩
theorem BZ{X:Cx}{pos:dw}{k v:bO}{e:List (Option bO)}{vs:List bO}{tk f:TE}{a:List (TE×TE)}(z:PE X k tk)(g:PE X v f)(q:PPs X pos e vs a) :
  PPs X pos (ax k::e) (v::vs) ((tk,f)::a):=λb s d H Q I h=>
 pairTrees_cons_walk (Yo (z b s d H _ I h) λu s1 ⟨x,i,w,l,A⟩=>Yo (g b s1 d i _ w A) λD s2 ⟨y,p,B,n,m⟩=>
  Yo (q b s2 d p _ B m) λF E ⟨o,C,j,c,t⟩=>⟨(x,y)::o,C,j,.cons ⟨l,n⟩ c,t⟩)
noncomputable def OF(p4 more:List (Y8×V)):List (Y8×V):=more.foldl (λacc kv=>UP acc kv.1 kv.2) p4
theorem KV.merge:∀{more:List (Y8×V)}{b:List (Y8×aI)}{a:List (Y8×V)}{vs:List (Y8×aI)},KV more b->KV a vs->KV (OF a more) (merged vs b):=by
 intro more b a vs r
 induction r generalizing a vs with
 | nil=>intro q;exact q
 | @cons p q ps qs h t ih=>
  intro c;have e:KV (UP a p.1 p.2) (stored vs q.1 q.2):=by have:=c.put p.1 h.2;rw[<-h.1];exact this
  exact ih e
theorem Ss:∀(more p4:List (Y8×V)),(OF p4 more).length<=p4.length+more.length
 | [],p4=>by show p4.length<=p4.length+0;omega
 | p::r,p4=>by have b:=Ss r (UP p4 p.1 p.2);have a:=UY p4 p.1 p.2;show(OF (UP p4 p.1 p.2) r).length<=_;rw[az];omega
theorem OG{P:bM}{w:bc}:∀{p4:List (Y8×V)}{ws:List (aI×aI)},VV (p4.map λe=>(kV e.1,e.2)) ws->∃d,Carries (Yv P w) ws d/\KV p4 d
 | [],_,r=>by rw[fX] at r;cases r;exact⟨[],b8,.nil⟩
 | p::p4,_,r=>by
  rw[af] at r
  cases r with
  | @cons a b as bs h t=>
   obtain⟨d,c,q⟩:=OG (P:=P) (w:=w) t;obtain⟨b1,f⟩:=b;exact⟨(p.1,f)::d,⟨Lf h.1,rfl,c⟩,.cons ⟨rfl,h.2⟩ q⟩
noncomputable def Zlg(trs:List (TE×TE)):TE:=λσ H Q=>∀p,H p=aA->Gf trs σ (upd H p (.dK [])) λps H2=>H2 p=ax (.dK [])/\∃p4:List (Y8×V),ps=p4.map (λkv=>(kV kv.1,kv.2))/\p4.length<=15/\Q (.ref p) (upd H2 p (.dK (OF [] p4)))
theorem Zds{X:Cx}{pos:dw}{a:List (Option bO)}{b:List bO}{g:List (TE×TE)}(h:PPs X pos a b g)(f:a.all (·.isSome)=aC)(v:a.length=b.length)(B:a≠[])
  (j:a.length<=15):PE X (.Dict a b pos) (Zlg g):=by
 intro m s A H Q I q;have o:=I.hok.fresh (aZ s.heap.objs.size);have w:=I.laid (t':=s.toks) (λ_ _ q=>aK _ q) (aZ _) (BW s.heap I.big);refine wpAny_Dict_walk (knd:=Yv X.prog X.w) f v B j (Yo (h m _ A _ _ w (q _ o)) λN s2 ⟨J,L,l,i,e,k,ep,M,n⟩=>?_);subst ep;obtain⟨p,c,x⟩:=OG i;obtain⟨z,hd,E,G,C⟩:=Zg2 l.hok e;cases G;refine⟨p,c,C,λh' d t=>⟨.ref s.heap.objs.size,_,?_,rfl,n⟩⟩;have F:(OF [] k).length<=sizeLine:=by have u:=Ss k [];rw[jE] at u;rw[fT];omega
 have y:∃q,h'.get? s.heap.objs.size=ax q:=let⟨q,_,_,D,_⟩:=d;⟨q,D⟩;exact Kk l (by rw[e];exact b8) t y (BV F hd (x.merge .nil) d)
structure M2(X:Cx)(o:bO)(m:bH)(apos:dw)(e f:bO)(p5:dw):Prop where
 base:mY o m X.env (eval o X.env)=eval o X.env
 few:((dC p5 (aP [e,f] X.env)).all (λx=>!x.1)&&(o4 p5 (lZ [] X.env)).all (λx=>x.1.isSome)
  &&decide (([e,f]:List bO).length+([]:List mN).length+(if([]:List mN).isEmpty then 0 else 1)<30))=aC
 line:(apos.endLine==p5.line)=aC
 trees:dC p5 (aP [e,f] X.env)=[(aB,eval e X.env),(aB,eval f X.env)]
noncomputable def IsD(H:Hp)(a:aL):Prop:=(∃p4,Rd H a (.dK p4))\/∃p4,Rd H a (.dT p4)
theorem Zio{X:Cx}{i:List (aL×dW)}{k:St}{H:Hp}{s:aO}{a:aL}(I:Inv X i k H s)(d:IsD H a) :
  s.TypeIs (.ref a) "dict"/\(∀b,jW a = .ref b->∃c,s.heap.get? b=ax c/\c.dict=aA)/\(a==fG)=aB:=by
 rcases d with⟨j,e⟩ | ⟨j,e⟩
 ·obtain⟨_,hd,vs,_,f⟩:=Lh I.hok e;refine⟨f.typeIs,λb q=>?_,hd⟩;cases q;obtain⟨c,_,_,g,h,_⟩:=f;exact⟨c,g,h.2.1⟩
 ·obtain⟨_,hd,xs,_,f⟩:=Li I.hok e;refine⟨f.typeIs,λb q=>?_,hd⟩;cases q;obtain⟨c,_,_,g,h,_⟩:=f;exact⟨c,g,h.2.1⟩
section
variable {X:Cx} {p0:List (aL×dW)} {σ:St} {H:Hp} {s:aO} {a:aL} {y d:V} {u r:aI} {o:Option V} {A:bq} {E:aI->aO->Prop}
theorem Ziq{Q:aI->aO->Prop}(p:A.units+1<dz)(I:Inv X p0 σ H s)(g:J4 H a y o)(j:RelV y u)(m:RelV d r)(h:∀w' s',Inv X p0 σ H s'->RelV (o.getD d) w'->Q w' s') :
  bJ (model X.prog X.w) A (call (.builtin "dict.get") [.ref a,u,r]) Q E s:=by
 rcases g with⟨q,k,e,i,l⟩ | ⟨q,k,b,e,i,n,l⟩
 ·subst i;obtain⟨z,hd,vs,c,f⟩:=Lh I.hok e;refine call_meetsIn iV f.typeIs kf (kQ _ _ _) (meets_dict_get_default (Yv X.prog X.w) a (Lf j) hd r) ⟨_,f.mapOf,h _ _ (I.tok _) ?_⟩;rw[l];exact(c.val k).getD m
 ·subst i;cases (show u=jW b from j);obtain⟨z,hd,xs,c,f⟩:=Li I.hok e;refine call_meetsIn iV f.typeIs kf (kQ _ _ _) (meetsH_dict_get_default (kM (Yv X.prog X.w)) a b hd r) ⟨iA p,k,xs,OE I.hok n,f,h _ _ (I.tok _) ?_⟩;rw[l];exact(c.val k).getD m
end
noncomputable def B1(td ty tx:TE):TE:=λσ H Q=>td σ H λx H1=>∃a,x = .ref a/\IsD H1 a/\ty σ H1 λy H2=>tx σ H2 λz H3=>∃o,J4 H3 a y o/\Q (o.getD z) H3
section
variable {X:Cx} {o e f:bO} {apos p5:dw} {td ty tx:TE}
theorem B2(w:X.A.units+1<dz)(n:PE X o td)(E:PE X e ty)(D:PE X f tx)(m:M2 X o "get" apos e f p5):PE X (.Call (.Attribute o "get" apos) [e,f] [] p5) (B1 td ty tx):=by
 intro b s c H Q I h;refine wpAny_Call_method m.base m.few m.line PySem.F.plainAttrs_dict iV PySem.F.type_dict_get (Yo (n b s c H _ I h) λu s1 ⟨x,l,i,q,a,F,d,G⟩=>?_);subst F;obtain rfl:u=jW a:=q;obtain⟨j,B,_⟩:=Zio i d;refine⟨j,B,?_⟩;rw[m.trees]
 refine kd rfl (l6 (eB (Yo (E b s1 c l _ i G) λS s2 ⟨y,A,L,v,t⟩=>
  eB (Yo (D b s2 c A _ L t) λfv O ⟨z,M,p,J,R,g,C⟩=>gK ?_))))
 exact Ziq w p g v J λN P k Xp=>⟨_,M,k,Xp,C⟩
end
theorem Lj:∀{vs:List aI}{ns:List Int},i7 vs ns->Vals (ns.map V.int) vs
 | _,_,.nil=>.nil
 | _,_,.cons n t h=>.cons ⟨t,rfl⟩ (Lj h)
noncomputable def Xm(s:cB):mO:=match s with
 | .FunctionDef _ a _ _ _ _ _ _ _ _=>a
 | _=>{ posonlyargs:=[],args:=[],vararg:=aA,kwonlyargs:=[],kw_defaults:=[],kwarg:=aA,defaults:=[] }
noncomputable def Yy(s:cB):List cB:=match s with
 | .FunctionDef _ _ b _ _ _ _ _ _ _=>b
 | _=>[]
noncomputable def Zf(s:cB):gC:=match s with
 | .FunctionDef _ _ _ _ _ _ sc _ _ _=>sc
 | _=>{ kind:=.function,names:=[],isGenerator:=aB,isCoroutine:=aB }
abbrev J6:CXT:=λ_ _ _ _ _ _=>False
abbrev E0:XK:=λ_ _ _=>False
theorem Zlh{X:Cx}:Ga J6 X E0:=λ_ _ _ _ _ _ _ h=>h.elim
structure Fun(K:aH)(x qual:bH)(st:cB)(f:aL)(fd:fL):Prop where
 ex:∃(oc:aI) (od:Option aL) (kV doc pm:aI) (an:Option aL) (cdv ct:aI) (osl:Array (Option aI)),
  fd=dP x qual (Xm st) (Yy st) (Zf st) .none kV doc pm an cdv ct/\K.lookup f=ax ⟨oc,od,.func fd,osl⟩/\dM K cdv qual=aC
 kp:iM K (.ref f)=aC
section
variable {P:bM} {w:bc} {K:aH} {mg:bH->Option aI} {base:ba}
theorem Fun.ok{x b:bH}{st:cB}{f:aL}{l:fL}{N i:List bH}{k:Nat}{g:Sp}(F:Fun K x b st f l)(S:Zq N i (Zf st))(len:∀vs H Q E,g vs H Q E->vs.length=i.length)
  (d:∀(c:aI)(A:bq)(a:List ma)(s:aO)(H:Hp)(vs:List V)(Q:VK)(E:XK),Room k (A.deeper (iZ b (Zf st) s.heap.objs.size f c))->g vs H Q E->
   ∃t,PSs (OC J6 P w K mg base N b (Zf st) f c A a s H E).nox (Yy st) t/\t { nx:=λ_ u=>Q .non u,rt:=Q } (start N vs) H):Pq P w K mg base J6 (k+1) f l i g:=by
 obtain⟨z,v,kV,n,B,y,c,ct,m,rfl,o,j⟩:=F.ex;refine XX o j S len λA a s H vs Q E p e=>?_;obtain⟨t,h,q⟩:=d c A a s H vs Q E p e;exact⟨t,h.nox,q⟩
theorem Fun.binds{x a:bH}{st:cB}{f:aL}{i:fL}{d:List bH}(F:Fun K x a st f i)
  (h:∀(kV b g:aI)(e:Option aL)(c ct:aI)(us:List aI),us.length=d.length->j4 (dP x a (Xm st) (Yy st) (Zf st) .none kV b g e c ct) ⟨us,[]⟩=pure (d.zip us)):Binds K i d []:=by
 obtain⟨n,m,kV,b,g,e,c,ct,j,rfl,l,k⟩:=F.ex;exact .all (h kV b g e c ct)
theorem Zir{x a:bH}{st:cB}{f:aL}{i:aI}{j h:Option aL}{e:Array (Option aI)}{kV d g b ct:aI}(l:K.lookup f=ax ⟨i,j,.func (dP x a (Xm st) (Yy st) (Zf st) .none kV d g h b ct),e⟩)
  (c:dM K b a=aC) (k:iM K (.ref f)=aC):Fun K x a st f (dP x a (Xm st) (Yy st) (Zf st) .none kV d g h b ct):=⟨⟨i,j,kV,d,g,h,b,ct,e,rfl,l,c⟩,k⟩
end
theorem Lk{A:bq}{k:Nat}(a:Room k A):A.units+1<dz:=fZ (Nat.add_le_add_left (by simp) _) a.units
section
variable {X:Cx}
theorem pv(i:Nat){x:bH}{pos:dw}(c:X.N[i]?=ax x:=by rfl)(b:Vis X.env.scope x:=by first | exact j5 rfl | exact mq (j5 rfl) | exact mq (mq rfl))(hd:(x==("__debug__" : bH))=aB:=by decide)
  (a:(x==("__classdict__" : bH))=aB:=by decide):PE X (.Name x pos) (Pp i):=BC c b hd a
end
theorem Zli{A B:Prop}(h:B):if aB=aC then A else B:=by rw[pW bx];exact h
theorem Zlj{A B:Prop}(h:A):if aC=aC then A else B:=by rw[p9 rfl];exact h
noncomputable def Same(H H':Hp):Prop:=∀b o,H b=ax o->H' b=ax o
theorem Same.refl(H:Hp):Same H H:=λ_ _ h=>h
theorem Same.trans{H d e:Hp}(a:Same H d)(b:Same d e):Same H e:=λc o h=>b c o (a c o h)
theorem Same.free{H a:Hp}(e:Same H a){l:aL}(h:a l=pT):H l=pT:=by
 cases q:H l with
 | none=>rfl
 | some o=>
  rw[e l o q] at h;cases h
end L2
set_option maxHeartbeats 4000000
namespace L2
open PySem PySem.Spec PyProof.Rows
noncomputable def VB(cells:List (bH×aL)):List (bH×fM)->List (bH×aL)->List (bH×aL)
 | [],acc=>acc
 | (n,k)::r,acc=>VB cells r (if(k==cI)=aC then(n,(cells.lookup n).getD 0)::acc else acc)
theorem Su{env:ma}:∀(names:List (bH×fM))(acc:List (bH×aL)),(∀y∈names,y.2 = .free->(env.cells.lookup y.1).isSome=aC)->
  (forIn (m:=Sem) names acc λ(x:bH×fM) (e:List (bH×aL))=>
   match x with
   | (name,kind)=>if(kind==cI)=aC then do
     let c <-cellOf env name
     pure (gD ((name,c)::e))
    else pure (gD e))=pure (VB env.cells names acc)
 | [],acc,_=>rfl
 | (n,k)::r,acc,h=>by
  rw[List.forIn_cons];have d:=λa=>Su r a λy f=>h y (aN _ f)
  cases hk:(k==cI) with
  | true=>
   have g:=h (n,k) ag (by simpa using hk);obtain⟨c,b⟩:=cT.mp g;have b:env.cells.lookup n=ax c:=b;have i:cellOf env n=pure c:=by unfold cellOf;rw[b]
   dsimp only
   rw[hk,p9 rfl,i];refine Eq.trans (d ((n,c)::acc)) ?_;show _=pure (VB env.cells r (if(k==cI)=aC then(n,(env.cells.lookup n).getD 0)::acc else acc));rw[p9 hk,b];rfl
  | false=>
   dsimp only
   rw[hk,pW bx];refine Eq.trans (d acc) ?_;show _=pure (VB env.cells r (if(k==cI)=aC then(n,(env.cells.lookup n).getD 0)::acc else acc));rw[pW (by rw[hk];exact bx)]
theorem Sv{a:gC}{env:ma}(h:∀y∈a.names,y.2 = .free->(env.cells.lookup y.1).isSome=aC):kg a env=pure (VB env.cells a.names []):=by
 have e:=Su a.names [] h;unfold kg
 dsimp only
 rw[e];rfl
theorem Qb{a:List (bH×aL)}{x:bH}{c:aL}:∀(names:List (bH×fM))(acc:List (bH×aL)),(∀y∈names,y.2 = .free->(a.lookup y.1).isSome=aC)->(acc.lookup x=ax c->a.lookup x=ax c)->
  (VB a names acc).lookup x=ax c->a.lookup x=ax c
 | [],_,_,h,e=>h e
 | (n,k)::r,acc,hf,h,e=>by
  refine Qb r _ (λy g=>hf y (aN _ g)) ?_ e;intro q;by_cases b:(k==cI)=aC
  ·rw[p9 b,bh] at q
   cases hx:x==n with
   | true=>
    rw[hx] at q;have f:x=n:=by simpa using hx
    obtain⟨d,hd⟩:=cT.mp (hf (n,k) ag (by simpa using b));have hd:a.lookup n=ax d:=hd;rw[hd] at q;rw[f,hd];exact q
   | false=>rw[hx] at q;exact h q
  ·rw[pW b] at q;exact h q
theorem OH{a:List (bH×aL)}{x:bH}:∀(names:List (bH×fM))(acc:List (bH×aL)),(acc.lookup x).isSome=aC->((VB a names acc).lookup x).isSome=aC
 | [],_,h=>h
 | (n,k)::r,acc,h=>by
  refine OH r _ ?_;split
  ·rw[bh];split<;>simp_all
  ·exact h
theorem Qc{a:List (bH×aL)}{x:bH}:∀(names:List (bH×fM))(acc:List (bH×aL)),(x,cI)∈names->((VB a names acc).lookup x).isSome=aC
 | (n,k)::r,acc,h=>by
  rcases aa.mp h with e | h
  ·cases e;refine OH r _ ?_;rw[p9 (by decide),bh];simp
  ·exact Qc r _ h
structure CompScope(N:List bH)(around scope:gC)(own fr:List bH)(ix:List Nat):Prop where
 kind:scope.kind = .function
 nocell:∀y∈scope.names,y.2≠.cell
 names:∀y∈scope.names,y.2 = .local->scope.names.lookup y.1=ax .local
 frees:∀y∈scope.names,y.2 = .free->(around.names.lookup y.1=ax .cell\/around.names.lookup y.1=ax .free)
 slots:fr.map ax=ix.map (λi=>N[i]?)
 outs:∀x∈fr,(x,cI)∈scope.names
 apart:∀x∈fr,scope.names.lookup x≠ax .local
noncomputable def ZI(X:Cx)(N':List bH)(scope:gC)(cl:List (bH×aL))(C:aL)(s:aO)(H:Hp)(ex:List aL):Cx:=
 { X with N:=N',s₀:=s,H₀:=H,env:=lu scope cl C X.env,outer:=X.stack,ex:=ex,fn:=λ_=>aB,pn:=[],xe:=λ_ _=>False }
noncomputable def Yj(n:Nat)(ix:List Nat)(σ:St):St:=aS n aA++ix.map (λi=>(σ[i]?).join)
theorem Ww{env:ma}{x:bH}:∀{names:List (bH×fM)}{k:fM},names.lookup x=ax k->
  (names.map λ(n,k)=>if(k==cI&&env.scope.kind==.function&&env.kindOf n==ax .cell) then(n,gG) else(n,k)).lookup x =
   ax (if(k==cI&&env.scope.kind==.function&&env.kindOf x==ax .cell)=aC then gG else k)
 | [],_,h=>by simp at h
 | (n,k')::r,k,h=>by
  show List.lookup x ((if(k'==cI&&env.scope.kind==.function&&env.kindOf n==ax .cell)=aC then(n,gG) else(n,k'))::_)=_
  cases hx:x==n with
  | true=>
   simp only[bh,hx] at h;cases h;have e:x=n:=by simpa using hx
   subst e;split
   ·simp[bh]
   ·simp[bh]
  | false=>
   simp only[bh,hx] at h;split
   ·simp only[bh,hx];exact Ww h
   ·simp only[bh,hx];exact Ww h
theorem Uc{env:ma}{x:bH}:∀{names:List (bH×fM)}{k':fM},
  (names.map λ(n,k)=>if(k==cI&&env.scope.kind==.function&&env.kindOf n==ax .cell) then(n,gG) else(n,k)).lookup x=ax k'->∃k,names.lookup x=ax k
 | [],_,h=>by simp at h
 | (n,k0)::r,k',h=>by
  have h:List.lookup x ((if(k0==cI&&env.scope.kind==.function&&env.kindOf n==ax .cell)=aC then(n,gG) else(n,k0))::_)=ax k':=h
  cases hx:x==n with
  | true=>exact⟨k0,by simp[bh,hx]⟩
  | false=>
   have:∃k,r.lookup x=ax k:=by
    apply Uc (env:=env) (k':=k');split at h<;>simpa [bh,hx] using h
   obtain⟨k,e⟩:=this;exact⟨k,by simp[bh,hx,e]⟩
section
variable {X:Cx} {p0:List (aL×dW)} {σ:St} {H:Hp} {s:aO} {own fr:List bH} {ix:List Nat} {scope:gC}
theorem CompScope.clos(S:CompScope X.N X.env.scope scope own fr ix)(I:Inv X p0 σ H s):∀y∈scope.names,y.2 = .free->(X.env.cells.lookup y.1).isSome=aC:=λy a b=>by obtain⟨c,e⟩:=I.ok.has y.1 (S.frees y a b);rw[e];rfl
end
theorem Kl{prog:bM}{w:bc}{A:bq}{R:pQ->aO->Prop}{s:aO}{t a u:bO}{q:List bO}{o:gC}{pos:dw}{C acc:aI}{env:ma}(I:Nat->aO->Prop)
  (turn:∀n s,I n s->bJ (model prog w) A (jv C) (λr g=>match r with
   | none=>R (.ok .next) g
   | some v=>bJ (model prog w) A (lC a C v) (λ_ f=>bJ (model prog w) A (assign a env v) (λ_ k=>
     bJ (model prog w) A (forIn q aC λc r=>if r=aC then do let ok <-md c env (eval c env);pure (gD ok) else pure (gD r)) (λok d=>
      if ok=aC then bJ (model prog w) A (eval t env) (λx l=>
       bJ (model prog w) A (call (.builtin "list.append") [acc,x]) (λ_ i=>∃m,m<n/\I m i) (mP (model prog w) A env λe b=>R (.error e) b) l) (mP (model prog w) A env λe b=>R (.error e) b) d
      else ∃m,m<n/\I m d) (mP (model prog w) A env λe b=>R (.error e) b) k) (mP (model prog w) A env λe b=>R (.error e) b) f) (mP (model prog w) A env λe b=>R (.error e) b) g) (mP (model prog w) A env λe b=>R (.error e) b) s)
  (n:Nat) (h:I n s) :
  jQ (model prog w) A (.compLoop (.ListComp t [⟨a,u,q,0⟩] o pos) 0 C acc env) R s:=by
 refine codeAny_loop rfl I (λn s D=>?_) n h;refine wpAny_noted ?_;refine aG (mW (aG (cU (turn n s D) (λr g h₁=>?_) λ_ _ h'=>h')))
 cases r with
 | none=>exact aW h₁
 | some v=>
  refine aG (cU h₁ (λ_ f p=>?_) λ_ _ h'=>h');refine aG (cU p (λ_ k z=>aG (cU z (λok d j=>?_) λ_ _ h'=>h')) λ_ _ h'=>h')
  cases ok with
  | false=>exact aW ⟨rfl,j⟩
  | true=>
   exact aG (aG (cU j (λx l B=>aG (cU B (λ_ i y=>aW (aW ⟨rfl,y⟩)) λ_ _ h'=>h')) λ_ _ h'=>h'))
noncomputable def Bw(X:Cx)(ifs:List bO)(t:TT):Prop:=
 ∀(p0:List (aL×dW))(s:aO)(σ:St)(H:Hp)(Q:Bool->Hp->Prop),Inv X p0 σ H s->t σ H Q->
  bJ (model X.prog X.w) X.A (forIn ifs aC λc r=>if r=aC then do let ok <-md c X.env (eval c X.env);pure (gD ok) else pure (gD r)) (TP X p0 σ Q) X.xe s
noncomputable def Zlk:TT:=λ_ H Q=>Q aC H
theorem Zdt{X:Cx}:Bw X [] Zlk:=λ_ _ _ H _ I h=>wpAny_tests_nil ⟨H,I,h⟩
theorem Zdu{X:Cx}{c:bO}{t:TT}(h:PT X c t):Bw X [c] t:=λa s d H Q I b=>wpAny_tests_one (h a s d H Q I b)
noncomputable def Zll(n:Nat)(ix:List Nat)(g:TG)(tt:TT)(te:TE)(σ:St)(Q:VK)(J:It)(H1:Hp):Prop:=
 ∃W:Nat->Nat->List V->Hp->Prop,(∃m,W 0 m [] H1)/\∀i m ys H,W i m ys H->ys.length<=sizeLine/\
  ((J.stop i H/\∀p,H p=aA->Q (.ref p) (upd H p (.lst ys)))\/
   (J.go i H/\∃N:List V->Hp->Prop,(∀ys' H',N ys' H'->∃m',m'<m/\W (i+1) m' ys' H')/\
    ∀x H',J.yld i H x H'->g x (Yj n ix σ) H' λσ2 H2=>σ2.drop n=(Yj n ix σ).drop n/\tt σ2 H2 λb H3=>if b=aC then te σ2 H3 λy H4=>N (ys++[y]) H4 else N ys H3))
noncomputable def Ll(n:Nat)(ix:List Nat)(wi:TI)(g:TG)(tt:TT)(te:TE):TE:=λσ H Q=>wi σ H λJ H1=>Zll n ix g tt te σ Q J H1
theorem DP{n:Nat}{b:List Nat}{c a:St}(hd:a.drop n=(Yj n b c).drop n):∀(i:Nat) v,(Yj n b c)[i]?=ax (ax v)->a[i]?=ax (ax v):=λi v e=>by
 by_cases d:i<n
 ·unfold Yj at e;rw[aj (by simpa using d),b7] at e;rw[p9 d] at e;cases e
 ·have q:=congrArg (λl=>l[i-n]?) hd;simp only[fg] at q;rw[show n+(i-n)=i by omega] at q;rw[q];exact e
section
variable {X:Cx} {tg elt iter:bO} {ifs:List bO} {scope:gC} {pos:dw} {own fr:List bH} {ix:List Nat} {wi:TI} {g:TG} {tt:TT} {te:TE}
theorem B3{W:List (aL×dW)}{B:St}{E:Hp}{s2:aO}{G:List aL}{h₁:ba}{tk:Nat}{C:aL}(S:CompScope X.N X.env.scope scope own fr ix)(d:Inv X W B E s2)(I:∀b∈G,Sk X W E b)(T:∀b∈G,b<s2.heap.objs.size)
  (O:s2.heap.objs.size<=C) (J:h₁.Ns C λ_=>aA) (s:∀b o,s2.heap.get? b=ax o->h₁.get? b=ax o) :
  Inv (ZI X (own++fr) scope (VB X.env.cells scope.names []) C s2 E G) [] (Yj own.length ix B) E { s2 with heap:=h₁,toks:=tk }:=by
 have cs:=S.clos d;have sub:∀x c,(VB X.env.cells scope.names []).lookup x=ax c->X.env.cells.lookup x=ax c:=λx c e=>Qb scope.names [] cs (λh=>by simp at h) e;have R:=d.stkSub
 have N:(ZI X (own++fr) scope (VB X.env.cells scope.names []) C s2 E G).Ok:=by
  refine⟨d.ok.mod,S.kind,d.ok.glob,d.ok.blt,O,λx y c t f=>d.ok.inj x y c (sub x c t) (sub y c f),λx hx=>?_,λx c h _=>?_,d.ok.hd,d.ok.frames,.inl rfl,λb A=>⟨?_,λx c e=>?_⟩,d.bs,?_,λb o e A=>?_,λb A z=>?_,d.stack,d.stkFree,d.ok.tab.un d.base,λ_ z=>absurd rfl z⟩
  ·-- the cells of the block's free names
   have Q:(x,cI)∈scope.names:=by
    have:∃k',(relabel scope X.env).names.lookup x=ax k'/\(k' = .cell\/k' = .free):=by
     rcases hx with h | h
     ·exact⟨_,h,.inl rfl⟩
     ·exact⟨_,h,.inr rfl⟩
    obtain⟨k',e,P⟩:=this;obtain⟨k,D⟩:=Uc e;have U:=Ww (env:=X.env) D;have e:(scope.names.map λ(n,k)=>if(k==cI&&X.env.scope.kind==.function&&X.env.kindOf n==ax .cell) then(n,gG) else(n,k)).lookup x=ax k':=e;rw[U] at e;have m:=cu D
    cases k with
    | free=>exact m
    | cell=>exact absurd rfl (S.nocell _ m)
    | _=>simp at e;subst e;rcases P with z | z<;>cases z
   exact cT.mp (Qc _ _ Q)
  ·cases h
  ·-- G differs from the frame
   exact bN (bB (T b A) O)
  ·exact(I b A).2.2.2.2.1 x c (sub x c e)
  ·exact cD d.ok.bsz d.sz
  ·rcases(I b A).2.2.2.1 with z | z
   ·exact d.ok.noex b o e z
   ·exact absurd (bB (a9 (d.ok.bs b o e).1) z) (cS _)
  ·rcases aa.mp (R b z) with e | e
   ·exact(I b A).2.1 e
   ·exact(I b A).2.2.1 e
 have sl:fr.length=ix.length:=by simpa using congrArg df S.slots
 refine⟨N,rfl,d.bare,Un.kept s,⟨_,J,λi x v t f g=>?_⟩,λx c e=>?_,d.hok.fresh O,λx c e=>d.freeC x c (sub x c e),λp hp=>absurd (show p∈([]:List (aL×dW)) from hp) (by simp),d.hok.kept s,?_⟩
 ·-- a name of the def around
  have t:(own++fr)[i]?=ax x:=t;have H:¬i<own.length:=λH=>by unfold Yj at f;rw[aj (by simpa using H),b7,p9 H] at f;cases f
  rw[bA (by omega)] at t;unfold Yj at f;rw[bA (by simpa using H),cL,aX] at f
  cases ej:ix[i-own.length]? with
  | none=>rw[ej] at f;cases f
  | some j=>
   rw[ej] at f;have f:(B[j]?).join=ax v:=by simpa using f
   have f:B[j]?=ax (ax v):=by
    cases q:B[j]? with
    | none=>rw[q] at f;cases f
    | some z=>rw[q] at f;exact congrArg ax f
   have hN:X.N[j]?=ax x:=by have q:=congrArg (λl=>l[i-own.length]?) S.slots;simp only[aX,t,ej] at q;exact(bC q).symm
   have Z:=S.outs x (av t);have Y:=S.frees _ Z rfl;obtain⟨m,hn,hl⟩:=d.loc;obtain⟨u,r,l⟩:=hl j x v hN f (by rcases Y with k | k;exact .inr (.inl k);exact .inr (.inr k));refine⟨u,r,?_⟩;rcases l with⟨k,_⟩ | ⟨_,c,hc,w⟩
   ·have k:X.env.scope.names.lookup x=ax .local:=k;rcases Y with q | q<;>rw[k] at q<;>cases q
   ·obtain⟨c',F⟩:=cT.mp (Qc _ [] Z);have ec:=sub x c' F;rw[hc] at ec;cases ec;refine .inr ⟨?_,c,F,?_⟩
    ·have g:=g;rcases g with g | g
     ·obtain⟨k0,D⟩:=Uc g;have U:=Ww (env:=X.env) D;have g:(scope.names.map λ(n,k)=>if(k==cI&&X.env.scope.kind==.function&&X.env.kindOf n==ax .cell) then(n,gG) else(n,k)).lookup x=ax .local:=g;rw[U] at g
      have L:k0 = .local:=by
       cases k0<;>simp at g ⊢
       split at g<;>cases g
      subst L;exact absurd D (S.apart x (av t))
     ·exact g
    ·obtain⟨o,M,hd⟩:=w;exact⟨o,s _ _ M,hd⟩
 ·obtain⟨v,o,M,hd⟩:=d.cell x c (sub x c e);exact⟨v,o,s _ _ M,hd⟩
 ·show(Yj own.length ix B).length=(own++fr).length;unfold Yj;rw[aT,cL,aJ,aT,sl]
noncomputable def cxG(fv:bH->Bool)(X:Cx)(N':List bH)(scope:gC)(cl:List (bH×aL))(C:aL)(s:aO)(H:Hp)(ex:List aL):Cx:=
 { X with N:=N',s₀:=s,H₀:=H,env:=lu scope cl C X.env,outer:=X.stack,ex:=ex,fn:=fv,pn:=[],xe:=λ_ _=>False }
theorem DQ{fv:bH->Bool}{N:List bH}{cl:List (bH×aL)}{Z:Nat}{C D:aL}{h₁:ba}{tk:Nat}{p0:List (aL×dW)}{σ:St}{t:Hp}{s2:aO}{k:List aL}{it:aL}{tn:Nat->ba->Prop}{J:It}{Fin:List V->Hp->Prop}{RR:aI->aL->pQ->aO->Prop}
  (E:X.calm=aC) (hg:PG (cxG fv X N scope cl C s2 t k) tg g) (ht:Bw (cxG fv X N scope cl C s2 t k) ifs tt) (he:PE (cxG fv X N scope cl C s2 t k) elt te)
  (I2:Inv X p0 σ t s2) (T:JV X.prog X.w X.K tg J k it tn) (st2:tn 0 s2.heap) (f2:∀b∈k,Sk X p0 t b)
  {W:Nat->Nat->List V->Hp->Prop} {m0:Nat} (w0:W 0 m0 [] t)
  (turn:∀i m f H,W i m f H->f.length<=sizeLine/\
   ((J.stop i H/\Fin f H)\/
    (J.go i H/\∃N:List V->Hp->Prop,(∀ys' j,N ys' j->∃m',m'<m/\W (i+1) m' ys' j)/\
     ∀x j,J.yld i H x j->g x (Yj Z ix σ) j λσ2 t=>σ2.drop Z=(Yj Z ix σ).drop Z/\tt σ2 t λb w=>if b=aC then te σ2 w λy H4=>N (f++[y]) H4 else N f w)))
  (hRR:∀(D C:aL)(oC:dW)(m:bH->Option aI)(M:aO)(j:Hp)(f:List V),Inv X (p0++[(C,oC)]) σ (upd j D (.lst f)) M->M.heap.get? C=ax oC->M.heap.Ns C m->Sk X p0 (upd j D (.lst f)) C->j D=aA->Fin f j->RR (.ref D) C (.ok .next) M)
  (hfp:∀b∈k,b<s2.heap.objs.size) (hC:@Eq Nat C (D+1)) (hDD:@Eq Nat s2.heap.objs.size D) (old:∀b o,s2.heap.get? b=ax o->h₁.get? b=ax o) (hacc:h₁.get? D=ax { cls:=.type "list",data:=.seq ([]:List aI).toArray 0 })
  (I0:∀tk,Inv (cxG fv X N scope cl C s2 t k) [] (Yj Z ix σ) t { s2 with heap:=h₁,toks:=tk }) (hcl:∀x c,cl.lookup x=ax c->c≠D) :
  jQ (model X.prog X.w) X.A (.compStart (.ListComp elt [⟨tg,iter,ifs,0⟩] scope pos) 0 (.ref it) (.ref D) (lu scope cl C X.env)) (RR (.ref D) C) { s2 with heap:=h₁,toks:=tk }:=by
 have hDC:@Ne Nat D C:=by omega
 have h:∀b,b<s2.heap.objs.size->b≠C/\b≠D:=λb a=>by rw[hDD] at a;exact⟨bN (by omega),bN a⟩
 have loop:jQ (model X.prog X.w) X.A (.compLoop (.ListComp elt [⟨tg,iter,ifs,0⟩] scope pos) 0 (.ref it) (.ref D) (lu scope cl C X.env)) (RR (.ref D) C) { s2 with heap:=h₁,toks:=tk }:=by
  generalize l:cxG fv X N scope cl C s2 t k=Y at I0 hg ht he
  have G:∀{j:Hp}{pn:List (aL×dW)},(∀b∈k,j b=aA)->(∀p∈pn,∀b∈k,p.1≠b)->∀b∈k,Sk Y pn j b:=λ{j pn} hn B b a=>by
   subst l;refine⟨hn b a,(h b (hfp b a)).1,λz=>?_,.inl a,λx c e=>?_,λp hp'=>B p hp' b a⟩
   ·exact(I0 0).ok.exfs b a z
   ·exact((I0 0).ok.exf b a).2 x c e
  have dfp:=λb a=>bX (h b (hfp b a)).2;have P:∀x c,Y.env.cells.lookup x=ax c->c≠D:=by subst l;exact hcl
  have hfsD:D∉Y.fs:=λz=>by subst l;obtain⟨_,o,ho,_⟩:=(I0 0).ok.funs.mem z;have:=a9 ho;have:D<s2.heap.objs.size:=this;exact cS _ (Nat.lt_of_lt_of_eq this hDD)
  have eL:Y.env.locals=C:=by subst l;rfl
  have eS:Y.s₀=s2:=by subst l;rfl
  have eP:Y.pn=[]:=by subst l;rfl
  refine Kl (λn M=>∃i f A F j,Inv Y [] (Yj Z ix σ) j M/\tn i M.heap/\(∀b∈k,j b=aA)/\M.heap.get? D=ax { cls:=.type "list",data:=.seq A F }/\Vals f A.toList/\j D=aA/\W i n f j) ?_ m0
   ⟨0,[],#[],0,t,I0 _,T.keep _ _ _ st2 λb _ o e=>old b o e,λb a=>(f2 b a).1,hacc,.nil,I2.hok.fresh (by omega),w0⟩
  rintro n s3 ⟨i,f,A,F,w,I3,st3,fr3,oD,vD,nD,w3⟩;obtain⟨hlen,O⟩:=turn i n f w w3;have hsize:A.size<=sizeLine:=by have:=vD.length;simp only[cM] at this;omega
  have pD:Inv Y [(D,{ cls:=.type "list",data:=.seq A F })] (Yj Z ix σ) w s3:=I3.pins_of λp B=>by rw[aM.mp B];exact⟨oD,nD,by rw[eL];exact hDC,hfsD,λv z=>by cases z⟩
  have YP:Y.prog=X.prog:=by subst l;rfl
  have Yw:Y.w=X.w:=by subst l;rfl
  have YK:Y.K=X.K:=by subst l;rfl
  have YA:Y.A=X.A:=by subst l;rfl
  have Yx:Y.xe=λ_ _=>False:=by subst l;rfl
  have Ye:Y.env=lu scope cl C X.env:=by subst l;rfl
  have ne1:∀p∈[((D,{ cls:=.type "list",data:=.seq A F }):aL×dW)],∀b∈k,p.1≠b:=λp B b a=>by rw[aM.mp B];exact dfp b a
  rcases O with⟨stop,qn⟩ | ⟨go,N,hN,step⟩
  ·have d:=T.done Y YP Yw YK (by subst l;exact E) i _ s3 _ w (mP (model X.prog X.w) X.A (lu scope cl C X.env) λe M=>RR (.ref D) C (.error e) M) pD (G fr3 ne1) st3 stop;rw[YA] at d;refine Yo d λr s4 ⟨hr,I4⟩=>?_;subst hr;obtain⟨oD4,s,_⟩:=I4.pin (D,_) (by rw[eP];exact ag);obtain⟨m,hn,_⟩:=I4.loc;rw[eL] at hn;obtain⟨oC,es,ep,hoC,hdC,hrest⟩:=id hn;have S:w C=aA:=by have:=I4.free;rw[eL] at this;exact this
   have un:Un (Kc X.stack) k t w s2.heap s4.heap:=by have:=I4.base;subst l;exact this
   have lt2:∀b o,s2.heap.get? b=ax o->b≠D:=λb o e=>(h b (a9 e)).2
   have un':Un (Kc X.stack) k t (upd w D (.lst f)) s2.heap s4.heap:=by
    refine⟨un.keep,un.slot,λb o e n hx=>?_,un.there,λb xs e=>?_,λb o u e=>?_,λb ps e=>?_⟩
    ·rw[upd_ne (lt2 b o e)];exact un.free b o e n hx
    ·have q:=un.tups b xs e;rw[upd_ne (Zr q s)];exact q
    ·have q:=un.frzs b o u e;rw[upd_ne (Zr q s)];exact q
    ·obtain⟨more,q⟩:=un.tbls b ps e;exact⟨more,by rw[upd_ne (Zr q s)];exact q⟩
   have hok4:HOk X.prog X.w w s4.heap:=by have:=I4.hok;rw[YP,Yw] at this;exact this
   have hok':HOk X.prog X.w (upd w D (.lst f)) s4.heap:=λb u q=>by
    by_cases a:b=D
    ·subst a;rw[Zk] at q;cases q;exact⟨hlen,A.toList,F,vD,by simpa using oD4⟩
    ·rw[upd_ne a] at q;exact(hok4 b u q).stay (λc v _ z=>z) (λc z=>by rw[upd_ne (Zr z s)];exact z) (λc xs z=>by rw[upd_ne (Zr z s)];exact z) λc u z=>by rw[upd_ne (Zr z s)];exact z
   have os4:s4.os=s2.os:=by rw[I4.os,eS]
   have I5:=I2.call' os4 un' hok' I4.bare λb a=>⟨(f2 b a).2.2.2.1,(f2 b a).2.1,(f2 b a).2.2.2.2.1,(f2 b a).2.2.2.2.2⟩;have CL:C≠X.env.locals:=λz=>by exact(h _ I2.lt).1 z.symm
   have Q:Sk X p0 (upd w D (.lst f)) C:=I2.fpOk (by omega) (by rw[upd_ne (bX hDC)];exact S);refine hRR D C oC m s4 w f (I5.pins_of λp B=>?_) hoC hn Q s qn;rcases aV.mp B with z | z
   ·exact I5.pin p (ah _ z)
   ·rw[aM.mp z];exact⟨hoC,Q.1,Q.2.1,Q.2.2.1,λv z=>by rw[hdC] at z;cases z⟩
  ·have d:=T.item Y YP Yw YK (by subst l;exact E) i _ s3 _ w (λ_ _=>False) pD (G fr3 ne1) st3 go;rw[YA] at d;refine cU d (λr s4 ⟨u,hr,h4⟩=>?_) λ_ _ z=>z.elim;subst hr;refine cU h4 (λ_ s5 ⟨x,H5,I5,r5,y5,st5,fr5⟩=>?_) λ_ _ z=>z.elim;have I5':=I5.pinned (G fr5 ne1) (T.obj _ _ st5);have a6:=hg _ s5 _ H5 x u _ I5' r5 (step x H5 y5);rw[YP,Yw,YA,Ye,Yx] at a6;refine cU a6 (λ_ s6 ⟨R,H6,I6,dr,q6⟩=>?_) λ_ _ z=>z.elim;have a7:=ht _ s6 R H6 _ I6 q6;rw[YP,Yw,YA,Ye,Yx] at a7;refine cU a7 (λok s7 ⟨H7,I7,q7⟩=>?_) λ_ _ z=>z.elim
   have back:∀{I:Hp}{L:aO},Inv Y ([((D,{ cls:=.type "list",data:=.seq A F }):aL×dW)]++R7 k s5.heap) R I L->
     L.heap.get? D=ax { cls:=.type "list",data:=.seq A F }/\I D=aA/\tn (i+1) L.heap/\(∀b∈k,I b=aA):=λ{I L} U=>by
    obtain⟨e1,e2,_⟩:=U.pin (D,{ cls:=.type "list",data:=.seq A F }) (by simp);refine⟨e1,e2,T.keep _ _ _ st5 λb a o e=>(U.pin (b,o) (by rw[eP];exact aN _ (Ua a e))).1,λb a=>?_⟩;obtain⟨o,e,_⟩:=T.obj _ _ st5 b a;exact(U.pin (b,o) (by rw[eP];exact aN _ (Ua a e))).2.1
   have unp:∀{I:Hp}{L:aO},Inv Y ([((D,{ cls:=.type "list",data:=.seq A F }):aL×dW)]++R7 k s5.heap) R I L->Inv Y [] (Yj Z ix σ) I L:=λ{I L} U=>
    (U.pins_of λp B=>absurd B (by simp)).weak (by
     have e1:=(I0 0).len;have e2:=U.len;rw[e1,e2]) (DP dr)
   cases ok with
   | false=>
    obtain⟨e1,e2,e3,e4⟩:=back I7;obtain⟨m',hm,w7⟩:=hN _ _ q7;exact⟨m',hm,i+1,f,A,F,H7,unp I7,e3,e4,e1,vD,e2,w7⟩
   | true=>
    have a8:=he _ s7 R H7 _ I7 q7;rw[YP,Yw,YA,Ye,Yx] at a8;refine cU a8 (λyv L ⟨y,I,U,ry,q8⟩=>?_) λ_ _ z=>z.elim;obtain⟨e1,e2,e3,e4⟩:=back U;obtain⟨m',hm,w8⟩:=hN _ _ q8;refine append_at e1 (λh9 hs9 hD9=>?_) hsize;have I9:=(unp U).turned (t':=L.toks) (λb o a e=>hs9.extBut b o a e) e2 (by rw[eL];exact hDC) (.inr (by rw[eS];omega)) P (λp B=>absurd (show p∈([]:List (aL×dW)) by rw[eP] at B;exact B) (by simp));refine⟨m',hm,i+1,f++[y],A.push yv,F+1,I,I9,T.keep _ _ _ e3 λb a o e=>hs9.extBut b o (bX (dfp b a)) e,e4,hD9,?_,e2,w8⟩;rw[iO];exact vD.append (.cons ry .nil)
 exact codeAny_compStart_list loop (T.self X.A 0 _ _ _ (T.keep _ _ _ st2 λb _ o e=>old b o e) loop)
theorem OI{L:List (aL×dW)}{M:St}{w:Hp}{s2:aO}{Y:List aL}{Z:aL}{tn:Nat->ba->Prop}{J:It}{Fin:List V->Hp->Prop}{RR:aI->aL->pQ->aO->Prop}{E:aI->aO->Prop}
  (n:X.calm=aC) (S:CompScope X.N X.env.scope scope own fr ix)
  (hg:∀cl C s H ex,PG (ZI X (own++fr) scope cl C s H ex) tg g) (ht:∀cl C s H ex,Bw (ZI X (own++fr) scope cl C s H ex) ifs tt) (he:∀cl C s H ex,PE (ZI X (own++fr) scope cl C s H ex) elt te)
  (P:Inv X L M w s2) (T:JV X.prog X.w X.K tg J Y Z tn) (I:tn 0 s2.heap) (f2:∀b∈Y,Sk X L w b)
  {W:Nat->Nat->List V->Hp->Prop} {m0:Nat} (w0:W 0 m0 [] w)
  (turn:∀i m ys H,W i m ys H->ys.length<=sizeLine/\
   ((J.stop i H/\Fin ys H)\/
    (J.go i H/\∃N:List V->Hp->Prop,(∀ys' H',N ys' H'->∃m',m'<m/\W (i+1) m' ys' H')/\
     ∀x H',J.yld i H x H'->g x (Yj own.length ix M) H' λt w=>t.drop own.length=(Yj own.length ix M).drop own.length/\tt t w λb H3=>if b=aC then te t H3 λy H4=>N (ys++[y]) H4 else N ys H3)))
  (R:∀(D C:aL)(oC:dW)(m:bH->Option aI)(s':aO)(H':Hp)(ys:List V),Inv X (L++[(C,oC)]) M (upd H' D (.lst ys)) s'->s'.heap.get? C=ax oC->s'.heap.Ns C m->Sk X L (upd H' D (.lst ys)) C->H' D=aA->Fin ys H'->RR (.ref D) C (.ok .next) s') :
  bJ (model X.prog X.w) X.A (newList []) (λacc u=>bJ (model X.prog X.w) X.A (newFunctionEnv scope X.env.globals (VB X.env.cells scope.names []) [] X.env.qual aA .none (ax X.env)) (λk G=>
   jQ (model X.prog X.w) X.A (.compStart (.ListComp elt [⟨tg,iter,ifs,0⟩] scope pos) 0 (.ref Z) acc { k with scope:=relabel scope X.env }) (RR acc k.locals) G) E u) E s2:=by
 have F:∀b∈Y,b<s2.heap.objs.size:=λb O=>by obtain⟨o,e,_⟩:=T.obj 0 s2.heap I b O;exact a9 e
 refine cy (lx S.nocell (by simp) (λh₁ d a=>?_) S.kind);generalize l:s2.heap.push { cls:=.type "list",dict:=aA,data:=.seq ([]:List aI).toArray }=G2 at d a ⊢;have Q:G2.objs.size=s2.heap.objs.size+1:=by rw[<-l,cR]
 generalize hCC:G2.objs.size=C at d a Q ⊢;generalize p:s2.heap.objs.size=D at Q ⊢;have U:D≠C:=by omega
 have f:∀b,b<s2.heap.objs.size->b≠C/\b≠D:=λb O=>by rw[p] at O;exact⟨bN (by omega),bN O⟩
 have A:=λb o e=>a.extBut b o (f b (a9 e)).1 (aK _ (l▸aK _ e))
 have B:h₁.get? D=ax { cls:=.type "list",data:=.seq ([]:List aI).toArray 0 }:=by
  have e0:G2.get? D=ax { cls:=.type "list",data:=.seq ([]:List aI).toArray 0 }:=by rw[<-l,<-p];exact ak _ rfl
  exact a.extBut _ _ U (aK _ e0)
 have j:h₁.Ns C λ_=>aA:=by simpa using d
 have I0:=λtk=>B3 (tk:=tk) S P f2 F (by omega) j A;refine DQ (s2:=s2) (h₁:=h₁) (fv:=λ_=>aB) (N:=own++fr) (C:=C) (D:=D) (cl:=VB X.env.cells scope.names []) n (hg _ _ _ _ _) (ht _ _ _ _ _) (he _ _ _ _ _) P T I f2 w0 turn R F Q p A B I0 λx c e z=>?_;obtain⟨v,q⟩:=P.cell x c (Qb scope.names [] (S.clos P) (λh=>by simp at h) e);exact(f c q.lt).2 z
theorem Zdv(c:X.calm=aC)(A:PI X tg iter wi)(S:CompScope X.N X.env.scope scope own fr ix)
  (n:∀cl C s H ex,PG (ZI X (own++fr) scope cl C s H ex) tg g) (l:∀cl C s H ex,Bw (ZI X (own++fr) scope cl C s H ex) ifs tt) (y:∀cl C s H ex,PE (ZI X (own++fr) scope cl C s H ex) elt te)
  (u:∀x,cK iter X.env x=pure x:=by intro _;rfl):PE X (.ListComp elt [⟨tg,iter,ifs,0⟩] scope pos) (Ll own.length ix wi g tt te):=by
 intro k s z H Q I h;refine jw rfl u (Sv (S.clos I)) S.kind S.names (Yo (A k s z H _ I h) λv s1 w=>Yo w λj s2 E=>?_);obtain⟨R,fp,Z,J,U,e,L,T,i,O,W,⟨m0,B⟩,turn⟩:=E;subst e;refine OI c S n l y L T i O B turn ?_;intro D C Y m P G F M p q a t d;refine⟨m,q,λh' f=>⟨.ref D,upd G D (.lst F),?_,rfl,d D t⟩⟩;exact(M.unpinned).turned (λb o N e=>f.extBut b o N e) a.1 a.2.1 a.2.2.2.1 a.2.2.2.2.1 a.2.2.2.2.2
theorem Zdw{i:Nat}{y:bH}{w d:dw}(U:X.N.Nodup)(Q:X.N[i]?=ax y)(c:X.env.scope.names.lookup y=ax .local)(f:X.calm=aC)(Z:PI X tg iter wi)(S:CompScope X.N X.env.scope scope own fr ix)
  (G:∀cl C s H ex,PG (ZI X (own++fr) scope cl C s H ex) tg g) (F:∀cl C s H ex,Bw (ZI X (own++fr) scope cl C s H ex) ifs tt) (R:∀cl C s H ex,PE (ZI X (own++fr) scope cl C s H ex) elt te)
  (p:iC (.ListComp elt [⟨tg,iter,ifs,0⟩] scope pos) (ax (.Name y w)) d.line X.env=pure aC:=by rfl)
  (N:∀x,cK iter X.env x=pure x:=by intro _;rfl):PS X (.Assign [.Name y w] (.ListComp elt [⟨tg,iter,ifs,0⟩] scope pos) d) (Ke (Ll own.length ix wi g tt te) (Sq i)):=by
 intro B s Y H D0 I h;rw[exec_Assign_Name_used _ _ _ _ p];refine aG (mW (aG ?_))
 refine aG (cU (jw rfl N (Sv (S.clos I)) S.kind S.names
  (Yo (Z B s Y H _ I h) λv s1 O=>Yo O λA s2 h2=>?_)) (λ_ z hq=>aW (aW hq)) λ_ _ e=>e)
 obtain⟨it,fp,tn,J,H2,e,I2,T,n,f2,W,⟨m0,w0⟩,turn⟩:=h2;subst e;refine OI f S G F R I2 T n f2 w0 turn ?_;intro D C u m z H' ys I5 l L a M k;refine wpAny_assign_Name (S6 I5 U Q (.inl c) (v:=.ref D) rfl (λs6 t=>?_) (.inr c));obtain⟨e6,_⟩:=t.pin (C,u) (ah _ (ah _ ag));obtain⟨o',E,ep,j,P⟩:=L;rw[l] at j;cases j;refine⟨m,⟨u,E,ep,e6,P⟩,λh' q=>⟨_,upd H' D (.lst ys),?_,k D M⟩⟩;exact(t.unpinned).turned (λb o hb e=>q.extBut b o hb e) a.1 a.2.1 a.2.2.2.1 a.2.2.2.2.1 a.2.2.2.2.2
end
open AutoSeq1 (wpAny_loadPart')
section
variable {prog:bM} {w:bc} {A:bq} {E:aI->aO->Prop} {s:aO}
theorem Ra{b l:aL}{i:Nat}{items}{x:aI}{Q:aI->aO->Prop}(a:s.heap.IsTupleIter b l i)
  (f:s.heap.IsTuple l items) (g:items[i]?=ax x)
  (h:∀h',h'.IsTupleIter b l (i+1)->cP b s.heap h'->Q x { s with heap:=h' }) :
  bJ (model prog w) A (jf (.ref b)) Q E s:=by
 obtain⟨o,c,j,hd⟩:=id a;obtain⟨m,d,_,k,e⟩:=f
 refine aG (cV a.typeIs F.slot_tuple_iterator_next
  (cj F.slot_tuple_iterator_next a.typeIs F.entry_tuple_iterator_next ?_ (F.args_tuple_iterator_next_1 _)))
 show bJ _ _ (field (.ref b) 0 >>= _) _ _ s;refine aG (cx c hd rfl ?_);refine aG (cx c hd rfl ?_);refine aG (eI d e ?_);simp only[bV,g];refine aG (iP c hd (by simp) (aW ⟨x,rfl,aW (h _ ?_ (cw ..))⟩));exact⟨_,eO _ c (iW (eJ hd _)),(jj ..).trans j,by rw[eJ hd];simp[gJ]⟩
theorem Qd{b l:aL}{i:Nat}{items}{Q:aI->aO->Prop}(g:A.handled=aA)
  (a:s.heap.IsTupleIter b l i) (h:s.heap.IsTuple l items) (j:items[i]?=aA)
  (k:∀h' e,mB b s.heap h'->(∃o,h'.get? e=ax o/\o.cls = .type "StopIteration")->E (.ref e) { s with heap:=h' }) :
  bJ (model prog w) A (jf (.ref b)) Q E s:=by
 obtain⟨o,d,q,hd⟩:=id a;obtain⟨p,c,_,n,f⟩:=h
 refine aG (cV a.typeIs F.slot_tuple_iterator_next
  (cj F.slot_tuple_iterator_next a.typeIs F.entry_tuple_iterator_next ?_ (F.args_tuple_iterator_next_1 _)))
 show bJ _ _ (field (.ref b) 0 >>= _) _ _ s;refine aG (cx d hd rfl ?_);refine aG (cx d hd rfl ?_);refine aG (eI c f ?_);simp only[bV,j];refine aG (mw (aG (iP d hd (by simp) ?_)));refine aG ?_;refine aG (m:=mC _ _) (oJ rfl ?_);refine cy ?_ (by size_fits);refine aG (wpAny_handled ?_)
 first | rw[g] | rw[g]
 refine aG (aW (wpAny_throw ?_));exact k _ _ (((cw ..).extBut.push _).push _) ⟨_,ak _ rfl,rfl⟩
end
noncomputable def SeqB(b:Bool)(h:ba)(a:aL)(p8:Array aI):Prop:=if b=aC then h.IsList a p8 else h.IsTuple a p8
noncomputable def IterB(b:Bool)(h:ba)(it a:aL)(i:Nat):Prop:=if b=aC then h.IsListIter it a i else h.IsTupleIter it a i
noncomputable def MH(b:Bool)(K:aH)(H:Hp)(a:aL)(xs:List V):Prop:=if b=aC then SqL K H a xs else SqT K H a xs
noncomputable def UI(b:Bool)(a:aL):dW:={ cls:=.type (if b=aC then "list_iterator" else "tuple_iterator"),data:=.fields #[.ref a,.int 0 0] }
theorem SeqB.at{b:Bool}{h h':ba}{a:aL}{c:Array aI}(x:SeqB b h a c)(k:∀o,h.get? a=ax o->h'.get? a=ax o):SeqB b h' a c:=by
 cases b with
 | true=>obtain⟨o,e,r⟩:=(x);exact⟨o,k o e,r⟩
 | false=>obtain⟨o,e,r⟩:=(x);exact⟨o,k o e,r⟩
theorem SeqB.has{b:Bool}{h:ba}{a:aL}{c:Array aI}(x:SeqB b h a c):∃o,h.get? a=ax o:=by
 cases b with
 | true=>obtain⟨o,e,r⟩:=(x);exact⟨o,e⟩
 | false=>obtain⟨o,e,r⟩:=(x);exact⟨o,e⟩
theorem IterB.at{b:Bool}{h h':ba}{c a:aL}{i:Nat}(x:IterB b h c a i)(k:∀o,h.get? c=ax o->h'.get? c=ax o):IterB b h' c a i:=by
 cases b with
 | true=>obtain⟨o,e,r⟩:=(x);exact⟨o,k o e,r⟩
 | false=>obtain⟨o,e,r⟩:=(x);exact⟨o,k o e,r⟩
theorem IterB.has{b:Bool}{h:ba}{c a:aL}{i:Nat}(x:IterB b h c a i):∃o,h.get? c=ax o/\∀v,o.data≠.cell v:=by
 cases b with
 | true=>obtain⟨o,e,_,d⟩:=(x);exact⟨o,e,λv z=>by rw[d] at z;cases z⟩
 | false=>obtain⟨o,e,_,d⟩:=(x);exact⟨o,e,λv z=>by rw[d] at z;cases z⟩
theorem IterB.new{b:Bool}{h:ba}{c a:aL}(e:h.get? c=ax (UI b a)):IterB b h c a 0:=by
 cases b with
 | true=>exact⟨_,e,rfl,rfl⟩
 | false=>exact⟨_,e,rfl,rfl⟩
section
variable {X:Cx} {p0:List (aL×dW)} {σ:St} {H:Hp} {s:aO} {a:aL} {xs ys:List V} {b:Bool}
theorem Inv.seqB(I:Inv X p0 σ H s)(h:MH b X.K H a xs):∃c:List aI,Vals xs c/\SeqB b s.heap a c.toArray/\xs.length<=sizeLine:=by
 cases b with
 | true=>
  obtain⟨c,r,p,z⟩:=I.list (h);exact⟨c,r,p.isList,z⟩
 | false=>
  obtain⟨c,r,p,z⟩:=I.tuple (h);exact⟨c,r,p,z⟩
theorem Inv.seqB_inj(I:Inv X p0 σ H s)(h:MH b X.K H a xs)(h':MH b X.K H a ys):xs=ys:=by
 cases b with
 | true=>exact I.list_inj (h) (h')
 | false=>exact I.tuple_inj (h) (h')
end
theorem Draws.seq{prog:bM}{w:bc}{A:bq}(b:Bool)(k:A.handled=aA)(d l:aL)(f:l≠d)(items:Array aI) :
  Draws prog w A d [d,l] items.size (λi v=>items[i]?=ax v) (λi h=>IterB b h d l i/\SeqB b h l items) where
 live:=λ_ _ st=>let⟨o,p,_⟩:=st.1.has;⟨o,p⟩
 frame:=λ_ _ _ st m=>⟨st.1.at λo e=>m d (by simp) o e,st.2.at λo e=>m l (by simp) o e⟩
 item:=λi s Q E g st j=>by
  cases b with
  | true=>
   refine wpAny_nextOf_list_item (st.1) (st.2) (x:=items[i]) (by simp[g]) λh' a c=>?_;exact j _ h' s.toks (by simp[g]) ⟨a,st.2.at λo e=>c.extBut l o f e⟩ c
  | false=>
   refine Ra (st.1) (st.2) (x:=items[i]) (by simp[g]) λh' a c=>?_;exact j _ h' s.toks (by simp[g]) ⟨a,st.2.at λo e=>c.extBut l o f e⟩ c
 done:=λs Q E st n=>by
  cases b with
  | true=>exact wpAny_nextOf_list_end k (st.1) (st.2) (by simp) n
  | false=>exact Qd k (st.1) (st.2) (by simp) n
theorem YQ{prog:bM}{w:bc}{A:bq}{E:aI->aO->Prop}{s:aO}{b:Bool}{a:aL}{d:Array aI}{Q:aI->aO->Prop}(h:SeqB b s.heap a d)
  (c:Q (.ref s.heap.objs.size) { s with heap:=s.heap.push (UI b a) }):bJ (model prog w) A (nY (.ref a)) Q E s:=by
 cases b with
 | true=>exact wpAny_pyIter_list (h) c
 | false=>exact j3 (h) c
set_option maxHeartbeats 4000000 in
theorem OJ(b:Bool)(l:aL)(items:Array aI) :
  Meets (fj.«enumerate.__new__» ⟨[.type "enumerate",.ref l],[]⟩) (λ_ R s=>SeqB b s.heap l items/\
   R (.ok (.ret (.ref (s.heap.push (UI b l)).objs.size)))
    { s with heap:=(s.heap.push (UI b l)).push { cls:=.type "enumerate",data:=.fields #[.none,.bool aB,.ref s.heap.objs.size,gJ 0,.none,.none] } }):=
 .of_wp λprog w A R s h=>by
  obtain⟨j,g,d,tk,os⟩:=s;obtain⟨f,h⟩:=h;have i:=sub_enumerate;obtain⟨o,a⟩:=f.has;have e:SeqB b (pU ⟨j,g,d,tk,os⟩) l items:=f
  wp_walk using jF a
  refine wpAny_stack_any λst=>aW ?_;split
  ·rename_i c _ _ _ _ _;cases (c==kY "enumerate")
   ·wp_walk using jF a,YQ e
    exact⟨_,rfl,h⟩
   ·wp_walk using jF a,YQ e
    exact⟨_,rfl,h⟩
  ·wp_walk using jF a,YQ e
   exact⟨_,rfl,h⟩
section
variable {prog:bM} {w:bc} {A:bq} {E:aI->aO->Prop} {s:aO}
theorem ML{b:Bool}{l:aL}{items:Array aI}{Q:aI->aO->Prop}(e:SeqB b s.heap l items)
  (h:∀h',IsEnum h' (s.heap.objs.size+1) s.heap.objs.size 0 .none->IterB b h' s.heap.objs.size l 0->h'.objs.size=s.heap.objs.size+2->
   (∀b o,s.heap.get? b=ax o->h'.get? b=ax o)->Q (.ref (s.heap.objs.size+1)) { s with heap:=h' }) :
  bJ (model prog w) A (call (.type "enumerate") [.ref l]) Q E s:=by
 refine callType_new F.called_enumerate rfl (F.typeCall_enumerate_1 _) (F.newCall_enumerate_1 _) (λa=>F.args_object_init_2 a _) F.entry_enumerate_new
  (OJ b l items) ⟨e,?_⟩
 have c:(s.heap.push (UI b l)).objs.size=s.heap.objs.size+1:=cR ..;rw[c]
 have d:IsEnum ((s.heap.push (UI b l)).push
   { cls:=.type "enumerate",data:=.fields #[.none,.bool aB,.ref s.heap.objs.size,gJ 0,.none,.none] }) (s.heap.objs.size+1) s.heap.objs.size 0 .none:=by
  have:=ak (s.heap.push (UI b l))
   (o:={ cls:=.type "enumerate",data:=.fields #[.none,.bool aB,.ref s.heap.objs.size,gJ 0,.none,.none] }) rfl
  rw[c] at this;exact this
 refine⟨⟨_,d,rfl⟩,h _ d (IterB.new (aK _ (ak _ rfl))) (by simp) λb o x=>aK _ (aK _ x)⟩
end
noncomputable def Ite(b:Bool)(K:aH)(a:aL):It:=
  ⟨λi H=>∃xs x,MH b K H a xs/\xs[i]?=ax x,
   λi H v H'=>∃p x,H p=aA/\v = .ref p/\H'=upd H p (.tup [.int i,x])/\∀xs,MH b K H a xs->xs[i]?=ax x,
   λi H=>∃xs,MH b K H a xs/\xs.length=i⟩
theorem DR{P:bM}{w:bc}{K:aH}{elts:List bO}{k:Nat}{pos:dw}(b:Bool)(a e t:aL)(T:e≠t) :
  JV P w K (.Tuple elts k pos) (Ite b K a) [e,t] e (λi h=>(∃C,IsEnum h e t i C)/\IterB b h t a i) where
 mem:=by simp
 obj:=λi h st c O=>by
  rcases aa.mp O with rfl | O
  ·obtain⟨⟨C,q⟩,_⟩:=st;exact⟨_,q,λv z=>by cases z⟩
  ·rw[aM.mp O];exact st.2.has
 keep:=λi h h' st L=>⟨let⟨C,q⟩:=st.1;⟨C,L e (by simp) _ q⟩,st.2.at λo q=>L t (by simp) o q⟩
 item:=by
  intro X hP hw hK O i p0 s σ H E I S st hg;subst hP hw hK;obtain⟨xs,x,hq,hx⟩:=hg;obtain⟨U,rv,p,hz⟩:=I.seqB hq;obtain⟨u,hu,ru⟩:=rv.get hx;obtain⟨⟨C,J⟩,l⟩:=st;have fe:=S e (by simp);have fi:=S t (by simp);obtain⟨oa,N⟩:=p.has
  -- the sequence is neither record
  have j:∀c,Sk X p0 H c->(∃oc,s.heap.get? c=ax oc/\∃n vs,oc.cls = .type n/\oc.data = .fields vs)->a≠c:=λc _ ⟨oc,W,n,vs,hn,hv⟩ z=>by
   subst z;rw[N] at W;cases W
   cases b with
   | true=>obtain⟨o,G,_,m,d⟩:=(p);rw[N] at G;cases G;rw[hv] at d;cases d
   | false=>obtain⟨o,G,_,m,d⟩:=(p);rw[N] at G;cases G;rw[hv] at d;cases d
  have ae:=j e fe ⟨_,J,_,_,rfl,rfl⟩
  have ai:=j t fi (by
   cases b with
   | true=>obtain⟨o,G,c1,d1⟩:=(l);exact⟨o,G,_,_,c1,d1⟩
   | false=>obtain⟨o,G,c1,d1⟩:=(l);exact⟨o,G,_,_,c1,d1⟩)
  have D:=Draws.seq (prog:=X.prog) (w:=X.w) (A:=X.A.in1) b (I.ok.hd O) t a ai U.toArray;have hlt:i<U.toArray.size:=by have:=(aR.mp hu).1;simpa using this
  refine wpAny_pyNext_enum_itemD D J ⟨l,p⟩ hlt T (by simp[T,bX ae]) λy h' tk hPy ho hs' hT hsz hk=>?_
  have ey:y=u:=by
   have q1:=hPy;have q2:U.toArray[i]?=ax u:=by simpa using hu
   rw[q1] at q2;exact bC q2
  subst ey;refine⟨_,rfl,wpAny_letOwnedTupleGo_enum ho λh2 he2 M=>?_⟩;have Tne:=fW (a9 J);have B:=I.hok.fresh (aZ _);have L:∀c o,c∉[e,t]->s.heap.get? c=ax o->h2.get? c=ax o:=λc o g q=>M.extBut c o (λz=>g (by simp[z])) (hk c o (λz=>g (by simp[z])) (λz=>g (by simp[z])) q);have hT2:=M.extBut _ _ Tne hT;have hcs:∀c∈[e,t],(c∈X.ex\/X.s₀.heap.objs.size<=c)/\c≠X.env.locals/\(∀x d,X.env.cells.lookup x=ax d->d≠c)/\∀p∈X.pn++p0,p.1≠c:=λc g=>by have f:=S c g;exact⟨f.2.2.2.1,f.2.1,f.2.2.2.2.1,f.2.2.2.2.2⟩
  have nfp:∀c R,H c=ax R->c∉[e,t]:=λc R q g=>by rw[(S c g).1] at q;cases q
  have Z:=λc R q=>(I.hok c R q).stay (λd v hd q'=>L d v (by
    rcases hd with z | z
    ·rw[z];exact nfp c R q
    ·exact nfp d _ z) q') (λ_ z=>z) (λ_ _ z=>z) λ_ _ z=>z
  have new:ObjOk X.prog X.w (upd H s.heap.objs.size (.tup [.int i,x])) h2 s.heap.objs.size (.tup [.int i,x]):=
   ⟨⟨by show 2<=sizeLine;decide,λo e=>by rw[hT2] at e;cases e;rfl⟩,[.int i tk,y],.cons ⟨tk,rfl⟩ (.cons ru .nil),⟨_,hT2,rfl,_,rfl⟩⟩
  have hok1:HOk X.prog X.w (upd H s.heap.objs.size (.tup [.int i,x])) h2:=λc R q=>by
   by_cases hb:c=s.heap.objs.size
   ·subst hb;rw[Zk] at q;cases q;exact new
   ·rw[upd_ne hb] at q;exact(Z c R q).stay (λd v _ q'=>q') (λd z=>by rw[upd_ne (Zr z B)];exact z) (λd zs z=>by rw[upd_ne (Zr z B)];exact z) λd u z=>by rw[upd_ne (Zr z B)];exact z
  have un:Un (Kc X.stack) [e,t] H (upd H s.heap.objs.size (.tup [.int i,x])) s.heap h2:=by
   refine⟨λc o q _ _ F=>L c o F q,λc o q _ _ F=>⟨o.slots,L c o F q⟩,λc o q n _=>?_,λc o q F=>⟨o,L c o F q⟩,λc zs q=>?_,λc o zs q=>?_,λc ps q=>⟨#[],?_⟩⟩
   ·rw[upd_ne (bN (a9 q))];exact n
   ·rw[upd_ne (Zr q B)];exact q
   ·rw[upd_ne (Zr q B)];exact q
   ·rw[upd_ne (Zr q B),q];simp
  have I2:Inv X p0 σ (upd H s.heap.objs.size (.tup [.int i,x])) { s with heap:=h2,toks:=tk+1 }:=I.call un hok1 I.bare hcs;refine⟨.ref s.heap.objs.size,upd H s.heap.objs.size (.tup [.int i,x]),I2,rfl,⟨_,x,B,rfl,rfl,λzs hzs=>by rw[I.seqB_inj hzs hq];exact hx⟩,⟨⟨y,by simpa using he2⟩,?_⟩,λc g=>?_⟩
  ·exact hs'.1.at λo q=>M.extBut t o (bX T) q
  ·rw[upd_ne (bN (by
    rcases aa.mp g with rfl | g
    ·exact a9 J
    ·rw[aM.mp g];obtain⟨o,q,_⟩:=l.has;exact a9 q))]
   exact(S c g).1
 done:=by
  intro X hP hw hK O i p0 s σ H E I S st hg;subst hP hw hK;obtain⟨xs,hq,hx⟩:=hg;obtain⟨U,rv,p,hz⟩:=I.seqB hq;obtain⟨⟨C,J⟩,l⟩:=st;have fi:=S t (by simp)
  have ai:a≠t:=λz=>by
   subst z
   cases b with
   | true=>
    obtain⟨o,G,_,m,d⟩:=(p);obtain⟨o',e2,_,Y⟩:=(l);rw[G] at e2;cases e2;rw[d] at Y;cases Y
   | false=>
    obtain⟨o,G,_,m,d⟩:=(p);obtain⟨o',e2,_,Y⟩:=(l);rw[G] at e2;cases e2;rw[d] at Y;cases Y
  have D:=Draws.seq (prog:=X.prog) (w:=X.w) (A:=X.A.in1) b (I.ok.hd O) t a ai U.toArray;have hl:=rv.length;have hi:i=U.toArray.size:=by simp;omega
  refine wpAny_pyNext_enum_endD D J (by rw[<-hi];exact⟨l,p⟩) λh' F=>⟨rfl,?_⟩;obtain⟨f0,f1,f2,f3,f4,f5⟩:=fi;exact I.turned (λc o hb q=>F c o hb q) f0 f1 f3 f4 f5
 self:=λA i s Q E st hQ=>by obtain⟨⟨C,J⟩,_⟩:=st;exact wpAny_pyIter_enum J hQ
end L2
namespace L2
open PySem PySem.Spec PyProof.Rows
section
variable {X:Cx}
noncomputable def Zln(b:Bool)(K:aH)(ta:TA):TI:=λσ H R=>ta σ H λvs H1=>∃a,vs=[.ref a]/\(∃xs,MH b K H1 a xs)/\R (Ite b K a) H1
theorem Zdx{i:List bO}{k:Nat}{g:dw}(b:Bool){a:bO}{m:TA}{p pos:dw}(u:Gl X "enumerate")(C:X.mg "enumerate" = aA)(y:PA X [a] m)(x:aP [a] X.env=[(aB,eval a X.env)]:=by rfl) :
  PI X (.Tuple i k g) (.Call (.Name "enumerate" p) [a] [] pos) (Zln b X.K m):=by
 intro o s z H R I h;refine pL (XZ I u C rfl (bg (Yo (y pos o s z H _ I h) λF s1 ⟨vs,t,d,w,B⟩=>?_) x rfl));obtain⟨a,e,⟨xs,D⟩,q⟩:=B;subst e
 cases w with
 | cons r rr=>
  cases rr;cases r;obtain⟨G,J,f,L⟩:=d.seqB D;refine ML f λh' n l v A=>?_;refine wpAny_pyIter_enum n ?_;have E:=d.kept (t':=s1.toks) A;have ne:s1.heap.objs.size+1≠s1.heap.objs.size:=fW (dt _);refine⟨s1.heap.objs.size+1,[s1.heap.objs.size+1,s1.heap.objs.size],_,_,t,rfl,E,DR b a (s1.heap.objs.size+1) s1.heap.objs.size ne,⟨⟨.none,n⟩,l⟩,λc j=>?_,q⟩;rcases aa.mp j with rfl | j
  ·exact d.fpOk (iG _) (d.hok.fresh (iG _))
  ·rw[aM.mp j];exact d.fpOk (aZ _) (d.hok.fresh (aZ _))
end
section
variable {prog:bM} {w:bc} {A:bq} {E:aI->aO->Prop} {s:aO}
structure Ln(z TI TO i1 i2:aL)(fp1 fp2:List aL):Prop where
 TIz:TI≠z
 TOz:TO≠z
 i1z:i1≠z
 i2z:i2≠z
 TITO:TI≠TO
 TIi1:TI≠i1
 TIi2:TI≠i2
 TOi1:TO≠i1
 TOi2:TO≠i2
 i12:i1≠i2
 z1:z∉fp1
 TO1:TO∉fp1
 i21:i2∉fp1
 z2:z∉fp2
 TO2:TO∉fp2
 i12':i1∉fp2
theorem B4{z TI TO i1 i2:aL}{fp1 fp2:List aL}{n1 n2 k:Nat}{P1 P2:Nat->aI->Prop}{W X:Nat->ba->Prop}{a b:aI}{Q:aI->aO->Prop}(D:Ln z TI TO i1 i2 fp1 fp2)
  (D1:Draws prog w A i1 fp1 n1 P1 W) (D2:Draws prog w A i2 fp2 n2 P2 X)
  (hz:lH s.heap z TI TO .none) (hTI:gU s.heap TI (.ref i1) (.ref i2)) (hTO:gU s.heap TO a b)
  (h1:W k s.heap) (h2:X k s.heap) (hx:k<n1) (hy:k<n2)
  (hQ:∀x y h' tk,P1 k x->P2 k y->lH h' z TI TO (gJ s.heap.objs.size)->gU h' TO x y->W (k+1) h'->X (k+1) h'->gU h' s.heap.objs.size x y->h'.objs.size=s.heap.objs.size+1->
   (∀c o,c≠z->c≠TO->c≠i1->c≠i2->s.heap.get? c=ax o->h'.get? c=ax o)->Q (.ref s.heap.objs.size) { s with heap:=h',toks:=tk }) :
  bJ (model prog w) A (fj.«zip.__next__» ⟨[.ref z],[]⟩) (λfin s'=>∃v,fin = .done (.ret v)/\Q v s') E s:=by
 show bJ _ _ (field (.ref z) 2 >>= _) _ _ _;refine aG (cx hz rfl rfl ?_);refine aG (cx hz rfl rfl ?_);refine aG (eI hTI rfl ?_);refine aG ?_;refine aG (cx hz rfl rfl (aW ?_));refine aG (mw ?_);refine aG (cx hz rfl rfl ?_);refine aG (eK hz (by simp) λh₁ u l=>?_)
 replace u:lH h₁ z TI TO .ellipsis:=u
 refine aG ?_;refine aG (aG (jx ?_));have st1:=D1.frame _ _ _ h1 λc C o e=>l.extBut c o (λq=>D.z1 (q▸C)) e;refine aG (D1.item k _ _ _ hx st1 λx M tk₂ hPx S g=>aW ?_)
 replace g:cP i1 h₁ M:=g
 have H:=g.extBut _ _ D.TOi1 (l.extBut _ _ D.TOz hTO);refine aG (eI H rfl ?_);refine aG (ie H λJ n f=>?_)
 replace n:gU J TO x b:=n
 replace f:cP TO M J:=f
 refine aG (oK (aW ?_));refine aG (aG (jx ?_));have st2:=D2.frame _ _ _ h2 λc C o e=>f.extBut c o (λq=>D.TO2 (q▸C)) (g.extBut c o (λq=>D.i12' (q▸C)) (l.extBut c o (λq=>D.z2 (q▸C)) e));refine aG (D2.item k _ _ _ hy st2 λy O Z hPy R d=>aW ?_)
 replace d:cP i2 J O:=d
 have F:=d.extBut _ _ D.TOi2 n;refine aG (eI F rfl ?_);refine aG (ie F λi j h=>?_)
 replace j:gU i TO x y:=j
 replace h:cP TO O i:=h
 refine aG (oK (aW (aW ?_)));refine aG (eI j rfl ?_);refine aG (wpAny_newTuple ?_);have hsz:i.objs.size=s.heap.objs.size:=by rw[h.1,d.1,f.1,g.1,l.1]
 have L:=h.extBut _ _ D.TOz.symm (d.extBut _ _ D.i2z.symm (f.extBut _ _ D.TOz.symm (g.extBut _ _ D.i1z.symm u)))
 have T:∀c o,c≠z->c≠TO->c≠i1->c≠i2->s.heap.get? c=ax o->i.get? c=ax o:=λc o c1 c2 c3 c4 e=>
  h.extBut _ _ c2 (d.extBut _ _ c4 (f.extBut _ _ c2 (g.extBut _ _ c3 (l.extBut _ _ c1 e))))
 have P:=D1.frame _ _ _ S λc C o e=>h.extBut c o (λq=>D.TO1 (q▸C)) (d.extBut c o (λq=>D.i21 (q▸C)) (f.extBut c o (λq=>D.TO1 (q▸C)) e));have U:=D2.frame _ _ _ R λc C o e=>h.extBut c o (λq=>D.TO2 (q▸C)) e;have N:=a9 L;refine aG ?_;have Y:lH (i.push { cls:=.type "tuple",data:=.seq #[x,y] }) z TI TO .ellipsis:=aK _ L;refine aG (eK Y (by simp) λh₇ B p=>?_)
 replace B:lH h₇ z TI TO (gJ i.objs.size):=B
 refine eK B (by simp) λG m t=>?_
 replace m:lH G z TI TO (gJ i.objs.size):=m
 have up:∀c o,c≠z->i.get? c=ax o->G.get? c=ax o:=λc o c1 e=>t.extBut _ _ c1 (p.extBut _ _ c1 (aK _ e));have I:=t.extBut _ _ (fW N) (p.extBut _ _ (fW N) (ak _ rfl));have hz8:G.objs.size=i.objs.size+1:=by rw[t.1,p.1,cR]
 rw[hsz] at m I hz8;refine aW ⟨_,rfl,?_⟩;rw[hsz];exact hQ x y G Z hPx hPy m (up _ _ D.TOz j) (D1.frame _ _ _ P λc C o e=>up c o (λq=>D.z1 (q▸C)) e) (D2.frame _ _ _ U λc C o e=>up c o (λq=>D.z2 (q▸C)) e) I hz8 λc o c1 c2 c3 c4 e=>up c o c1 (T c o c1 c2 c3 c4 e)
theorem Zdy{z TI TO G P:aL}{I J:List aL}{U n2 k:Nat}{P1 P2:Nat->aI->Prop}{O M:Nat->ba->Prop}{a b:aI}{Q:PySem.Fin->aO->Prop}(D:Ln z TI TO G P I J)
  (T:Draws prog w A G I U P1 O) (D2:Draws prog w A P J n2 P2 M)
  (N:lH s.heap z TI TO .none) (hTI:gU s.heap TI (.ref G) (.ref P)) (hTO:gU s.heap TO a b)
  (h1:O k s.heap) (h2:M k s.heap) (H:k=U\/(k<U/\k=n2))
  (hE:∀h' tk e,(∀c o,c≠z->c≠TO->c≠G->c≠P->s.heap.get? c=ax o->h'.get? c=ax o)->(∃o,h'.get? e=ax o/\o.cls = .type "StopIteration")->E (.ref e) { s with heap:=h',toks:=tk }) :
  bJ (model prog w) A (fj.«zip.__next__» ⟨[.ref z],[]⟩) Q E s:=by
 show bJ _ _ (field (.ref z) 2 >>= _) _ _ _;refine aG (cx N rfl rfl ?_);refine aG (cx N rfl rfl ?_);refine aG (eI hTI rfl ?_);refine aG ?_;refine aG (cx N rfl rfl (aW ?_));refine aG (mw ?_);refine aG (cx N rfl rfl ?_);refine aG (eK N (by simp) λh₁ h g=>?_)
 replace h:lH h₁ z TI TO .ellipsis:=h
 replace g:cP z s.heap h₁:=g
 refine aG ?_;refine aG (aG (jx ?_));have C:=T.frame _ _ _ h1 λc L o e=>g.extBut c o (λq=>D.z1 (q▸L)) e;rcases H with Z | ⟨hx,Z⟩
 ·rw[Z] at C;refine aG (T.done _ _ _ C λm e d Y=>?_)
  replace d:mB G h₁ m:=d
  obtain⟨W,n,v⟩:=Y;have u:=d _ _ D.i1z.symm h;have F:e≠z:=λx=>by subst x;rw[u] at n;cases n;simp at v
  refine eK u (by simp) λl _ f=>?_
  replace f:cP z m l:=f
  exact hE l _ e (λc o c1 _ c3 _ x=>f.extBut _ _ c1 (d _ _ c3 (g.extBut _ _ c1 x))) ⟨W,f.extBut _ _ F n,v⟩
 ·refine aG (T.item k _ _ _ hx C λx m X hPx h1₂ d=>aW ?_)
  replace d:cP G h₁ m:=d
  have p:=d.extBut _ _ D.TOi1 (g.extBut _ _ D.TOz hTO);refine aG (eI p rfl ?_);refine aG (ie p λl S f=>?_)
  replace f:cP TO m l:=f
  refine aG (oK (aW ?_));refine aG (aG (jx ?_));have R:=D2.frame _ _ _ h2 λc L o e=>f.extBut c o (λq=>D.TO2 (q▸L)) (d.extBut c o (λq=>D.i12' (q▸L)) (g.extBut c o (λq=>D.z2 (q▸L)) e));rw[Z] at R;refine aG (D2.done _ _ _ R λB e i Y=>?_)
  replace i:mB P l B:=i
  obtain⟨W,n,v⟩:=Y;have t:=i _ _ D.i2z.symm (f.extBut _ _ D.TOz.symm (d.extBut _ _ D.i1z.symm h));have F:e≠z:=λx=>by subst x;rw[t] at n;cases n;simp at v
  refine eK t (by simp) λy _ j=>?_
  replace j:cP z B y:=j
  exact hE y _ e (λc o c1 c2 c3 c4 x=>j.extBut _ _ c1 (i _ _ c4 (f.extBut _ _ c2 (d.extBut _ _ c3 (g.extBut _ _ c1 x))))) ⟨W,j.extBut _ _ F n,v⟩
theorem Pu{z TI TO h i:aL}{f g:List aL}{n p k:Nat}{m q:Nat->aI->Prop}{e d:Nat->ba->Prop}{a b:aI}{Q:Option aI->aO->Prop}(D:Ln z TI TO h i f g)
  (G:Draws prog w A.in1 h f n m e) (L:Draws prog w A.in1 i g p q d)
  (t:lH s.heap z TI TO .none) (l:gU s.heap TI (.ref h) (.ref i)) (j:gU s.heap TO a b)
  (M:e k s.heap) (R:d k s.heap) (T:k<n) (O:k<p)
  (v:∀x y h' tk,m k x->q k y->lH h' z TI TO (gJ s.heap.objs.size)->gU h' TO x y->e (k+1) h'->d (k+1) h'->gU h' s.heap.objs.size x y->h'.objs.size=s.heap.objs.size+1->
   (∀c o,c≠z->c≠TO->c≠h->c≠i->s.heap.get? c=ax o->h'.get? c=ax o)->Q (ax (.ref s.heap.objs.size)) { s with heap:=h',toks:=tk }) :
  bJ (model prog w) A (jv (.ref z)) Q E s:=by
 have u:s.TypeIs (.ref z) "zip":=⟨_,t,rfl⟩
 exact aG (jy (cV u F.slot_zip_next
  (cj F.slot_zip_next u F.entry_zip_next
   (B4 D G L t l j M R T O λx y h' tk H p2 B P C N J S I=>aW (v x y h' tk H p2 B P C N J S I)) (F.args_zip_next_1 _))))
theorem OK{z TI TO j l:aL}{f g:List aL}{m q k:Nat}{v M:Nat->aI->Prop}{i h:Nat->ba->Prop}{a b:aI}{Q:Option aI->aO->Prop}(D:Ln z TI TO j l f g)
  (C:Draws prog w A.in1 j f m v i) (G:Draws prog w A.in1 l g q M h)
  (t:lH s.heap z TI TO .none) (p:gU s.heap TI (.ref j) (.ref l)) (n:gU s.heap TO a b)
  (H:i k s.heap) (L:h k s.heap) (d:k=m\/(k<m/\k=q))
  (x:∀h' tk,(∀c o,c≠z->c≠TO->c≠j->c≠l->s.heap.get? c=ax o->h'.get? c=ax o)->Q aA { s with heap:=h',toks:=tk }):bJ (model prog w) A (jv (.ref z)) Q E s:=by
 have u:s.TypeIs (.ref z) "zip":=⟨_,t,rfl⟩
 refine aG (jy (cV u F.slot_zip_next
  (cj F.slot_zip_next u F.entry_zip_next (Zdy D C G t p n H L d λh' tk e J I=>?_) (F.args_zip_next_1 _))))
 obtain⟨o,B,y⟩:=I;refine aG (kR ⟨o,B,y⟩ isSubtype_stop ?_);exact aW (x _ tk J)
end
abbrev zq1(h:ba)(b1:Bool)(l1:aL):ba:=h.push (UI b1 l1)
abbrev zq2(h:ba)(b1 b2:Bool)(l1 l2:aL):ba:=(zq1 h b1 l1).push (UI b2 l2)
abbrev zq3(h:ba)(b1 b2:Bool)(l1 l2:aL):ba:=(zq2 h b1 b2 l1 l2).push { cls:=.type "tuple",data:=.seq #[.ref h.objs.size,.ref (zq1 h b1 l1).objs.size] }
abbrev zq4(h:ba)(b1 b2:Bool)(l1 l2:aL):ba:=(zq3 h b1 b2 l1 l2).push { cls:=.type "tuple",data:=.seq #[.none,.none] }
abbrev zq5(h:ba)(b1 b2:Bool)(l1 l2:aL):ba:=(zq4 h b1 b2 l1 l2).push { cls:=.type "zip",data:=.fields #[.none,.bool aB,.bool aB,.ref (zq2 h b1 b2 l1 l2).objs.size,.ref (zq3 h b1 b2 l1 l2).objs.size] }
theorem MM(b1 c:Bool)(a b:aL)(xs m:Array aI) :
  Meets (fj.«zip.__new__» ⟨[.type "zip",.ref a,.ref b],[]⟩) (λ_ R s=>SeqB b1 s.heap a xs/\SeqB c s.heap b m/\
   R (.ok (.ret (.ref (zq4 s.heap b1 c a b).objs.size))) { s with heap:=zq5 s.heap b1 c a b }):=
 .of_wp λprog w A R s h=>by
  obtain⟨n,g,d,tk,os⟩:=s;obtain⟨j,f,h⟩:=h;have l:=sub_zip;have i:=j;have k:SeqB c (pU ⟨n.push (UI b1 a),g,d,tk,os⟩) b m:=f.at λo e=>aK _ e
  wp_walk using YQ i,YQ k
  exact⟨_,rfl,h⟩
section
variable {prog:bM} {w:bc} {A:bq} {E:aI->aO->Prop} {s:aO}
theorem Km{b1 d:Bool}{a b:aL}{xs t:Array aI}{Q:aI->aO->Prop}(j:SeqB b1 s.heap a xs)(f:SeqB d s.heap b t)
  (h:∀h',lH h' (s.heap.objs.size+4) (s.heap.objs.size+2) (s.heap.objs.size+3) .none->gU h' (s.heap.objs.size+2) (.ref s.heap.objs.size) (.ref (s.heap.objs.size+1))->
   gU h' (s.heap.objs.size+3) .none .none->IterB b1 h' s.heap.objs.size a 0->IterB d h' (s.heap.objs.size+1) b 0->h'.objs.size=s.heap.objs.size+5->
   (∀c o,s.heap.get? c=ax o->h'.get? c=ax o)->Q (.ref (s.heap.objs.size+4)) { s with heap:=h' }) :
  bJ (model prog w) A (call (.type "zip") [.ref a,.ref b]) Q E s:=by
 refine callType_new F.called_zip rfl (F.typeCall_zip_2 _ _) (F.newCall_zip_2 _ _) (λg=>F.args_object_init_3 g _ _) F.entry_zip_new
  (MM b1 d a b xs t) ⟨j,f,?_⟩
 have l:(zq1 s.heap b1 a).objs.size=s.heap.objs.size+1:=cR ..;have m:(zq2 s.heap b1 d a b).objs.size=s.heap.objs.size+2:=by rw[cR,l]
 have e:(zq3 s.heap b1 d a b).objs.size=s.heap.objs.size+3:=by rw[cR,m]
 have i:(zq4 s.heap b1 d a b).objs.size=s.heap.objs.size+4:=by rw[cR,e]
 have u:(zq5 s.heap b1 d a b).objs.size=s.heap.objs.size+5:=by rw[cR,i]
 have k:(zq5 s.heap b1 d a b).get? (zq4 s.heap b1 d a b).objs.size=ax _:=ak _ rfl;have q:(zq5 s.heap b1 d a b).get? (zq3 s.heap b1 d a b).objs.size=ax _:=aK _ (ak _ rfl);have n:(zq5 s.heap b1 d a b).get? (zq2 s.heap b1 d a b).objs.size=ax _:=aK _ (aK _ (ak _ rfl));have p:(zq5 s.heap b1 d a b).get? (zq1 s.heap b1 a).objs.size=ax (UI d b):=aK _ (aK _ (aK _ (ak _ rfl)));have v:(zq5 s.heap b1 d a b).get? s.heap.objs.size=ax (UI b1 a):=aK _ (aK _ (aK _ (aK _ (ak _ rfl))));rw[m,e,i] at k;rw[l,m] at n;rw[e] at q;rw[l] at p;rw[i]
 exact⟨⟨_,k,rfl⟩,h _ k n q (IterB.new v) (IterB.new p) u λc o x=>
  aK _ (aK _ (aK _ (aK _ (aK _ x))))⟩
end
theorem Inv.newTup{X:Cx}{w:List (aL×dW)}{F:St}{H:Hp}{s:aO}{t:List aL}{j:ba}{tk n:Nat}{B:List aI}{xs:List V}(I:Inv X w F H s)(D:∀b∈t,Sk X w H b)
  (y:∀c o,c∉t->s.heap.get? c=ax o->j.get? c=ax o) (J:j.get? s.heap.objs.size=ax { cls:=.type "tuple",data:=.seq B.toArray n }) (L:Vals xs B) (M:xs.length<=sizeLine) :
  Inv X w F (upd H s.heap.objs.size (.tup xs)) { s with heap:=j,toks:=tk }:=by
 have a:=I.hok.fresh (aZ _);have C:∀c∈t,(c∈X.ex\/X.s₀.heap.objs.size<=c)/\c≠X.env.locals/\(∀x d,X.env.cells.lookup x=ax d->d≠c)/\∀p∈X.pn++w,p.1≠c:=λc i=>by have f:=D c i;exact⟨f.2.2.2.1,f.2.1,f.2.2.2.2.1,f.2.2.2.2.2⟩
 have l:∀c h,H c=ax h->c∉t:=λc h q i=>by rw[(D c i).1] at q;cases q
 have m:=λc h q=>(I.hok c h q).stay (λd v hd A=>y d v (by
   rcases hd with z | z
   ·rw[z];exact l c h q
   ·exact l d _ z) A) (λ_ z=>z) (λ_ _ z=>z) λ_ _ z=>z
 have new:ObjOk X.prog X.w (upd H s.heap.objs.size (.tup xs)) j s.heap.objs.size (.tup xs):=
  ⟨⟨M,λo e=>by rw[J] at e;cases e;rfl⟩,B,L,⟨_,J,rfl,_,rfl⟩⟩
 have k:HOk X.prog X.w (upd H s.heap.objs.size (.tup xs)) j:=λc h q=>by
  by_cases G:c=s.heap.objs.size
  ·subst G;rw[Zk] at q;cases q;exact new
  ·rw[upd_ne G] at q;exact(m c h q).stay (λd v _ A=>A) (λd z=>by rw[upd_ne (Zr z a)];exact z) (λd E z=>by rw[upd_ne (Zr z a)];exact z) λd u z=>by rw[upd_ne (Zr z a)];exact z
 have un:Un (Kc X.stack) t H (upd H s.heap.objs.size (.tup xs)) s.heap j:=by
  refine⟨λc o q _ _ g=>y c o g q,λc o q _ _ g=>⟨o.slots,y c o g q⟩,λc o q n _=>?_,λc o q g=>⟨o,y c o g q⟩,λc E q=>?_,λc o E q=>?_,λc N q=>⟨#[],?_⟩⟩
  ·rw[upd_ne (bN (a9 q))];exact n
  ·rw[upd_ne (Zr q a)];exact q
  ·rw[upd_ne (Zr q a)];exact q
  ·rw[upd_ne (Zr q a),q];simp
 exact I.call un k I.bare C
theorem Inv.turnedL{X:Cx}{k:List (aL×dW)}{w:St}{H:Hp}{s:aO}{j:List aL}{t:ba}{tk:Nat}(I:Inv X k w H s)(u:∀b∈j,Sk X k H b)
  (l:∀c o,c∉j->s.heap.get? c=ax o->t.get? c=ax o):Inv X k w H { s with heap:=t,toks:=tk }:=by
 have m:∀c∈j,(c∈X.ex\/X.s₀.heap.objs.size<=c)/\c≠X.env.locals/\(∀x d,X.env.cells.lookup x=ax d->d≠c)/\∀p∈X.pn++k,p.1≠c:=λc e=>by have f:=u c e;exact⟨f.2.2.2.1,f.2.1,f.2.2.2.2.1,f.2.2.2.2.2⟩
 have g:∀c i,H c=ax i->c∉j:=λc i q e=>by rw[(u c e).1] at q;cases q
 have h:=λc i q=>(I.hok c i q).stay (λd v hd y=>l d v (by
   rcases hd with z | z
   ·rw[z];exact g c i q
   ·exact g d _ z) y) (λ_ z=>z) (λ_ _ z=>z) λ_ _ z=>z
 have un:Un (Kc X.stack) j H H s.heap t:=
  ⟨λc o q _ _ a=>l c o a q,λc o q _ _ a=>⟨o.slots,l c o a q⟩,λc o q n _=>n,λc o q a=>⟨o,l c o a q⟩,λc A q=>q,λc o A q=>q,λc B q=>⟨#[],by rw[q];simp⟩⟩
 exact I.call un h I.bare m
theorem SeqB.ne_rec{b:Bool}{h:ba}{a c:aL}{j:Array aI}{o:dW}{vs:Array aI}(p:SeqB b h a j)(e:h.get? c=ax o)(d:o.data = .fields vs):a≠c:=λz=>by
 subst z
 cases b with
 | true=>obtain⟨i,g,_,m,f⟩:=(p);rw[e] at g;cases g;rw[d] at f;cases f
 | false=>obtain⟨i,g,_,m,f⟩:=(p);rw[e] at g;cases g;rw[d] at f;cases f
theorem IterB.rec{b:Bool}{h:ba}{c a:aL}{i:Nat}(x:IterB b h c a i):∃o,h.get? c=ax o/\∃vs,o.data = .fields vs:=by
 cases b with
 | true=>obtain⟨o,e,_,d⟩:=(x);exact⟨o,e,_,d⟩
 | false=>obtain⟨o,e,_,d⟩:=(x);exact⟨o,e,_,d⟩
structure Zit(a1 a2 TO TI:aL):Prop where
 a:a1≠TO
 b:a2≠TO
 c:a1≠TI
 d:a2≠TI
noncomputable def Itz(b1 b2:Bool)(K:aH)(a1 a2:aL):It:=
  ⟨λi H=>∃xs ys x y,MH b1 K H a1 xs/\MH b2 K H a2 ys/\xs[i]?=ax x/\ys[i]?=ax y,
   λi H v H'=>∃p x y,H p=aA/\v = .ref p/\H'=upd H p (.tup [x,y])/\(∀xs,MH b1 K H a1 xs->xs[i]?=ax x)/\∀ys,MH b2 K H a2 ys->ys[i]?=ax y,
   λi H=>∃xs ys,MH b1 K H a1 xs/\MH b2 K H a2 ys/\(i=xs.length\/(i<xs.length/\i=ys.length))⟩
theorem B5{P:bM}{w:bc}{K:aH}{elts:List bO}{k:Nat}{pos:dw}(b1 b2:Bool)(a1 a2 z TI TO G J:aL)(d:[z,TI,TO,G,J].Nodup) :
  JV P w K (.Tuple elts k pos) (Itz b1 b2 K a1 a2) [z,TI,TO,G,J] z
   (λi h=>lH h z TI TO .none/\gU h TI (.ref G) (.ref J)/\(∃u v,gU h TO u v/\Zit a1 a2 TO TI)/\IterB b1 h G a1 i/\IterB b2 h J a2 i) where
 mem:=by simp
 obj:=λi h st c Z=>by
  obtain⟨B,b,⟨u,v,l,_⟩,W,Y⟩:=st;simp only[aa,br,or_false] at Z;rcases Z with rfl | rfl | rfl | rfl | rfl
  ·exact⟨_,B,λv q=>by cases q⟩
  ·exact⟨_,b,λv q=>by cases q⟩
  ·exact⟨_,l,λv q=>by cases q⟩
  ·exact W.has
  ·exact Y.has
 keep:=λi h h' st kk=>by obtain⟨B,b,⟨u,v,l,f⟩,W,Y⟩:=st;exact⟨kk z (by simp) _ B,kk TI (by simp) _ b,⟨u,v,kk TO (by simp) _ l,f⟩,W.at λo q=>kk G (by simp) o q,Y.at λo q=>kk J (by simp) o q⟩
 item:=by
  intro X hP hw hK Z i p0 s σ H E I hf st hg;subst hP hw hK;obtain⟨xs,ys,x,y,N,R,hx,hy⟩:=hg;obtain⟨j,rv1,U,hz1⟩:=I.seqB N;obtain⟨m,rv2,p2,hz2⟩:=I.seqB R;obtain⟨u,hu,ru⟩:=rv1.get hx;obtain⟨v,hv,rv⟩:=rv2.get hy;obtain⟨B,b,⟨q1,q2,l,f⟩,W,Y⟩:=st;obtain⟨o1,e1,vs1,d1⟩:=W.rec;obtain⟨o2,e2,vs2,d2⟩:=Y.rec;have A1z:=U.ne_rec B rfl;have A2z:=p2.ne_rec B rfl;have A11:=U.ne_rec e1 d1;have A12:=U.ne_rec e2 d2;have A21:=p2.ne_rec e1 d1;have A22:=p2.ne_rec e2 d2;simp only[aq,aa,br,not_or,cH,and_true,not_false_eq_true] at d;obtain⟨⟨g,t,F,C⟩,⟨O,T,S⟩,⟨L,M⟩,p⟩:=d;obtain⟨f1,f2,f3,f4⟩:=f;have D:Ln z TI TO G J [G,a1] [J,a2]:=⟨bX g,bX t,bX F,bX C,O,T,S,L,M,p,by simp[F,bX A1z],by simp[L,bX f1],by simp[bX p,bX A12],by simp[C,bX A2z],by simp[M,bX f2],by simp[p,bX A21]⟩;have D1:=Draws.seq (prog:=X.prog) (w:=X.w) (A:=X.A.in1) b1 (I.ok.hd Z) G a1 A11 j.toArray;have D2:=Draws.seq (prog:=X.prog) (w:=X.w) (A:=X.A.in1) b2 (I.ok.hd Z) J a2 A22 m.toArray;have l1:i<j.toArray.size:=by simpa using(aR.mp hu).1
  have l2:i<m.toArray.size:=by simpa using(aR.mp hv).1
  refine Pu D D1 D2 B b l ⟨W,U⟩ ⟨Y,p2⟩ l1 l2 λx' y' h' tk hPx hPy c1 c2 c3 c4 c5 c6 hk=>?_
  have ex':x'=u:=by
   have w1:=hPx;have w2:j.toArray[i]?=ax u:=by simpa using hu
   rw[w1] at w2;exact bC w2
  have ey':y'=v:=by
   have w1:=hPy;have w2:m.toArray[i]?=ax v:=by simpa using hv
   rw[w1] at w2;exact bC w2
  subst ex' ey';refine⟨_,rfl,wpAny_letOwnedTupleGo_zip c1 λh3 hz3 n=>?_⟩
  replace n:cP z h' h3:=n
  have kk:∀c o,c∉[z,TI,TO,G,J]->s.heap.get? c=ax o->h3.get? c=ax o:=λc o a q=>
   n.extBut c o (λe=>a (by simp[e])) (hk c o (λe=>a (by simp[e])) (λe=>a (by simp[e])) (λe=>a (by simp[e])) (λe=>a (by simp[e])) q)
  have hTn:=I.hok.fresh (aZ _);have hT3:=n.extBut _ _ (fW (a9 B)) c5;have I2:=I.newTup (tk:=tk) hf kk hT3 (.cons ru (.cons rv .nil)) (by show 2<=sizeLine;decide);refine⟨.ref s.heap.objs.size,_,I2,rfl,⟨_,x,y,hTn,rfl,rfl,λzs hzs=>by rw[I.seqB_inj hzs N];exact hx,λzs hzs=>by rw[I.seqB_inj hzs R];exact hy⟩,⟨hz3,n.extBut _ _ (bX g) (hk _ _ (bX g) O T S b),⟨_,_,n.extBut _ _ (bX t) c2,f1,f2,f3,f4⟩,c3.1.at λo q=>n.extBut _ o (bX F) q,c4.1.at λo q=>n.extBut _ o (bX C) q⟩,λc a=>?_⟩;rw[upd_ne (bN ?_)]
  ·exact(hf c a).1
  ·simp only[aa,br,or_false] at a;rcases a with rfl | rfl | rfl | rfl | rfl
   ·exact a9 B
   ·exact a9 b
   ·exact a9 l
   ·exact a9 e1
   ·exact a9 e2
 done:=by intro X hP hw hK Z i p0 s σ H E I hf st hg;subst hP hw hK;obtain⟨xs,ys,N,R,hx⟩:=hg;obtain⟨j,rv1,U,hz1⟩:=I.seqB N;obtain⟨m,rv2,p2,hz2⟩:=I.seqB R;obtain⟨B,b,⟨q1,q2,l,f⟩,W,Y⟩:=st;obtain⟨o1,e1,vs1,d1⟩:=W.rec;obtain⟨o2,e2,vs2,d2⟩:=Y.rec;have A1z:=U.ne_rec B rfl;have A2z:=p2.ne_rec B rfl;have A11:=U.ne_rec e1 d1;have A12:=U.ne_rec e2 d2;have A21:=p2.ne_rec e1 d1;have A22:=p2.ne_rec e2 d2;simp only[aq,aa,br,not_or,cH,and_true,not_false_eq_true] at d;obtain⟨⟨g,t,F,C⟩,⟨O,T,S⟩,⟨L,M⟩,p⟩:=d;obtain⟨f1,f2,f3,f4⟩:=f;have D:Ln z TI TO G J [G,a1] [J,a2]:=⟨bX g,bX t,bX F,bX C,O,T,S,L,M,p,by simp[F,bX A1z],by simp[L,bX f1],by simp[bX p,bX A12],by simp[C,bX A2z],by simp[M,bX f2],by simp[p,bX A21]⟩;have D1:=Draws.seq (prog:=X.prog) (w:=X.w) (A:=X.A.in1) b1 (I.ok.hd Z) G a1 A11 j.toArray;have D2:=Draws.seq (prog:=X.prog) (w:=X.w) (A:=X.A.in1) b2 (I.ok.hd Z) J a2 A22 m.toArray;have n1:=rv1.length;have n2:=rv2.length;refine OK D D1 D2 B b l ⟨W,U⟩ ⟨Y,p2⟩ (by simp only[aU];omega) λh' tk hk=>⟨rfl,?_⟩;exact I.turnedL hf λc o a q=>hk c o (λe=>a (by simp[e])) (λe=>a (by simp[e])) (λe=>a (by simp[e])) (λe=>a (by simp[e])) q
 self:=λA i s Q E st hQ=>wpAny_pyIter_zip st.1 hQ
section
variable {X:Cx}
noncomputable def Znx(b1 b2:Bool)(K:aH)(ta:TA):TI:=λσ H R=>ta σ H λvs H1=>∃a1 a2,vs=[.ref a1,.ref a2]/\(∃xs,MH b1 K H1 a1 xs)/\(∃ys,MH b2 K H1 a2 ys)/\R (Itz b1 b2 K a1 a2) H1
theorem Ziu{l:List bO}{k:Nat}{g:dw}(b1 F:Bool){a b:bO}{C:TA}{p pos:dw}(L:Gl X "zip")(Z:X.mg "zip" = aA)(P:PA X [a,b] C)
  (O:aP [a,b] X.env=[(aB,eval a X.env),(aB,eval b X.env)]:=by rfl) (f:aP [b] X.env=[(aB,eval b X.env)]:=by rfl) :
  PI X (.Tuple l k g) (.Call (.Name "zip" p) [a,b] [] pos) (Znx b1 F X.K C):=by
 intro G s T H R I h;refine pL (XZ I L Z boot_zip (bg (Yo (P pos G s T H _ I h) λus s1 ⟨vs,J,o,M,W⟩=>?_) (by rw[O,f]) (by rw[f];rfl)));obtain⟨u,x,e,⟨xs,v⟩,⟨ys,w⟩,q⟩:=W;subst e
 cases M with
 | cons r rr=>
  cases rr with
  | cons r' rr=>
   cases rr;cases r;cases r';obtain⟨E,Y,z,_⟩:=o.seqB v;obtain⟨B,Q,p2,_⟩:=o.seqB w;refine Km z p2 λh' c1 c2 c3 c4 c5 c6 U=>?_;refine wpAny_pyIter_zip c1 ?_;have I2:=o.kept (t':=s1.toks) U;have A:=let⟨_,e⟩:=z.has;a9 e;have D:=let⟨_,e⟩:=p2.has;a9 e;generalize N:s1.heap.objs.size=n at *;have ne:∀(a:aL)(j:Nat),a<n->a≠n+j:=λa j h=>bN (bB h (fQ _ _));have S:([n+4,n+2,n+3,n,n+1]:List aL).Nodup:=by have d:∀(i j:Nat),i≠j->(n+i:Nat)≠n+j:=λi j h e=>h (mR e);have t:∀(i:Nat),i≠0->(n+i:Nat)≠n:=λi h e=>h (mR (e.trans (jR n).symm));simp only[aq,aa,br,not_or,cH,and_true,not_false_eq_true];exact⟨⟨d 4 2 (by decide),d 4 3 (by decide),t 4 (by decide),d 4 1 (by decide)⟩,⟨d 2 3 (by decide),t 2 (by decide),d 2 1 (by decide)⟩,⟨t 3 (by decide),d 3 1 (by decide)⟩,(t 1 (by decide)).symm⟩
   refine⟨n+4,[n+4,n+2,n+3,n,n+1],_,_,J,rfl,I2,B5 b1 F u x (n+4) (n+2) (n+3) n (n+1) S,⟨c1,c2,⟨_,_,c3,ne u 3 A,ne x 3 D,ne u 2 A,ne x 2 D⟩,c4,c5⟩,λc y=>?_,q⟩
   have m:s1.heap.objs.size<=c:=by
    rw[N];simp only[aa,br,or_false] at y;rcases y with rfl | rfl | rfl | rfl | rfl
    ·exact fQ _ _
    ·exact fQ _ _
    ·exact fQ _ _
    ·exact aZ _
    ·exact fQ _ _
   exact o.fpOk m (o.hok.fresh m)
end
theorem Walks.seqB{prog:bM}{w:bc}{A:bq}(b:Bool)(d:A.handled=aA)(I a:aL)(c:a≠I)(items:Array aI) :
  Walks prog w A I [I,a] [I] items.size (λi v=>items[i]?=ax v) (λi h=>IterB b h I a i/\SeqB b h a items):=by
 cases b with
 | true=>exact Walks.list d I a c items
 | false=>exact Walks.tuple d I a c items
section
variable {X:Cx}
theorem X0(C:X.calm=aC):XW X (.builtin "sum") (λxs H Q=>∃(b:Bool) (p:aL) (ns:List Int),xs=[.ref p]/\MH b X.K H p (ns.map V.int)/\Q (.int ns.sum) H):=by
 intro J s M H xs L Q I r h;obtain⟨b,p,ns,rfl,G,q⟩:=h;obtain⟨u,rfl,D⟩:=Sr r;cases D;obtain⟨l,n,a,N⟩:=I.seqB G;have z:=let⟨_,e⟩:=a.has;a9 e;refine call_sum_walkG (YQ a ?_);refine⟨_,_,_,_,_,_,λi=>ns.getD i 0,rfl,Walks.seqB (A:=X.A.in1) b (I.ok.hd C) s.heap.objs.size p (bN z) l.toArray,⟨IterB.new (ak _ rfl),a.at λo e=>aK _ e⟩,λc f=>?_,λi v g=>?_,λh' tk t' y=>?_⟩
 ·show c<(s.heap.push _).objs.size;rw[cR];rcases aa.mp f with rfl | f
  ·exact dt _
  ·rw[aM.mp f];exact cz z
 ·have g:=g;have g:l[i]?=ax v:=by simpa using g
  have j:=n.length;rw[aJ] at j;have E:i<ns.length:=by rw[j];exact(aR.mp g).1
  obtain⟨u,w,B⟩:=n.get (i:=i) (x:=.int ns[i]) (by simp);rw[g] at w;cases w;obtain⟨t,rfl⟩:=B;refine⟨t,?_⟩;show di ns[i] t=di (ns.getD i 0) t;rw[aF,aE E];rfl
 ·have e:preSum (λi=>ns.getD i 0) l.toArray.size=ns.sum:=by
   have j:=n.length;rw[aJ] at j;rw[aU,<-j]
   have m:∀k,k<=ns.length->preSum (λi=>ns.getD i 0) k=(ns.take k).sum:=by
    intro k
    induction k with
    | zero=>intro _;simp[preSum]
    | succ k ih=>
     intro y;rw[preSum,ih (by omega),List.take_add_one,aF,aE (by omega),gE];simp
   rw[m _ (aZ _),ck]
  rw[e];refine⟨.int ns.sum,H,I.kept (λc o d=>y c o ?_ (aK _ d)),⟨_,rfl⟩,q⟩;intro F;rw[aM.mp F] at d;exact absurd (a9 d) (cS _)
theorem Lo(t:X.calm=aC):XW X (.builtin "all") (λxs H Q=>∃(b:Bool) (p:aL) (bs:List Bool),xs=[.ref p]/\MH b X.K H p (bs.map V.bl)/\Q (.bl (bs.all id)) H):=by
 intro G s N H xs J Q I r h;obtain⟨b,p,bs,rfl,B,q⟩:=h;obtain⟨u,rfl,w⟩:=Sr r;cases w;obtain⟨k,m,a,O⟩:=I.seqB B;have D:=let⟨_,e⟩:=a.has;a9 e;have j:=m.length;rw[aJ] at j;refine call_all_walk (YQ a ?_);refine⟨_,_,_,_,_,_,λi=>bs.getD i aC,rfl,Walks.seqB (A:=X.A.in1) b (I.ok.hd t) s.heap.objs.size p (bN D) k.toArray,⟨IterB.new (ak _ rfl),a.at λo e=>aK _ e⟩,λi v F M L g n=>?_,λh' tk y=>?_⟩
 ·have g:=g;have g:k[i]?=ax v:=by simpa using g
  have d:i<bs.length:=by rw[j];exact(aR.mp g).1
  obtain⟨u,l,E⟩:=m.get (i:=i) (x:=.bl bs[i]) (by simp);rw[g] at l;cases l;cases E;refine dN ?_;have e:bs.getD i aC=bs[i]:=by rw[aF,aE d];rfl
  rw[<-e];exact n
 ·have e:(aD k.toArray.size).all (λi=>bs.getD i aC)=bs.all id:=by
   rw[aU,<-j,jG,bK,bK];constructor
   ·intro h x C;obtain⟨i,d,rfl⟩:=ig.mp C;have:=h i (aY.mpr d);rw[aF,aE d] at this;exact this
   ·intro h i d;have d:=aY.mp d;rw[aF,aE d];exact h _ (bQ d)
  rw[e];refine⟨.bl (bs.all id),H,I.kept (λc o f=>y c o ?_ (aK _ f)),rfl,q⟩;intro z;rw[aM.mp z] at f;exact absurd (a9 f) (cS _)
theorem Vf:XW X (.builtin "isinstance") (λxs H Q=>∃x T t b,xs=[x,.ty T]/\TyOf X.K H x t/\dO X.K t (.type T)=ax b/\Q (.bl b) H):=by intro f s i H xs g Q I r h;obtain⟨x,T,t,b,rfl,a,c,q⟩:=h;obtain⟨u,v,rfl,e,d⟩:=Zgy r;cases d;exact DI I e a c λtk=>⟨.bl b,H,I.tok tk,rfl,q⟩
theorem J7{K:aH}:dO K (.type "int") (.type "int")=ax aC:=rfl
theorem Kn{K:aH}:dO K (.type "int") (.type "bool")=ax aB:=rfl
theorem J8{K:aH}:dO K (.type "tuple") (.type "tuple")=ax aC:=rfl
theorem MN{K:aH}:dO K (.type "list") (.type "list")=ax aC:=rfl
theorem J9{K:aH}:dO K (.type "str") (.type "str")=ax aC:=rfl
noncomputable def Ef:V->List V->Hp->VK->Prop:=λx vs H Q=>∃l xs k y,x = .ref l/\vs=[.int k,y]/\H l=ax (.lst xs)/\0<=k/\k<2^63/\xs.length<sizeLine/\Q .non (upd H l (.lst (xs.take k.toNat++y::xs.drop k.toNat)))
theorem Lp:MtM X "list.insert" Ef:=by
 intro u s C H x vs v A Q I g p h;obtain⟨l,xs,k,y,rfl,rfl,f,D,m,E,q⟩:=h;cases g;obtain⟨w,d,rfl,i,o⟩:=p.two;obtain⟨t,rfl⟩:=i;obtain⟨z,a,n,r,B,e⟩:=I.lstM f;have b:¬(!Builtin.List.listFitsIndex k)=aC:=by rw[l8 (by omega) m];exact bx
 refine fY F.slot_list_insert ⟨_,e,rfl⟩ F.entry_list_insert (F.args_list_insert_3 _ _ _) (AutoListH.list_insert_list_int_val_1 l a.toArray n k t d b (by rw[aU];omega)) ⟨e,?_⟩;refine⟨.non,_,I.lset f e ?_ ((r.take k.toNat).append (.cons o (r.drop k.toNat))) ?_,rfl,q⟩
 ·show(have j:=if k<0 then(k+((a.toArray.size:Nat):Int)).toNat else min k.toNat a.toArray.size;(a.toArray.extract 0 j).push d++a.toArray.extract j)=_;rw[pW (by omega)];by_cases c:k.toNat<=a.length
  ·rw[eV (by rw[aU];exact c)];simp;rw[bY (by simp)]
  ·rw[kS (by rw[aU];omega)];rw[bY (by omega),iQ (by omega)];simp
 ·rw[aT,az,bG,bU];omega
end
noncomputable def TK(H H':Hp):Prop:=∀b xs,H b=ax (.tup xs)->H' b=ax (.tup xs)
theorem Same.tk{H a:Hp}(s:Same H a):TK H a:=λb xs h=>s b _ h
theorem Same.new{H:Hp}{p:aL}(h:H p=aA)(o:HO):Same H (upd H p o):=λb u q=>by rw[upd_ne (Zr q h)];exact q
structure Def(K:aH)(mg:bH->Option aI)(x:bH)(st:cB):Prop where
 ex:∃f fd,mg x=ax (.ref f)/\Fun K x x st f fd
theorem def_mk{K:aH}{h:ba}{mg:bH->Option aI}{x:bH}{st:cB}{f:aL}{m:aI}{g i:Option aL}{d:Array (Option aI)}{kV e j b ct:aI}(X:K.In h)(G:h.Ns cO mg)
  (a:jS K cO x=ax (ax (.ref f))) (l:K.lookup f=ax ⟨m,g,.func (dP x x (Xm st) (Yy st) (Zf st) .none kV e j i b ct),d⟩)
  (c:dM K b x=aC) (k:iM K (.ref f)=aC):Def K mg x st:=⟨f,_,pE X G a,Zir l c k⟩
structure Xi(P:bM)(w:bc)(K:aH)(mg:bH->Option aI)(base:ba)(x:bH)(ps:List bH)(sp:Sp)(k:Nat):Prop where
 ex:∃f fd,mg x=ax (.ref f)/\iM K (.ref f)=aC/\Binds K fd ps []/\Pq P w K mg base J6 k f fd ps sp
section
variable {P:bM} {w:bc} {K:aH} {mg:bH->Option aI} {base:ba}
theorem Def.cal{x:bH}{st:cB}{N d:List bH}{k:Nat}{e:Sp}(D:Def K mg x st)(S:Zq N d (Zf st))
  (l:∀(kV doc pm:aI)(an:Option aL)(b ct:aI)(us:List aI),us.length=d.length->j4 (dP x x (Xm st) (Yy st) (Zf st) .none kV doc pm an b ct) ⟨us,[]⟩=pure (d.zip us))
  (len:∀vs H Q E,e vs H Q E->vs.length=d.length)
  (c:∀(f:aL)(b:aI)(A:bq)(a:List ma)(s:aO)(H:Hp)(vs:List V)(Q:VK)(E:XK),Room k (A.deeper (iZ x (Zf st) s.heap.objs.size f b))->e vs H Q E->
   ∃t,PSs (OC J6 P w K mg base N x (Zf st) f b A a s H E).nox (Yy st) t/\t { nx:=λ_ m=>Q .non m,rt:=Q } (start N vs) H):Xi P w K mg base x d e (k+1):=by
 obtain⟨f,g,j,F⟩:=D.ex;exact⟨f,g,j,F.kp,F.binds l,F.ok S len λb A a s H vs Q E i h=>c f b A a s H vs Q E i h⟩
end
section
variable {X:Cx} {x:bH} {ps:List bH} {sp:Sp} {k:Nat} {e:bO} {es:List bO} {t:TA} {p pos:dw}
theorem Ziv(C:Xi X.prog X.w X.K X.mg X.base x ps sp k)(l:Room k X.A)(i:Gl X x)(m:PA X (e::es) t)
  (h:(x==("__debug__" : bH))=aB:=by decide) (j:aP (e::es) X.env=(aB,eval e X.env)::aP es X.env:=by rfl) (g:(dC pos (aP es X.env)).any (·.1)=aB:=by rfl) :
  PE X (.Call (.Name x p) (e::es) [] pos) (Zg0 sp [] E0 t):=by
 obtain⟨f,n,a,b,c,d⟩:=C.ex;exact Zdi d l i a b c .nil Zlh m h j g
end
noncomputable def Ud(N:List bH)(around scope:gC)(own fr:List bH)(ix:List Nat):Bool:=
 (match scope.kind with | .function=>aC | _=>aB)&&scope.names.all (λy=>y.2 != .cell)&&scope.names.all (λy=>y.2 != .local || scope.names.lookup y.1==ax .local)&&
 scope.names.all (λy=>y.2 != .free || (around.names.lookup y.1==ax .cell || around.names.lookup y.1==ax .free))&&(fr.map ax==ix.map (λi=>N[i]?))&&
 fr.all (λx=>scope.names.contains (x,cI))&&fr.all (λx=>scope.names.lookup x != ax .local)
theorem Lq{N:List bH}{a b:gC}{own fr:List bH}{g:List Nat}(h:Ud N a b own fr g=aC):CompScope N a b own fr g:=by
 unfold Ud at h;simp only[aw] at h;obtain⟨⟨⟨⟨⟨⟨f,l⟩,j⟩,i⟩,n⟩,k⟩,m⟩:=h;refine⟨?_,λy c=>?_,λy c e=>?_,λy c e=>?_,by simpa using n,λx d=>?_,λx d=>?_⟩
 ·split at f
  ·assumption
  ·cases f
 ·simpa using bK.mp l y c
 ·have:=bK.mp j y c;rw[e] at this;simpa using this
 ·have:=bK.mp i y c;rw[e] at this;simpa using this
 ·simpa using bK.mp k x d
 ·simpa using bK.mp m x d
section
variable {X:Cx} {tg elt iter:bO} {ifs:List bO} {scope:gC} {pos:dw} {wi:TI} {g:TG} {tt:TT} {te:TE}
theorem Ia(own fr:List bH)(b:List Nat)(a:X.calm=aC)(f:PI X tg iter wi)(S:Ud X.N X.env.scope scope own fr b=aC)
  (c:∀cl C s H ex,PG (ZI X (own++fr) scope cl C s H ex) tg g) (h:∀cl C s H ex,Bw (ZI X (own++fr) scope cl C s H ex) ifs tt) (d:∀cl C s H ex,PE (ZI X (own++fr) scope cl C s H ex) elt te)
  (e:∀x,cK iter X.env x=pure x:=by intro _;rfl):PE X (.ListComp elt [⟨tg,iter,ifs,0⟩] scope pos) (Ll own.length b wi g tt te):=
 Zdv a f (Lq S) c h d e
theorem B6(own fr:List bH)(e:List Nat){i:Nat}{y:bH}{f a:dw}(n:X.N.Nodup)(l:X.N[i]?=ax y)(c:X.env.scope.names.lookup y=ax .local)(b:X.calm=aC)(o:PI X tg iter wi)(S:Ud X.N X.env.scope scope own fr e=aC)
  (j:∀cl C s H ex,PG (ZI X (own++fr) scope cl C s H ex) tg g) (h:∀cl C s H ex,Bw (ZI X (own++fr) scope cl C s H ex) ifs tt) (m:∀cl C s H ex,PE (ZI X (own++fr) scope cl C s H ex) elt te)
  (d:iC (.ListComp elt [⟨tg,iter,ifs,0⟩] scope pos) (ax (.Name y f)) a.line X.env=pure aC:=by rfl)
  (k:∀x,cK iter X.env x=pure x:=by intro _;rfl):PS X (.Assign [.Name y f] (.ListComp elt [⟨tg,iter,ifs,0⟩] scope pos) a) (Ke (Ll own.length e wi g tt te) (Sq i)):=
 Zdw n l c b o (Lq S) j h m d k
end
structure XQ(mg:bH->Option aI):Prop where
 «len» : mg "len" = aA
 «sum» : mg "sum" = aA
 «range» : mg "range" = aA
 «enumerate» : mg "enumerate" = aA
 «zip» : mg "zip" = aA
 «tuple» : mg "tuple" = aA
 «list» : mg "list" = aA
 «all» : mg "all" = aA
 «any» : mg "any" = aA
 «isinstance» : mg "isinstance" = aA
 «int» : mg "int" = aA
 «bool» : mg "bool" = aA
 «str» : mg "str" = aA
 «min» : mg "min" = aA
 «max» : mg "max" = aA
 «sorted» : mg "sorted" = aA
 «abs» : mg "abs" = aA
 «ValueError» : mg "ValueError" = aA
 «reversed» : mg "reversed" = aA
 «set» : mg "set" = aA
abbrev Zny(g:TG)(tb:TS)(D:Y9)(σ:St)(J:It)(H:Hp):Prop:=
 ∃W:Nat->Nat->St->Hp->Prop,(∃m,W 0 m σ H)/\∀i m σ H,W i m σ H->
   (J.stop i H/\D.nx σ H)\/(J.go i H/\∃N:St->Hp->Prop,(∀σ' H',N σ' H'->∃m',m'<m/\W (i+1) m' σ' H')/\∀x H',J.yld i H x H'->g x σ H' λσ2 H2=>tb { D with nx:=N,ct:=N,bk:=D.nx } σ2 H2)
noncomputable def Zl(l:List Int)(i:Nat):Int:=l.getD i 0
theorem Qe(l:List Int):(aD l.length).map (Zl l)=l:=by
 apply gM;intro i;rw[aX];by_cases h:i<l.length
 ·rw[aE (by simpa using h)];simp[Zl,aE h]
 ·rw[bw (by simpa using h),bw (by omega)];rfl
theorem ZF{f:Nat->Int}{n i:Nat}(h:i<n):Zl ((aD n).map f) i=f i:=by unfold Zl;rw[aF,aX,cC h];rfl
noncomputable def ZA(w:List (List Int))(i:Nat):List Int:=w.getD i []
theorem OL{w:List (List Int)}{i:Nat}(h:i<w.length):w[i]?=ax (ZA w i):=by unfold ZA;rw[aF,aE h];rfl
noncomputable def ZM(w:List (List Int))(i j:Nat):Int:=Zl (ZA w i) j
structure Zt(w:List (List Int)):Prop where
 pos:1<=w.length
 few:w.length<=7
 sq:∀i,i<w.length->(ZA w i).length=w.length
 lo:∀i j,i<w.length->j<w.length->0<=ZM w i j
 hi:∀i j,i<w.length->j<w.length->ZM w i j<=9
 sym:∀i j,i<w.length->j<w.length->ZM w i j=ZM w j i
 dia:∀i,i<w.length->ZM w i i=0
noncomputable def Ziw(K:aH):List V->Hp->VK->Prop:=λxs H Q=>∃p ys,xs=[.ref p]/\((SqL K H p ys/\∀l,H l=aA->Q (.ref l) (upd H l (.tup ys)))\/(SqT K H p ys/\Q (.ref p) H))
noncomputable def Zdz(K:aH):List V->Hp->VK->Prop:=λxs H Q=>∃p ys,xs=[.ref p]/\(SqL K H p ys\/SqT K H p ys)/\∀l,H l=aA->Q (.ref l) (upd H l (.lst ys))
theorem Same.off{H a:Hp}{p:aL}(s:Same H a)(n:a p=aA):H p=aA:=s.free n
abbrev Tie:=Nat×Nat×Int
noncomputable def Qf(M:List (List Int))(a b:Nat)(t:Int):List (List Int):=M.set a ((ZA M a).set b t)
structure MatOk(n:Nat)(M:List (List Int)):Prop where
 len:M.length=n
 row:∀i,i<n->(ZA M i).length=n
 lo:∀i j,i<n->j<n->0<=ZM M i j
 hi:∀i j,i<n->j<n->ZM M i j<=9
 sym:∀i j,i<n->j<n->ZM M i j=ZM M j i
 dia:∀i,i<n->ZM M i i=0
theorem Lr{M:List (List Int)}{a i:Nat}{r:List Int}(b:a<M.length):ZA (M.set a r) i=if a=i then r else ZA M i:=by
 unfold ZA;by_cases h:a=i
 ·subst h;simp[b]
 ·simp[h]
theorem nth_set{l:List Int}{b j:Nat}{t:Int}(a:b<l.length):Zl (l.set b t) j=if b=j then t else Zl l j:=by
 unfold Zl;by_cases h:b=j
 ·subst h;simp[a]
 ·simp[h]
theorem OM{n:Nat}{M:List (List Int)}{a b i j:Nat}{t:Int}(f:M.length=n)(d:∀i,i<n->(ZA M i).length=n)(e:a<n)(c:b<n):ZM (Qf M a b t) i j=if a=i/\b=j then t else ZM M i j:=by
 show Zl (ZA (M.set a ((ZA M a).set b t)) i) j=_;rw[Lr (by omega)];by_cases h:a=i
 ·subst h;rw[p9 rfl,nth_set (by rw[d a e];exact c)];by_cases q:b=j
  ·rw[p9 q,p9 ⟨rfl,q⟩]
  ·rw[pW q,pW (λz=>q z.2)];rfl
 ·rw[pW h,pW (λz=>h z.1)];rfl
theorem WR{n:Nat}{M:List (List Int)}{a b:Nat}{t:Int}(d:M.length=n)(c:∀i,i<n->(ZA M i).length=n)(f:a<n):(Qf M a b t).length=n/\∀i,i<n->(ZA (Qf M a b t) i).length=n:=by
 refine⟨by unfold Qf;rw[cG];exact d,λi e=>?_⟩;show(ZA (M.set a ((ZA M a).set b t)) i).length=n;rw[Lr (by omega)];split
 ·rw[cG];exact c a f
 ·exact c i e
theorem MatOk.zero(n:Nat):MatOk n (aS n (aS n 0)):=by
 have r:∀i,i<n->ZA (aS n (aS n (0:Int))) i=aS n 0:=λi a=>by unfold ZA;rw[aF,b7,p9 a];rfl
 have z:∀i j,i<n->j<n->ZM (aS n (aS n (0:Int))) i j=0:=λi j a b=>by show Zl (ZA _ i) j=0;rw[r i a];unfold Zl;rw[aF,b7,p9 b];rfl
 exact⟨by simp,λi a=>by rw[r i a];simp,λi j a b=>by rw[z i j a b];omega,λi j a b=>by rw[z i j a b];omega,λi j a b=>by rw[z i j a b,z j i b a],λi a=>z i i a a⟩
theorem MatOk.web{n:Nat}{M:List (List Int)}(h:MatOk n M)(b:1<=n)(a:n<=7):Zt M:=by have e:=h.len;subst e;exact⟨b,a,h.row,h.lo,h.hi,h.sym,h.dia⟩
theorem Z7(f:Nat->Int)(n:Nat):((aD (n+1)).map f).sum=((aD n).map f).sum+f n:=by rw[eY];simp
theorem Yt{f g:Nat->Int}{n:Nat}(h:∀i,i<n->f i=g i):((aD n).map f).sum=((aD n).map g).sum:=by congr 1;apply au;intro i a;exact h i (aY.mp a)
theorem Eg(f g:Nat->Int)(n:Nat):((aD n).map λi=>f i+g i).sum=((aD n).map f).sum+((aD n).map g).sum:=by
 induction n with
 | zero=>simp
 | succ n ih=>rw[Z7,Z7,Z7,ih];omega
theorem Eh(f g:Nat->Int)(n:Nat):((aD n).map λi=>f i-g i).sum=((aD n).map f).sum-((aD n).map g).sum:=by
 induction n with
 | zero=>simp
 | succ n ih=>rw[Z7,Z7,Z7,ih];omega
theorem DS(c:Int)(n:Nat):((aD n).map λ_=>c).sum=n*c:=by
 induction n with
 | zero=>simp
 | succ n ih=>rw[Z7,ih];rw[show((n+1:Nat):Int)=(n:Int)+1 by omega,mD];omega
theorem Ko(l:List Int):((aD l.length).map (Zl l)).sum=l.sum:=by rw[Qe]
theorem B7(e:Nat->Nat->Int)(n:Nat)(c:∀i j,i<n->j<n->e i j=e j i)(hd:∀i,i<n->e i i=0) :
  ((aD n).map λi=>((aD n).map λj=>e i j).sum).sum=2*((aD n).map λa=>((aD (n-(a+1))).map λj=>e a (a+1+j)).sum).sum:=by
 induction n with
 | zero=>simp
 | succ n d=>
  have d:=d (λi j b k=>c i j (by omega) (by omega)) λi b=>hd i (by omega);rw[Z7,Z7,Z7];have f:((aD n).map λi=>((aD (n+1)).map λj=>e i j).sum).sum=((aD n).map λi=>((aD n).map λj=>e i j).sum).sum+((aD n).map λi=>e i n).sum:=by rw[<-Eg];apply Yt;intro i _;rw[Z7]
  have h:((aD n).map λa=>((aD (n+1-(a+1))).map λj=>e a (a+1+j)).sum).sum=((aD n).map λa=>((aD (n-(a+1))).map λj=>e a (a+1+j)).sum).sum+((aD n).map λi=>e i n).sum:=by rw[<-Eg];apply Yt;intro i b;rw[show n+1-(i+1)=(n-(i+1))+1 by omega,Z7,show i+1+(n-(i+1))=n by omega]
  have g:((aD n).map λj=>e n j).sum=((aD n).map λi=>e i n).sum:=by apply Yt;intro i b;exact c n i (by omega) (by omega)
  rw[f,h,g,hd n (by omega)];simp;omega
theorem Ib{a:Type}(n:Nat)(x:a):(aS n [x]).flatten=aS n x:=by simp
structure NamesOk(i:Nat)(l:List Int):Prop where
 len:l.length=i
 nd:l.Nodup
 lo:∀x∈l,0<=x
 hi:∀x∈l,x<i
theorem NamesOk.nil:NamesOk 0 []:=⟨rfl,cH,λ_ h=>by simp at h,λ_ h=>by simp at h⟩
theorem NamesOk.ins{i:Nat}{l:List Int}(h:NamesOk i l)(k:Nat):NamesOk (i+1) (l.take k++(i:Int)::l.drop k):=by
 have b:(l.take k++(i:Int)::l.drop k).Perm ((i:Int)::l):=by have:=nj (a:=(i:Int)) (l₁:=l.take k) (l₂:=l.drop k);rw[lO] at this;exact this
 refine⟨by rw[b.length_eq,az,h.len],?_,λx c=>?_,λx c=>?_⟩
 ·rw[b.nodup_iff,aq];exact⟨λd=>by have:=h.hi _ d;omega,h.nd⟩
 ·rcases aa.mp (b.mem_iff.mp c) with e | e
  ·omega
  ·exact h.lo x e
 ·rcases aa.mp (b.mem_iff.mp c) with e | e
  ·omega
  ·have:=h.hi x e;omega
theorem NamesOk.at{i:Nat}{l:List Int}(h:NamesOk i l){x:Nat}(a:x<i):0<=Zl l x/\Zl l x<i:=by
 have e:Zl l x=l[x]'(by rw[h.len];exact a):=by unfold Zl;rw[aF,aE (by rw[h.len];exact a)];rfl
 rw[e];exact⟨h.lo _ (bQ _),h.hi _ (bQ _)⟩
theorem NamesOk.ne{i:Nat}{l:List Int}(h:NamesOk i l){x y:Nat}(a:x<i)(b:y<i)(n:x≠y):Zl l x≠Zl l y:=by
 have d:Zl l x=l[x]'(by rw[h.len];exact a):=by unfold Zl;rw[aF,aE (by rw[h.len];exact a)];rfl
 have c:Zl l y=l[y]'(by rw[h.len];exact b):=by unfold Zl;rw[aF,aE (by rw[h.len];exact b)];rfl
 rw[d,c];intro e;exact n ((kO h.nd).mp e)
theorem lt_size{n:Nat}(h:n<=10000):n<sizeLine:=fZ h (by decide)
end L2
namespace VL
open PySem PySem.Spec PyProof.Rows L2
variable {K:aH}
noncomputable def NsO(od:dW)(f:bH)(u:aI):Prop:=∀(hp:ba)(dx:aL),hp.get? dx=ax od->hp.Ns1 dx (λn=>if n=f then ax u else aA)
noncomputable def Zd0(n:bH):bH:=if n = "NoWeb" then "place" else if n = "Apart" then "houses" else if n = "TooMany" then "most" else "total"
structure Lam where
 qual:bH
 params:mO
 body:bO
 scope:gC
 free:bH
inductive PV where
 | non | bl (b:Bool) | int (i:Int) | str (x:bH) | ty (n:String) | exc (n:bH) | exf (n:bH) (l:PV) | clo (L:Lam) (l:PV)
 | tup (l:List PV) | lst (l:List PV) | cst (l:List PV)
 | dK (ks:List Y8) (vs:List PV) | dT (ks:List (List Y8)) (vs:List PV)
instance:Inhabited PV:=⟨.non⟩
mutual
/-- nothing in it can be changed -/
def ZO:PV->Bool
 | .tup l=>ZC l
 | .cst l=>ZC l
 | .lst _=>aB
 | .dK _ _=>aB
 | .dT _ _=>aB
 | .non=>aC
 | .bl _=>aC
 | .int _=>aC
 | .str _=>aC
 | .ty _=>aC
 | .exc _=>aC
 | .exf _ _=>aC
 | .clo _ l=>ZO l
def ZC:List PV->Bool
 | []=>aC
 | x::r=>ZO x&&ZC r
end
theorem X1:∀l:List PV,ZC l=l.all ZO
 | []=>rfl
 | x::r=>by rw[jz,<-X1 r];rfl
noncomputable def KL(K:aH)(a:aL)(xs:List V):Prop:=
 ∃(o:dW) (p8:Array aI) (n:Nat),K.lookup a=ax o/\o.cls = .type "list"/\o.dict=aA/\o.data = .seq p8 n/\p8.size<=sizeLine/\Vals xs p8.toList
noncomputable def CsK(K:aH)(H:Hp)(p:aL)(xs:List V):Prop:=(∃o,H p=ax (.frz o (.lst xs)))\/KL K p xs
theorem CsK.sq{K:aH}{H:Hp}{p:aL}{xs:List V}(h:CsK K H p xs):SqL K H p xs:=by
 rcases h with h | h
 ·exact .inl (.inr h)
 ·exact .inr h
noncomputable def CloAt(H:Hp)(L:Lam)(v:V)(u:aI):Prop:=∃f fo c oc e eo pm ct,v = .ref f/\H f=ax (.frz fo (.own 0))/\fo.data = .func (gV "<lambda>" L.qual L.params L.body L.scope [(L.free,e)] pm (.ref c) ct)/\H c=ax (.frz oc (.own 0))/\HU oc L.qual/\H e=ax (.frz eo (.own 1))/\eo.data = .cell (ax u)
mutual
/-- v is the tree l in the heap H;fp: the addresses of p8 lists and dicts -/
def Is(K:aH)(H:Hp):PV->V->List aL->Prop
 | .non,v,fp=>v = .non/\fp=[]
 | .bl b,v,fp=>v = .bl b/\fp=[]
 | .int i,v,fp=>v = .int i/\fp=[]
 | .str x,v,fp=>v = .str x/\fp=[]
 | .ty n,v,fp=>v = .ty n/\fp=[]
 | .exc n,v,fp=>(∃e o x C,v = .ref e/\H e=ax (.frz o (.own x))/\o.cls = .ref C/\jS K cO n=ax (ax (.ref C))/\o.dict=aA/\∃vs,o.data = .fields vs)/\fp=[]
 | .exf n l,v,fp=>(∃e o x C dx od u z,v = .ref e/\H e=ax (.frz o (.own x))/\o.cls = .ref C/\jS K cO n=ax (ax (.ref C))/\o.dict=ax dx/\(∃vs,o.data = .fields vs)/\H dx=ax (.frz od (.own dx))/\NsO od (Zd0 n) u/\RelV z u/\Is K H l z [])/\fp=[]
 | .clo L l,v,fp=>∃u x,CloAt H L v u/\RelV x u/\Is K H l x fp
 | .tup l,v,fp=>∃p xs,v = .ref p/\H p=ax (.tup xs)/\Iss K H l xs fp
 | .lst l,v,fp=>∃p xs fq,v = .ref p/\H p=ax (.lst xs)/\Iss K H l xs fq/\fp=p::fq
 | .cst l,v,fp=>∃p xs,v = .ref p/\CsK K H p xs/\Iss K H l xs fp
 | .dK ks l,v,fp=>∃p p4 fq,v = .ref p/\Rd H p (.dK p4)/\p4.map (·.1)=ks/\Iss K H l (p4.map (·.2)) fq/\fp=p::fq
 | .dT ks l,v,fp=>∃p p4 fq,v = .ref p/\Rd H p (.dT p4)/\p4.map (·.1)=ks/\Iss K H l (p4.map (·.2)) fq/\fp=p::fq
def Iss(K:aH)(H:Hp):List PV->List V->List aL->Prop
 | [],xs,fp=>xs=[]/\fp=[]
 | l::ls,xs,fp=>∃x r f1 f2,xs=x::r/\Is K H l x f1/\Iss K H ls r f2/\fp=f1++f2
end
noncomputable def RdK(H H':Hp)(p:aL):Prop:=(∀xs,H p=ax (.lst xs)->H' p=ax (.lst xs))/\(∀p4,Rd H p (.dK p4)->Rd H' p (.dK p4))/\∀p4,Rd H p (.dT p4)->Rd H' p (.dT p4)
theorem RdK.of{H a:Hp}{p:aL}(h:∀o,H p=ax o->a p=ax o):RdK H a p:=by
 have r:∀u,Rd H p u->Rd a p u:=λu q=>by
  rcases q with q | ⟨o,q⟩
  ·exact .inl (h _ q)
  ·exact .inr ⟨o,h _ q⟩
 exact⟨λ_=>h _,λ_=>r _,λ_=>r _⟩
structure TK2(H H':Hp):Prop where
 tup:TK H H'
 frz:∀b o xs,H b=ax (.frz o (.lst xs))->H' b=ax (.frz o (.lst xs))
 exc:∀b o x,H b=ax (.frz o (.own x))->H' b=ax (.frz o (.own x))
theorem Same.tk2{H a:Hp}(s:Same H a):TK2 H a:=⟨s.tk,λb o xs h=>s b _ h,λb o x h=>s b _ h⟩
theorem CsK.tr{K:aH}{H a:Hp}(t:TK2 H a){p:aL}{xs:List V}(h:CsK K H p xs):CsK K a p xs:=by
 rcases h with⟨o,h⟩ | h
 ·exact .inl ⟨o,t.frz p o xs h⟩
 ·exact .inr h
theorem CloAt.tr{H g:Hp}(t:TK2 H g){L:Lam}{v:V}{u:aI}(h:CloAt H L v u):CloAt g L v u:=by obtain⟨f,a,c,d,e,b,n,ct,j,m,k,i,p,l,o⟩:=h;exact⟨f,a,c,d,e,b,n,ct,j,t.exc f a 0 m,k,t.exc c d 0 i,p,t.exc e b 1 l,o⟩
mutual
theorem Is.tr{H t:Hp}(f:TK2 H t):∀(l:PV)(v:V)(fp:List aL),(∀p∈fp,RdK H t p)->Is K H l v fp->Is K t l v fp
 | .non,_,_,_,h=>by simpa only[Is] using h
 | .bl _,_,_,_,h=>by simpa only[Is] using h
 | .int _,_,_,_,h=>by simpa only[Is] using h
 | .str _,_,_,_,h=>by simpa only[Is] using h
 | .ty _,_,_,_,h=>by simpa only[Is] using h
 | .exc _,_,_,_,h=>by simp only[Is] at h ⊢;obtain⟨⟨e,o,x,C,a,b,c⟩,d⟩:=h;exact⟨⟨e,o,x,C,a,f.exc e o x b,c⟩,d⟩
 | .exf _ l,_,_,_,h=>by simp only[Is] at h ⊢;obtain⟨⟨e,o,x,C,m,y,u,z,a,b,c1,c2,c3,c4,c5,E,D,B⟩,d⟩:=h;exact⟨⟨e,o,x,C,m,y,u,z,a,f.exc e o x b,c1,c2,c3,c4,f.exc m y m c5,E,D,Is.tr f l z [] (λp w=>by simp at w) B⟩,d⟩
 | .clo L l,v,fp,hm,h=>by simp only[Is] at h ⊢;obtain⟨u,x,A,i,g⟩:=h;exact⟨u,x,A.tr f,i,Is.tr f l x fp hm g⟩
 | .tup l,v,fp,hm,h=>by simp only[Is] at h ⊢;obtain⟨p,xs,e,w,g⟩:=h;exact⟨p,xs,e,f.tup p xs w,Iss.tr f l xs fp hm g⟩
 | .lst l,v,fp,hm,h=>by simp only[Is] at h ⊢;obtain⟨p,xs,j,e,i,g,rfl⟩:=h;exact⟨p,xs,j,e,(hm p ag).1 _ i,Iss.tr f l xs j (λq k=>hm q (aN _ k)) g,rfl⟩
 | .cst l,v,fp,hm,h=>by simp only[Is] at h ⊢;obtain⟨p,xs,e,i,g⟩:=h;exact⟨p,xs,e,i.tr f,Iss.tr f l xs fp hm g⟩
 | .dK ks l,v,fp,hm,h=>by simp only[Is] at h ⊢;obtain⟨p,n,j,e,i,s,g,rfl⟩:=h;exact⟨p,n,j,e,(hm p ag).2.1 _ i,s,Iss.tr f l _ j (λq k=>hm q (aN _ k)) g,rfl⟩
 | .dT ks l,v,fp,hm,h=>by simp only[Is] at h ⊢;obtain⟨p,n,j,e,i,s,g,rfl⟩:=h;exact⟨p,n,j,e,(hm p ag).2.2 _ i,s,Iss.tr f l _ j (λq k=>hm q (aN _ k)) g,rfl⟩
theorem Iss.tr{H a:Hp}(c:TK2 H a):∀(l:List PV)(xs:List V)(fp:List aL),(∀p∈fp,RdK H a p)->Iss K H l xs fp->Iss K a l xs fp
 | [],_,_,_,h=>by simpa only[Iss] using h
 | l::ls,xs,fp,hm,h=>by simp only[Iss] at h ⊢;obtain⟨x,r,f1,d,e,g,f,rfl⟩:=h;exact⟨x,r,f1,d,e,Is.tr c l x f1 (λq b=>hm q (ao _ b)) g,Iss.tr c ls r d (λq b=>hm q (ah _ b)) f,rfl⟩
end
theorem Is.mono{H b:Hp}(s:Same H b){l:PV}{v:V}{a:List aL}(h:Is K H l v a):Is K b l v a:=Is.tr (Same.tk2 s) l v a (λp _=>RdK.of λo q=>s p o q) h
theorem Iss.mono{H b:Hp}(s:Same H b){l:List PV}{v:List V}{a:List aL}(h:Iss K H l v a):Iss K b l v a:=Iss.tr (Same.tk2 s) l v a (λp _=>RdK.of λo q=>s p o q) h
mutual
theorem Is.pure{H:Hp}:∀(l:PV)(v:V)(fp:List aL),ZO l=aC->Is K H l v fp->fp=[]
 | .non,_,_,_,h=>by simp only[Is] at h;exact h.2
 | .bl _,_,_,_,h=>by simp only[Is] at h;exact h.2
 | .int _,_,_,_,h=>by simp only[Is] at h;exact h.2
 | .str _,_,_,_,h=>by simp only[Is] at h;exact h.2
 | .ty _,_,_,_,h=>by simp only[Is] at h;exact h.2
 | .exc _,_,_,_,h=>by simp only[Is] at h;exact h.2
 | .exf _ _,_,_,_,h=>by simp only[Is] at h;exact h.2
 | .clo L l,v,fp,hp,h=>by simp only[Is] at h;obtain⟨u,x,b,c,a⟩:=h;exact Is.pure l x fp (by simpa only[ZO] using hp) a
 | .tup l,v,fp,hp,h=>by simp only[Is] at h;obtain⟨p,xs,e,_,a⟩:=h;exact Iss.pure l xs fp (by simpa only[ZO] using hp) a
 | .lst l,v,fp,hp,h=>by simp[ZO] at hp
 | .cst l,v,fp,hp,h=>by simp only[Is] at h;obtain⟨p,xs,e,_,a⟩:=h;exact Iss.pure l xs fp (by simpa only[ZO] using hp) a
 | .dK ks l,v,fp,hp,h=>by simp[ZO] at hp
 | .dT ks l,v,fp,hp,h=>by simp[ZO] at hp
theorem Iss.pure{H:Hp}:∀(l:List PV)(xs:List V)(fp:List aL),ZC l=aC->Iss K H l xs fp->fp=[]
 | [],_,_,_,h=>by simp only[Iss] at h;exact h.2
 | l::ls,xs,fp,hp,h=>by simp only[Iss] at h;simp only[ZC,aw] at hp;obtain⟨x,r,f1,c,e,b,a,rfl⟩:=h;rw[Is.pure l x f1 hp.1 b,Iss.pure ls r c hp.2 a];rfl
end
section
variable {H H':Hp}
theorem Iss.len:∀{l:List PV}{xs:List V}{fp:List aL},Iss K H l xs fp->xs.length=l.length
 | [],xs,fp,h=>by simp only[Iss] at h;rw[h.1];rfl
 | l::ls,xs,fp,h=>by simp only[Iss] at h;obtain⟨x,r,f1,b,rfl,_,a,_⟩:=h;rw[az,az,a.len]
theorem Iss.get:∀{l:List PV}{xs:List V}{fp:List aL}{i:Nat}{a:PV},Iss K H l xs fp->l[i]?=ax a->∃x f1,xs[i]?=ax x/\Is K H a x f1/\∀p∈f1,p∈fp
 | [],xs,fp,i,a,h,e=>by simp at e
 | l::ls,xs,fp,0,a,h,e=>by simp only[Iss] at h;obtain⟨x,r,f1,m,rfl,j,_,rfl⟩:=h;simp at e;subst e;exact⟨x,f1,rfl,j,λp b=>ao _ b⟩
 | l::ls,xs,fp,i+1,a,h,e=>by simp only[Iss] at h;obtain⟨x,r,f1,m,rfl,_,c,rfl⟩:=h;obtain⟨y,g,d,f,k⟩:=c.get (i:=i) (a:=a) (by simpa using e);exact⟨y,g,by simpa using d,f,λp b=>ah _ (k p b)⟩
theorem Iss.get'{l:List PV}{xs:List V}{d:List aL}{i:Nat}{x:V}(h:Iss K H l xs d)(e:xs[i]?=ax x):∃a f1,l[i]?=ax a/\Is K H a x f1/\∀p∈f1,p∈d:=by
 have c:i<l.length:=by rw[<-h.len];exact(aR.mp e).1
 obtain⟨y,f1,b,f,g⟩:=h.get (aE c);rw[e] at b;cases b;exact⟨_,f1,aE c,f,g⟩
theorem Iss.nil:Iss K H [] [] []:=by simp[Iss]
theorem Iss.cons{l:PV}{ls:List PV}{x:V}{xs:List V}{f1 a:List aL}(c:Is K H l x f1)(b:Iss K H ls xs a):Iss K H (l::ls) (x::xs) (f1++a):=by exact⟨x,xs,f1,a,rfl,c,b,rfl⟩
theorem Iss.inv{l:PV}{ls:List PV}{xs:List V}{a:List aL}(h:Iss K H (l::ls) xs a):∃x r f1 f2,xs=x::r/\Is K H l x f1/\Iss K H ls r f2/\a=f1++f2:=by simpa only[Iss] using h
theorem Iss.append:∀{l m:List PV}{xs ys:List V}{f1 f2:List aL},Iss K H l xs f1->Iss K H m ys f2->Iss K H (l++m) (xs++ys) (f1++f2)
 | [],m,xs,ys,f1,f2,h,h'=>by simp only[Iss] at h;rw[h.1,h.2];exact h'
 | l::ls,m,xs,ys,f1,f2,h,h'=>by obtain⟨x,r,c,d,rfl,a,b,rfl⟩:=h.inv;rw[dj];exact Iss.cons a (b.append h')
theorem Iss.one{l:PV}{x:V}{f:List aL}(h:Is K H l x f):Iss K H [l] [x] f:=by
 have:=Iss.cons h (Iss.nil)
 rwa [dX] at this
theorem Iss.take:∀{l:List PV}{xs:List V}{fp:List aL}(n:Nat),Iss K H l xs fp->∃f1,Iss K H (l.take n) (xs.take n) f1/\∀p∈f1,p∈fp
 | l,xs,fp,0,h=>⟨[],by rw[o9,o9];exact Iss.nil,λp c=>by simp at c⟩
 | [],xs,fp,n+1,h=>by simp only[Iss] at h;rw[h.1];exact⟨[],by rw[pH,pH];exact Iss.nil,λp c=>by simp at c⟩
 | l::ls,xs,fp,n+1,h=>by
  obtain⟨x,r,f1,g,rfl,e,d,rfl⟩:=h.inv;obtain⟨f,a,b⟩:=d.take n;refine⟨f1++f,Iss.cons e a,λp c=>?_⟩;rcases aV.mp c with h | h
  ·exact ao _ h
  ·exact ah _ (b p h)
theorem Iss.drop:∀{l:List PV}{xs:List V}{fp:List aL}(n:Nat),Iss K H l xs fp->∃f1,Iss K H (l.drop n) (xs.drop n) f1/\∀p∈f1,p∈fp
 | l,xs,fp,0,h=>⟨fp,h,λp c=>c⟩
 | [],xs,fp,n+1,h=>by simp only[Iss] at h;rw[h.1];exact⟨[],by rw[pI,pI];exact Iss.nil,λp c=>by simp at c⟩
 | l::ls,xs,fp,n+1,h=>by obtain⟨x,r,f1,g,rfl,f,d,rfl⟩:=h.inv;obtain⟨e,a,b⟩:=d.drop n;exact⟨e,a,λp c=>ah _ (b p c)⟩
theorem Iss.setP:∀{l:List PV}{xs:List V}{a:PV}{x:V}(i:Nat),ZC l=aC->ZO a=aC->Iss K H l xs []->Is K H a x []->Iss K H (l.set i a) (xs.set i x) []
 | [],xs,a,x,i,_,_,h,_=>by simp only[Iss] at h;rw[h.1];simp only[List.set_nil];exact Iss.nil
 | l::ls,xs,a,x,0,hp,_,h,ha=>by simp only[ZC,aw] at hp;obtain⟨y,r,f1,g,rfl,_,b,e⟩:=h.inv;have c:=Iss.pure _ _ _ hp.2 b;subst c;exact Iss.cons (f1:=[]) ha b
 | l::ls,xs,a,x,i+1,hp,hq,h,ha=>by simp only[ZC,aw] at hp;obtain⟨y,r,f1,g,rfl,d,b,e⟩:=h.inv;have f:=Is.pure _ _ _ hp.1 d;have c:=Iss.pure _ _ _ hp.2 b;subst f c;exact Iss.cons (f1:=[]) d (Iss.setP i hp.2 hq b ha)
theorem Is.int_inv{i:Int}{v:V}{a:List aL}(h:Is K H (.int i) v a):v = .int i/\a=[]:=by simpa only[Is] using h
theorem Is.int(i:Int):Is K H (.int i) (.int i) []:=by simp[Is]
theorem Is.bl(i:Bool):Is K H (.bl i) (.bl i) []:=by simp[Is]
theorem Is.non:Is K H .non .non []:=by simp[Is]
theorem Is.str(x:bH):Is K H (.str x) (.str x) []:=by simp[Is]
theorem Is.ty(n:String):Is K H (.ty n) (.ty n) []:=by simp[Is]
theorem Is.bl_inv{i:Bool}{v:V}{a:List aL}(h:Is K H (.bl i) v a):v = .bl i/\a=[]:=by simpa only[Is] using h
theorem Is.str_inv{i:bH}{v:V}{a:List aL}(h:Is K H (.str i) v a):v = .str i/\a=[]:=by simpa only[Is] using h
theorem Is.non_inv{v:V}{a:List aL}(h:Is K H .non v a):v = .non/\a=[]:=by simpa only[Is] using h
theorem Is.ty_inv{n:String}{v:V}{a:List aL}(h:Is K H (.ty n) v a):v = .ty n/\a=[]:=by simpa only[Is] using h
theorem Is.tup_inv{l:List PV}{v:V}{a:List aL}(h:Is K H (.tup l) v a):∃p xs,v = .ref p/\H p=ax (.tup xs)/\Iss K H l xs a:=by simpa only[Is] using h
theorem Is.tup{l:List PV}{p:aL}{xs:List V}{a:List aL}(h:H p=ax (.tup xs))(b:Iss K H l xs a):Is K H (.tup l) (.ref p) a:=by simp only[Is];exact⟨p,xs,rfl,h,b⟩
theorem Is.lst_inv{l:List PV}{v:V}{a:List aL}(h:Is K H (.lst l) v a):∃p xs fq,v = .ref p/\H p=ax (.lst xs)/\Iss K H l xs fq/\a=p::fq:=by simpa only[Is] using h
theorem Is.lst{l:List PV}{p:aL}{xs:List V}{a:List aL}(h:H p=ax (.lst xs))(b:Iss K H l xs a):Is K H (.lst l) (.ref p) (p::a):=by simp only[Is];exact⟨p,xs,a,rfl,h,b,rfl⟩
theorem Is.cst_inv{l:List PV}{v:V}{a:List aL}(h:Is K H (.cst l) v a):∃p xs,v = .ref p/\CsK K H p xs/\Iss K H l xs a:=by simpa only[Is] using h
theorem Is.cst{l:List PV}{p:aL}{xs:List V}{a:List aL}(h:CsK K H p xs)(b:Iss K H l xs a):Is K H (.cst l) (.ref p) a:=by simp only[Is];exact⟨p,xs,rfl,h,b⟩
theorem Is.dT_inv{a:List (List Y8)}{l:List PV}{v:V}{b:List aL}(h:Is K H (.dT a l) v b):∃p p4 fq,v = .ref p/\Rd H p (.dT p4)/\p4.map (·.1)=a/\Iss K H l (p4.map (·.2)) fq/\b=p::fq:=by simpa only[Is] using h
theorem Is.dT{c:List (List Y8)}{l:List PV}{p:aL}{a:List (List Y8×V)}{b:List aL}(h:H p=ax (.dT a))(d:a.map (·.1)=c)(e:Iss K H l (a.map (·.2)) b):Is K H (.dT c l) (.ref p) (p::b):=by simp only[Is];exact⟨p,a,b,rfl,.inl h,d,e,rfl⟩
theorem Is.dK_inv{a:List Y8}{l:List PV}{v:V}{b:List aL}(h:Is K H (.dK a l) v b):∃p p4 fq,v = .ref p/\Rd H p (.dK p4)/\p4.map (·.1)=a/\Iss K H l (p4.map (·.2)) fq/\b=p::fq:=by simpa only[Is] using h
theorem Is.dK{c:List Y8}{l:List PV}{p:aL}{a:List (Y8×V)}{b:List aL}(h:H p=ax (.dK a))(d:a.map (·.1)=c)(e:Iss K H l (a.map (·.2)) b):Is K H (.dK c l) (.ref p) (p::b):=by simp only[Is];exact⟨p,a,b,rfl,.inl h,d,e,rfl⟩
end
abbrev iL(l:List Int):List PV:=l.map PV.int
theorem ZY(l:List Int):ZC (iL l)=aC:=by rw[X1,bK];intro x a;obtain⟨i,_,rfl⟩:=ar.mp a;rfl
theorem Iss.iL{H:Hp}:∀{l:List Int}{xs:List V}{fp:List aL},Iss K H (VL.iL l) xs fp->xs=l.map V.int/\fp=[]
 | [],xs,fp,h=>by simpa only[VL.iL,fX,Iss] using h
 | i::l,xs,fp,h=>by obtain⟨x,r,f1,c,rfl,b,a,rfl⟩:=Iss.inv (show Iss K H (PV.int i::VL.iL l) xs fp from h);obtain⟨rfl,rfl⟩:=b.int_inv;obtain⟨rfl,rfl⟩:=a.iL;exact⟨rfl,rfl⟩
theorem Iss.ofInts{H:Hp}:∀(l:List Int),Iss K H (VL.iL l) (l.map V.int) []
 | []=>Iss.nil
 | i::l=>Iss.cons (f1:=[]) (Is.int i) (Iss.ofInts l)
end VL
namespace VL
open PySem PySem.Spec PyProof.Rows L2
variable {K:aH}
abbrev Pw:=L2.St
abbrev ZG:=List (Option PV)
abbrev XE:=ZG->Option PV
structure EnvIs(K:aH)(Rm:aL->Prop)(H:Hp)(s:ZG)(σ:Pw):Prop where
 is:∀(i:Nat) l,s[i]?=ax (ax l)->∃v fp,σ[i]?=ax (ax v)/\Is K H l v fp/\∀p∈fp,¬Rm p
theorem EnvIs.mono{g:aL->Prop}{H d:Hp}{s:ZG}{f:Pw}(h:EnvIs K g H s f)(e:Same H d):EnvIs K g d s f:=⟨λi l q=>by
 obtain⟨v,j,a,b,c⟩:=h.is i l q;exact⟨v,j,a,b.mono e,c⟩⟩
theorem EnvIs.free{f:aL->Prop}{H:Hp}{s:ZG}{d:Pw}(h:EnvIs K f H s d):EnvIs K (λ_=>False) H s d:=⟨λi l q=>by
 obtain⟨v,e,a,b,c⟩:=h.is i l q;exact⟨v,e,a,b,λ_ _ z=>z⟩⟩
theorem Same.mut{H a:Hp}(e:Same H a){p:aL}(h:UU (H p)):UU (a p):=by
 cases q:H p with
 | none=>rw[q] at h;exact h.elim
 | some o=>rw[e p o q,<-q];exact h
theorem Xn{H:Hp}{p:aL}(h:UU (H p)):H p≠aA:=λz=>by rw[z] at h;exact h
noncomputable def tF(K:aH)(f:XE):TE:=λσ H Q=>∃(Rm:aL->Prop) (s:ZG) (l:PV),(∀p,Rm p->UU (H p))/\EnvIs K Rm H s σ/\f s=ax l/\∀v H' fp,Same H H'->Is K H' l v fp->(∀p∈fp,¬Rm p)->Q v H'
noncomputable def tM(K:aH)(f:XE):TE:=λσ H Q=>∃(s:ZG) (l:PV),EnvIs K (λ_=>False) H s σ/\f s=ax l/\∀v H' fp,Same H H'->Is K H' l v fp->fp.Nodup->(∀p∈fp,H p=aA/\UU (H' p))->Q v H'
noncomputable def VE(X:Cx)(e:bO)(f:XE):Prop:=PE X e (tF X.K f)
noncomputable def VM(X:Cx)(e:bO)(f:XE):Prop:=PE X e (tM X.K f)
section
variable {X:Cx} {e:bO} {f g:XE} {t t':TE}
theorem PE.imp(h:PE X e t)(i:∀a H Q,t' a H Q->t a H Q):PE X e t':=λb s a H Q I q=>h b s a H Q I (i a H Q q)
theorem VM.ve(h:VM X e f):VE X e f:=PE.imp h λg H Q ⟨j,s,l,hd,env,e,k⟩=>
 ⟨s,l,env.free,e,λv b d a i _ n=>k v b d a i λp c z=>Xn (hd p z) (n p c).1⟩
noncomputable def eP(f:XE):XE:=λs=>(f s).bind λl=>if ZO l=aC then ax l else aA
theorem Zd1{s:ZG}{l:PV}(h:eP f s=ax l):f s=ax l/\ZO l=aC:=by
 unfold eP at h
 cases q:f s with
 | none=>rw[q] at h;cases h
 | some a=>
  rw[q] at h;simp only[aQ] at h;split at h
  ·cases h;exact⟨rfl,by assumption⟩
  ·cases h
theorem VE.pure(h:VE X e f):VM X e (eP f):=PE.imp h λm H Q ⟨s,l,env,e,k⟩=>by
 obtain⟨g,c⟩:=Zd1 e;refine⟨λ_=>False,s,l,λ_ z=>z.elim,env,g,λv b j a i n=>?_⟩;have:=Is.pure l v j c i;subst this;exact k v b [] a i cH λp d=>by simp at d
end
noncomputable def Za(i:Nat):XE:=λs=>(s[i]?).join
noncomputable def eC(l:PV):XE:=λ_=>ax l
theorem Ls{i:Nat}{s:ZG}{l:PV}(h:Za i s=ax l):s[i]?=ax (ax l):=by
 unfold Za at h
 cases q:s[i]? with
 | none=>rw[q] at h;cases h
 | some o=>rw[q] at h;cases o with
  | none=>cases h
  | some a=>cases h;rfl
section
variable {X:Cx} {pos:dw}
theorem Rc{e:bO}{i:Nat}(h:PE X e (Pp i)):VE X e (Za i):=PE.imp h λf H Q ⟨g,s,l,hd,env,e,k⟩=>by obtain⟨v,d,a,b,c⟩:=env.is i l (Ls e);exact⟨v,a,k v H d (Same.refl H) b c⟩
theorem B8{e:bO}{v:V}{l:PV}(h:PE X e (tC v))(a:∀H,Is X.K H l v []):VE X e (eC l):=PE.imp h λd H Q ⟨c,s,f,hd,env,e,k⟩=>by
 cases e;exact k v H [] (Same.refl H) (a H) λp b=>by simp at b
theorem Zh{i j}:VE X (.Constant (.int i) j pos) (eC (.int i)):=B8 Zhr λ_=>Is.int i
theorem Ei{i j}:VE X (.Constant (.bool i) j pos) (eC (.bl i)):=B8 Zkk λ_=>Is.bl i
theorem UZ{j}:VE X (.Constant .none j pos) (eC .non):=B8 Zhs λ_=>Is.non
end
noncomputable def RB(K:aH)(r:R2)(g:PV->PV->Option PV):Prop:=∀(H:Hp)(x y:V)(a b l:PV)(fa fb:List aL),Is K H a x fa->Is K H b y fb->g a b=ax l->∀Q:VK,
 (∀v H' fp,Same H H'->Is K H' l v fp->(∀p∈fp,p∈fa\/p∈fb\/H p=aA)->Q v H')->r x y H Q
noncomputable def Zm(g:PV->PV->Option PV)(a b:XE):XE:=λs=>(a s).bind λx=>(b s).bind λy=>g x y
theorem VC{g:PV->PV->Option PV}{a b:XE}{s:ZG}{l:PV}(h:Zm g a b s=ax l):∃x y,a s=ax x/\b s=ax y/\g x y=ax l:=by
 unfold Zm at h
 cases q:a s with
 | none=>rw[q] at h;cases h
 | some x=>cases q2:b s with
  | none=>rw[q,q2] at h;cases h
  | some y=>rw[q,q2] at h;exact⟨x,y,rfl,rfl,h⟩
section
variable {X:Cx} {a b:bO} {fa fb:XE} {pos:dw}
theorem Ej{r:R2}{g:PV->PV->Option PV}(t:RB K r g):∀a H Q,tF K (Zm g fa fb) a H Q->tOp r (tF K fa) (tF K fb) a H Q:=λa H Q ⟨f,s,l,hd,env,e,k⟩=>by
 obtain⟨c,d,w,i,e⟩:=VC e;refine⟨f,s,c,hd,env,w,λx F f1 s1 A n=>⟨f,s,d,λp b=>Same.mut s1 (hd p b),env.mono s1,i,λy q E s2 C u=>?_⟩⟩;refine t q x y c d l f1 E (A.mono s2) C e Q λv B D m j o=>k v B D (s1.trans (s2.trans m)) j λp b z=>?_;rcases o p b with h | h | h
 ·exact n p h z
 ·exact u p h z
 ·exact Xn (Same.mut (s1.trans s2) (hd p z)) h
theorem UJ{op:oX}{r:R2}{g:PV->PV->Option PV}(d:TH X (dy op) r)(e:RB X.K r g)(f:VE X a fa)(c:VE X b fb):VE X (.BinOp a op b pos) (Zm g fa fb):=
 PE.imp (F6 d f c) (Ej e)
theorem Kp{op:nK}{r:R2}{g:PV->PV->Option PV}(d:TH X (dH op) r)(e:RB X.K r g)(f:VE X a fa)(c:VE X b fb)(h:cY op b=aB):VE X (.Compare a [op] [b] pos) (Zm g fa fb):=
 PE.imp (Zdf d f c h) (Ej e)
theorem Zlo{r:R2}{g:PV->PV->Option PV}(e:IxR X r)(f:RB X.K r g)(h:VE X a fa)(c:VE X b fb)(d:Kh b):VE X (.Subscript a b pos) (Zm g fa fb):=
 PE.imp (J1 e h c d) (Ej f)
end
noncomputable def gI(g:Int->Int->Int):PV->PV->Option PV
 | .int i,.int j=>ax (.int (g i j))
 | _,_=>aA
noncomputable def gB(g:Int->Int->Bool):PV->PV->Option PV
 | .int i,.int j=>ax (.bl (g i j))
 | _,_=>aA
noncomputable def gIC(C:Int->Int->Prop)[∀i j,Decidable (C i j)](g:Int->Int->Int):PV->PV->Option PV
 | .int i,.int j=>if C i j then ax (.int (g i j)) else aA
 | _,_=>aA
theorem Ek{g:Int->Int->Int}{a b l:PV}(h:gI g a b=ax l):∃i j,a = .int i/\b = .int j/\l = .int (g i j):=by
 unfold gI at h;split at h
 ·cases h;exact⟨_,_,rfl,rfl,rfl⟩
 ·cases h
theorem Zd2{g:Int->Int->Bool}{a b l:PV}(h:gB g a b=ax l):∃i j,a = .int i/\b = .int j/\l = .bl (g i j):=by
 unfold gB at h;split at h
 ·cases h;exact⟨_,_,rfl,rfl,rfl⟩
 ·cases h
theorem B9{C:Int->Int->Prop}[∀i j,Decidable (C i j)]{g:Int->Int->Int}{a b l:PV}(h:gIC C g a b=ax l):∃i j,a = .int i/\b = .int j/\C i j/\l = .int (g i j):=by
 unfold gIC at h;split at h
 ·split at h
  ·cases h;exact⟨_,_,rfl,rfl,by assumption,rfl⟩
  ·cases h
 ·cases h
theorem Zlp(g:Int->Int->Int):RB K (rI0 λi j=>.int (g i j)) (gI g):=λH x y a b l h fb f c e Q k=>by obtain⟨i,j,rfl,rfl,rfl⟩:=Ek e;exact⟨i,j,f.int_inv.1,c.int_inv.1,k _ H [] (Same.refl H) (Is.int _) λp d=>by simp at d⟩
theorem Gg(g:Int->Int->Bool):RB K (rI0 λi j=>.bl (g i j)) (gB g):=λH x y a b l h fb f c e Q k=>by obtain⟨i,j,rfl,rfl,rfl⟩:=Zd2 e;exact⟨i,j,f.int_inv.1,c.int_inv.1,k _ H [] (Same.refl H) (Is.bl _) λp d=>by simp at d⟩
theorem Ic(C:Int->Int->Prop)[∀i j,Decidable (C i j)](g:Int->Int->Int):RB K (rI C λi j=>.int (g i j)) (gIC C g):=λH x y a b l m fb d f e Q k=>by obtain⟨i,j,rfl,rfl,c,rfl⟩:=B9 e;exact⟨i,j,d.int_inv.1,f.int_inv.1,c,k _ H [] (Same.refl H) (Is.int _) λp h=>by simp at h⟩
instance (i j:Int):Decidable (CMul i j):=by unfold CMul;infer_instance
instance (i j:Int):Decidable (BI i j):=by unfold BI;infer_instance
instance (i j:Int):Decidable (Zgw i j):=by unfold Zgw;infer_instance
instance (i j:Int):Decidable (Zk2 i j):=by unfold Zk2;infer_instance
abbrev YJ:=gI (· + ·)
abbrev Wi:=gI (· - ·)
abbrev Px:=gIC CMul (· * ·)
abbrev SD:=gIC BI (· / ·)
abbrev Vd:=gIC (λ_ j=>0<j) (· % ·)
abbrev MO:=gB (λi j=>decide (i<j))
abbrev oLe:=gB (λi j=>decide (i<=j))
abbrev El:=gB (λi j=>decide (j<i))
abbrev oGe:=gB (λi j=>decide (j<=i))
section
variable {X:Cx} {a b:bO} {fa fb:XE} {pos:dw}
theorem Yb(c:VE X a fa)(d:VE X b fb):VE X (.BinOp a .Add b pos) (Zm YJ fa fb):=UJ Zh9 (Zlp _) c d
theorem Y1(c:VE X a fa)(d:VE X b fb):VE X (.BinOp a .Sub b pos) (Zm Wi fa fb):=UJ Zia (Zlp _) c d
theorem SE(c:VE X a fa)(d:VE X b fb):VE X (.BinOp a .Mult b pos) (Zm Px fa fb):=UJ Zib (Ic _ _) c d
theorem Xo(c:VE X a fa)(d:VE X b fb):VE X (.BinOp a .FloorDiv b pos) (Zm SD fa fb):=UJ Zde (Ic _ _) c d
theorem Xq(c:VE X a fa)(d:VE X b fb):VE X (.BinOp a .Mod b pos) (Zm Vd fa fb):=UJ Zic (Ic _ _) c d
theorem Zg5(c:VE X a fa)(d:VE X b fb):VE X (.Compare a [.Lt] [b] pos) (Zm MO fa fb):=Kp BJ (Gg _) c d (UX _)
theorem Aa(c:VE X a fa)(d:VE X b fb):VE X (.Compare a [.Gt] [b] pos) (Zm El fa fb):=Kp Zgx (Gg _) c d (UX _)
end
noncomputable def ZR:PV->PV->Option PV
 | .lst l,.int i=>R9 l i
 | .cst l,.int i=>R9 l i
 | .tup l,.int i=>R9 l i
 | .str z,.int i=>if z.length<=sizeLine then(R9 z.cps.toList i).map λc=>.str ⟨#[c]⟩ else aA
 | _,_=>aA
theorem Gh{l:List PV}{xs:List V}{H:Hp}{b:List aL}{i:Int}{a:PV}(h:Iss K H l xs b)(e:R9 l i=ax a):∃x f1,R9 xs i=ax x/\Is K H a x f1/\∀p∈f1,p∈b:=by
 unfold R9 at e ⊢;rw[h.len]
 cases q:J0 l.length i with
 | none=>rw[q] at e;cases e
 | some j=>rw[q] at e;exact h.get e
theorem Zlr:RB K (rIx K) ZR:=λH x y a b l s fb m n e Q k=>by
 unfold ZR at e;split at e
 ·obtain⟨p,xs,o,rfl,d,h,rfl⟩:=m.lst_inv;obtain⟨z,f1,f,i,g⟩:=Gh h e;exact .inl ⟨p,xs,_,z,rfl,n.int_inv.1,SqL.of d,f,k z H f1 (Same.refl H) i λq j=>.inl (aN _ (g q j))⟩
 ·obtain⟨p,xs,rfl,d,h⟩:=m.cst_inv;obtain⟨z,f1,f,i,g⟩:=Gh h e;exact .inl ⟨p,xs,_,z,rfl,n.int_inv.1,d.sq,f,k z H f1 (Same.refl H) i λq j=>.inl (g q j)⟩
 ·obtain⟨p,xs,rfl,d,h⟩:=m.tup_inv;obtain⟨z,f1,f,i,g⟩:=Gh h e;exact .inr (.inl ⟨p,xs,_,z,rfl,n.int_inv.1,SqT.of d,f,k z H f1 (Same.refl H) i λq j=>.inl (g q j)⟩)
 ·split at e
  ·cases q:R9 _ _ with
   | none=>rw[q] at e;cases e
   | some c=>
    rw[q] at e;cases e;exact .inr (.inr ⟨_,_,c,m.str_inv.1,n.int_inv.1,by assumption,q,k _ H [] (Same.refl H) (Is.str _) λp d=>by simp at d⟩)
  ·cases e
 ·cases e
section
variable {X:Cx} {a b:bO} {fa fb:XE} {pos:dw}
theorem Zj(d:VE X a fa)(e:VE X b fb)(c:Kh b:=by exact λ_ _=>rfl):VE X (.Subscript a b pos) (Zm ZR fa fb):=Zlo Zij Zlr d e c
end
abbrev XT:=ZG->Option Bool
noncomputable def HR(K:aH)(f:XT):TT:=λσ H Q=>∃(Rm:aL->Prop) (s:ZG) (c:Bool),(∀p,Rm p->UU (H p))/\EnvIs K Rm H s σ/\f s=ax c/\∀H',Same H H'->Q c H'
noncomputable def VT(X:Cx)(e:bO)(f:XT):Prop:=PT X e (HR X.K f)
noncomputable def VW(X:Cx)(e:bO)(f:XT):Prop:=PW X e (HR X.K f)
section
variable {X:Cx} {e:bO} {f:XT}
theorem PT.imp{t t':TT}(h:PT X e t)(i:∀a H Q,t' a H Q->t a H Q):PT X e t':=λb s a H Q I q=>h b s a H Q I (i a H Q q)
theorem PW.imp{t t':TT}(h:PW X e t)(i:∀b H Q,t' b H Q->t b H Q):PW X e t':=λa c s b H Q I q=>h a c s b H Q I (i b H Q q)
theorem VW.vt(h:VW X e f):VT X e f:=PW.pt h
end
noncomputable def xB(f:XE):XT:=λs=>match f s with | some (.bl c)=>ax c | _=>aA
theorem Rf{f:XE}{s:ZG}{c:Bool}(h:xB f s=ax c):f s=ax (.bl c):=by
 unfold xB at h;split at h
 ·cases h;assumption
 ·cases h
noncomputable def Zls:PV->Option Bool
 | .non=>ax aB
 | .bl b=>ax b
 | .int i=>ax (i != 0)
 | .str y=>if y.length<=sizeLine then ax ((y.length:Int) != 0) else aA
 | .lst l=>ax !l.isEmpty
 | .cst l=>ax !l.isEmpty
 | .tup l=>ax !l.isEmpty
 | _=>aA
noncomputable def xV(f:XE):XT:=λs=>(f s).bind Zls
section
variable {X:Cx} {a b c:bO} {YC:List bO} {fa fb:XE} {ga gb:XT} {pos:dw}
theorem U0(h:VE X a fa)(d:∀whole,md a X.env whole=(do let v <-whole;oT a.pos;holding [v] (truthy v)):=by intro _;rfl):VT X a (xB fa):=
 PT.imp (Zhu h d) λj H Q ⟨f,s,c,hd,env,e,k⟩=>⟨f,s,.bl c,hd,env,Rf e,λv g l b i n=>⟨c,i.bl_inv.1,k g b⟩⟩
theorem Ac:∀a H Q,HR K (xB fa) a H Q->F7 (tF K fa) a H Q:=λa H Q ⟨f,s,c,hd,env,e,k⟩=>⟨f,s,.bl c,hd,env,Rf e,λv b g d i n=>⟨c,i.bl_inv.1,k b d⟩⟩
theorem Gi{t t':TE}(i:∀a H Q,t' a H Q->t a H Q):∀a H Q,F7 t' a H Q->F7 t a H Q:=λa H Q h=>i a H _ h
theorem SF{op:nK}{r:R2}{g:PV->PV->Option PV}(e:TH X (dH op) r)(f:RB X.K r g)(i:VE X a fa)(d:VE X b fb)(j:cY op b=aB):VT X (.Compare a [op] [b] pos) (xB (Zm g fa fb)):=
 PT.imp (Zdg e i d j) λc H Q h=>Gi (Ej f) c H Q (Ac c H Q h)
theorem ON(c:VE X a fa)(d:VE X b fb):VT X (.Compare a [.Lt] [b] pos) (xB (Zm MO fa fb)):=SF BJ (Gg _) c d (UX _)
theorem Ad(c:VE X a fa)(d:VE X b fb):VT X (.Compare a [.Gt] [b] pos) (xB (Zm El fa fb)):=SF Zgx (Gg _) c d (UX _)
theorem Zlt(c:VE X a fa)(d:VE X b fb):VT X (.Compare a [.GtE] [b] pos) (xB (Zm oGe fa fb)):=SF Zk4 (Gg _) c d (UX _)
noncomputable def OO(a b:XT):XT:=λs=>(a s).bind λc=>if c=aC then b s else ax aB
noncomputable def Gj(a b:XT):XT:=λs=>(a s).bind λc=>if c=aC then ax aC else b s
noncomputable def Py(a:XT):XT:=λs=>(a s).map not
theorem Zd3:∀a H Q,HR K (OO ga gb) a H Q->Zkm (HR K ga) (HR K gb) a H Q:=λa H Q ⟨b,s,c,hd,env,e,k⟩=>by
 unfold OO at e
 cases q:ga s with
 | none=>rw[q] at e;cases e
 | some d=>
  rw[q] at e;refine⟨b,s,d,hd,env,q,λf s1=>?_⟩
  cases d with
  | true=>
   exact⟨b,s,c,λp g=>Same.mut s1 (hd p g),env.mono s1,e,λh s2=>k h (s1.trans s2)⟩
  | false=>
   cases e;exact k f s1
theorem Zix:∀a H Q,HR K (Gj ga gb) a H Q->tOr (HR K ga) (HR K gb) a H Q:=λa H Q ⟨b,s,c,hd,env,e,k⟩=>by
 unfold Gj at e
 cases q:ga s with
 | none=>rw[q] at e;cases e
 | some d=>
  rw[q] at e;refine⟨b,s,d,hd,env,q,λf s1=>?_⟩
  cases d with
  | true=>
   cases e;exact k f s1
  | false=>
   exact⟨b,s,c,λp g=>Same.mut s1 (hd p g),env.mono s1,e,λh s2=>k h (s1.trans s2)⟩
theorem P8(b:VT X a ga):VW X (.BoolOp .And [a] pos) ga:=Zc9 b
theorem U1(b:VT X a ga):VW X (.BoolOp .Or [a] pos) ga:=Zhv b
theorem Kq(c:VT X a ga)(d:VW X (.BoolOp .And (b::YC) pos) gb):VW X (.BoolOp .And (a::b::YC) pos) (OO ga gb):=PW.imp (Zhw c d) Zd3
theorem Rh(c:VT X a ga)(d:VW X (.BoolOp .Or (b::YC) pos) gb):VW X (.BoolOp .Or (a::b::YC) pos) (Gj ga gb):=PW.imp (Zkn c d) Zix
theorem SG(b:VT X a ga):VT X (.UnaryOp .Not a pos) (Py ga):=PT.imp (Zhx b) λg H Q ⟨f,s,c,hd,env,e,k⟩=>by
 unfold Py at e
 cases q:ga s with
 | none=>rw[q] at e;cases e
 | some d=>rw[q] at e;cases e;exact⟨f,s,d,hd,env,q,k⟩
theorem Ae(h:VE X a fa)(m:∀whole,md a X.env whole=(do let v <-whole;oT a.pos;holding [v] (truthy v)):=by intro _;rfl):VT X a (xV fa):=
 PT.imp (BM h m) λw H Q ⟨o,s,c,hd,env,e,k⟩=>by
 unfold xV at e
 cases q:fa s with
 | none=>rw[q] at e;cases e
 | some l=>
  rw[q] at e;simp only[aQ] at e;refine⟨o,s,l,hd,env,q,λv t x g i n=>⟨c,?_,k t g⟩⟩
  cases l with
  | non=>rw[i.non_inv.1];cases e;rfl
  | bl b=>rw[i.bl_inv.1];cases e;rfl
  | int j=>rw[i.int_inv.1];cases e;rfl
  | str y=>
   rw[i.str_inv.1];simp only[Zls] at e;split at e
   ·cases e;exact⟨by assumption,rfl⟩
   ·cases e
  | lst l=>
   obtain⟨p,xs,u,rfl,f,d,_⟩:=i.lst_inv;cases e;refine .inl ⟨xs,SqL.of f,?_⟩;have:=d.len;cases xs<;>cases l<;>simp at this ⊢
  | cst l=>
   obtain⟨p,xs,rfl,f,d⟩:=i.cst_inv;cases e;refine .inl ⟨xs,f.sq,?_⟩;have:=d.len;cases xs<;>cases l<;>simp at this ⊢
  | tup l=>
   obtain⟨p,xs,rfl,f,d⟩:=i.tup_inv;cases e;refine .inr (.inl ⟨xs,SqT.of f,?_⟩);have:=d.len;cases xs<;>cases l<;>simp at this ⊢
  | ty n=>cases e
  | exc C=>cases e
  | exf C l=>cases e
  | clo C l=>cases e
  | dK ks l=>cases e
  | dT ks l=>cases e
end
section
variable {X:Cx} {a b c:bO} {YC:List bO} {fa fb:XE} {gc:XT} {pos:dw}
noncomputable def Kr(a b:XE):XE:=λs=>(xB a s).bind λc=>if c=aC then b s else ax (.bl aB)
noncomputable def eOr(a b:XE):XE:=λs=>(xB a s).bind λc=>if c=aC then ax (.bl aC) else b s
noncomputable def Zd4(a:XE):XE:=λs=>(xB a s).map λc=>.bl !c
noncomputable def OP(c:XT)(a b:XE):XE:=λs=>(c s).bind λk=>if k=aC then a s else b s
theorem Ks{op}(h:VE X a fa):VE X (.BoolOp op [a] pos) fa:=Zhy h
theorem OQ(m:VE X a fa)(o:VE X (.BoolOp .And (b::YC) pos) fb):VE X (.BoolOp .And (a::b::YC) pos) (Kr fa fb):=PE.imp (Zhz m o) λw H Q ⟨g,s,l,hd,env,e,k⟩=>by
 unfold Kr at e
 cases q:xB fa s with
 | none=>rw[q] at e;cases e
 | some d=>
  rw[q] at e;refine⟨g,s,.bl d,hd,env,Rf q,λv h x s1 t _=>⟨d,t.bl_inv.1,?_⟩⟩
  cases d with
  | true=>
   exact⟨g,s,l,λp f=>Same.mut s1 (hd p f),env.mono s1,e,λi j c s2 u n=>k i j c (s1.trans s2) u n⟩
  | false=>
   cases e;exact k _ h [] s1 (Is.bl aB) λp f=>by simp at f
theorem Ziy(c:VE X a fa):VE X (.UnaryOp .Not a pos) (Zd4 fa):=PE.imp (Zh0 c) λi H Q ⟨f,s,l,hd,env,e,k⟩=>by
 unfold Zd4 at e
 cases q:xB fa s with
 | none=>rw[q] at e;cases e
 | some d=>
  rw[q] at e;cases e;exact⟨f,s,.bl d,hd,env,Rf q,λv b j s1 g _=>⟨d,g.bl_inv.1,k _ b [] s1 (Is.bl _) λp h=>by simp at h⟩⟩
theorem Sw(o:VT X c gc)(t:VE X a fa)(u:VE X b fb):VE X (.IfExp c a b pos) (OP gc fa fb):=PE.imp (BE o t u) λw H Q ⟨j,s,l,hd,env,e,k⟩=>by
 unfold OP at e
 cases q:gc s with
 | none=>rw[q] at e;cases e
 | some d=>
  rw[q] at e;refine⟨j,s,d,hd,env,q,λv s1=>?_⟩
  cases d with
  | true=>
   exact⟨j,s,l,λp m=>Same.mut s1 (hd p m),env.mono s1,e,λg h f s2 n i=>k g h f (s1.trans s2) n i⟩
  | false=>
   exact⟨j,s,l,λp m=>Same.mut s1 (hd p m),env.mono s1,e,λg h f s2 n i=>k g h f (s1.trans s2) n i⟩
end
section
variable {X:Cx} {a b c:bO} {fa fb fc:XE} {pos:dw}
noncomputable def Af(neg:Bool):PV->Option PV
 | .non=>ax (.bl !neg)
 | _=>ax (.bl neg)
noncomputable def Gk:PV->Bool
 | .non=>aC
 | _=>aB
theorem OR{H:Hp}{l:PV}{v:V}{d:List aL}(i:Is K H l v d):decide (v=V.non)=Gk l:=by
 cases l with
 | non=>rw[i.non_inv.1];rfl
 | bl b=>rw[i.bl_inv.1];rfl
 | int j=>rw[i.int_inv.1];rfl
 | str y=>rw[i.str_inv.1];rfl
 | ty n=>rw[i.ty_inv.1];rfl
 | exc C=>obtain⟨⟨e,o,x,C,rfl,_⟩,_⟩:=i;rfl
 | exf C l=>obtain⟨⟨e,o,x,C,h,m,u,z,rfl,_⟩,_⟩:=i;rfl
 | clo C l=>obtain⟨u,x,⟨f,g,c,s,e,k,q,ct,rfl,_⟩,_⟩:=i;rfl
 | lst l=>obtain⟨p,xs,a,rfl,_⟩:=i.lst_inv;rfl
 | cst l=>obtain⟨p,xs,rfl,_⟩:=i.cst_inv;rfl
 | tup l=>obtain⟨p,xs,rfl,_⟩:=i.tup_inv;rfl
 | dK ks l=>obtain⟨p,xs,a,rfl,_⟩:=i.dK_inv;rfl
 | dT ks l=>obtain⟨p,xs,a,rfl,_⟩:=i.dT_inv;rfl
noncomputable def Rj(neg:Bool)(a:XE):XE:=λs=>(a s).bind (Af neg)
theorem Zd5:∀a H Q,tF K (Rj aB fa) a H Q->Zkl (tF K fa) a H Q:=λa H Q ⟨f,s,l,hd,env,e,k⟩=>by
 unfold Rj at e
 cases q:fa s with
 | none=>rw[q] at e;cases e
 | some m=>
  rw[q] at e;simp only[aQ] at e;refine⟨f,s,m,hd,env,q,λv b g s1 c _=>?_⟩;show Q _ b;rw[OR c];have:l = .bl (Gk m):=by cases m<;>cases e<;>rfl
  subst this;exact k _ b [] s1 (Is.bl _) λp d=>by simp at d
theorem Ag:∀a H Q,tF K (Rj aC fa) a H Q->Zgs (tF K fa) a H Q:=λa H Q ⟨f,s,l,hd,env,e,k⟩=>by
 unfold Rj at e
 cases q:fa s with
 | none=>rw[q] at e;cases e
 | some m=>
  rw[q] at e;refine⟨f,s,m,hd,env,q,λv b g s1 c _=>?_⟩;show Q _ b;rw[OR c];have:l = .bl (!Gk m):=by cases m<;>cases e<;>rfl
  subst this;exact k _ b [] s1 (Is.bl _) λp d=>by simp at d
theorem Ah:∀a H Q,HR K (xB fa) a H Q->tB (tF K fa) a H Q:=λa H Q ⟨f,s,c,hd,env,e,k⟩=>⟨f,s,.bl c,hd,env,Rf e,λv b g d i n=>⟨c,i.bl_inv.1,k b d⟩⟩
theorem Kt{t t':TE}(i:∀a H Q,t' a H Q->t a H Q):∀a H Q,tB t' a H Q->tB t a H Q:=λa H Q h=>i a H _ h
theorem Ziz{j pos'}(c:VE X a fa):VT X (.Compare a [.Is] [.Constant .none j pos'] pos) (xB (Rj aB fa)):=PT.imp (HV (Zht c)) λb H Q h=>Kt Zd5 b H Q (Ah b H Q h)
theorem P9{j pos'}(c:VE X a fa):VT X (.Compare a [.IsNot] [.Constant .none j pos'] pos) (xB (Rj aC fa)):=PT.imp (HV (Zc8 c)) λb H Q h=>Kt Ag b H Q (Ah b H Q h)
noncomputable def Ie:PV->Option PV
 | .int i=>ax (.int (-i))
 | _=>aA
noncomputable def Pz(g:PV->Option PV)(a:XE):XE:=λs=>(a s).bind g
theorem Ku(c:VE X a fa):VE X (.UnaryOp .USub a pos) (Pz Ie fa):=PE.imp (Zkz Zid c) λh H Q ⟨d,s,l,hd,env,e,k⟩=>by
 unfold Pz at e
 cases q:fa s with
 | none=>rw[q] at e;cases e
 | some m=>
  rw[q] at e;simp only[aQ] at e;unfold Ie at e;split at e
  ·cases e;exact⟨d,s,_,hd,env,q,λv b i s1 f _=>⟨_,f.int_inv.1,k _ b [] s1 (Is.int _) λp g=>by simp at g⟩⟩
  ·cases e
end
end VL
namespace VL
open PySem PySem.Spec PyProof.Rows L2
variable {K:aH}
noncomputable def PB:List XE->ZG->Option (List PV)
 | [],_=>ax []
 | f::fs,s=>(f s).bind λx=>(PB fs s).map (x::·)
theorem OS{f:XE}{fs:List XE}{s:ZG}{ls:List PV}(h:PB (f::fs) s=ax ls):∃x r,f s=ax x/\PB fs s=ax r/\ls=x::r:=by
 unfold PB at h
 cases q:f s with
 | none=>rw[q] at h;cases h
 | some x=>cases q2:PB fs s with
  | none=>rw[q,q2] at h;cases h
  | some r=>rw[q,q2] at h;cases h;exact⟨x,r,rfl,rfl,rfl⟩
theorem Ue:∀{fs:List XE}{s:ZG}{ls:List PV},PB fs s=ax ls->ls.length=fs.length
 | [],_,_,h=>by cases h;rfl
 | f::fs,s,ls,h=>by obtain⟨x,r,_,a,rfl⟩:=OS h;rw[az,az,Ue a]
noncomputable def tFA(K:aH)(fs:List XE):TA:=λσ H Q=>∃(Rm:aL->Prop) (s:ZG) (ls:List PV),(∀p,Rm p->UU (H p))/\EnvIs K Rm H s σ/\PB fs s=ax ls/\∀vs H' fp,Same H H'->Iss K H' ls vs fp->(∀p∈fp,¬Rm p)->Q vs H'
noncomputable def tMA(K:aH)(fs:List XE):TA:=λσ H Q=>∃(s:ZG) (ls:List PV),EnvIs K (λ_=>False) H s σ/\PB fs s=ax ls/\∀vs H' fp,Same H H'->Iss K H' ls vs fp->fp.Nodup->(∀p∈fp,H p=aA/\UU (H' p))->Q vs H'
noncomputable def VA(X:Cx)(es:List bO)(fs:List XE):Prop:=PA X es (tFA X.K fs)
noncomputable def VMA(X:Cx)(es:List bO)(fs:List XE):Prop:=PA X es (tMA X.K fs)
section
variable {X:Cx} {e:bO} {es:List bO} {f:XE} {fs:List XE} {pos:dw} {k:Nat}
theorem PA.imp{t t':TA}(h:PA X es t)(i:∀a H Q,t' a H Q->t a H Q):PA X es t':=λpos b s a H Q I q=>h pos b s a H Q I (i a H Q q)
theorem Qg:VA X [] []:=PA.imp Y0 λb H Q ⟨c,s,ls,hd,env,e,k⟩=>by
 cases e;exact k [] H [] (Same.refl H) Iss.nil λp a=>by simp at a
theorem Wx(n:VE X e f)(m:VA X es fs)(d:aP (e::es) X.env=(aB,eval e X.env)::aP es X.env:=by rfl):VA X (e::es) (f::fs):=PA.imp (Z2 n m d) λy H Q ⟨b,s,ls,hd,env,e,k⟩=>by
 obtain⟨l,j,g,q,rfl⟩:=OS e;refine⟨b,s,l,hd,env,g,λx w f1 s1 t c=>⟨b,s,j,λp a=>Same.mut s1 (hd p a),env.mono s1,q,λxs i v s2 u o=>?_⟩⟩;refine k _ i (f1++v) (s1.trans s2) (Iss.cons (t.mono s2) u) λp a=>?_;rcases aV.mp a with h | h
 ·exact c p h
 ·exact o p h
theorem YS:VMA X [] []:=PA.imp Y0 λb H Q ⟨s,ls,env,e,k⟩=>by
 cases e;exact k [] H [] (Same.refl H) Iss.nil cH λp a=>by simp at a
theorem Wj(d:VM X e f)(q:VMA X es fs)(j:aP (e::es) X.env=(aB,eval e X.env)::aP es X.env:=by rfl):VMA X (e::es) (f::fs):=PA.imp (Z2 d q j) λD H Q ⟨s,ls,env,e,k⟩=>by
 obtain⟨o,n,l,t,rfl⟩:=OS e;refine⟨s,o,env,l,λx C f1 s1 u w c=>⟨s,n,env.mono s1,t,λxs m B s2 y i g=>?_⟩⟩;refine k _ m (f1++B) (s1.trans s2) (Iss.cons (u.mono s2) y) ?_ λp A=>?_
 ·refine cN.mpr ⟨w,i,λa d b v z=>?_⟩;subst z;exact Xn (c a d).2 (g a v).1
 ·rcases aV.mp A with h | h
  ·exact⟨(c p h).1,Same.mut s2 (c p h).2⟩
  ·exact⟨Same.off s1 (g p h).1,(g p h).2⟩
noncomputable def Wy(fs:List XE):XE:=λs=>(PB fs s).map .tup
noncomputable def Wz(fs:List XE):XE:=λs=>(PB fs s).map .lst
theorem map_some{c d:Type}{o:Option c}{g:c->d}{b:d}(h:o.map g=ax b):∃a,o=ax a/\b=g a:=by
 cases o with
 | none=>cases h
 | some a=>cases h;exact⟨a,rfl,rfl⟩
theorem X2(h:VA X es fs)(j:fs.length<=1000:=by decide):VE X (.Tuple es k pos) (Wy fs):=PE.imp (H9 h) λm H Q ⟨f,s,l,hd,env,e,q⟩=>by
 obtain⟨ls,c,rfl⟩:=map_some e;refine⟨f,s,ls,hd,env,c,λvs i g s1 a d=>⟨?_,λp b=>?_⟩⟩
 ·rw[a.len,Ue c];exact cJ (lt_size (by omega))
 ·exact q _ _ g (s1.trans (Same.new b _)) (Is.tup Zk (a.mono (Same.new b _))) d
theorem Zi0(h:VMA X es fs)(n:fs.length<=1000:=by decide):VM X (.Tuple es k pos) (Wy fs):=PE.imp (H9 h) λo H Q ⟨s,l,env,e,q⟩=>by
 obtain⟨ls,g,rfl⟩:=map_some e;refine⟨s,ls,env,g,λvs m j s1 f i c=>⟨?_,λp b=>?_⟩⟩
 ·rw[f.len,Ue g];exact cJ (lt_size (by omega))
 ·exact q _ _ j (s1.trans (Same.new b _)) (Is.tup Zk (f.mono (Same.new b _))) i λa d=>⟨(c a d).1,Same.mut (Same.new b _) (c a d).2⟩
theorem OT(h:VA X es fs)(m:fs.length<=1000:=by decide):VE X (.List es pos) (Wz fs):=PE.imp (BO h) λn H Q ⟨i,s,l,hd,env,e,q⟩=>by
 obtain⟨ls,f,rfl⟩:=map_some e;refine⟨i,s,ls,hd,env,f,λvs k j s1 d g=>⟨?_,λp c=>?_⟩⟩
 ·rw[d.len,Ue f];exact cJ (lt_size (by omega))
 ·refine q _ _ (p::j) (s1.trans (Same.new c _)) (Is.lst Zk (d.mono (Same.new c _))) λa b z=>?_;rcases aa.mp b with rfl | b
  ·exact Xn (Same.mut s1 (hd a z)) c
  ·exact g a b z
theorem XA(h:VMA X es fs)(m:fs.length<=1000:=by decide):VM X (.List es pos) (Wz fs):=PE.imp (BO h) λn H Q ⟨s,l,env,e,q⟩=>by
 obtain⟨ls,g,rfl⟩:=map_some e;refine⟨s,ls,env,g,λvs k j s1 f i d=>⟨?_,λp b=>?_⟩⟩
 ·rw[f.len,Ue g];exact cJ (lt_size (by omega))
 ·refine q _ _ (p::j) (s1.trans (Same.new b _)) (Is.lst Zk (f.mono (Same.new b _))) (aq.mpr ⟨λz=>Xn (d p z).2 b,i⟩) λa c=>?_;rcases aa.mp c with rfl | c
  ·exact⟨Same.off s1 b,by rw[Zk];exact b8⟩
  ·exact⟨(d a c).1,Same.mut (Same.new b _) (d a c).2⟩
theorem Ai:VM X (.Dict [] [] pos) (eC (.dT [] [])):=PE.imp BY λd H Q ⟨s,l,env,e,q⟩ p b=>by
 cases e;exact q _ _ [p] (Same.new b _) (Is.dT Zk rfl Iss.nil) (by simp) λa c=>by rw[aM.mp c];exact⟨b,by rw[Zk];exact b8⟩
end
noncomputable def Y5(K:aH)(D:List PV->Option PV)(n:Nat):Sp:=λvs H Q _=>vs.length=n/\∃ls fp l,Iss K H ls vs fp/\D ls=ax l/\∀v H' fq,Same H H'->Is K H' l v fq->fq.Nodup->(∀p∈fq,H p=aA/\UU (H' p))->Q v H'
noncomputable def Ze(D:List PV->Option PV)(fs:List XE):XE:=λs=>(PB fs s).bind D
theorem Zc{c d:Type}{o:Option c}{g:c->Option d}{b:d}(h:o.bind g=ax b):∃a,o=ax a/\g a=ax b:=by
 cases o with
 | none=>cases h
 | some a=>exact⟨a,rfl,h⟩
section
variable {X:Cx} {x:bH} {ps:List bH} {k:Nat} {e:bO} {es:List bO} {fs:List XE} {p pos:dw}
theorem Em{D:List PV->Option PV}{n:Nat}(C:Xi X.prog X.w X.K X.mg X.base x ps (Y5 X.K D n) k)(u:Room k X.A)(m:Gl X x)(b:VA X (e::es) fs)(o:fs.length=n:=by rfl)
  (c:(x==("__debug__" : bH))=aB:=by decide) (y:aP (e::es) X.env=(aB,eval e X.env)::aP es X.env:=by rfl) (d:(dC pos (aP es X.env)).any (·.1)=aB:=by rfl) :
  VM X (.Call (.Name x p) (e::es) [] pos) (Ze D fs):=PE.imp (Ziv C u m b c y d) λG H Q ⟨s,l,env,e,q⟩=>by
 obtain⟨ls,h,A⟩:=Zc e;refine⟨λ_=>False,s,ls,λ_ z=>z.elim,env,h,λvs j E s1 g F=>?_⟩;show Y5 X.K D n (vs++[]) j Q E0;rw[dX];exact⟨by rw[g.len,Ue h,o],ls,E,l,g,A,λv t w s2 B i f=>q v t w (s1.trans s2) B i λa b=>⟨Same.off s1 (f a b).1,(f a b).2⟩⟩
end
noncomputable def RC(K:aH)(r:List V->Hp->VK->Prop)(g:List PV->Option PV):Prop:=∀(H:Hp)(vs:List V)(ls:List PV)(l:PV)(fp:List aL),Iss K H ls vs fp->g ls=ax l->∀Q:VK,
 (∀v H' fq,Same H H'->Is K H' l v fq->(∀p∈fq,p∈fp\/H p=aA)->Q v H')->r vs H Q
noncomputable def RCM(K:aH)(r:List V->Hp->VK->Prop)(g:List PV->Option PV):Prop:=∀(H:Hp)(vs:List V)(ls:List PV)(l:PV)(fp:List aL),Iss K H ls vs fp->g ls=ax l->∀Q:VK,
 (∀v H' fq,Same H H'->Is K H' l v fq->fq.Nodup->(∀p∈fq,H p=aA/\UU (H' p))->Q v H')->r vs H Q
theorem Zg6{r:List V->Hp->VK->Prop}{g:List PV->Option PV}{fs:List XE}(f:RC K r g):∀a H Q,tF K (Ze g fs) a H Q->tCB r (tFA K fs) a H Q:=λa H Q ⟨m,s,l,hd,env,e,k⟩=>by
 obtain⟨ls,t,o⟩:=Zc e;refine⟨m,s,ls,hd,env,t,λvs b w s1 n c=>f b vs ls l w n o Q λv d j s2 q i=>k v d j (s1.trans s2) q λp u z=>?_⟩;rcases i p u with h | h
 ·exact c p h z
 ·exact Xn (Same.mut s1 (hd p z)) h
theorem Zg7{r:List V->Hp->VK->Prop}{g:List PV->Option PV}{fs:List XE}(i:RCM K r g):∀a H Q,tM K (Ze g fs) a H Q->tCB r (tFA K fs) a H Q:=λa H Q ⟨s,l,env,e,k⟩=>by obtain⟨ls,q,n⟩:=Zc e;exact⟨λ_=>False,s,ls,λ_ z=>z.elim,env,q,λvs f t s1 m u=>i f vs ls l t m n Q λv h j s2 o d b=>k v h j (s1.trans s2) o d λp c=>⟨Same.off s1 (b p c).1,(b p c).2⟩⟩
section
variable {X:Cx} {x:bH} {k:Nat} {e:bO} {es:List bO} {fs:List XE} {p pos:dw} {id T:String} {r:List V->Hp->VK->Prop} {g:List PV->Option PV}
theorem Ig(i:XW X (.builtin id) r)(j:RC X.K r g)(c:Gl X x)(l:X.mg x=aA)(d:dB x=ax (.builtin id))(k:VA X (e::es) fs)(f:x≠"__name__":=by decide)(b:(x==("__debug__" : bH))=aB:=by decide)
  (h:aP (e::es) X.env=(aB,eval e X.env)::aP es X.env:=by rfl) (a:(dC pos (aP es X.env)).any (·.1)=aB:=by rfl):VE X (.Call (.Name x p) (e::es) [] pos) (Ze g fs):=
 PE.imp (JY i c l d k f b h a) (Zg6 j)
theorem Aj(i:XW X (.builtin id) r)(j:RCM X.K r g)(c:Gl X x)(l:X.mg x=aA)(d:dB x=ax (.builtin id))(k:VA X (e::es) fs)(f:x≠"__name__":=by decide)(b:(x==("__debug__" : bH))=aB:=by decide)
  (h:aP (e::es) X.env=(aB,eval e X.env)::aP es X.env:=by rfl) (a:(dC pos (aP es X.env)).any (·.1)=aB:=by rfl):VM X (.Call (.Name x p) (e::es) [] pos) (Ze g fs):=
 PE.imp (JY i c l d k f b h a) (Zg7 j)
theorem ZK(i:XW X (.type T) r)(j:RC X.K r g)(c:Gl X x)(l:X.mg x=aA)(d:dB x=ax (.type T))(k:VA X (e::es) fs)(f:x≠"__name__":=by decide)(b:(x==("__debug__" : bH))=aB:=by decide)
  (h:aP (e::es) X.env=(aB,eval e X.env)::aP es X.env:=by rfl) (a:(dC pos (aP es X.env)).any (·.1)=aB:=by rfl):VE X (.Call (.Name x p) (e::es) [] pos) (Ze g fs):=
 PE.imp (Lb i c l d k f b h a) (Zg6 j)
theorem Qh(i:XW X (.type T) r)(j:RCM X.K r g)(c:Gl X x)(l:X.mg x=aA)(d:dB x=ax (.type T))(k:VA X (e::es) fs)(f:x≠"__name__":=by decide)(b:(x==("__debug__" : bH))=aB:=by decide)
  (h:aP (e::es) X.env=(aB,eval e X.env)::aP es X.env:=by rfl) (a:(dC pos (aP es X.env)).any (·.1)=aB:=by rfl):VM X (.Call (.Name x p) (e::es) [] pos) (Ze g fs):=
 PE.imp (Lb i c l d k f b h a) (Zg7 j)
end
theorem Iss.one_inv{H:Hp}{l:PV}{vs:List V}{c:List aL}(h:Iss K H [l] vs c):∃v,vs=[v]/\Is K H l v c:=by obtain⟨x,r,f1,d,rfl,a,b,rfl⟩:=h.inv;rw[b.1,b.2,dX];exact⟨x,rfl,a⟩
theorem Iss.two_inv{H:Hp}{l m:PV}{vs:List V}{e:List aL}(h:Iss K H [l,m] vs e):∃v w f1 d,vs=[v,w]/\Is K H l v f1/\Is K H m w d/\e=f1++d:=by obtain⟨x,r,f1,d,rfl,a,b,rfl⟩:=h.inv;obtain⟨y,rfl,c⟩:=b.one_inv;exact⟨x,y,f1,d,rfl,a,c,rfl⟩
noncomputable def PD:PV->Option (List PV)
 | .lst l=>ax l
 | .cst l=>ax l
 | .tup l=>ax l
 | _=>aA
theorem Ug{H:Hp}{l:PV}{v:V}{f:List aL}{m:List PV}(h:Is K H l v f)(e:PD l=ax m):∃p xs d,v = .ref p/\(SqL K H p xs\/SqT K H p xs)/\Iss K H m xs d/\∀q∈d,q∈f:=by
 cases l with
 | lst l=>
  cases e;obtain⟨p,xs,d,rfl,c,b,rfl⟩:=h.lst_inv;exact⟨p,xs,d,rfl,.inl (SqL.of c),b,λq a=>aN _ a⟩
 | cst l=>
  cases e;obtain⟨p,xs,rfl,c,b⟩:=h.cst_inv;exact⟨p,xs,f,rfl,.inl c.sq,b,λq a=>a⟩
 | tup l=>
  cases e;obtain⟨p,xs,rfl,c,b⟩:=h.tup_inv;exact⟨p,xs,f,rfl,.inr (SqT.of c),b,λq a=>a⟩
 | _=>cases e
noncomputable def ZN:List PV->Option PV
 | [.str z]=>if z.length<=sizeLine then ax (.int z.length) else aA
 | [l]=>(PD l).map λm=>.int m.length
 | _=>aA
theorem Zi1:RC K (λxs H Q=>∃x n,xs=[x]/\Zk6 K x H n/\Q (.int n) H) ZN:=λH vs ls l f h e Q k=>by
 unfold ZN at e;split at e
 ·split at e
  ·cases e;obtain⟨v,rfl,i⟩:=h.one_inv;exact⟨v,_,rfl,by rw[i.str_inv.1];exact⟨by assumption,rfl⟩,k _ H [] (Same.refl H) (Is.int _) λp a=>by simp at a⟩
  ·cases e
 ·obtain⟨m,c,rfl⟩:=map_some e;obtain⟨v,rfl,i⟩:=h.one_inv;obtain⟨p,xs,d,rfl,a,b,_⟩:=Ug i c;refine⟨_,xs.length,rfl,?_,?_⟩
  ·rcases a with a | a
   ·exact .inl ⟨xs,a,rfl⟩
   ·exact .inr ⟨xs,a,rfl⟩
  ·rw[b.len];exact k _ H [] (Same.refl H) (Is.int _) λp a=>by simp at a
 ·cases e
noncomputable def Z1:List PV->Option PV
 | [l]=>(PD l).map .tup
 | _=>aA
theorem ZW:RC K (Ziw K) Z1:=λH vs ls l j h e Q k=>by
 unfold Z1 at e;split at e
 ·obtain⟨m,g,rfl⟩:=map_some e;obtain⟨v,rfl,i⟩:=h.one_inv;rename_i n
  cases n with
  | tup l=>
   cases g;obtain⟨p,xs,rfl,d,f⟩:=id i.tup_inv;exact⟨p,xs,rfl,.inr ⟨SqT.of d,k _ H j (Same.refl H) i λa b=>.inl b⟩⟩
  | lst l=>
   cases g;obtain⟨p,xs,o,rfl,d,f,rfl⟩:=i.lst_inv;exact⟨p,xs,rfl,.inl ⟨SqL.of d,λq c=>k _ _ o (Same.new c _) (Is.tup Zk (f.mono (Same.new c _))) λa b=>.inl (aN _ b)⟩⟩
  | cst l=>
   cases g;obtain⟨p,xs,rfl,d,f⟩:=i.cst_inv;exact⟨p,xs,rfl,.inl ⟨d.sq,λq c=>k _ _ j (Same.new c _) (Is.tup Zk (f.mono (Same.new c _))) λa b=>.inl b⟩⟩
  | _=>cases g
 ·cases e
noncomputable def Vr:List PV->Option PV
 | [l]=>(PD l).bind λm=>if ZC m=aC then ax (.lst m) else aA
 | _=>aA
theorem OU:RCM K (Zdz K) Vr:=λH vs ls l s h e Q k=>by
 unfold Vr at e;split at e
 ·obtain⟨m,j,c⟩:=Zc e;split at c
  ·cases c;obtain⟨v,rfl,i⟩:=h.one_inv;obtain⟨p,xs,o,rfl,g,d,n⟩:=Ug i j;have:=Iss.pure _ _ _ (by assumption) d;subst this;refine⟨p,xs,rfl,g,λq b=>k _ _ [q] (Same.new b _) (Is.lst Zk (d.mono (Same.new b _))) (by simp) λa f=>?_⟩;rw[aM.mp f];exact⟨b,by rw[Zk];exact b8⟩
  ·cases c
 ·cases e
noncomputable def Ys:List PV->Option (List Int)
 | []=>ax []
 | .int i::r=>(Ys r).map (i::·)
 | _=>aA
theorem Yc:∀l:List Int,Ys (iL l)=ax l
 | []=>rfl
 | i::r=>by show(Ys (iL r)).map (i::·)=_;rw[Yc r];rfl
theorem Yd:∀{m:List PV}{l:List Int},Ys m=ax l->m=iL l
 | [],l,h=>by cases h;rfl
 | .int i::r,l,h=>by obtain⟨a,e,rfl⟩:=map_some (show(Ys r).map (i::·)=ax l from h);rw[Yd e];rfl
 | .non::_,_,h=>by cases h
 | .bl _::_,_,h=>by cases h
 | .str _::_,_,h=>by cases h
 | .ty _::_,_,h=>by cases h
 | .exc _::_,_,h=>by cases h
 | .exf _ _::_,_,h=>by cases h
 | .clo _ _::_,_,h=>by cases h
 | .tup _::_,_,h=>by cases h
 | .lst _::_,_,h=>by cases h
 | .cst _::_,_,h=>by cases h
 | .dK _ _::_,_,h=>by cases h
 | .dT _ _::_,_,h=>by cases h
abbrev bL(l:List Bool):List PV:=l.map PV.bl
noncomputable def TL:List PV->Option (List Bool)
 | []=>ax []
 | .bl i::r=>(TL r).map (i::·)
 | _=>aA
theorem Sx:∀l:List Bool,TL (bL l)=ax l
 | []=>rfl
 | i::r=>by show(TL (bL r)).map (i::·)=_;rw[Sx r];rfl
theorem Rk:∀{m:List PV}{l:List Bool},TL m=ax l->m=bL l
 | [],l,h=>by cases h;rfl
 | .bl i::r,l,h=>by obtain⟨a,e,rfl⟩:=map_some (show(TL r).map (i::·)=ax l from h);rw[Rk e];rfl
 | .non::_,_,h=>by cases h
 | .int _::_,_,h=>by cases h
 | .str _::_,_,h=>by cases h
 | .ty _::_,_,h=>by cases h
 | .exc _::_,_,h=>by cases h
 | .exf _ _::_,_,h=>by cases h
 | .clo _ _::_,_,h=>by cases h
 | .tup _::_,_,h=>by cases h
 | .lst _::_,_,h=>by cases h
 | .cst _::_,_,h=>by cases h
 | .dK _ _::_,_,h=>by cases h
 | .dT _ _::_,_,h=>by cases h
theorem Iss.bL{H:Hp}:∀{l:List Bool}{xs:List V}{fp:List aL},Iss K H (VL.bL l) xs fp->xs=l.map V.bl/\fp=[]
 | [],xs,fp,h=>by simpa only[VL.bL,fX,Iss] using h
 | i::l,xs,fp,h=>by obtain⟨x,r,f1,c,rfl,b,a,rfl⟩:=Iss.inv (show Iss K H (PV.bl i::VL.bL l) xs fp from h);obtain⟨rfl,rfl⟩:=b.bl_inv;obtain⟨rfl,rfl⟩:=a.bL;exact⟨rfl,rfl⟩
theorem Gm{H:Hp}{p:aL}{xs:List V}(h:SqL K H p xs\/SqT K H p xs):∃b,MH b K H p xs:=by
 rcases h with h | h
 ·exact⟨aC,h⟩
 ·exact⟨aB,h⟩
noncomputable def Rq:List PV->Option PV
 | [l]=>(PD l).bind λm=>(Ys m).map λns=>.int ns.sum
 | _=>aA
noncomputable def Kv:List PV->Option PV
 | [l]=>(PD l).bind λm=>(TL m).map λbs=>.bl (bs.all id)
 | _=>aA
theorem SH:RC K (λxs H Q=>∃(b:Bool) (p:aL) (ns:List Int),xs=[.ref p]/\MH b K H p (ns.map V.int)/\Q (.int ns.sum) H) Rq:=λH vs ls l s h e Q k=>by
 unfold Rq at e;split at e
 ·obtain⟨m,j,f⟩:=Zc e;obtain⟨ns,g,rfl⟩:=map_some f;obtain⟨v,rfl,i⟩:=h.one_inv;obtain⟨p,xs,q,rfl,a,c,o⟩:=Ug i j;have n:=Yd g;subst n;obtain⟨rfl,rfl⟩:=c.iL;obtain⟨b,d⟩:=Gm a;exact⟨b,p,ns,rfl,d,k _ H [] (Same.refl H) (Is.int _) λp a=>by simp at a⟩
 ·cases e
theorem Ak:RC K (λxs H Q=>∃(b:Bool) (p:aL) (bs:List Bool),xs=[.ref p]/\MH b K H p (bs.map V.bl)/\Q (.bl (bs.all id)) H) Kv:=λH vs ls l s h e Q k=>by
 unfold Kv at e;split at e
 ·obtain⟨m,j,f⟩:=Zc e;obtain⟨ns,g,rfl⟩:=map_some f;obtain⟨v,rfl,i⟩:=h.one_inv;obtain⟨p,xs,q,rfl,a,c,o⟩:=Ug i j;have n:=Rk g;subst n;obtain⟨rfl,rfl⟩:=c.bL;obtain⟨b,d⟩:=Gm a;exact⟨b,p,ns,rfl,d,k _ H [] (Same.refl H) (Is.bl _) λp a=>by simp at a⟩
 ·cases e
noncomputable def Zlv:List PV->Option PV
 | [.int i,.int j]=>ax (.int (if j<i then j else i))
 | _=>aA
noncomputable def En:List PV->Option PV
 | [.int i,.int j]=>ax (.int (if j>i then j else i))
 | _=>aA
noncomputable def OV:List PV->Option PV
 | [.int i]=>ax (.int i)
 | [.bl c]=>ax (.int (if c then 1 else 0))
 | _=>aA
theorem Zd6:RC K (λxs H Q=>∃i j,xs=[.int i,.int j]/\Q (.int (if j>i then j else i)) H) En:=λH vs ls l d h e Q k=>by
 unfold En at e;split at e
 ·cases e;obtain⟨v,w,f1,f,rfl,a,b,rfl⟩:=h.two_inv;exact⟨_,_,by rw[a.int_inv.1,b.int_inv.1],k _ H [] (Same.refl H) (Is.int _) λp c=>by simp at c⟩
 ·cases e
theorem Zd7:RC K (λxs H Q=>(∃i,xs=[.int i]/\Q (.int i) H)\/∃k,xs=[.bl k]/\Q (.int (if k then 1 else 0)) H) OV:=λH vs ls l c h e Q k=>by
 unfold OV at e;split at e
 ·cases e;obtain⟨v,rfl,a⟩:=h.one_inv;exact .inl ⟨_,by rw[a.int_inv.1],k _ H [] (Same.refl H) (Is.int _) λp b=>by simp at b⟩
 ·cases e;obtain⟨v,rfl,a⟩:=h.one_inv;exact .inr ⟨_,by rw[a.bl_inv.1],k _ H [] (Same.refl H) (Is.int _) λp b=>by simp at b⟩
 ·cases e
section
variable {X:Cx} {e:bO} {es:List bO} {fs:List XE} {p pos:dw}
noncomputable def tyP:PV->Option String
 | .int _=>ax "int"
 | .bl _=>ax "bool"
 | .tup _=>ax "tuple"
 | .lst _=>ax "list"
 | .str _=>ax "str"
 | _=>aA
noncomputable def UK:List PV->Option PV
 | [a,.ty t]=>(tyP a).bind λu=>if t=u then ax (.bl aC) else if u = "int"/\t = "bool" then ax (.bl aB) else aA
 | _=>aA
theorem MP:dO K (.type "bool") (.type "bool")=ax aC:=rfl
theorem Zi2{H:Hp}{a:PV}{u:String}{v:V}{f:List aL}(e:tyP a=ax u)(h:Is K H a v f):TyOf K H v (.type u)/\dO K (.type u) (.type u)=ax aC:=by
 cases a<;>first
  | exact nomatch (show aA=ax u from e)
  | cases e
 ·obtain⟨rfl,_⟩:=h.bl_inv;exact⟨TyOf.bl _,MP⟩
 ·obtain⟨rfl,_⟩:=h.int_inv;exact⟨TyOf.int _,J7⟩
 ·obtain⟨rfl,_⟩:=h.str_inv;exact⟨TyOf.str _,J9⟩
 ·obtain⟨q,xs,rfl,b,_⟩:=h.tup_inv;exact⟨TyOf.tup b,J8⟩
 ·obtain⟨q,xs,c,rfl,b,_⟩:=h.lst_inv;exact⟨TyOf.lst b,MN⟩
theorem Oa:RC K (λxs H Q=>∃x T t b,xs=[x,.ty T]/\TyOf K H x t/\dO K t (.type T)=ax b/\Q (.bl b) H) UK:=λH vs ls l m h e Q k=>by
 have c:∀b:Bool,l = .bl b->Q (.bl b) H:=λb z=>by subst z;exact k _ H [] (Same.refl H) (Is.bl _) λp i=>by simp at i
 unfold UK at e;split at e
 ·obtain⟨u,j,d⟩:=Zc e;obtain⟨v,w,f1,n,rfl,a,b,rfl⟩:=h.two_inv;obtain⟨f,g⟩:=Zi2 j a;split at d
  ·rename_i z;subst z;cases d;exact⟨_,_,_,_,by rw[b.ty_inv.1],f,g,c _ rfl⟩
  ·split at d
   ·rename_i z;obtain⟨rfl,rfl⟩:=z;cases d;exact⟨_,_,_,_,by rw[b.ty_inv.1],f,Kn,c _ rfl⟩
   ·cases d
 ·cases e
theorem Eo{x:bH}{n:String}(a:Gl X x)(d:X.mg x=aA)(b:dB x=ax (.type n))(c:x≠"__name__":=by decide)(hd:(x==("__debug__" : bH))=aB:=by decide):VE X (.Name x pos) (eC (.ty n)):=
 B8 (Zc7 a d b (v:=.ty n) rfl c hd) λ_=>Is.ty n
end
end VL
namespace VL
open PySem PySem.Spec PyProof.Rows L2
variable {K:aH}
open Classical in
instance:DecidableEq PV:=λa b=>propDecidable (a=b)
noncomputable def UQ:Nat->PV->PV->Bool
 | _+1,.non,.non=>aC
 | _+1,.bl _,.bl _=>aC
 | _+1,.int _,.int _=>aC
 | _+1,.str _,.str _=>aC
 | n+1,.tup l,.tup m=>(l.zip m).all λz=>UQ n z.1 z.2
 | n+1,.lst l,.lst m=>(l.zip m).all λz=>UQ n z.1 z.2
 | _,_,_=>aB
theorem Rr{c d:Type}{p:c×d->Bool}{a:c}{b:d}{l:List c}{m:List d}(h:((a::l).zip (b::m)).all p=aC):p (a,b)=aC/\(l.zip m).all p=aC:=by rw[dG,jz,aw] at h;exact h
theorem Iss.inj'{n:Nat}{H:Hp}(c:∀a b v fa fb,UQ n a b=aC->Is K H a v fa->Is K H b v fb->a=b):∀{l m:List PV}{xs:List V}{fa fb:List aL},(l.zip m).all (λz=>UQ n z.1 z.2)=aC->Iss K H l xs fa->Iss K H m xs fb->l=m
 | [],m,xs,fa,fb,_,h,h'=>by
  simp only[Iss] at h;rw[h.1] at h';have:=h'.len
  cases m with
  | nil=>rfl
  | cons _ _=>simp at this
 | a::l,m,xs,fa,fb,hc,h,h'=>by
  obtain⟨x,r,f1,q,rfl,f,j,rfl⟩:=h.inv
  cases m with
  | nil=>have:=h'.len;simp at this
  | cons b m=>
   obtain⟨p,o,i,k,e,g,d,rfl⟩:=h'.inv;cases e;obtain⟨c1,c2⟩:=Rr hc;rw[c a b x f1 i c1 f g,Iss.inj' c c2 j d]
theorem Is.inj'{H:Hp}:∀(n:Nat)(a b:PV)(v:V)(fa fb:List aL),UQ n a b=aC->Is K H a v fa->Is K H b v fb->a=b
 | 0,a,b,v,fa,fb,hc,_,_=>nomatch (show aB=aC from hc)
 | n+1,a,b,v,fa,fb,hc,ha,hb=>by
  cases a<;>cases b<;>first
   | exact nomatch (show aB=aC from hc)
   | skip
  ·rfl
  ·rw[ha.bl_inv.1] at hb;have:=hb.bl_inv.1;cases this;rfl
  ·rw[ha.int_inv.1] at hb;have:=hb.int_inv.1;cases this;rfl
  ·rw[ha.str_inv.1] at hb;have:=hb.str_inv.1;cases this;rfl
  ·obtain⟨p,xs,rfl,g,f⟩:=ha.tup_inv;obtain⟨j,h,e,c,d⟩:=hb.tup_inv;cases e;rw[g] at c;cases c;rw[Iss.inj' (Is.inj' n) hc f d]
  ·obtain⟨p,xs,k,rfl,g,f,_⟩:=ha.lst_inv;obtain⟨j,h,i,e,c,d,_⟩:=hb.lst_inv;cases e;rw[g] at c;cases c;rw[Iss.inj' (Is.inj' n) hc f d]
section
variable {X:Cx} {p0:List (aL×dW)} {σ:Pw} {H:Hp} {s:aO} {A:bq}
theorem Gn{n:Nat}(i:∀a b x y fa fb u w,UQ n a b=aC->Is K H a x fa->Is K H b y fb->RelV x u->RelV y w->∃r,kh A s u w r/\(r=aC↔a=b)) :
  ∀{l m:List PV}{xs ys:List V}{fa fb:List aL}{us ws:List aI},(l.zip m).all (λz=>UQ n z.1 z.2)=aC->Iss K H l xs fa->Iss K H m ys fb->Vals xs us->Vals ys ws->
  ∃e:Nat->Bool,(∀j (c:j<us.length) (d:j<ws.length),kh A s us[j] ws[j] (e j))/\((aD (min us.length ws.length)).all e=aC↔l.take (min us.length ws.length)=m.take (min us.length ws.length))
 | [],m,xs,ys,fa,fb,us,ws,_,h,_,r,_=>by simp only[Iss] at h;obtain⟨rfl,_⟩:=h;cases r;exact⟨λ_=>aC,λj c=>by simp at c,by simp⟩
 | a::l,[],xs,ys,fa,fb,us,ws,_,_,h,_,r=>by simp only[Iss] at h;obtain⟨rfl,_⟩:=h;cases r;exact⟨λ_=>aC,λj c d=>by simp at d,by simp⟩
 | a::l,b::m,xs,ys,fa,fb,us,ws,hc,h,h',r,r'=>by
  obtain⟨x,E,f1,I,rfl,c,d,rfl⟩:=h.inv;obtain⟨y,G,D,F,rfl,B,p,rfl⟩:=h'.inv;obtain⟨c1,c2⟩:=Rr hc
  cases r with
  | cons q v=>cases r' with
   | cons q' v'=>
    obtain⟨t,o,f⟩:=i a b x y f1 D _ _ c1 c B q q';obtain⟨e,C,g⟩:=Gn i c2 d p v v';refine⟨λj=>match j with | 0=>t | k+1=>e k,λj c d=>?_,?_⟩
    ·cases j with
     | zero=>exact o
     | succ k=>exact C k (by simpa using c) (by simpa using d)
    ·simp only[az,Nat.succ_min_succ,fu,jz,jT,aw,List.take_succ_cons,oN];exact and_congr f g
theorem Iss.same'{l m:List PV}{xs e:List V}{f fb:List aL}{d c:List aI}(h:Iss K H l xs f)(h':Iss K H m e fb)(r:Vals xs d)(g:Vals e c) :
  (l.take (min d.length c.length)=m.take (min d.length c.length)/\d.length=c.length)↔l=m:=by
 have n:=h.len;have j:=h'.len;have k:=r.length;have i:=g.length;constructor
 ·rintro⟨a,b⟩;rw[bY (by omega),bY (by omega)] at a;exact a
 ·intro a;subst a;exact⟨rfl,by omega⟩
noncomputable def Zg8(A:bq)(s:aO)(u w:aI)(r:Bool):Prop:=SeqAt.RcAt A s u w r/\SeqAt.RcNeAt A s u w !r
theorem OW(I:Inv X p0 σ H s):∀(n:Nat)(A:bq)(a b:PV)(x y:V)(z fb:List aL)(u w:aI),A.units+2*n+2<dz->UQ n a b=aC->Is K H a x z->Is K H b y fb->RelV x u->RelV y w->
  (∃r,kh A s u w r/\(r=aC↔a=b))/\∃r,Zg8 A s u w r/\(r=aC↔a=b)
 | 0,A,a,b,x,y,z,fb,u,w,hu,hc,_,_,_,_=>nomatch (show aB=aC from hc)
 | n+1,A,a,b,x,y,z,fb,u,w,hu,hc,ha,hb,ru,Xp=>by
  cases a<;>cases b<;>first
   | exact nomatch (show aB=aC from hc)
   | skip
  ·rw[ha.non_inv.1] at ru;rw[hb.non_inv.1] at Xp;cases ru;cases Xp;exact⟨⟨aC,lI _,by simp⟩,aC,⟨SeqAt.RcAt.none_none,SeqAt.RcNeAt.none_none⟩,by simp⟩
  ·rw[ha.bl_inv.1] at ru;rw[hb.bl_inv.1] at Xp;cases ru;cases Xp;exact⟨⟨_,kh.bool_bool _ _,by simp⟩,_,⟨SeqAt.RcAt.bool_bool _ _,SeqAt.RcNeAt.bool_bool _ _⟩,by simp⟩
  ·rw[ha.int_inv.1] at ru;rw[hb.int_inv.1] at Xp;obtain⟨t,rfl⟩:=ru;obtain⟨t',rfl⟩:=Xp;exact⟨⟨_,mx _ _ _ _,by simp⟩,_,⟨SeqAt.RcAt.int_int _ _ _ _,SeqAt.RcNeAt.int_int _ _ _ _⟩,by simp⟩
  ·rw[ha.str_inv.1] at ru;rw[hb.str_inv.1] at Xp;obtain⟨t,rfl⟩:=ru;obtain⟨t',rfl⟩:=Xp;exact⟨⟨_,kh.str_str _ _ _ _,by simp⟩,_,⟨SeqAt.RcAt.str_str _ _ _ _,SeqAt.RcNeAt.str_str _ _ _ _⟩,by simp⟩
  ·rename_i L M;obtain⟨p,xs,rfl,Q,F⟩:=id ha.tup_inv;obtain⟨C,W,rfl,m,h⟩:=id hb.tup_inv;cases ru;cases Xp;obtain⟨B,G,q,_⟩:=I.tuple (SqT.of Q);obtain⟨D,i,l,_⟩:=I.tuple (SqT.of m);obtain⟨f,E,k⟩:=Gn (A:=A.in1) (λa b x y z fb u w c P R N O=>(OW I n A.in1 a b x y z fb u w (by show A.units+1+2*n+2<dz;omega) c P R N O).1) hc F h G i;have U:=SeqAt.RcAt.tuples (A:=A) (e:=f) (show s.heap.IsTuple p B.toArray from q) (show s.heap.IsTuple C D.toArray from l) (by omega) (λj o v=>E j (by simpa using o) (by simpa using v));have Y:=SeqAt.RcNeAt.tuples (A:=A) (e:=f) (show s.heap.IsTuple p B.toArray from q) (show s.heap.IsTuple C D.toArray from l) (by omega) (λj o v=>E j (by simpa using o) (by simpa using v));have g:(((aD (min B.toArray.size D.toArray.size)).all f&&B.toArray.size==D.toArray.size)=aC)↔PV.tup L=PV.tup M:=by simp only[aU,aw,beq_iff_eq,PV.tup.injEq];rw[k];exact Iss.same' F h G i
   refine⟨?_,_,⟨U,Y⟩,g⟩;by_cases e:p=C
   ·subst e;exact⟨aC,lI _,by simp[Is.inj' (n+1) _ _ _ _ _ hc ha hb]⟩
   ·exact⟨_,my e U,g⟩
  ·rename_i L M;obtain⟨p,xs,fq,rfl,Q,F,_⟩:=id ha.lst_inv;obtain⟨C,W,Z,rfl,m,h,_⟩:=id hb.lst_inv;cases ru;cases Xp;obtain⟨B,G,q,_⟩:=I.list (SqL.of Q);obtain⟨D,i,l,_⟩:=I.list (SqL.of m);obtain⟨f,E,k⟩:=Gn (A:=A.in1) (λa b x y z fb u w c P R N O=>(OW I n A.in1 a b x y z fb u w (by show A.units+1+2*n+2<dz;omega) c P R N O).1) hc F h G i
   have J:∃r,Zg8 A s (.ref p) (.ref C) r/\(r=aC↔PV.lst L=PV.lst M):=by
    have g:=Iss.same' F h G i;by_cases d:B.length=D.length
    ·refine⟨_,⟨SeqAt.RcAt.lists (e:=f) q.isList l.isList (by simpa using d) (by omega) (λj o v=>E j (by simpa using o) (by simpa using v)),SeqAt.RcNeAt.lists (e:=f) q.isList l.isList (by simpa using d) (by omega) (λj o v=>E j (by simpa using o) (by simpa using v))⟩,?_⟩;rw[d,Nat.min_self] at k g;simp only[aU,PV.lst.injEq];rw[d,k,<-g];simp
    ·refine⟨aB,⟨SeqAt.RcAt.lists_lengths q.isList l.isList (by simpa using d) (by omega),SeqAt.RcNeAt.lists_lengths q.isList l.isList (by simpa using d) (by omega)⟩,?_⟩;rw[PV.lst.injEq,<-g];simp[d]
   obtain⟨r,S,T⟩:=J;refine⟨?_,r,S,T⟩;by_cases e:p=C
   ·subst e;exact⟨aC,lI _,by simp[Is.inj' (n+1) _ _ _ _ _ hc ha hb]⟩
   ·exact⟨r,my e S.1,T⟩
end
noncomputable def Zi3(K:aH)(neg:Bool):R2:=λx y H Q=>∃a b fa fb,Is K H a x fa/\Is K H b y fb/\UQ 8 a b=aC/\∀r:Bool,(r=aC↔a=b)->Q (.bl (if neg then !r else r)) H
section
variable {X:Cx}
theorem Al(m:X.A.units+64<dz):TH X (dH .Eq) (Zi3 X.K aB):=by intro l s n H x y v u Q I d e h;obtain⟨a,b,k,fb,g,j,c,q⟩:=h;obtain⟨_,r,f,i⟩:=OW I 8 X.A a b x y k fb v u (by omega) c g j d e;exact f.1 X.prog X.w X.xe _ ⟨.bl r,H,I,rfl,q r i⟩
theorem Zi4(m:X.A.units+64<dz):TH X (dH .NotEq) (Zi3 X.K aC):=by intro l s n H x y v u Q I d e h;obtain⟨a,b,k,fb,g,j,c,q⟩:=h;obtain⟨_,r,f,i⟩:=OW I 8 X.A a b x y k fb v u (by omega) c g j d e;exact f.2 X.prog X.w X.xe _ ⟨.bl !r,H,I,rfl,q r i⟩
end
noncomputable def Xz(neg:Bool):PV->PV->Option PV:=λa b=>if UQ 8 a b=aC then ax (.bl (if neg then !decide (a=b) else decide (a=b))) else aA
theorem Gp(c:Bool):RB K (Zi3 K c) (Xz c):=λH x y a b l i fb f g e Q k=>by
 unfold Xz at e;split at e
 ·cases e;refine⟨a,b,i,fb,f,g,by assumption,λr d=>?_⟩
  have:r=decide (a=b):=by
   cases r with
   | true=>exact(decide_eq_true (d.mp rfl)).symm
   | false=>exact(decide_eq_false λz=>bx (d.mpr z)).symm
  subst this;exact k _ H [] (Same.refl H) (Is.bl _) λp h=>by simp at h
 ·cases e
noncomputable def Zi5(K:aH)(neg:Bool):R2:=λx y H Q=>∃a b m fa fb,Is K H a x fa/\Is K H b y fb/\PD b=ax m/\(m.all λz=>UQ 8 z a)=aC/\∀r:Bool,(r=aC↔a∈m)->Q (.bl (if neg then !r else r)) H
section
variable {X:Cx} {p0:List (aL×dW)} {σ:Pw} {H:Hp} {s:aO}
theorem Ob{a:PV}{x:V}{C:List aL}{u:aI}{A:bq}(I:Inv X p0 σ H s)(U:A.units+18<dz)(P:Is K H a x C)(J:RelV x u):∀{m:List PV}{xs:List V}{fb:List aL}{i:List aI},(m.all λz=>UQ 8 z a)=aC->Iss K H m xs fb->Vals xs i->
  ∃e:aI->Bool,(∀y∈i,kh A s y u (e y))/\(i.any e=aC↔a∈m):=λ{m xs fb i} F h r=>by
 -- c one's answer
 have c:∀y∈i,∃t:Bool,kh A s y u t/\(t=aC↔∃b,b∈m/\b=a/\∃z f,Is K H b z f/\RelV z y):=λy d=>by obtain⟨j,n,e⟩:=ig.mp d;have W:=r.length;have l:xs[j]?=ax xs[j]:=aE (by omega);obtain⟨b,f,o,p,_⟩:=h.get' l;obtain⟨w,B,Xp⟩:=r.get l;rw[aE n] at B;cases B;rw[e] at Xp;have k:=av o;have v:=bK.mp F b k;obtain⟨⟨t,L,R⟩,_⟩:=OW I 8 A b a xs[j] x f C y u (by omega) v p P Xp J;refine⟨t,L,R.trans ⟨λz=>⟨b,k,z,xs[j],f,p,Xp⟩,λ⟨E,G,Q,z,Y,D,O⟩=>?_⟩⟩;have M:=O.inj Xp;subst M;subst Q;exact Is.inj' 8 b E _ _ _ v p D
 classical
 refine⟨λy=>if d:y∈i then(c y d).choose else aB,λy d=>?_,?_⟩
 ·simp only[dif_pos d];exact(c y d).choose_spec.1
 ·rw[g6];constructor
  ·rintro⟨y,d,e⟩;rw[dif_pos d] at e;obtain⟨b,o,rfl,_⟩:=(c y d).choose_spec.2.mp e;exact o
  ·intro q;obtain⟨j,n,e⟩:=ig.mp q;obtain⟨z,f,S,T,_⟩:=h.get (aE n);obtain⟨y,d,N⟩:=r.get S;have g:=av d;refine⟨y,g,?_⟩;rw[dif_pos g];exact(c y g).choose_spec.2.mpr ⟨a,q,rfl,z,f,e▸T,N⟩
end
section
variable {X:Cx}
theorem Am(E:X.A.units+64<dz):TH X (dH .In) (Zi5 X.K aB):=by
 intro D s G H x y v u Q I l z h;obtain⟨a,b,m,J,fb,n,C,B,k,q⟩:=h;obtain⟨p,xs,F,rfl,d,o,_⟩:=Ug C B;cases z;rcases d with d | d
 ·obtain⟨c,i,t,_⟩:=I.list d;obtain⟨e,f,g⟩:=Ob (A:=X.A.in1) I (by show X.A.units+1+18<dz;omega) n l k o i;refine SeqAt.in_listAt e t.isList (λw j=>f w (by simpa using j)) ⟨.bl _,H,I,rfl,?_⟩;rw[show c.toArray.any e=c.any e by simp];exact q _ g
 ·obtain⟨c,i,t,_⟩:=I.tuple d;obtain⟨e,f,g⟩:=Ob (A:=X.A.in1) I (by show X.A.units+1+18<dz;omega) n l k o i;refine SeqAt.in_tupleAt e t (λw j=>f w (by simpa using j)) ⟨.bl _,H,I,rfl,?_⟩;rw[show c.toArray.any e=c.any e by simp];exact q _ g
theorem DT(E:X.A.units+64<dz):TH X (dH .NotIn) (Zi5 X.K aC):=by
 intro D s G H x y v u Q I l z h;obtain⟨a,b,m,J,fb,n,C,B,k,q⟩:=h;obtain⟨p,xs,F,rfl,d,o,_⟩:=Ug C B;cases z;rcases d with d | d
 ·obtain⟨c,i,t,_⟩:=I.list d;obtain⟨e,f,g⟩:=Ob (A:=X.A.in1) I (by show X.A.units+1+18<dz;omega) n l k o i;refine SeqAt.notIn_listAt e t.isList (λw j=>f w (by simpa using j)) ⟨.bl _,H,I,rfl,?_⟩;rw[show c.toArray.any e=c.any e by simp];exact q _ g
 ·obtain⟨c,i,t,_⟩:=I.tuple d;obtain⟨e,f,g⟩:=Ob (A:=X.A.in1) I (by show X.A.units+1+18<dz;omega) n l k o i;refine SeqAt.notIn_tupleAt e t (λw j=>f w (by simpa using j)) ⟨.bl _,H,I,rfl,?_⟩;rw[show c.toArray.any e=c.any e by simp];exact q _ g
end
noncomputable def PF(neg:Bool):PV->PV->Option PV:=λa b=>(PD b).bind λm=>if(m.all λz=>UQ 8 z a)=aC then ax (.bl (if neg then !decide (a∈m) else decide (a∈m))) else aA
theorem Gq(c:Bool):RB K (Zi5 K c) (PF c):=λH x y a b l j fb f h e Q k=>by
 obtain⟨m,g,e⟩:=Zc e;split at e
 ·cases e;refine⟨a,b,m,j,fb,f,h,g,by assumption,λr d=>?_⟩
  have:r=decide (a∈m):=by
   cases r with
   | true=>exact(decide_eq_true (d.mp rfl)).symm
   | false=>exact(decide_eq_false λz=>bx (d.mpr z)).symm
  subst this;exact k _ H [] (Same.refl H) (Is.bl _) λp i=>by simp at i
 ·cases e
end VL
namespace VL
open PySem PySem.Spec PyProof.Rows L2
variable {K:aH}
mutual
theorem Is.dom{H:Hp}:∀(l:PV)(v:V)(fp:List aL),Is K H l v fp->∀p∈fp,H p≠aA
 | .non,_,_,h=>by simp only[Is] at h;rw[h.2];simp
 | .bl _,_,_,h=>by simp only[Is] at h;rw[h.2];simp
 | .int _,_,_,h=>by simp only[Is] at h;rw[h.2];simp
 | .str _,_,_,h=>by simp only[Is] at h;rw[h.2];simp
 | .ty _,_,_,h=>by simp only[Is] at h;rw[h.2];simp
 | .exc _,_,_,h=>by simp only[Is] at h;rw[h.2];simp
 | .exf _ _,_,_,h=>by simp only[Is] at h;rw[h.2];simp
 | .clo L l,v,fp,h=>by simp only[Is] at h;obtain⟨u,x,_,_,b⟩:=h;exact Is.dom l x fp b
 | .tup l,v,fp,h=>by obtain⟨p,xs,_,_,b⟩:=h.tup_inv;exact Iss.dom l xs fp b
 | .lst l,v,fp,h=>by
  obtain⟨p,xs,c,_,d,b,rfl⟩:=h.lst_inv;intro q a;rcases aa.mp a with rfl | a
  ·rw[d];simp
  ·exact Iss.dom l xs c b q a
 | .cst l,v,fp,h=>by obtain⟨p,xs,_,_,b⟩:=h.cst_inv;exact Iss.dom l xs fp b
 | .dK ks l,v,fp,h=>by
  obtain⟨p,f,c,_,d,_,b,rfl⟩:=h.dK_inv;intro q a;rcases aa.mp a with rfl | a
  ·rcases d with e | ⟨o,e⟩<;>rw[e]<;>simp
  ·exact Iss.dom l _ c b q a
 | .dT ks l,v,fp,h=>by
  obtain⟨p,f,c,_,d,_,b,rfl⟩:=h.dT_inv;intro q a;rcases aa.mp a with rfl | a
  ·rcases d with e | ⟨o,e⟩<;>rw[e]<;>simp
  ·exact Iss.dom l _ c b q a
theorem Iss.dom{H:Hp}:∀(l:List PV)(xs:List V)(fp:List aL),Iss K H l xs fp->∀p∈fp,H p≠aA
 | [],_,_,h=>by simp only[Iss] at h;rw[h.2];simp
 | l::ls,xs,fp,h=>by
  obtain⟨x,r,f1,d,_,c,b,rfl⟩:=h.inv;intro q a;rcases aV.mp a with a | a
  ·exact Is.dom l x f1 c q a
  ·exact Iss.dom ls r d b q a
end
noncomputable def Ab(Rm:aL->Prop)(H H':Hp):Prop:=∀b o,H b=ax o->¬Rm b->H' b=ax o
theorem Same.ab{c:aL->Prop}{H a:Hp}(s:Same H a):Ab c H a:=λb o h _=>s b o h
theorem Ab.tk{c:aL->Prop}{H d:Hp}(a:Ab c H d)(hd:∀p,c p->UU (H p)):TK2 H d:=⟨λb xs h=>a b _ h λz=>by
 have:=hd b z
 rw[h] at this;exact this,λb o xs h=>a b _ h λz=>by
 have:=hd b z
 rw[h] at this;exact this,λb o x h=>a b _ h λz=>by
 have:=hd b z;rw[h] at this;exact this⟩
theorem Is.ab{c:aL->Prop}{H d:Hp}(a:Ab c H d)(hd:∀p,c p->UU (H p)){l:PV}{v:V}{b:List aL}(n:∀p∈b,¬c p)(h:Is K H l v b):Is K d l v b:=
 Is.tr (a.tk hd) l v b (λp e=>RdK.of λo q=>a p o q (n p e)) h
structure JIs(K:aH)(Rm:aL->Prop)(H1:Hp)(J:It)(ls:List PV):Prop where
 stop:∀H',Ab Rm H1 H'->J.stop ls.length H'
 go:∀H' (i:Nat) l,Ab Rm H1 H'->ls[i]?=ax l->J.go i H'
 yld:∀H' (i:Nat) l x H'',Ab Rm H1 H'->ls[i]?=ax l->J.yld i H' x H''->Same H' H''/\∃fp,Is K H'' l x fp/\∀p∈fp,H1 p≠aA/\¬Rm p
abbrev XL:=ZG->Option (List PV)
noncomputable def iF(K:aH)(f:XL):TI:=λσ H R=>∃(Rm:aL->Prop) (s:ZG) (ls:List PV),(∀p,Rm p->UU (H p))/\EnvIs K Rm H s σ/\f s=ax ls/\∀J H1,Same H H1->JIs K Rm H1 J ls->R J H1
noncomputable def VI(X:Cx)(tg e:bO)(f:XL):Prop:=PI X tg e (iF X.K f)
section
variable {X:Cx} {tg e:bO} {es:List bO}
theorem PI.imp{t t':TI}(h:PI X tg e t)(i:∀a H R,t' a H R->t a H R):PI X tg e t':=λb s a H R I q=>h b s a H R I (i a H R q)
noncomputable def asS:PV->Option (List PV)
 | .lst m=>ax m
 | .cst m=>ax m
 | _=>aA
noncomputable def YL(f:XE):XL:=λs=>(f s).bind asS
noncomputable def U2(f:XE):XL:=λs=>match f s with | some (.tup m)=>ax m | _=>aA
theorem An{a:PV}{m:List PV}(h:asS a=ax m):a = .lst m\/a = .cst m:=by
 unfold asS at h;split at h
 ·cases h;exact .inl rfl
 ·cases h;exact .inr rfl
 ·cases h
theorem DU{f:XE}{s:ZG}{m:List PV}(h:U2 f s=ax m):f s=ax (.tup m):=by
 unfold U2 at h;split at h
 ·cases h;assumption
 ·cases h
theorem Yp{f:XE}(h:VE X e f):VI X tg e (YL f):=PI.imp (Zdc h) λJ H R ⟨B,s,ls,hd,env,e,k⟩=>by
 obtain⟨l,G,F⟩:=Zc e;refine⟨B,s,l,hd,env,G,λv m D s1 C z=>?_⟩;have n:=λp b=>Same.mut s1 (hd p b)
 have d:∀a xs o,v = .ref a->SqL X.K m a xs->(∀c,Ab B m c->SqL X.K c a xs)->Iss X.K m ls xs o->(∀p∈o,p∈D)->∃a,v = .ref a/\(∃xs,SqL X.K m a xs)/\R (Itl X.K a) m:=by
  rintro a xs o rfl g keep j sub;refine⟨a,rfl,⟨xs,g⟩,k _ m s1 ⟨λc ab=>⟨xs,keep c ab,by rw[j.len];exact aZ _⟩,λc i l ab u=>?_,λc i l x E ab u y=>?_⟩⟩
  ·obtain⟨x,f1,w,_,_⟩:=j.get u;exact⟨xs,x,keep c ab,w⟩
  ·obtain⟨rfl,y⟩:=y;obtain⟨I,f1,w,A,q⟩:=j.get u;have:=y xs (keep _ ab);rw[w] at this;cases this;have t:=λp b=>z p (sub p (q p b));exact⟨Same.refl _,f1,A.ab ab n t,λp b=>⟨Is.dom _ _ _ A p b,t p b⟩⟩
 rcases An F with rfl | rfl
 ·obtain⟨a,xs,o,rfl,g,j,rfl⟩:=C.lst_inv;exact d a xs o rfl (SqL.of g) (λc ab=>SqL.of (ab a _ g (z a ag))) j λp b=>aN _ b
 ·obtain⟨a,xs,rfl,g,j⟩:=C.cst_inv;exact d a xs D rfl g.sq (λc ab=>(g.tr (ab.tk n)).sq) j λp b=>b
theorem Qi{f:XE}(h:VE X e f):VI X tg e (U2 f):=PI.imp (Zh6 h) λC H R ⟨u,s,ls,hd,env,e,k⟩=>by
 refine⟨u,s,.tup ls,hd,env,DU e,λv o D s1 A w=>?_⟩;obtain⟨a,xs,rfl,q,m⟩:=A.tup_inv;have d:=λp c=>Same.mut s1 (hd p c);have keep:∀b,Ab u o b->SqT X.K b a xs:=λb ab=>SqT.of ((ab.tk d).tup a xs q);refine⟨a,rfl,⟨xs,SqT.of q⟩,k _ o s1 ⟨λb ab=>⟨xs,keep b ab,by rw[m.len];exact aZ _⟩,λb i l ab j=>?_,λb i l x z ab j y=>?_⟩⟩
 ·obtain⟨x,f1,n,_,_⟩:=m.get j;exact⟨xs,x,keep b ab,n⟩
 ·obtain⟨rfl,y⟩:=y;obtain⟨B,f1,n,t,sub⟩:=m.get j;have:=y xs (keep _ ab);rw[n] at this;cases this;have g:=λp c=>w p (sub p c);exact⟨Same.refl _,f1,t.ab ab d g,λp c=>⟨Is.dom _ _ _ t p c,g p c⟩⟩
noncomputable def Kw(n:Nat):List PV:=(aD n).map λ(i:Nat)=>PV.int (i:Int)
noncomputable def SI(lo:Int)(n:Nat):List PV:=(aD n).map λ(i:Nat)=>PV.int (lo+(i:Int))
noncomputable def Yk(fs:List XE):XL:=λs=>match PB fs s with | some [.int j]=>if -1000000<=j/\j<=1000000 then ax (Kw j.toNat) else aA | _=>aA
noncomputable def VD(fs:List XE):XL:=λs=>match PB fs s with | some [.int i,.int j]=>if -1000000<=i/\i<=1000000/\-1000000<=j/\j<=1000000 then ax (SI i (j-i).toNat) else aA | _=>aA
theorem Ep{g:aL->Prop}{d:Hp}(lo:Int)(n:Nat):JIs K g d (Itr lo n) (SI lo n):=by
 refine⟨λc _=>by unfold SI;rw[aJ,bt];exact aZ n,λc i l _ a=>?_,λc i l x e _ a y=>?_⟩
 ·have:=(aR.mp a).1;unfold SI at this;rw[aJ,bt] at this;exact this
 ·obtain⟨rfl,rfl⟩:=y;have b:=(aR.mp a).1;unfold SI at b a;rw[aJ,bt] at b;rw[aX,cC b] at a;cases a;exact⟨Same.refl _,[],Is.int _,λp f=>by simp at f⟩
theorem Zd8(n:Nat):Kw n=SI 0 n:=by apply au;intro i _;rw[Int.zero_add]
theorem DV{a:bO}{fs:List XE}{p pos:dw}(c:Gl X "range")(h:X.mg "range" = aA)(f:VA X [a] fs)(d:aP [a] X.env=[(aB,eval a X.env)]:=by rfl):VI X tg (.Call (.Name "range" p) [a] [] pos) (Yk fs):=
 PI.imp (DC c h f d) λn H R ⟨l,s,ls,hd,env,e,k⟩=>by
 unfold Yk at e;split at e
 ·split at e
  ·cases e;rename_i j g o;refine⟨l,s,_,hd,env,g,λvs b q s1 m _=>?_⟩;obtain⟨v,rfl,i⟩:=m.one_inv;refine⟨j,by rw[i.int_inv.1],by omega,by omega,k _ b s1 ?_⟩;rw[Zd8];exact Ep _ _
  ·cases e
 ·cases e
theorem DW{a b:bO}{fs:List XE}{p pos:dw}(f:Gl X "range")(n:X.mg "range" = aA)(h:VA X [a,b] fs)(g:aP [a,b] X.env=[(aB,eval a X.env),(aB,eval b X.env)]:=by rfl)(c:aP [b] X.env=[(aB,eval b X.env)]:=by rfl):VI X tg (.Call (.Name "range" p) [a,b] [] pos) (VD fs):=
 PI.imp (DD f n h g c) λu H R ⟨o,s,ls,hd,env,e,k⟩=>by
 unfold VD at e;split at e
 ·split at e
  ·cases e;rename_i i j l x;refine⟨o,s,_,hd,env,l,λvs d y s1 q _=>?_⟩;obtain⟨v,w,f1,z,rfl,m,t,_⟩:=q.two_inv;exact⟨i,j,by rw[m.int_inv.1,t.int_inv.1],⟨by omega,by omega,by omega,by omega⟩,k _ d s1 (Ep _ _)⟩
  ·cases e
 ·cases e
noncomputable def Xt(m:List PV):List PV:=m.zipIdx.map λz=>.tup [.int (z.2:Nat),z.1]
noncomputable def Qj(m n:List PV):List PV:=(m.zip n).map λz=>.tup [z.1,z.2]
theorem Lu{m:List PV}{i:Nat}{l:PV}(h:(Xt m)[i]?=ax l):∃a,m[i]?=ax a/\l = .tup [.int (i:Nat),a]:=by
 unfold Xt at h;rw[aX,List.getElem?_zipIdx] at h
 cases q:m[i]? with
 | none=>rw[q] at h;cases h
 | some a=>rw[q] at h;cases h;exact⟨a,rfl,by simp⟩
theorem WI(m:List PV):(Xt m).length=m.length:=by unfold Xt;rw[aJ,List.length_zipIdx]
theorem Ih{m n:List PV}{i:Nat}{l:PV}(h:(Qj m n)[i]?=ax l):∃a b,m[i]?=ax a/\n[i]?=ax b/\l = .tup [a,b]:=by
 unfold Qj at h;rw[aX] at h
 cases q:(m.zip n)[i]? with
 | none=>rw[q] at h;cases h
 | some z=>
  rw[q] at h;cases h;obtain⟨c,d⟩:=jh.mp q;exact⟨z.1,z.2,c,d,rfl⟩
theorem Ii(m n:List PV):(Qj m n).length=min m.length n.length:=by unfold Qj;rw[aJ,List.length_zip]
noncomputable def seqB:Bool->PV->Option (List PV)
 | true,.lst l=>ax l
 | true,.cst l=>ax l
 | false,.tup l=>ax l
 | _,_=>aA
theorem Kx{H:Hp}{b:Bool}{l:PV}{v:V}{i:List aL}{m:List PV}(h:Is K H l v i)(e:seqB b l=ax m):∃p xs j,v = .ref p/\Iss K H m xs j/\(∀q∈j,q∈i)/\∀(a:aL->Prop) d,Ab a H d->(∀p,a p->UU (H p))->(∀p∈i,¬a p)->MH b K d p xs:=by
 cases b with
 | true=>cases l with
  | lst l=>
   cases e;obtain⟨p,xs,j,rfl,g,c,rfl⟩:=h.lst_inv;exact⟨p,xs,j,rfl,c,λq f=>aN _ f,λa d ab _ n=>SqL.of (ab p _ g (n p ag))⟩
  | cst l=>
   cases e;obtain⟨p,xs,rfl,g,c⟩:=h.cst_inv;exact⟨p,xs,i,rfl,c,λq f=>f,λa d ab hd _=>(g.tr (ab.tk hd)).sq⟩
  | _=>cases e
 | false=>cases l with
  | tup l=>
   cases e;obtain⟨p,xs,rfl,g,c⟩:=h.tup_inv;exact⟨p,xs,i,rfl,c,λq f=>f,λa d ab hd _=>SqT.of ((ab.tk hd).tup p xs g)⟩
  | _=>cases e
noncomputable def Xf(b:Bool)(fs:List XE):XL:=λs=>match PB fs s with | some [l]=>(seqB b l).map Xt | _=>aA
noncomputable def MQ(b1 b2:Bool)(fs:List XE):XL:=λs=>match PB fs s with | some [l,r]=>(seqB b1 l).bind λm=>(seqB b2 r).map λn=>Qj m n | _=>aA
theorem XB{j:List bO}{k:Nat}{h:dw}(b:Bool){a:bO}{fs:List XE}{p pos:dw}(G:Gl X "enumerate")(N:X.mg "enumerate" = aA)(J:VA X [a] fs)(I:aP [a] X.env=[(aB,eval a X.env)]:=by rfl) :
  VI X (.Tuple j k h) (.Call (.Name "enumerate" p) [a] [] pos) (Xf b fs):=PI.imp (Zdx b G N J I) λU H R ⟨E,s,ls,hd,env,e,k⟩=>by
 unfold Xf at e;split at e
 ·rename_i l L;obtain⟨m,Q,rfl⟩:=map_some e;refine⟨E,s,_,hd,env,L,λvs t W s1 O C=>?_⟩;obtain⟨v,rfl,i⟩:=O.one_inv;have g:=λp f=>Same.mut s1 (hd p f);obtain⟨a,xs,T,rfl,A,sub,keep⟩:=Kx i Q;have o:=λd ab=>keep E d ab g C;refine⟨a,rfl,⟨xs,o t (Same.ab (Same.refl t))⟩,k _ t s1 ⟨λd ab=>⟨xs,o d ab,by rw[WI,A.len]⟩,λd i l ab w=>?_,λd i l x M ab w y=>?_⟩⟩
  ·obtain⟨c,u,rfl⟩:=Lu w;obtain⟨x,f1,B,_,_⟩:=A.get u;exact⟨xs,x,o d ab,B⟩
  ·obtain⟨c,u,rfl⟩:=Lu w;obtain⟨S,f1,B,D,P⟩:=A.get u;obtain⟨q,z,F,rfl,rfl,y⟩:=y;have:=y xs (o _ ab);rw[B] at this;cases this;have n:=λp f=>C p (sub p (P p f));refine⟨Same.new F _,f1,Is.tup Zk ?_,λp f=>⟨Is.dom _ _ _ D p f,n p f⟩⟩;exact Iss.cons (Is.int _) (Iss.one ((D.ab ab g n).mono (Same.new F _)))
 ·cases e
theorem Ky{E:List bO}{k:Nat}{B:dw}(b1 Z:Bool){a b:bO}{fs:List XE}{p pos:dw}(hg:Gl X "zip")(hm:X.mg "zip" = aA)(ha:VA X [a,b] fs)
  (hs:aP [a,b] X.env=[(aB,eval a X.env),(aB,eval b X.env)]:=by rfl) (Q:aP [b] X.env=[(aB,eval b X.env)]:=by rfl) :
  VI X (.Tuple E k B) (.Call (.Name "zip" p) [a,b] [] pos) (MQ b1 Z fs):=PI.imp (Ziu b1 Z hg hm ha hs Q) λσ H R ⟨S,s,ls,hd,env,e,k⟩=>by
 unfold MQ at e;split at e
 ·rename_i l r he;obtain⟨m,e1,e⟩:=Zc e;obtain⟨n,e2,rfl⟩:=map_some e;refine⟨S,s,_,hd,env,he,λvs u fp s1 i1 n1=>?_⟩;obtain⟨v,w,g1,g2,rfl,iv,iw,rfl⟩:=i1.two_inv;have j:=λp f=>Same.mut s1 (hd p f);have G:=λp f=>n1 p (ao _ f);have A:=λp f=>n1 p (ah _ f);obtain⟨a1,xs,fq,rfl,P,sub,keep⟩:=Kx iv e1;obtain⟨a2,I,fr,rfl,L,C,o⟩:=Kx iw e2;have J:=λg ab=>keep S g ab j G;have h:=λg ab=>o S g ab j A;refine⟨a1,a2,rfl,⟨xs,J u (Same.ab (Same.refl u))⟩,⟨I,h u (Same.ab (Same.refl u))⟩,k _ u s1 ⟨λg ab=>⟨xs,I,J g ab,h g ab,?_⟩,λg i l ab O=>?_,λg i l x H'' ab O y=>?_⟩⟩
  ·rw[Ii,P.len,L.len];omega
  ·obtain⟨c,d,U,t,rfl⟩:=Ih O;obtain⟨x,f1,N,_,_⟩:=P.get U;obtain⟨y,f2,M,_,_⟩:=L.get t;exact⟨xs,I,x,y,J g ab,h g ab,N,M⟩
  ·obtain⟨c,d,U,t,rfl⟩:=Ih O;obtain⟨x',f1,N,Y,sb⟩:=P.get U;obtain⟨y',f2,M,iy,T⟩:=L.get t;obtain⟨q,z,z',W,rfl,rfl,y1,y2⟩:=y;have:=y1 xs (J _ ab);rw[N] at this;cases this;have:=y2 I (h _ ab);rw[M] at this;cases this;have F:=λp f=>G p (sub p (sb p f));have D:=λp f=>A p (C p (T p f));refine⟨Same.new W _,f1++f2,Is.tup Zk ?_,λp f=>?_⟩
   ·exact Iss.cons ((Y.ab ab j F).mono (Same.new W _)) (Iss.one ((iy.ab ab j D).mono (Same.new W _)))
   ·rcases aV.mp f with f | f
    ·exact⟨Is.dom _ _ _ Y p f,F p f⟩
    ·exact⟨Is.dom _ _ _ iy p f,D p f⟩
 ·cases e
end
inductive Tgt where
 | one (i:Nat) | many (is:List Nat)
noncomputable def Tgt.slots:Tgt->List Nat
 | .one i=>[i]
 | .many is=>is
noncomputable def setAll:List Nat->List PV->ZG->ZG
 | i::is,l::ls,s=>setAll is ls (s.set i (ax l))
 | _,_,s=>s
noncomputable def Xb:List Nat->List V->Pw->Pw
 | i::is,l::ls,s=>Xb is ls (s.set i (ax l))
 | _,_,s=>s
noncomputable def Xg:Tgt->PV->ZG->Option ZG
 | .one i,l,s=>ax (s.set i (ax l))
 | .many is,.tup ls,s=>if ls.length=is.length then ax (setAll is ls s) else aA
 | _,_,_=>aA
noncomputable def Gr:List Nat->TGs
 | []=>Zks
 | i::is=>Zgv (Sq i) (Gr is)
noncomputable def gT(K:aH):Tgt->TG
 | .one i=>Sq i
 | .many is=>Zkt K is.length (Gr is)
theorem OX:∀{is:List Nat}{vs:List V}{σ:Pw}{H:Hp}{Q:Pw->Hp->Prop},vs.length=is.length->Q (Xb is vs σ) H->Gr is vs σ H Q
 | [],[],_,_,_,_,q=>⟨rfl,q⟩
 | [],_::_,_,_,_,h,_=>by simp at h
 | _::_,[],_,_,_,h,_=>by simp at h
 | i::is,v::vs,σ,H,Q,h,q=>⟨v,vs,rfl,OX (is:=is) (vs:=vs) (by simpa using h) q⟩
theorem Kz{T:Tgt}{l:PV}{v:V}{c:List aL}{s d:ZG}{H:Hp}(h:Is K H l v c)(e:Xg T l s=ax d) :
  ∃ls vs fs,d=setAll T.slots ls s/\Iss K H ls vs fs/\ls.length=T.slots.length/\(∀p∈fs,p∈c)/\∀b (Q:Pw->Hp->Prop),Q (Xb T.slots vs b) H->gT K T v b H Q:=by
 cases T with
 | one i=>
  cases e;exact⟨[l],[v],c,rfl,Iss.one h,rfl,λp a=>a,λb Q q=>q⟩
 | many is=>
  cases l with
  | tup ls=>
   have e:(if ls.length=is.length then ax (VL.setAll is ls s) else aA)=ax d:=e;split at e
   ·cases e;obtain⟨p,xs,rfl,a,f⟩:=h.tup_inv;exact⟨ls,xs,c,rfl,f,by assumption,λp a=>a,λb Q q=>⟨p,xs,rfl,SqT.of a,by rw[f.len];assumption,OX (by rw[f.len];assumption) q⟩⟩
   ·cases e
  | _=>cases e
theorem Uh:∀{is:List Nat}{vs:List V}{σ:Pw}{n:Nat},(∀i∈is,i<n)->(Xb is vs σ).drop n=σ.drop n
 | [],_,_,_,_=>rfl
 | _::_,[],_,_,_=>rfl
 | i::is,v::vs,σ,n,h=>by show(Xb is vs (σ.set i (ax v))).drop n=_;rw[Uh (λj a=>h j (aN _ a))];have:=h i ag;rw[List.drop_set,p9 this]
theorem EnvIs.set{d:aL->Prop}{H:Hp}{s:ZG}{c:Pw}{i:Nat}{l:PV}{v:V}{g:List aL}(h:EnvIs K d H s c)(t:s.length=c.length)(o:Is K H l v g)(n:∀p∈g,¬d p):EnvIs K d H (s.set i (ax l)) (c.set i (ax v)):=⟨λj a e=>by
 rw[bW] at e;by_cases b:i=j
 ·subst b;rw[p9 rfl] at e;split at e
  ·cases e;exact⟨v,g,by rw[bW,p9 rfl,p9 (by omega)],o,n⟩
  ·cases e
 ·rw[pW b] at e;obtain⟨w,f,k,q,m⟩:=h.is j a e;exact⟨w,f,by rw[bW,pW b];exact k,q,m⟩⟩
theorem EnvIs.setAll{a:aL->Prop}{H:Hp}:∀{is:List Nat}{ls:List PV}{vs:List V}{fs:List aL}{s:ZG}{σ:Pw},EnvIs K a H s σ->s.length=σ.length->Iss K H ls vs fs->(∀p∈fs,¬a p)->EnvIs K a H (VL.setAll is ls s) (Xb is vs σ)
 | [],_,_,_,_,_,h,_,_,_=>by unfold VL.setAll Xb;exact h
 | i::is,[],vs,fs,s,σ,h,_,hi,_=>by simp only[Iss] at hi;rw[hi.1];exact h
 | i::is,l::ls,vs,fs,s,σ,h,hl,hi,n=>by obtain⟨x,r,f1,e,rfl,d,c,rfl⟩:=hi.inv;show EnvIs K a H (VL.setAll is ls (s.set i (ax l))) (Xb is r (σ.set i (ax x)));exact EnvIs.setAll (h.set hl d λp b=>n p (ao _ b)) (by rw[cG,cG];exact hl) c λp b=>n p (ah _ b)
noncomputable def ZH(n:Nat)(ix:List Nat)(s:ZG):ZG:=aS n aA++ix.map (λi=>(s[i]?).join)
noncomputable def Vg(T:Tgt)(ft:XT)(fe:XE)(s0:ZG):List PV->Option (List PV)
 | []=>ax []
 | l::r=>(Xg T l s0).bind λs1=>(ft s1).bind λc=>if c=aC then(fe s1).bind λy=>(Vg T ft fe s0 r).map (y::·) else Vg T ft fe s0 r
noncomputable def Zw(n:Nat)(ix:List Nat)(fi:XL)(T:Tgt)(ft:XT)(fe:XE):XE:=λs=>(fi s).bind λls=>if ls.length<=10000 then(Vg T ft fe (ZH n ix s) ls).map .lst else aA
noncomputable def ZD:XT:=λ_=>ax aC
theorem Lv{d:Type}{o:Option (Option d)}{a:d}(h:o.join=ax a):o=ax (ax a):=by
 cases o with
 | none=>cases h
 | some b=>cases b with
  | none=>cases h
  | some c=>cases h;rfl
theorem EnvIs.comp{k:aL->Prop}{H:Hp}{s:ZG}{g:Pw}{n:Nat}{f:List Nat}(h:EnvIs K k H s g):EnvIs K k H (ZH n f s) (Yj n f g):=⟨λi l e=>by
 unfold ZH at e;unfold Yj;by_cases d:i<n
 ·rw[aj (by simpa using d),b7,p9 d] at e;cases e
 ·rw[bA (by simpa using d),cL,aX] at e;rw[bA (by simpa using d),cL,aX]
  cases q:f[i-n]? with
  | none=>rw[q] at e;cases e
  | some j=>
   rw[q] at e;have e:=Lv (bC e);obtain⟨v,m,a,b,c⟩:=h.is j l e;exact⟨v,m,by show ax ((g[j]?).join)=_;rw[a];rfl,b,c⟩⟩
theorem Ij(n:Nat)(a:List Nat)(s:ZG)(b:Pw):(ZH n a s).length=(Yj n a b).length:=by unfold ZH Yj;simp
theorem OY{T:Tgt}{e:XT}{a:XE}{d:ZG}{l:PV}{r f:List PV}(h:Vg T e a d (l::r)=ax f):∃s1 c,Xg T l d=ax s1/\e s1=ax c/\((c=aC/\∃y b,a s1=ax y/\Vg T e a d r=ax b/\f=y::b)\/(c=aB/\Vg T e a d r=ax f)):=by
 obtain⟨s1,k,h⟩:=Zc h;obtain⟨c,i,h⟩:=Zc h;refine⟨s1,c,k,i,?_⟩
 cases c with
 | true=>
  obtain⟨y,j,h⟩:=Zc h;obtain⟨b,g,rfl⟩:=map_some h;exact .inl ⟨rfl,y,b,j,g,rfl⟩
 | false=>
  exact .inr ⟨rfl,h⟩
theorem OZ{b:Type}{l:List b}{i:Nat}{a:b}{r:List b}(h:l.drop i=a::r):l[i]?=ax a/\l.drop (i+1)=r:=by
 constructor
 ·have:=congrArg (λz=>z[0]?) h;simpa [fg] using this
 ·rw[<-List.drop_drop,h];rfl
section
variable {n:Nat} {ix:List Nat} {fi:XL} {T:Tgt} {ft:XT} {fe:XE}
theorem Zd9(hT:∀i∈T.slots,i<n):∀F H Q,tF K (Zw n ix fi T ft fe) F H Q->Ll n ix (iF K fi) (gT K T) (HR K ft) (tF K fe) F H Q:=λF H Q ⟨u,s,L,hd,env,e,k⟩=>by
 obtain⟨ls,e1,e⟩:=Zc e;split at e
 case isFalse=>cases e
 rename_i hlen;obtain⟨ys,e2,rfl⟩:=map_some e;refine⟨u,s,ls,hd,env,e1,λJ O s1 j=>?_⟩;have Y:=λp b=>Same.mut s1 (hd p b)
 refine⟨λi m vs w=>m=ls.length-i/\i<=ls.length/\Same O w/\∃g YC t,ys=g++YC/\g.length<=i/\Vg T ft fe (ZH n ix s) (ls.drop i)=ax YC/\Iss K w g vs t/\∀p∈t,¬u p,
  ⟨ls.length,by simp,dq _,Same.refl O,[],ys,[],rfl,aZ _,e2,Iss.nil,λp b=>by simp at b⟩,?_⟩
 rintro i m vs w ⟨rfl,hi,d,g,YC,t,rfl,E,M,N,R⟩;refine⟨by rw[N.len];exact cJ (lt_size (by omega)),?_⟩
 cases q:ls.drop i with
 | nil=>
  have W:i=ls.length:=by have:=congrArg df q;simp at this;omega
  subst W;rw[q] at M;cases M;refine .inl ⟨j.stop w (Same.ab d),λp b=>k _ _ (p::t) (s1.trans (d.trans (Same.new b _))) ?_ λa S z=>?_⟩
  ·rw[dX];exact Is.lst Zk (N.mono (Same.new b _))
  ·rcases aa.mp S with rfl | S
   ·exact Xn (Same.mut (s1.trans d) (hd a z)) b
   ·exact R a S z
 | cons l r=>
  obtain⟨U,hr⟩:=OZ q;have G:=(aR.mp U).1;rw[q] at M;obtain⟨sb,c,eb,et,alt⟩:=OY M
  refine .inr ⟨j.go w i l (Same.ab d) U,λC Z=>Same O Z/\∃dn' rest' fp',g++YC=dn'++rest'/\dn'.length<=i+1/\Vg T ft fe (ZH n ix s) (ls.drop (i+1))=ax rest'/\Iss K Z dn' C fp'/\∀p∈fp',¬u p,
   λC Z h'=>⟨ls.length-(i+1),by omega,rfl,G,h'.1,h'.2⟩,λx H2 y=>?_⟩
  obtain⟨s2,fx,X,nx⟩:=j.yld w i l x H2 (Same.ab d) U y;have A:=λp b=>Same.mut (d.trans s2) (Y p b);obtain⟨bl,bv,bf,rfl,bi,_,B,D⟩:=Kz X eb;have I:EnvIs K u H2 (ZH n ix s) (Yj n ix F):=(env.mono (s1.trans (d.trans s2))).comp;have f:=I.setAll (is:=T.slots) (Ij n ix s F) bi λp b=>(nx p (B p b)).2;refine D _ _ ⟨Uh hT,u,_,c,A,f,et,λH3 o=>?_⟩;have P:=λp b=>Same.mut o (A p b);rcases alt with⟨rfl,y',zs,ey,ez,rfl⟩ | ⟨rfl,ez⟩
  ·refine Zlj ?_;refine⟨u,_,y',P,f.mono o,ey,λv H4 f4 s4 i4 n4=>?_⟩;refine⟨d.trans (s2.trans (o.trans s4)),g++[y'],zs,t++f4,by rw[dj];rfl,by rw[aT];simp;exact E,by rw[hr];exact ez,(N.mono (s2.trans (o.trans s4))).append (Iss.one i4),λp b=>?_⟩;rcases aV.mp b with h | h
   ·exact R p h
   ·exact n4 p h
  ·refine Zli ?_;exact⟨d.trans (s2.trans o),g,YC,t,rfl,nV E,by rw[hr];exact ez,N.mono (s2.trans o),R⟩
theorem Er(hT:∀i∈T.slots,i<n):∀I H Q,tM K (Zw n ix fi T ft fe) I H Q->Ll n ix (iF K fi) (gT K T) (HR K ft) (tM K fe) I H Q:=λI H Q ⟨s,L,env,e,k⟩=>by
 obtain⟨ls,e1,e⟩:=Zc e;split at e
 case isFalse=>cases e
 rename_i hlen;obtain⟨ys,e2,rfl⟩:=map_some e;have hd:∀(H:Hp) p,(λ_=>False:aL->Prop) p->UU (H p):=λ_ _ z=>z.elim;refine⟨λ_=>False,s,ls,hd H,env,e1,λJ D s1 u=>?_⟩
 refine⟨λi m vs A=>m=ls.length-i/\i<=ls.length/\Same D A/\∃t YC w,ys=t++YC/\t.length<=i/\Vg T ft fe (ZH n ix s) (ls.drop i)=ax YC/\Iss K A t vs w/\w.Nodup/\∀p∈w,D p=aA/\UU (A p),
  ⟨ls.length,by simp,dq _,Same.refl D,[],ys,[],rfl,aZ _,e2,Iss.nil,cH,λp d=>by simp at d⟩,?_⟩
 rintro i m vs A ⟨rfl,hi,f,t,YC,w,rfl,G,O,R,Y,j⟩;refine⟨by rw[R.len];exact cJ (lt_size (by omega)),?_⟩
 cases q:ls.drop i with
 | nil=>
  have W:i=ls.length:=by have:=congrArg df q;simp at this;omega
  subst W;rw[q] at O;cases O;refine .inl ⟨u.stop A (Same.ab f),λp d=>k _ _ (p::w) (s1.trans (f.trans (Same.new d _))) ?_ (aq.mpr ⟨λz=>Xn (j p z).2 d,Y⟩) λa B=>?_⟩
  ·rw[dX];exact Is.lst Zk (R.mono (Same.new d _))
  ·rcases aa.mp B with rfl | B
   ·exact⟨Same.off (s1.trans f) d,by rw[Zk];exact b8⟩
   ·exact⟨Same.off s1 (j a B).1,Same.mut (Same.new d _) (j a B).2⟩
 | cons l r=>
  obtain⟨U,hr⟩:=OZ q;have M:=(aR.mp U).1;rw[q] at O;obtain⟨sb,c,eb,et,alt⟩:=OY O
  refine .inr ⟨u.go A i l (Same.ab f) U,λE P=>Same D P/\∃dn' rest' fp',t++YC=dn'++rest'/\dn'.length<=i+1/\Vg T ft fe (ZH n ix s) (ls.drop (i+1))=ax rest'/\Iss K P dn' E fp'/\fp'.Nodup/\∀p∈fp',D p=aA/\UU (P p),
   λE P h'=>⟨ls.length-(i+1),by omega,rfl,M,h'.1,h'.2⟩,λx S y=>?_⟩
  obtain⟨s2,fx,X,nx⟩:=u.yld A i l x S (Same.ab f) U y;obtain⟨bl,bv,bf,rfl,bi,_,C,F⟩:=Kz X eb;have N:EnvIs K (λ_=>False) S (ZH n ix s) (Yj n ix I):=(env.mono (s1.trans (f.trans s2))).comp;have o:=N.setAll (is:=T.slots) (Ij n ix s I) bi λp d=>(nx p (C p d)).2;refine F _ _ ⟨Uh hT,λ_=>False,_,c,hd S,o,et,λH3 g=>?_⟩;rcases alt with⟨rfl,y',zs,ey,Z,rfl⟩ | ⟨rfl,Z⟩
  ·refine Zlj ?_;refine⟨_,y',o.mono g,ey,λv H4 f4 s4 i4 d4 n4=>?_⟩;refine⟨f.trans (s2.trans (g.trans s4)),t++[y'],zs,w++f4,by rw[dj];rfl,by rw[aT];simp;exact G,by rw[hr];exact Z,(R.mono (s2.trans (g.trans s4))).append (Iss.one i4),cN.mpr ⟨Y,d4,λa B b hb z=>?_⟩,λp d=>?_⟩
   ·subst z;exact Xn (Same.mut (s2.trans g) (j a B).2) (n4 a hb).1
   ·rcases aV.mp d with h | h
    ·exact⟨(j p h).1,Same.mut (s2.trans (g.trans s4)) (j p h).2⟩
    ·exact⟨Same.off (f.trans (s2.trans g)) (n4 p h).1,(n4 p h).2⟩
  ·refine Zli ?_;exact⟨f.trans (s2.trans g),t,YC,w,rfl,nV G,by rw[hr];exact Z,R.mono (s2.trans g),Y,λp d=>⟨(j p d).1,Same.mut (s2.trans g) (j p d).2⟩⟩
end
noncomputable def VTs(X:Cx)(ifs:List bO)(f:XT):Prop:=Bw X ifs (HR X.K f)
section
variable {X:Cx} {tg elt iter c:bO} {ifs:List bO} {scope:gC} {pos:dw} {fi:XL} {T:Tgt} {ft:XT} {fe:XE}
theorem Yq:VTs X [] ZD:=λa s b H Q I ⟨f,d,c,hd,env,e,k⟩=>by cases e;exact Zdt a s b H Q I (k H (Same.refl H))
theorem Rt(h:VT X c ft):VTs X [c] ft:=Zdu h
theorem Wf(own fr:List bH)(c:List Nat)(b:X.calm=aC)(h:VI X tg iter fi)(S:Ud X.N X.env.scope scope own fr c=aC)
  (d:∀cl C s H a,PG (ZI X (own++fr) scope cl C s H a) tg (gT X.K T)) (j:∀cl C s H a,VTs (ZI X (own++fr) scope cl C s H a) ifs ft) (e:∀cl C s H a,VE (ZI X (own++fr) scope cl C s H a) elt fe)
  (g:∀i∈T.slots,i<own.length:=by decide) (f:∀x,cK iter X.env x=pure x:=by intro _;rfl):VE X (.ListComp elt [⟨tg,iter,ifs,0⟩] scope pos) (Zw own.length c fi T ft fe):=
 PE.imp (Ia own fr c b h S d (λcl C s H a=>(show Bw (ZI X (own++fr) scope cl C s H a) ifs (HR X.K ft) from j cl C s H a)) (λcl C s H a=>(show PE (ZI X (own++fr) scope cl C s H a) elt (tF X.K fe) from e cl C s H a)) f) (Zd9 g)
theorem TM(own fr:List bH)(c:List Nat)(b:X.calm=aC)(h:VI X tg iter fi)(S:Ud X.N X.env.scope scope own fr c=aC)
  (d:∀cl C s H a,PG (ZI X (own++fr) scope cl C s H a) tg (gT X.K T)) (j:∀cl C s H a,VTs (ZI X (own++fr) scope cl C s H a) ifs ft) (e:∀cl C s H a,VM (ZI X (own++fr) scope cl C s H a) elt fe)
  (g:∀i∈T.slots,i<own.length:=by decide) (f:∀x,cK iter X.env x=pure x:=by intro _;rfl):VM X (.ListComp elt [⟨tg,iter,ifs,0⟩] scope pos) (Zw own.length c fi T ft fe):=
 PE.imp (Ia own fr c b h S d (λcl C s H a=>(show Bw (ZI X (own++fr) scope cl C s H a) ifs (HR X.K ft) from j cl C s H a)) (λcl C s H a=>(show PE (ZI X (own++fr) scope cl C s H a) elt (tM X.K fe) from e cl C s H a)) f) (Er g)
end
noncomputable def WA(xs:List PV)(lo hi:Option Int):List PV:=(xs.drop (HT.sIx xs.length 0 lo)).take (HT.sIx xs.length xs.length hi-HT.sIx xs.length 0 lo)
theorem Iss.cut{H:Hp}{l:List PV}{xs:List V}{f:List aL}(lo e:Option Int)(h:Iss K H l xs f):∃f1,Iss K H (WA l lo e) (DL xs lo e) f1/\∀p∈f1,p∈f:=by unfold WA DL;rw[h.len];obtain⟨f1,a,b⟩:=h.drop (HT.sIx l.length 0 lo);obtain⟨i,c,d⟩:=a.take (HT.sIx l.length l.length e-HT.sIx l.length 0 lo);exact⟨i,c,λp g=>b p (d p g)⟩
abbrev XO:=ZG->Option (Option Int)
noncomputable def tFO(K:aH)(f:XO):TO:=λσ H Q=>∃(Rm:aL->Prop) (s:ZG) (i:Option Int),(∀p,Rm p->UU (H p))/\EnvIs K Rm H s σ/\f s=ax i/\∀H',Same H H'->Q i H'
noncomputable def VO(X:Cx)(e:Option bO)(f:XO):Prop:=PO X e (tFO X.K f)
noncomputable def MR:XO:=λ_=>ax aA
noncomputable def Qk(f:XE):XO:=λs=>match f s with | some (.int i)=>ax (ax i) | _=>aA
noncomputable def SK(x:PV)(lo hi:Option Int):Option PV:=match x with | .lst l=>ax (.lst (WA l lo hi)) | .cst l=>ax (.lst (WA l lo hi)) | _=>aA
noncomputable def PH(x:PV)(lo hi:Option Int):Option PV:=match x with | .tup l=>if HT.sIx l.length 0 lo=0/\HT.sIx l.length l.length hi=l.length then aA else ax (.tup (WA l lo hi)) | _=>aA
noncomputable def O0(g:PV->Option Int->Option Int->Option PV)(a:XE)(lo hi:XO):XE:=λs=>(a s).bind λx=>(lo s).bind λl=>(hi s).bind λu=>g x l u
theorem DX{l:List PV}(lo b:Option Int)(h:ZC l=aC):ZC (WA l lo b)=aC:=by rw[X1,bK] at *;intro x a;exact h x (dh (cW a))
section
variable {X:Cx} {e:bO} {lo hi:Option bO} {p2 pos:dw} {fa:XE} {fl fh:XO}
theorem Vh:VO X aA MR:=λa s b H Q I ⟨d,c,i,hd,env,e,k⟩=>by cases e;exact Zdk a s b H Q I (k H (Same.refl H))
theorem Wg{e:bO}(h:VE X e fa):VO X (ax e) (Qk fa):=λb s f H Q I ⟨g,a,i,hd,env,e,k⟩=>by
 unfold Qk at e;split at e
 ·cases e;rename_i j c;exact Zdl h b s f H Q I ⟨g,a,.int j,hd,env,c,λv l m d i n=>⟨j,i.int_inv.1,k l d⟩⟩
 ·cases e
theorem WK(u:VE X e fa)(w:VO X lo fl)(t:VO X j fh):VE X (.Subscript e (.Slice lo j aA p2) pos) (O0 SK fa fl fh):=PE.imp (JZ Zdn u w t) λF H Q ⟨m,s,l,hd,env,e,k⟩=>by
 obtain⟨x,B,e⟩:=Zc e;obtain⟨a,y,e⟩:=Zc e;obtain⟨b,A,e⟩:=Zc e;refine⟨m,s,x,hd,env,B,λv C I s1 o n=>⟨m,s,a,λp h=>Same.mut s1 (hd p h),env.mono s1,y,λD s2=>⟨m,s,b,λp h=>Same.mut (s1.trans s2) (hd p h),env.mono (s1.trans s2),A,λG i=>?_⟩⟩⟩
 cases x with
 | lst l=>
  cases e;obtain⟨p,xs,E,rfl,h,j,rfl⟩:=(o.mono (s2.trans i)).lst_inv;obtain⟨f1,c,d⟩:=j.cut a b;refine⟨p,xs,rfl,SqL.of h,λq g=>k _ _ (q::f1) (s1.trans (s2.trans (i.trans (Same.new g _)))) (Is.lst Zk (c.mono (Same.new g _))) λr f z=>?_⟩;rcases aa.mp f with rfl | f
  ·exact Xn (Same.mut (s1.trans (s2.trans i)) (hd r z)) g
  ·exact n r (aN _ (d r f)) z
 | cst l=>
  cases e;obtain⟨p,xs,rfl,h,j⟩:=(o.mono (s2.trans i)).cst_inv;obtain⟨f1,c,d⟩:=j.cut a b;refine⟨p,xs,rfl,h.sq,λq g=>k _ _ (q::f1) (s1.trans (s2.trans (i.trans (Same.new g _)))) (Is.lst Zk (c.mono (Same.new g _))) λr f z=>?_⟩;rcases aa.mp f with rfl | f
  ·exact Xn (Same.mut (s1.trans (s2.trans i)) (hd r z)) g
  ·exact n r (d r f) z
 | _=>cases e
theorem Ql(u:VE X e fa)(w:VO X lo fl)(n:VO X g fh):VE X (.Subscript e (.Slice lo g aA p2) pos) (O0 PH fa fl fh):=PE.imp (JZ Zig u w n) λE H Q ⟨i,s,l,hd,env,e,k⟩=>by
 obtain⟨x,B,e⟩:=Zc e;obtain⟨a,z,e⟩:=Zc e;obtain⟨b,A,e⟩:=Zc e;refine⟨i,s,x,hd,env,B,λv C G s1 y o=>⟨i,s,a,λp f=>Same.mut s1 (hd p f),env.mono s1,z,λD s2=>⟨i,s,b,λp f=>Same.mut (s1.trans s2) (hd p f),env.mono (s1.trans s2),A,λF j=>?_⟩⟩⟩
 cases x with
 | tup l=>
  unfold PH at e;simp only at e;split at e
  ·cases e
  ·rename_i h;cases e;obtain⟨p,xs,rfl,f,g⟩:=(y.mono (s2.trans j)).tup_inv;obtain⟨f1,c,d⟩:=g.cut a b;refine⟨p,xs,rfl,SqT.of f,by rw[g.len];exact h,λq m=>k _ _ f1 (s1.trans (s2.trans (j.trans (Same.new m _)))) (Is.tup Zk (c.mono (Same.new m _))) λr t=>o r (d r t)⟩
 | _=>cases e
end
end VL
namespace VL
open PySem PySem.Spec PyProof.Rows L2
variable {K:aH}
structure Rel(K:aH)(O:List Nat)(H0:Hp)(fps:Nat->List aL)(s:ZG)(σ:Pw)(H:Hp):Prop where
 same:Same H0 H
 len:s.length=σ.length
 is:∀(i:Nat) l,s[i]?=ax (ax l)->∃v,σ[i]?=ax (ax v)/\Is K H l v (fps i)
 emp:∀(i:Nat),(∀l,s[i]?≠ax (ax l))->fps i=[]
 nd:∀i∈O,(fps i).Nodup
 own:∀i∈O,∀p∈fps i,H0 p=aA/\UU (H p)
 dis:∀i∈O,∀j,j≠i->∀p∈fps i,p∉fps j
noncomputable def Ow(O:List Nat)(fps:Nat->List aL)(p:aL):Prop:=∃i∈O,p∈fps i
noncomputable def Xr(O:List Nat)(s:ZG):ZG:=O.foldl (λs i=>s.set i aA) s
theorem O1:∀{O:List Nat}{s:ZG}{i:Nat}{l:PV},(Xr O s)[i]?=ax (ax l)->i∉O/\s[i]?=ax (ax l)
 | [],s,i,l,h=>⟨by simp,h⟩
 | o::O,s,i,l,h=>by
  obtain⟨b,a⟩:=O1 (O:=O) (s:=s.set o aA) h;rw[bW] at a;by_cases e:o=i
  ·rw[p9 e] at a;split at a<;>cases a
  ·rw[pW e] at a;exact⟨by simp only[aa,not_or];exact⟨λz=>e z.symm,b⟩,a⟩
section
variable {O:List Nat} {H0 H H':Hp} {fps:Nat->List aL} {s:ZG} {σ:Pw}
theorem Rel.at(r:Rel K O H0 fps s σ H)(i:Nat){p:aL}(c:p∈fps i):∃l v,s[i]?=ax (ax l)/\σ[i]?=ax (ax v)/\Is K H l v (fps i):=by
 cases q:s[i]? with
 | none=>rw[r.emp i (λl z=>by rw[q] at z;cases z)] at c;simp at c
 | some o=>cases o with
  | none=>rw[r.emp i (λl z=>by rw[q] at z;cases z)] at c;simp at c
  | some l=>
   obtain⟨v,a,b⟩:=r.is i l q;exact⟨l,v,rfl,a,b⟩
theorem Rel.dom(r:Rel K O H0 fps s σ H)(i:Nat):∀p∈fps i,H p≠aA:=λp a=>by obtain⟨l,v,_,_,b⟩:=r.at i a;exact Is.dom _ _ _ b p a
theorem Rel.env(r:Rel K O H0 fps s σ H):EnvIs K (λ_=>False) H s σ:=⟨λi l e=>by
 obtain⟨v,a,b⟩:=r.is i l e;exact⟨v,_,a,b,λ_ _ z=>z⟩⟩
theorem Rel.envO(r:Rel K O H0 fps s σ H):EnvIs K (Ow O fps) H (Xr O s) σ:=⟨λi l e=>by
 obtain⟨n,e⟩:=O1 e;obtain⟨v,a,b⟩:=r.is i l e;exact⟨v,_,a,b,λp f ⟨j,d,c⟩=>r.dis j d i (λz=>n (z▸d)) p c f⟩⟩
theorem Rel.owMut(r:Rel K O H0 fps s σ H):∀p,Ow O fps p->UU (H p):=λp ⟨i,a,b⟩=>(r.own i a p b).2
theorem Rel.grow(r:Rel K O H0 fps s σ H)(e:Same H H'):Rel K O H0 fps s σ H':=
 ⟨r.same.trans e,r.len,λi l q=>by obtain⟨v,a,b⟩:=r.is i l q;exact⟨v,a,b.mono e⟩,r.emp,r.nd,λi c p d=>⟨(r.own i c p d).1,Same.mut e (r.own i c p d).2⟩,r.dis⟩
theorem Rel.less{F:Hp}(r:Rel K O F fps s σ H)(e:Same H0 F):Rel K O H0 fps s σ H:=
 ⟨e.trans r.same,r.len,r.is,r.emp,r.nd,λi a p b=>⟨Same.off e (r.own i a p b).1,(r.own i a p b).2⟩,r.dis⟩
theorem Rel.weak{O':List Nat}(r:Rel K O H0 fps s σ H)(h:∀i∈O',i∈O):Rel K O' H0 fps s σ H:=
 ⟨r.same,r.len,r.is,r.emp,λi a=>r.nd i (h i a),λi a=>r.own i (h i a),λi a=>r.dis i (h i a)⟩
open Classical in
noncomputable def PJ(H:Hp)(Rm:aL->Prop):Hp:=λb=>if Rm b then aA else H b
theorem DY{a:aL->Prop}:Same (PJ H a) H:=λb o h=>by
 unfold PJ at h;split at h
 ·cases h
 ·exact h
theorem Rel.frame(r:Rel K O H0 fps s σ H):Rel K O (PJ H (Ow O fps)) fps s σ H:=
 ⟨DY,r.len,r.is,r.emp,r.nd,λi a p b=>⟨by unfold PJ;rw[p9 ⟨i,a,b⟩],(r.own i a p b).2⟩,r.dis⟩
theorem Rel.under(r:Rel K O H0 fps s σ H):Same H0 (PJ H (Ow O fps)):=λb o h=>by unfold PJ;rw[pW (λ⟨i,a,c⟩=>by rw[(r.own i a b c).1] at h;cases h)];exact r.same b o h
open Classical in
noncomputable def PL(fps:Nat->List aL)(n:Nat)(i:Nat)(fp:List aL):Nat->List aL:=λj=>if j=i/\i<n then fp else fps j
theorem Ya{n i j:Nat}{a:List aL}(h:j≠i):PL fps n i a j=fps j:=by unfold PL;rw[pW (λz=>h z.1)]
theorem Es{n i:Nat}{a:List aL}(h:i<n):PL fps n i a i=a:=by unfold PL;rw[p9 ⟨rfl,h⟩]
theorem Rel.set(r:Rel K O H0 fps s σ H){i:Nat}{l:PV}{v:V}{f:List aL}(t:Is K H l v f)(o:i∈O->f.Nodup/\∀p∈f,H0 p=aA/\UU (H p))
  (hd:∀j,j≠i->(j∈O\/i∈O)->∀p∈f,p∉fps j):Rel K O H0 (PL fps s.length i f) (s.set i (ax l)) (σ.set i (ax v)) H:=by
 by_cases c:i<s.length
 ·have g:PL fps s.length i f i=f:=Es c;refine⟨r.same,by rw[cG,cG];exact r.len,λj a e=>?_,λj h=>?_,λj b=>?_,λj b p d=>?_,λj b k n p d=>?_⟩
  ·rw[bW] at e;by_cases b:i=j
   ·subst b;rw[p9 rfl,p9 c] at e;cases e;rw[g];exact⟨v,by rw[bW,p9 rfl,p9 (by rw[<-r.len];exact c)],t⟩
   ·rw[pW b] at e;obtain⟨w,q,u⟩:=r.is j a e;rw[Ya (bX b)];exact⟨w,by rw[bW,pW b];exact q,u⟩
  ·by_cases b:i=j
   ·subst b;exact absurd (by rw[bW,p9 rfl,p9 c]) (h l)
   ·rw[Ya (bX b)];exact r.emp j λa z=>h a (by rw[bW,pW b];exact z)
  ·by_cases e:j=i
   ·subst e;rw[g];exact(o b).1
   ·rw[Ya e];exact r.nd j b
  ·by_cases e:j=i
   ·subst e;rw[g] at d;exact(o b).2 p d
   ·rw[Ya e] at d;exact r.own j b p d
  ·by_cases e:j=i
   ·subst e;rw[g] at d;rw[Ya n];exact hd k n (.inr b) p d
   ·rw[Ya e] at d;by_cases m:k=i
    ·subst m;rw[g];exact λz=>hd j e (.inl b) p z d
    ·rw[Ya m];exact r.dis j b k n p d
 ·have g:s.set i (ax l)=s:=gs (by omega);have m:σ.set i (ax v)=σ:=gs (by rw[<-r.len];omega);have x:PL fps s.length i f=fps:=by funext j;unfold PL;rw[pW (λz=>c z.2)]
  rw[g,m,x];exact r
theorem Rel.mutate(r:Rel K O H0 fps s σ H){i:Nat}(t:i∈O){p:aL}(n:p∈fps i){o:HO}{A:PV}{v:V}{d:List aL}(C:σ[i]?=ax (ax v))(g:i<s.length)
  (h':Is K (upd H p o) A v d) (F:d.Nodup) (I:∀q∈d,H0 q=aA/\UU (upd H p o q)) (hd:∀j,j≠i->∀q∈d,q∉fps j) (L:UU (ax o)):Rel K O H0 (PL fps s.length i d) (s.set i (ax A)) σ (upd H p o):=by
 have l:=(r.own i t p n).2;have G:=(r.own i t p n).1;have m:PL fps s.length i d i=d:=Es g
 have tk:TK2 H (upd H p o):=⟨λb xs h=>by
  rw[upd_ne (λz=>by rw[z] at h;rw[h] at l;exact l)];exact h,λb o xs h=>by
  rw[upd_ne (λz=>by rw[z] at h;rw[h] at l;exact l)];exact h,λb o x h=>by
  rw[upd_ne (λz=>by rw[z] at h;rw[h] at l;exact l)];exact h⟩
 refine⟨λb u h=>by rw[upd_ne (Zr h G)];exact r.same b u h,by rw[cG];exact r.len,λj a e=>?_,λj h=>?_,λj c=>?_,λj c q f=>?_,λj c k y q f=>?_⟩
 ·rw[bW] at e;by_cases c:i=j
  ·subst c;rw[p9 rfl,p9 g] at e;cases e;rw[m];exact⟨v,C,h'⟩
  ·rw[pW c] at e;obtain⟨w,E,J⟩:=r.is j a e;rw[Ya (bX c)];refine⟨w,E,Is.tr tk _ _ _ (λq f=>RdK.of λu D=>?_) J⟩;have ne:q≠p:=λz=>r.dis i t j (bX c) p n (z▸f);rw[upd_ne ne];exact D
 ·by_cases c:i=j
  ·subst c;exact absurd (by rw[bW,p9 rfl,p9 g]) (h A)
  ·rw[Ya (bX c)];exact r.emp j λa z=>h a (by rw[bW,pW c];exact z)
 ·by_cases e:j=i
  ·subst e;rw[m];exact F
  ·rw[Ya e];exact r.nd j c
 ·by_cases e:j=i
  ·subst e;rw[m] at f;exact I q f
  ·rw[Ya e] at f;refine⟨(r.own j c q f).1,?_⟩;have ne:q≠p:=λz=>r.dis j c i (bX e) q f (z▸n);rw[upd_ne ne];exact(r.own j c q f).2
 ·by_cases e:j=i
  ·subst e;rw[m] at f;rw[Ya y];exact hd k y q f
  ·rw[Ya e] at f;by_cases B:k=i
   ·subst B;rw[m];exact λz=>hd j e q z f
   ·rw[Ya B];exact r.dis j c k y q f
end
noncomputable def Kep(a b:List aL):Prop:=a=b\/a=[]
theorem Kep.refl(a:List aL):Kep a a:=.inl rfl
theorem Kep.trans{a b c:List aL}(h:Kep a b)(k:Kep b c):Kep a c:=by
 rcases h with rfl | h
 ·exact k
 ·exact .inr h
inductive Out where
 | nx (s:ZG) | rt (l:PV) | bk (s:ZG) | ct (s:ZG)
abbrev XS:=ZG->Option Out
noncomputable def OutOk(K:aH)(O W:List Nat)(H0:Hp)(fps:Nat->List aL)(σ:Pw)(D:Y9):Out->Prop
 | .nx s'=>∀p6 σ' H',Rel K O H0 p6 s' σ' H'->(∀j,j∉W->σ'[j]?=σ[j]?/\Kep (p6 j) (fps j))->D.nx σ' H'
 | .bk s'=>∀p6 σ' H',Rel K O H0 p6 s' σ' H'->(∀j,j∉W->σ'[j]?=σ[j]?/\Kep (p6 j) (fps j))->D.bk σ' H'
 | .ct s'=>∀p6 σ' H',Rel K O H0 p6 s' σ' H'->(∀j,j∉W->σ'[j]?=σ[j]?/\Kep (p6 j) (fps j))->D.ct σ' H'
 | .rt l=>∀v fp H',Same H0 H'->Is K H' l v fp->fp.Nodup->(∀p∈fp,H0 p=aA/\UU (H' p))->D.rt v H'
noncomputable def tFS(K:aH)(O W:List Nat)(f:XS):TS:=λD σ H=>∃H0 fps s out,Rel K O H0 fps s σ H/\f s=ax out/\OutOk K O W H0 fps σ D out
noncomputable def VS(X:Cx)(O W:List Nat)(st:cB)(f:XS):Prop:=PS X st (tFS X.K O W f)
noncomputable def VSs(X:Cx)(O W:List Nat)(st:List cB)(f:XS):Prop:=PSs X st (tFS X.K O W f)
theorem OutOk.same{O W i:List Nat}{m:Hp}{fps c:Nat->List aL}{n e:Pw}{D:Y9}{out:Out}(h:OutOk K O i m fps n D out)(k:∀j,j∉i->e[j]?=n[j]?/\Kep (c j) (fps j))(d:∀j,j∉i->j∉W):OutOk K O W m c e D out:=by
 cases out with
 | nx s'=>exact λg b f r q=>h g b f r λj a=>⟨(q j (d j a)).1.trans (k j a).1,(q j (d j a)).2.trans (k j a).2⟩
 | bk s'=>exact λg b f r q=>h g b f r λj a=>⟨(q j (d j a)).1.trans (k j a).1,(q j (d j a)).2.trans (k j a).2⟩
 | ct s'=>exact λg b f r q=>h g b f r λj a=>⟨(q j (d j a)).1.trans (k j a).1,(q j (d j a)).2.trans (k j a).2⟩
 | rt l=>exact h
theorem OutOk.less{O W:List Nat}{f F:Hp}{fps:Nat->List aL}{g:Pw}{D:Y9}{out:Out}(h:OutOk K O W f fps g D out)(e:Same f F):OutOk K O W F fps g D out:=by
 cases out with
 | nx s'=>exact λc a b r q=>h c a b (r.less e) q
 | bk s'=>exact λc a b r q=>h c a b (r.less e) q
 | ct s'=>exact λc a b r q=>h c a b (r.less e) q
 | rt l=>exact λv m b k i d n=>h v m b (e.trans k) i d λp j=>⟨Same.off e (n p j).1,(n p j).2⟩
noncomputable def YE:XS:=λs=>ax (.nx s)
noncomputable def Zn(f g:XS):XS:=λs=>(f s).bind λo=>match o with | .nx s'=>g s' | r=>ax r
noncomputable def Ru(c:XT)(f g:XS):XS:=λs=>(c s).bind λk=>if k=aC then f s else g s
noncomputable def ZQ(f:XE):XS:=λs=>(f s).map .rt
noncomputable def Zs(i:Nat)(f:XE):XS:=λs=>(f s).map λl=>.nx (s.set i (ax l))
section
variable {X:Cx} {O W W1 W2:List Nat} {st:cB} {YC:List cB} {f g:XS} {pos:dw}
theorem PS.imp{t t':TS}(h:PS X st t)(i:∀D a H,t' D a H->t D a H):PS X st t':=λb s a H D I q=>h b s a H D I (i D a H q)
theorem PSs.imp{t t':TS}(h:PSs X YC t)(i:∀D a H,t' D a H->t D a H):PSs X YC t':=λb s a H D I q=>h b s a H D I (i D a H q)
theorem Ao:∀D a H,tFS K O W YE D a H->Zgt D a H:=λD a H ⟨b,fps,s,out,r,e,k⟩=>by cases e;exact k fps a H r λj _=>⟨rfl,Kep.refl _⟩
theorem Yi:VSs X O [] [] YE:=PSs.imp Zda Ao
theorem Zg(h:VS X O W st f):VSs X O W [st] f:=Zdb h
theorem Zd(u:VS X O W1 st f)(w:VSs X O W2 YC g):VSs X O (W1++W2) (st::YC) (Zn f g):=PSs.imp (JU u w) λD B H ⟨q,fps,s,out,r,e,k⟩=>by
 obtain⟨p,y,e⟩:=Zc e;have a:∀j,j∉W1++W2->j∉W1:=λj b z=>b (ao _ z);have h:∀j,j∉W1++W2->j∉W2:=λj b z=>b (ah _ z);refine⟨q,fps,s,p,r,y,?_⟩
 cases p with
 | nx s1=>
  intro d x A t v;exact⟨q,d,s1,out,t,e,k.same (λj b=>v j (a j b)) h⟩
 | bk s1=>cases e;exact λi c o n m=>k i c o n λj b=>m j (a j b)
 | ct s1=>cases e;exact λi c o n m=>k i c o n λj b=>m j (a j b)
 | rt l=>cases e;exact k
theorem Xu{c:bO}{a b:List cB}{m:XT}(n:VT X c m)(o:VSs X O W1 a f)(p:VSs X O W2 b g):VS X O (W1++W2) (.If c a b pos) (Ru m f g):=PS.imp (Zkq n o p) λD u H ⟨l,fps,s,out,r,e,k⟩=>by
 obtain⟨c,q,e⟩:=Zc e;have d:∀j,j∉W1++W2->j∉W1:=λj i z=>i (ao _ z);have h:∀j,j∉W1++W2->j∉W2:=λj i z=>i (ah _ z);refine⟨λ_=>False,s,c,λ_ z=>z.elim,r.env,q,λt s1=>?_⟩
 cases c with
 | true=>
  exact⟨l,fps,s,out,r.grow s1,e,k.same (λj _=>⟨rfl,Kep.refl _⟩) d⟩
 | false=>
  exact⟨l,fps,s,out,r.grow s1,e,k.same (λj _=>⟨rfl,Kep.refl _⟩) h⟩
theorem Zz{e:bO}{a:XE}(f:VM X e a):VS X O [] (.Return (ax e) pos) (ZQ a):=PS.imp (HW f) λD o H ⟨m,fps,s,out,r,e,k⟩=>by obtain⟨l,h,rfl⟩:=map_some e;exact⟨s,l,r.env,h,λv g j c i d n=>k v j g (r.same.trans c) i d λp b=>⟨Same.off r.same (n p b).1,(n p b).2⟩⟩
theorem TN{e:bO}{i:Nat}(d:PE X e (Pp i))(c:i∈O:=by decide):VS X O [] (.Return (ax e) pos) (ZQ (Za i)):=PS.imp (HW d) λD h H ⟨g,fps,s,out,r,e,k⟩=>by obtain⟨l,f,rfl⟩:=map_some e;obtain⟨v,a,b⟩:=r.is i l (Ls f);exact⟨v,a,k v _ H r.same b (r.nd i c) (r.own i c)⟩
theorem Et{t:TE}{i:Nat}{c:XE}(f:∀a H Q,tM K c a H Q->t a H Q):∀D a H,tFS K O [i] (Zs i c) D a H->Ke t (Sq i) D a H:=λD a H ⟨q,fps,s,out,r,e,k⟩=>by
 obtain⟨l,o,rfl⟩:=map_some e;refine f a H _ ⟨s,l,r.env,o,λv m u h is d n=>?_⟩;refine k _ _ m ((r.grow h).set is (λ_=>⟨d,λp b=>⟨Same.off r.same (n p b).1,(n p b).2⟩⟩) λj _ _ p b z=>r.dom j p z (n p b).1) λj g=>?_;have:j≠i:=by simpa using g
 exact⟨by rw[bW,pW (bX this)],.inl (Ya this)⟩
theorem Zi6{i:Nat}{x:bH}{e:bO}{a:XE}{pos':dw}(f:X.N.Nodup)(g:X.N[i]?=ax x)(b:BB X.env.scope x)(c:VM X e a)(d:iC e (ax (.Name x pos')) pos.line X.env=pure aB:=by rfl)(j:X.fn x=aC\/X.env.scope.names.lookup x=ax .local:=by first | exact .inl rfl | exact .inr rfl | assumption) :
  VS X O [i] (.Assign [.Name x pos'] e pos) (Zs i a):=PS.imp (BF f g b c d j) (Et λ_ _ _ h=>h)
end
noncomputable def VF(T:Tgt)(fb:XS):List PV->ZG->Option Out
 | [],s=>ax (.nx s)
 | l::r,s=>(Xg T l s).bind λs1=>(fb s1).bind λo=>match o with | .nx s2=>VF T fb r s2 | .ct s2=>VF T fb r s2 | .bk s2=>ax (.nx s2) | .rt v=>ax (.rt v)
noncomputable def YU(O:List Nat)(fi:XL)(T:Tgt)(fb:XS):XS:=λs=>(fi (Xr O s)).bind λls=>VF T fb ls s
theorem Rel.setAll{O:List Nat}{m H:Hp}:∀{is:List Nat}{ls:List PV}{vs:List V}{fs:List aL}{fps:Nat->List aL}{s:ZG}{σ:Pw},Rel K O m fps s σ H->Iss K H ls vs fs->ls.length=is.length->(∀i∈is,i∉O)->(∀i∈O,∀p∈fps i,p∉fs)->
  ∃k,Rel K O m k (VL.setAll is ls s) (Xb is vs σ) H/\∀j,j∉is->(Xb is vs σ)[j]?=σ[j]?/\Kep (k j) (fps j)
 | [],ls,vs,fs,fps,s,σ,r,_,_,_,_=>⟨fps,by unfold VL.setAll Xb;exact r,λj _=>⟨by unfold Xb;rfl,Kep.refl _⟩⟩
 | i::is,[],vs,fs,fps,s,σ,r,_,hl,_,_=>by simp at hl
 | i::is,l::ls,vs,fs,fps,s,σ,r,hi,hl,hO,hd=>by
  obtain⟨x,v,f1,w,rfl,q,t,rfl⟩:=hi.inv;have g:=hO i ag
  have o:=r.set (i:=i) q (λz=>absurd z g) λj f c p h z=>by
   rcases c with c | c
   ·exact hd j c p z (ao _ h)
   ·exact absurd c g
  obtain⟨k,u,n⟩:=Rel.setAll (is:=is) o t (by simpa using hl) (λj f=>hO j (aN _ f)) λj f p h z=>by have d:j≠i:=λe=>g (by rw[<-e];exact f);rw[Ya d] at h;exact hd j f p h (ah _ z)
  refine⟨k,u,λj f=>?_⟩;have d:j≠i:=λe=>f (e▸ag);obtain⟨a,b⟩:=n j (λz=>f (aN _ z));exact⟨a.trans (by rw[bW,pW (bX d)]),b.trans (.inl (Ya d))⟩
section
variable {O W:List Nat} {T:Tgt} {fb:XS}
theorem Ap{A:Hp}{fps:Nat->List aL}{s:ZG}{F:Pw}{D:Y9}{J:It}{ls:List PV}{out:Out}(r:Rel K O (PJ A (Ow O fps)) fps s F A)(C:JIs K (Ow O fps) A J ls)(e:VF T fb ls s=ax out)(hT:∀i∈T.slots,i∉O)
  (k:OutOk K O (T.slots++W) (PJ A (Ow O fps)) fps F D out):Zny (gT K T) (tFS K O W fb) D F J A:=by
 have w:∀j,j∉T.slots++W->j∉T.slots:=λj a z=>a (ao _ z);have c:∀j,j∉T.slots++W->j∉W:=λj a z=>a (ah _ z)
 refine⟨λi m f G=>m=ls.length-i/\i<=ls.length/\∃R S,Rel K O (PJ A (Ow O fps)) R S f G/\VF T fb (ls.drop i) S=ax out/\∀j,j∉T.slots++W->f[j]?=F[j]?/\Kep (R j) (fps j),
  ⟨ls.length,by simp,dq _,fps,s,r,e,λj _=>⟨rfl,Kep.refl _⟩⟩,?_⟩
 rintro i m f G ⟨rfl,hi,R,S,Q,g,U⟩;have ab:=λb o h n=>Q.same b o (by unfold PJ;rw[pW n];exact h)
 cases q:ls.drop i with
 | nil=>
  have Z:i=ls.length:=by have:=congrArg df q;simp at this;omega
  subst Z;rw[q] at g;cases g;exact .inl ⟨C.stop G ab,k R f G Q U⟩
 | cons l rr=>
  obtain⟨Y,hr⟩:=OZ q;have L:=(aR.mp Y).1;rw[q] at g;obtain⟨sb,eb,g⟩:=Zc g;obtain⟨o,eo,g⟩:=Zc g
  refine .inr ⟨C.go G i l ab Y,λE P=>∃fps2 s2,Rel K O (PJ A (Ow O fps)) fps2 s2 E P/\VF T fb (ls.drop (i+1)) s2=ax out/\∀j,j∉T.slots++W->E[j]?=F[j]?/\Kep (fps2 j) (fps j),
   λE P h2=>⟨ls.length-(i+1),by omega,rfl,L,h2⟩,λx P y=>?_⟩
  obtain⟨s2,fx,ix,nx⟩:=C.yld G i l x P ab Y y;obtain⟨bl,bv,bf,rfl,bi,H,I,M⟩:=Kz ix eb;obtain⟨t,r3,q3⟩:=Rel.setAll (Q.grow s2) bi H hT λj a p hp z=>by obtain⟨n1,n2⟩:=nx p (I p z);have:=(Q.own j a p hp).1;unfold PJ at this;rw[pW n2] at this;exact n1 this
  refine M _ _ ⟨_,t,_,o,r3,eo,?_⟩;have keep:∀j,j∉T.slots++W->(Xb T.slots bv f)[j]?=F[j]?/\Kep (t j) (fps j):=λj a=>⟨(q3 j (w j a)).1.trans (U j a).1,(q3 j (w j a)).2.trans (U j a).2⟩
  cases o with
  | nx s4=>exact λd B X N u=>⟨d,s4,N,by rw[hr];exact g,λj a=>⟨(u j (c j a)).1.trans (keep j a).1,(u j (c j a)).2.trans (keep j a).2⟩⟩
  | ct s4=>exact λd B X N u=>⟨d,s4,N,by rw[hr];exact g,λj a=>⟨(u j (c j a)).1.trans (keep j a).1,(u j (c j a)).2.trans (keep j a).2⟩⟩
  | bk s4=>
   cases g;exact λd B X N u=>k d B X N λj a=>⟨(u j (c j a)).1.trans (keep j a).1,(u j (c j a)).2.trans (keep j a).2⟩
  | rt v=>
   cases g;exact k
end
section
variable {X:Cx} {O W:List Nat} {tg iter:bO} {body:List cB} {fi:XL} {T:Tgt} {fb:XS} {pos:dw}
theorem Zi7(j:mM (model X.prog X.w) X.A X.env X.xe)(b:X.calm=aC)(f:VI X tg iter fi)(c:PG X tg (gT X.K T))(g:VSs X O W body fb)(h:∀i∈T.slots,i∉O:=by decide)
  (d:∀x,cK iter X.env x=pure x:=by intro _;rfl):VS X O (T.slots++W) (.For tg iter body [] pos) (YU O fi T fb):=PS.imp (Zh7 j b f c g d) λD o H ⟨n,fps,s,out,r,e,k⟩=>by
 obtain⟨ls,l,e⟩:=Zc e;refine⟨Ow O fps,Xr O s,ls,r.owMut,r.envO,l,λJ m s1 a=>?_⟩;exact Ap (r.grow s1).frame a e h (k.less (r.grow s1).under)
end
noncomputable def YT(c:XT)(fb:XS):Nat->ZG->Option Out
 | 0,_=>aA
 | n+1,s=>(c s).bind λk=>if k=aC then(fb s).bind λo=>match o with | .nx s2=>YT c fb n s2 | .ct s2=>YT c fb n s2 | .bk s2=>ax (.nx s2) | .rt v=>ax (.rt v) else ax (.nx s)
theorem U3{c:XT}{fb:XS}:∀{n:Nat}{s:ZG}{o:Out},YT c fb n s=ax o->YT c fb (n+1) s=ax o
 | 0,_,_,h=>by cases h
 | n+1,s,o,h=>by
  unfold YT at h ⊢;obtain⟨k,d,h⟩:=Zc h;rw[d]
  cases k with
  | false=>exact h
  | true=>
   rw[p9 rfl] at h;obtain⟨a,b,h⟩:=Zc h;simp only[aQ,if_true,b]
   cases a with
   | nx s2=>exact U3 h
   | ct s2=>exact U3 h
   | bk s2=>exact h
   | rt v=>exact h
theorem Lw{c:XT}{fb:XS}{n m:Nat}{s:ZG}{o:Out}(h:YT c fb n s=ax o)(a:n<=m):YT c fb m s=ax o:=by
 induction m with
 | zero=>
  have:n=0:=by omega
  subst this;exact h
 | succ m ih=>
  by_cases e:n=m+1
  ·subst e;exact h
  ·exact U3 (ih (by omega))
open Classical in
noncomputable def XC(c:XT)(fb:XS):XS:=λs=>if h:∃n,(YT c fb n s).isSome=aC then YT c fb h.choose s else aA
theorem Lx{c:XT}{fb:XS}{n:Nat}{s:ZG}{o:Out}(h:YT c fb n s=ax o):XC c fb s=ax o:=by
 have b:∃n,(YT c fb n s).isSome=aC:=⟨n,by rw[h];rfl⟩;unfold XC;rw[dif_pos b];obtain⟨d,e⟩:=cT.mp b.choose_spec;rw[e];rcases Nat.le_total n b.choose with a | a
 ·rw[Lw h a] at e;exact e.symm
 ·rw[Lw e a] at h;exact h
section
variable {X:Cx} {O W:List Nat} {c:bO} {body:List cB} {fc:XT} {fb:XS} {pos:dw}
theorem VG(L:mM (model X.prog X.w) X.A X.env X.xe)(F:VT X c fc)(J:VSs X O W body fb):VS X O W (.While c body [] pos) (XC fc fb):=PS.imp (BG L F J) λD B H ⟨y,fps,s,out,r,e,k⟩=>by
 unfold XC at e;split at e
 case isFalse=>cases e
 rename_i G;generalize G.choose=n at e;refine⟨λm g C=>∃u q,Rel X.K O y u q g C/\YT fc fb m q=ax out/\∀j,j∉W->g[j]?=B[j]?/\Kep (u j) (fps j),⟨n,fps,s,r,e,λj _=>⟨rfl,Kep.refl _⟩⟩,?_⟩;rintro m g C ⟨u,q,A,f,i⟩
 cases m with
 | zero=>cases f
 | succ m=>
  obtain⟨b,M,f⟩:=Zc f;refine⟨λ_=>False,q,b,λ_ z=>z.elim,A.env,M,λw s2=>?_⟩
  cases b with
  | false=>
   cases f;exact k u g w (A.grow s2) i
  | true=>
   obtain⟨o,E,f⟩:=Zc f;refine⟨λp w=>∃fps2 s2,Rel X.K O y fps2 s2 p w/\YT fc fb m s2=ax out/\∀j,j∉W->p[j]?=B[j]?/\Kep (fps2 j) (fps j),λp w I=>⟨m,dt m,I⟩,y,u,q,o,A.grow s2,E,?_⟩
   cases o with
   | nx s4=>exact λa l x t h=>⟨a,s4,t,f,λj d=>⟨(h j d).1.trans (i j d).1,(h j d).2.trans (i j d).2⟩⟩
   | ct s4=>exact λa l x t h=>⟨a,s4,t,f,λj d=>⟨(h j d).1.trans (i j d).1,(h j d).2.trans (i j d).2⟩⟩
   | bk s4=>
    cases f;exact λa l x t h=>k a l x t λj d=>⟨(h j d).1.trans (i j d).1,(h j d).2.trans (i j d).2⟩
   | rt v=>cases f;exact k
end
end VL
namespace VL
open PySem PySem.Spec PyProof.Rows L2
variable {K:aH}
section
variable {O:List Nat} {H0 H H':Hp} {fps:Nat->List aL} {s:ZG} {σ:Pw}
theorem Rel.lst_at(r:Rel K O H0 fps s σ H){i:Nat}(h:i∈O){m:List PV}(e:s[i]?=ax (ax (.lst m))):∃p xs c,σ[i]?=ax (ax (.ref p))/\H p=ax (.lst xs)/\Iss K H m xs c/\fps i=p::c:=by obtain⟨v,a,b⟩:=r.is i _ e;obtain⟨p,xs,c,rfl,f,d,g⟩:=b.lst_inv;exact⟨p,xs,c,a,f,d,g⟩
theorem Rel.dT_at(r:Rel K O H0 fps s σ H){i:Nat}(k:i∈O){f:List (List Y8)}{m:List PV}(e:s[i]?=ax (ax (.dT f m))):∃p p4 d,σ[i]?=ax (ax (.ref p))/\H p=ax (.dT p4)/\p4.map (·.1)=f/\Iss K H m (p4.map (·.2)) d/\fps i=p::d:=by
 obtain⟨v,a,b⟩:=r.is i _ e;obtain⟨p,xs,d,rfl,c,l,j,h⟩:=b.dT_inv;refine⟨p,xs,d,a,?_,l,j,h⟩;have g:=(r.own i k p (by rw[h];exact ag)).2;rcases c with c | ⟨o,c⟩
 ·exact c
 ·rw[c] at g;exact g.elim
theorem Rel.dK_at(r:Rel K O H0 fps s σ H){i:Nat}(k:i∈O){f:List Y8}{m:List PV}(e:s[i]?=ax (ax (.dK f m))):∃p p4 d,σ[i]?=ax (ax (.ref p))/\H p=ax (.dK p4)/\p4.map (·.1)=f/\Iss K H m (p4.map (·.2)) d/\fps i=p::d:=by
 obtain⟨v,a,b⟩:=r.is i _ e;obtain⟨p,xs,d,rfl,c,l,j,h⟩:=b.dK_inv;refine⟨p,xs,d,a,?_,l,j,h⟩;have g:=(r.own i k p (by rw[h];exact ag)).2;rcases c with c | ⟨o,c⟩
 ·exact c
 ·rw[c] at g;exact g.elim
theorem TQ{b:Type}{l:List b}{i:Nat}{a:b}(h:l[i]?=ax a):i<l.length:=(aR.mp h).1
theorem TK.upd'{p:aL}{o:HO}(a:UU (H p)):TK2 H (L2.upd H p o):=⟨λb xs h=>by
 rw[upd_ne (λz=>by rw[z] at h;rw[h] at a;exact a)];exact h,λb o xs h=>by
 rw[upd_ne (λz=>by rw[z] at h;rw[h] at a;exact a)];exact h,λb o x h=>by
 rw[upd_ne (λz=>by rw[z] at h;rw[h] at a;exact a)];exact h⟩
theorem RdK.upd_ne{p q:aL}{o:HO}(ne:q≠p):RdK H (L2.upd H p o) q:=RdK.of λu a=>by rw[L2.upd_ne ne];exact a
theorem Rel.relist(r:Rel K O H0 fps s σ H){i:Nat}(c:i∈O){m t:List PV}(e:s[i]?=ax (ax (.lst m))){p:aL}{o b:List aL}{d:List V}(g:fps i=p::o)(v:σ[i]?=ax (ax (.ref p)))
  (h':Iss K H t d b) (n:(p::b).Nodup) (l:∀q∈b,q∈o\/((H0 q=aA/\UU (H q))/\∀j,q∉fps j)):Rel K O H0 (PL fps s.length i (p::b)) (s.set i (ax (.lst t))) σ (L2.upd H p (.lst d)):=by
 have f:p∈fps i:=by rw[g];exact ag
 have w:=(r.own i c p f).2;have u:=(aq.mp n).1;refine r.mutate c f v (TQ e) (Is.lst Zk (Iss.tr (TK.upd' w) _ _ _ (λq a=>RdK.upd_ne λz=>u (z▸a)) h')) n (λq a=>?_) (λj k q a z=>?_) b8
 ·rcases aa.mp a with rfl | a
  ·exact⟨(r.own i c q f).1,by rw[Zk];exact b8⟩
  ·have ne:q≠p:=λz=>u (z▸a);rw[L2.upd_ne ne];rcases l q a with h | h
   ·exact r.own i c q (by rw[g];exact aN _ h)
   ·exact h.1
 ·rcases aa.mp a with rfl | a
  ·exact r.dis i c j k q f z
  ·rcases l q a with h | h
   ·exact r.dis i c j k q (by rw[g];exact aN _ h) z
   ·exact h.2 j z
end
noncomputable def MI(s:ZG)(i:Nat):Option (List PV):=match s[i]? with | some (ax (.lst m))=>ax m | _=>aA
noncomputable def DZ:PV->Option Int
 | .int k=>ax k
 | _=>aA
noncomputable def asL:PV->Option (List PV)
 | .lst k=>ax k
 | _=>aA
theorem VH{s:ZG}{i:Nat}{m:List PV}(h:MI s i=ax m):s[i]?=ax (ax (.lst m)):=by
 unfold MI at h;split at h
 ·cases h;assumption
 ·cases h
theorem U4{a:PV}{k:Int}(h:DZ a=ax k):a = .int k:=by
 unfold DZ at h;split at h
 ·cases h;rfl
 ·cases h
theorem Ik{a:PV}{k:List PV}(h:asL a=ax k):a = .lst k:=by
 unfold asL at h;split at h
 ·cases h;rfl
 ·cases h
noncomputable def gd(c:Bool):Option Unit:=if c=aC then ax () else aA
theorem Vi{c:Bool}{u:Unit}(h:gd c=ax u):c=aC:=by
 unfold gd at h;split at h
 ·assumption
 ·cases h
noncomputable def Yz(i:Nat)(f:XE):XS:=λs=>(f s).bind λl=>(MI s i).bind λm=>(gd (decide (m.length<=10000))).bind λ_=>ax (.nx (s.set i (ax (.lst (m++[l])))))
noncomputable def WB(i:Nat)(f:XE):XS:=λs=>(f s).bind λl=>(asL l).bind λn=>(MI s i).bind λm=>(gd (decide (m.length+n.length<=10000))).bind λ_=>ax (.nx (s.set i (ax (.lst (m++n)))))
noncomputable def TR(i:Nat)(fk:XE)(f:XE):XS:=λs=>(fk s).bind λk=>(f s).bind λl=>(DZ k).bind λk=>(MI s i).bind λm=>(gd (ZC m&&ZO l&&decide (0<=k/\k<=1000000/\m.length<=10000))).bind λ_=>ax (.nx (s.set i (ax (.lst (m.take k.toNat++l::m.drop k.toNat)))))
noncomputable def SM(i:Nat)(fk:XE)(f:XE):XS:=λs=>(f s).bind λl=>(fk s).bind λk=>(DZ k).bind λk=>(MI s i).bind λm=>(gd (ZC m&&ZO l)).bind λ_=>(J0 m.length k).map λj=>.nx (s.set i (ax (.lst (m.set j l))))
section
variable {X:Cx} {O:List Nat} {i:Nat} {st:cB} {f fk:XE}
theorem tyL{H:Hp}{p:aL}{xs:List V}(h:H p=ax (.lst xs)):tyV K "list" (.ref p) H:=.inl ⟨rfl,_,SqL.of h⟩
theorem O2{s:ZG}{a:Pw}{fps:Nat->List aL}{c:List aL}:∀j,j∉[i]->a[j]?=a[j]?/\Kep (PL fps s.length i c j) (fps j):=λj b=>⟨rfl,.inl (Ya (by simpa using b))⟩
theorem Xc(h:PS X st (F5 (tBM X.K "list" Eb (Pp i) (Q4 (tM X.K f) DJ))))(n:i∈O:=by decide):VS X O [i] st (Yz i f):=PS.imp h λD P H ⟨L,fps,s,out,r,e,k⟩=>by
 obtain⟨l,G,e⟩:=Zc e;obtain⟨m,c,e⟩:=Zc e;obtain⟨_,B,e⟩:=Zc e;have c:=VH c;have u:=of_decide_eq_true (Vi B);cases e;obtain⟨p,xs,N,t,x,w,d⟩:=r.lst_at n c;refine⟨.ref p,t,tyL x,s,l,r.env,G,λy M J s2 I A g=>?_⟩;refine⟨p,xs,y,rfl,rfl,s2 _ _ x,by rw[w.len];exact lt_size (by omega),?_⟩;have E:=r.grow s2;have fr:=λq o j z=>r.dom j q z (g q o).1;refine k _ _ _ (E.relist n c d t ((w.mono s2).append (Iss.one I)) ?_ λq o=>?_) O2
 ·have v:=r.nd i n;rw[d] at v;exact cN.mpr ⟨v,A,λa C b F z=>fr b F i (by rw[d,<-z];exact C)⟩
 ·rcases aV.mp o with h | h
  ·exact .inl h
  ·exact .inr ⟨⟨Same.off r.same (g q h).1,(g q h).2⟩,fr q h⟩
theorem Ly(h:PS X st (F5 (tBM X.K "list" Ec (Pp i) (Q4 (tM X.K f) DJ))))(t:i∈O:=by decide):VS X O [i] st (WB i f):=PS.imp h λD U H ⟨R,fps,s,out,r,e,k⟩=>by
 obtain⟨l,F,e⟩:=Zc e;obtain⟨n,M,e⟩:=Zc e;obtain⟨m,c,e⟩:=Zc e;obtain⟨_,I,e⟩:=Zc e;rw[Ik M] at F;have c:=VH c;have x:=of_decide_eq_true (Vi I);cases e;obtain⟨p,xs,T,w,E,B,g⟩:=r.lst_at t c;refine⟨.ref p,w,tyL E,s,_,r.env,F,λy S Q s2 P G o=>?_⟩;obtain⟨b,L,fb,rfl,u,C,rfl⟩:=P.lst_inv;have d:=u;refine⟨p,b,xs,L,rfl,rfl,s2 _ _ E,d,by rw[B.len,C.len];exact cJ (lt_size (by omega)),?_⟩;have N:=r.grow s2;have fr:=λq v j z=>r.dom j q z (o q (aN _ v)).1;refine k _ _ _ (N.relist t c g w ((B.mono s2).append C) ?_ λq v=>?_) O2
 ·have A:=r.nd i t;rw[g] at A;exact cN.mpr ⟨A,(aq.mp G).2,λa J b u z=>fr b u i (by rw[g,<-z];exact J)⟩
 ·rcases aV.mp v with h | h
  ·exact .inl h
  ·exact .inr ⟨⟨Same.off r.same (o q (aN _ h)).1,(o q (aN _ h)).2⟩,fr q h⟩
theorem Iss.pureEq{H:Hp}{l:List PV}{xs:List V}{b:List aL}(h:Iss K H l xs b)(a:ZC l=aC):Iss K H l xs []:=by have:=Iss.pure _ _ _ a h;subst this;exact h
theorem O3{l:List PV}(n:Nat)(h:ZC l=aC):ZC (l.take n)=aC:=by rw[X1,bK] at *;exact λx a=>h x (cW a)
theorem O4{l:List PV}(n:Nat)(h:ZC l=aC):ZC (l.drop n)=aC:=by rw[X1,bK] at *;exact λx a=>h x (dh a)
theorem Lz(h:PS X st (F5 (tBM X.K "list" Ef (Pp i) (Q4 (tF X.K fk) (Q4 (tF X.K f) DJ)))))(w:i∈O:=by decide):VS X O [i] st (TR i fk f):=PS.imp h λD W H ⟨R,fps,s,out,r,e,k⟩=>by obtain⟨T,u,e⟩:=Zc e;obtain⟨l,M,e⟩:=Zc e;obtain⟨n,I,e⟩:=Zc e;obtain⟨m,c,e⟩:=Zc e;obtain⟨_,C,e⟩:=Zc e;rw[U4 I] at u;have c:=VH c;have t:=Vi C;simp only[aw,decide_eq_true_eq] at t;obtain⟨⟨j,F⟩,L,Q,v⟩:=t;cases e;obtain⟨p,xs,U,o,A,x,E⟩:=r.lst_at w c;refine⟨.ref p,o,tyL A,λ_=>False,s,_,λ_ z=>z.elim,r.env,u,λz N Y s1 G _=>⟨λ_=>False,s,l,λ_ z=>z.elim,r.env.mono s1,M,λy S P s2 B _=>?_⟩⟩;have a:=s1.trans s2;obtain⟨rfl,_⟩:=G.int_inv;have:=Is.pure _ _ _ F B;subst this;refine⟨p,xs,n,y,rfl,rfl,a _ _ A,L,by omega,by rw[x.len];exact lt_size (by omega),?_⟩;have b:=(x.mono a).pureEq j;obtain⟨f1,d,_⟩:=b.take n.toNat;obtain⟨Z,g,_⟩:=b.drop n.toNat;have d:=d.pureEq (O3 _ j);have g:=g.pureEq (O4 _ j);exact k _ _ _ ((r.grow a).relist w c E o (d.append (Iss.cons B g)) (by simp) λq J=>by simp at J) O2
theorem O5(h:PS X st (Ke (tF X.K f) (Zh2 (Pp i) (tF X.K fk) BQ)))(n:i∈O:=by decide):VS X O [i] st (SM i fk f):=PS.imp h λD R H ⟨L,fps,s,out,r,e,k⟩=>by obtain⟨l,x,e⟩:=Zc e;obtain⟨P,v,e⟩:=Zc e;obtain⟨F,B,e⟩:=Zc e;obtain⟨m,b,e⟩:=Zc e;obtain⟨_,w,e⟩:=Zc e;rw[U4 B] at v;have b:=VH b;have d:=Vi w;simp only[aw] at d;obtain⟨t,g⟩:=d;obtain⟨j,E,rfl⟩:=map_some e;obtain⟨p,xs,Q,c,G,o,A⟩:=r.lst_at n b;refine⟨λ_=>False,s,l,λ_ z=>z.elim,r.env,x,λy J M s1 u _=>?_⟩;refine⟨.ref p,c,λ_=>False,s,_,λ_ z=>z.elim,r.env.mono s1,v,λz N S s2 I _=>?_⟩;have a:=s1.trans s2;obtain⟨rfl,_⟩:=I.int_inv;have:=Is.pure _ _ _ g u;subst this;refine⟨p,xs,F,j,rfl,rfl,a _ _ G,by rw[o.len];exact E,?_⟩;exact k _ _ _ ((r.grow a).relist n b A c (Iss.setP j t g ((o.mono a).pureEq t) (u.mono s2)) (by simp) λq C=>by simp at C) O2
end
theorem Iss.setRow{H:Hp}{o:List V}:∀{m:List PV}{xs:List V}{fq:List aL}{j:Nat}{n n':List PV}{q:aL},Iss K H m xs fq->m[j]?=ax (.lst n)->xs[j]?=ax (.ref q)->fq.Nodup->UU (H q)->ZC n=aC->Iss K (L2.upd H q (.lst o)) n' o []->
  Iss K (L2.upd H q (.lst o)) (m.set j (.lst n')) xs fq
 | [],_,_,_,_,_,_,_,e,_,_,_,_,_=>by simp at e
 | a::m,xs,fq,0,n,n',q,h,e,ex,nd,mu,pn,h'=>by obtain⟨x,r,f1,p,rfl,g,d,rfl⟩:=h.inv;simp at e ex;subst e ex;obtain⟨v,t,A,e,C,c,rfl⟩:=g.lst_inv;cases e;have:=Iss.pure _ _ _ pn c;subst this;have f:q∉p:=(aq.mp nd).1;exact Iss.cons (Is.lst Zk h') (Iss.tr (TK.upd' mu) _ _ _ (λz c=>RdK.upd_ne λe=>f (e▸c)) d)
 | a::m,xs,fq,j+1,n,n',q,h,e,ex,nd,mu,pn,h'=>by obtain⟨x,r,f1,p,rfl,g,d,rfl⟩:=h.inv;simp at e ex;obtain⟨w,k,i⟩:=cN.mp nd;obtain⟨y,B,l,s,b⟩:=d.get e;rw[ex] at l;cases l;obtain⟨v,t,A,u,_,_,rfl⟩:=s.lst_inv;cases u;have f:q∉f1:=λz=>i q z q (b q ag) rfl;exact Iss.cons (Is.tr (TK.upd' mu) _ _ _ (λz c=>RdK.upd_ne λe=>f (e▸c)) g) (Iss.setRow d e ex k mu pn h')
noncomputable def WC(i:Nat)(fa fb:XE)(f:XE):XS:=λs=>(f s).bind λl=>(fa s).bind λa=>(fb s).bind λb=>(DZ a).bind λa=>(DZ b).bind λb=>(MI s i).bind λm=>(J0 m.length a).bind λj=>(m[j]?).bind λr=>(asL r).bind λn=>
 (gd (ZC n&&ZO l)).bind λ_=>(J0 n.length b).map λc=>.nx (s.set i (ax (.lst (m.set j (.lst (n.set c l))))))
theorem TU{X:Cx}{O:List Nat}{i:Nat}{st:cB}{f fa fb:XE}(h:PS X st (Ke (tF X.K f) (Zh2 (tOp (Zih X.K) (Pp i) (tF X.K fa)) (tF X.K fb) BQ)))(x:i∈O:=by decide):VS X O [i] st (WC i fa fb f):=PS.imp h λD σ H ⟨H0,fps,s,out,r,e,k⟩=>by
 obtain⟨l,e0,e⟩:=Zc e;obtain⟨a,W,e⟩:=Zc e;obtain⟨b,Y,e⟩:=Zc e;obtain⟨ai,ea,e⟩:=Zc e;obtain⟨bi,eb,e⟩:=Zc e;obtain⟨m,F,e⟩:=Zc e;obtain⟨j,ej,e⟩:=Zc e;obtain⟨Xp,P,e⟩:=Zc e;obtain⟨n,er,e⟩:=Zc e;obtain⟨_,eg,e⟩:=Zc e;rw[U4 ea] at W;rw[U4 eb] at Y;rw[Ik er] at P;have F:=VH F;have hc:=Vi eg;simp only[aw] at hc;obtain⟨J,S⟩:=hc;obtain⟨c,ec,rfl⟩:=map_some e;obtain⟨p,xs,fq,hv,Z,Q,E⟩:=r.lst_at x F;refine⟨λ_=>False,s,l,λ_ z=>z.elim,r.env,e0,λy H1 fy s1 T _=>?_⟩;refine⟨.ref p,hv,λ_=>False,s,_,λ_ z=>z.elim,r.env.mono s1,W,λz H2 fz s2 i2 _=>?_⟩;obtain⟨rfl,_⟩:=i2.int_inv;have g:=s1.trans s2;obtain⟨q,f1,u,iq,v⟩:=(Q.mono g).get P;obtain⟨o,N,fz',rfl,L,U,rfl⟩:=id iq.lst_inv;refine⟨p,xs,ai,.ref o,rfl,rfl,SqL.of (g _ _ Z),?_,λ_=>False,s,_,λ_ z=>z.elim,r.env.mono g,Y,λw H3 fw G i3 _=>?_⟩
 ·unfold R9;rw[Q.len,ej];exact u
 obtain⟨rfl,_⟩:=i3.int_inv;have d:=g.trans G;have M:=r.grow d;have A:o∈fps i:=by rw[E];exact aN _ (v o ag)
 have mu:=(M.own i x o A).2;have B:=G _ _ L;have:=Is.pure _ _ _ S T;subst this;refine⟨o,N,bi,c,rfl,rfl,B,by rw[U.len];exact ec,?_⟩;have I:=r.nd i x;rw[E] at I;have R:o≠p:=λz=>(aq.mp I).1 (z▸v o ag);have t:Iss X.K (L2.upd H3 o (.lst (N.set c y))) (n.set c l) (N.set c y) []:=Iss.tr (TK.upd' mu) _ _ _ (λq u=>by simp at u) (Iss.setP c J S ((U.mono G).pureEq J) (T.mono (s2.trans G)));have C:=Iss.setRow (Q.mono d) P u (aq.mp I).2 mu J t;refine k _ _ _ (M.mutate x A hv (TQ F) (Is.lst (by rw[L2.upd_ne (bX R)];exact d _ _ Z) C) I (λq u=>?_) (λj hj q u z=>r.dis i x j hj q (by rw[E];exact u) z) b8) O2;refine⟨(r.own i x q (by rw[E];exact u)).1,?_⟩;by_cases e:q=o
 ·subst e;rw[Zk];exact b8
 ·rw[L2.upd_ne e];exact(M.own i x q (by rw[E];exact u)).2
noncomputable def Zi8(i:Nat)(g:PV->PV->Option PV)(f:XE):XS:=λs=>match s[i]? with | some (ax a)=>(f s).bind λb=>(g a b).map λl=>.nx (s.set i (ax l)) | _=>aA
theorem Zea{X:Cx}{O:List Nat}{i:Nat}{st:cB}{f:XE}{g:Int->Int->Int}(h:PS X st (Zku i (tF X.K f) (ipI g))):VS X O [i] st (Zi8 i (gI g) f):=PS.imp h λD C H ⟨A,fps,s,out,r,e,k⟩=>by
 unfold Zi8 at e;split at e
 case h_2=>cases e
 rename_i a ea;obtain⟨b,x,e⟩:=Zc e;obtain⟨l,w,rfl⟩:=map_some e;obtain⟨m,n,rfl,rfl,rfl⟩:=Ek w;obtain⟨v,d,t⟩:=r.is i _ ea;refine⟨v,d,λ_=>False,s,_,λ_ z=>z.elim,r.env,x,λy o B s1 u _=>⟨m,n,t.int_inv.1,u.int_inv.1,?_⟩⟩;refine k _ _ o ((r.grow s1).set (Is.int _) (λ_=>⟨cH,λp c=>by simp at c⟩) λj _ _ p c=>by simp at c) λj q=>?_;have:j≠i:=by simpa using q
 exact⟨by rw[bW,pW (bX this)],.inl (Ya this)⟩
noncomputable def Eu(T:Tgt)(f:XE):XS:=λs=>(f s).bind λl=>if ZO l=aC then(Xg T l s).map .nx else aA
theorem Zeb{X:Cx}{O:List Nat}{st:cB}{f:XE}{T:Tgt}(h:PS X st (Ke (tF X.K f) (gT X.K T)))(w:∀i∈T.slots,i∉O:=by decide):VS X O T.slots st (Eu T f):=PS.imp h λD o H ⟨B,fps,s,out,r,e,k⟩=>by
 obtain⟨l,x,e⟩:=Zc e;split at e
 case isFalse=>cases e
 rename_i m;obtain⟨y,u,rfl⟩:=map_some e;refine⟨λ_=>False,s,l,λ_ z=>z.elim,r.env,x,λv d E s1 b _=>?_⟩;have:=Is.pure _ _ _ m b;subst this;obtain⟨ls,vs,fs,rfl,q,n,sub,a⟩:=Kz b u;obtain⟨c,t,g⟩:=Rel.setAll (r.grow s1) q n w λj A p C z=>by have:=sub p z;simp at this
 exact a o D.nx (k c _ d t g)
end VL
namespace VL
open PySem PySem.Spec PyProof.Rows L2
variable {K:aH}
noncomputable def MS:PV->Option Y8
 | .int i=>ax (.inl i)
 | .str x=>ax (.inr x)
 | _=>aA
noncomputable def LA:List PV->Option (List Y8)
 | []=>ax []
 | a::r=>(MS a).bind λk=>(LA r).map (k::·)
noncomputable def MT:PV->Option (List Y8)
 | .tup l=>LA l
 | _=>aA
theorem Oc{H:Hp}{a:PV}{k:Y8}{v:V}{b:List aL}(e:MS a=ax k)(h:Is K H a v b):v=kV k/\b=[]:=by
 cases a with
 | int i=>cases e;exact h.int_inv
 | str x=>cases e;exact h.str_inv
 | _=>cases e
theorem Il{H:Hp}:∀{l:List PV}{ks:List Y8}{xs:List V}{fp:List aL},LA l=ax ks->Iss K H l xs fp->xs=ks.map kV/\fp=[]
 | [],ks,xs,fp,e,h=>by cases e;simpa only[fX,Iss] using h
 | a::r,ks,xs,fp,e,h=>by obtain⟨k,f,e⟩:=Zc (show(MS a).bind (λk=>(LA r).map (k::·))=ax ks from e);obtain⟨i,c,rfl⟩:=map_some e;obtain⟨x,g,f1,j,rfl,d,b,rfl⟩:=h.inv;obtain⟨rfl,rfl⟩:=Oc f d;obtain⟨rfl,rfl⟩:=Il c b;exact⟨rfl,rfl⟩
theorem Ew{H:Hp}{a:PV}{k:List Y8}{v:V}{f:List aL}(e:MT a=ax k)(h:Is K H a v f):∃b,v = .ref b/\H b=ax (.tup (k.map kV)):=by
 cases a with
 | tup l=>
  obtain⟨p,xs,rfl,d,c⟩:=h.tup_inv;obtain⟨rfl,_⟩:=Il (e) c;exact⟨p,rfl,d⟩
 | _=>cases e
section
variable {κ:Type} [DecidableEq κ]
noncomputable def Vs(ks:List κ)(vs:List PV)(k:κ):Option PV:=((ks.zip vs).find? λz=>decide (z.1=k)).map (·.2)
noncomputable def Q6(ks:List κ)(k:κ):List κ:=if k∈ks then ks else ks++[k]
noncomputable def Q7(ks:List κ)(vs:List PV)(k:κ)(v:PV):List PV:=if k∈ks then(ks.zip vs).map λz=>if z.1=k then v else z.2 else vs++[v]
theorem O6{H:Hp}:∀{p4:List (κ×V)}{l:List PV}{fq:List aL}(k:κ),Iss K H l (p4.map (·.2)) fq->
  (Vs (p4.map (·.1)) l k=aA/\S7 p4 k=aA)\/∃a x f,Vs (p4.map (·.1)) l k=ax a/\S7 p4 k=ax x/\Is K H a x f/\∀p∈f,p∈fq
 | [],l,fq,k,h=>.inl ⟨by unfold Vs;simp,rfl⟩
 | kv::r,[],fq,k,h=>by have:=h.len;simp at this
 | kv::r,a::l,fq,k,h=>by
  obtain⟨x,s,f1,t,e,j,m,rfl⟩:=h.inv;cases e;by_cases c:kv.1=k
  ·refine .inr ⟨a,kv.2,f1,?_,S8 c,j,λp d=>ao _ d⟩;unfold Vs;rw[af,dG,c9];simp[c]
  ·have o:Vs ((kv::r).map (·.1)) (a::l) k=Vs (r.map (·.1)) l k:=by unfold Vs;rw[af,dG,c9];simp[c]
   rw[o,S9 c];rcases O6 (l:=l) k m with z | ⟨b,y,f,n,q,g,i⟩
   ·exact .inl z
   ·exact .inr ⟨b,y,f,n,q,g,λp d=>ah _ (i p d)⟩
theorem any_mem{a:List (κ×V)}{k:κ}:(a.any λb=>decide (b.1=k))=aC↔k∈a.map (·.1):=by simp
theorem Ex{a:List (κ×V)}{k:κ}{x:V}:(UP a k x).map (·.1)=Q6 (a.map (·.1)) k:=by
 unfold UP Q6;by_cases h:k∈a.map (·.1)
 ·rw[p9 (any_mem.mpr h),p9 h,bZ];apply au;intro z _;show(if z.1=k then(z.1,x) else z).1=z.1;split<;>rfl
 ·rw[pW (λz=>h (any_mem.mp z)),pW h,ay];rfl
theorem Ey{H:Hp}{c:List (κ×V)}{l:List PV}{k:κ}{a:PV}{x:V}(h:Iss K H l (c.map (·.2)) [])(g:ZC l=aC)(j:Is K H a x [])(p:ZO a=aC):Iss K H (Q7 (c.map (·.1)) l k a) ((UP c k x).map (·.2)) []:=by
 unfold UP Q7;by_cases d:k∈c.map (·.1)
 ·rw[p9 (any_mem.mpr d),p9 d];clear d
  induction c generalizing l with
  | nil=>
   have:=h.len
   cases l with
   | nil=>exact Iss.nil
   | cons _ _=>simp at this
  | cons kv r f=>
   cases l with
   | nil=>have:=h.len;simp at this
   | cons b l=>
    obtain⟨y,q,f1,t,e,i,m,s⟩:=h.inv;cases e;simp only[ZC,aw] at g;have n:=Is.pure _ _ _ g.1 i;have o:=Iss.pure _ _ _ g.2 m;subst n o;have f:=f m g.2;rw[af,dG,af,af];by_cases e:kv.1=k
    ·rw[p9 e,p9 e];exact Iss.cons j f
    ·rw[pW e,pW e];exact Iss.cons i f
 ·rw[pW (λz=>d (any_mem.mp z)),pW d,ay];exact h.append (Iss.one j)
end
noncomputable def UL:PV->PV->Option PV
 | .dK ks vs,k=>(MS k).bind λk=>Vs ks vs k
 | .dT ks vs,k=>(MT k).bind λk=>Vs ks vs k
 | _,_=>aA
noncomputable def dIn:PV->PV->Option Bool
 | .dK ks vs,k=>(MS k).map λk=>(Vs ks vs k).isSome
 | .dT ks vs,k=>(MT k).map λk=>(Vs ks vs k).isSome
 | _,_=>aA
theorem KA{H:Hp}{d k:PV}{x y:V}{A C:List aL}(hd:Is K H d x A)(B:Is K H k y C){b:Bool}(e:dIn d k=ax b):∃a o,x = .ref a/\J4 H a y o/\o.isSome=b/\((UL d k=aA/\o=aA)\/∃c v f,UL d k=ax c/\o=ax v/\Is K H c v f/\∀p∈f,p∈A):=by
 cases d with
 | dK ks vs=>
  obtain⟨g,m,rfl⟩:=map_some (e);obtain⟨p,h,D,rfl,w,rfl,l,rfl⟩:=hd.dK_inv;obtain⟨rfl,_⟩:=Oc m B;refine⟨p,S7 h g,rfl,.inl ⟨h,g,w,rfl,rfl⟩,?_,?_⟩
  ·rcases O6 g l with⟨i,j⟩ | ⟨a,v,f,i,j,_⟩<;>rw[i,j]<;>rfl
  ·show(UL (.dK _ vs) k=aA/\_)\/_;have s:UL (.dK (h.map (·.1)) vs) k=Vs (h.map (·.1)) vs g:=by show(MS k).bind _=_;rw[m];rfl
   rw[s];rcases O6 g l with z | ⟨a,v,f,i,j,n,t⟩
   ·exact .inl z
   ·exact .inr ⟨a,v,f,i,j,n,λq u=>aN _ (t q u)⟩
 | dT ks vs=>
  obtain⟨g,m,rfl⟩:=map_some (e);obtain⟨p,h,D,rfl,w,rfl,l,rfl⟩:=hd.dT_inv;obtain⟨b,rfl,E⟩:=Ew m B;refine⟨p,S7 h g,rfl,.inr ⟨h,g,b,w,rfl,E,rfl⟩,?_,?_⟩
  ·rcases O6 g l with⟨i,j⟩ | ⟨a,v,f,i,j,_⟩<;>rw[i,j]<;>rfl
  ·have s:UL (.dT (h.map (·.1)) vs) k=Vs (h.map (·.1)) vs g:=by show(MT k).bind _=_;rw[m];rfl
   rw[s];rcases O6 g l with z | ⟨a,v,f,i,j,n,t⟩
   ·exact .inl z
   ·exact .inr ⟨a,v,f,i,j,n,λq u=>aN _ (t q u)⟩
 | _=>cases e
theorem Zec{d k c:PV}(h:UL d k=ax c):dIn d k=ax aC:=by
 cases d with
 | dK ks vs=>
  obtain⟨e,b,a⟩:=Zc (h);show(MS k).map _=_;rw[b];show ax ((Vs ks vs e).isSome)=_;rw[a];rfl
 | dT ks vs=>
  obtain⟨e,b,a⟩:=Zc (h);show(MT k).map _=_;rw[b];show ax ((Vs ks vs e).isSome)=_;rw[a];rfl
 | _=>cases h
section
variable {X:Cx} {o i e f:bO} {fd fk fx:XE} {pos apos p5:dw}
theorem Aq:∀g H Q,tF K (Zm UL fd fk) g H Q->Zg3 (tF K fd) (tF K fk) g H Q:=λg H Q ⟨i,s,l,hd,env,e,k⟩=>by
 obtain⟨d,t,B,w,b⟩:=VC e;refine⟨i,s,d,hd,env,B,λx D f1 s1 u o=>⟨i,s,t,λp h=>Same.mut s1 (hd p h),env.mono s1,w,λy q G s2 C E=>?_⟩⟩;obtain⟨a,F,rfl,m,_,f⟩:=KA (u.mono s2) C (Zec b);rcases f with⟨z,_⟩ | ⟨c,v,fv,A,rfl,j,n⟩
 ·rw[z] at b;cases b
 ·rw[A] at b;cases b;exact⟨a,v,rfl,m,k v q fv (s1.trans s2) j λp h=>o p (n p h)⟩
theorem Ez(a:X.A.units+1<dz)(c:VE X o fd)(d:VE X i fk)(b:Zim i:=by exact λ_ _=>rfl):VE X (.Subscript o i pos) (Zm UL fd fk):=PE.imp (Zdq a c d b) Aq
noncomputable def Zed(neg:Bool)(fk fd:XE):XE:=λs=>(fk s).bind λk=>(fd s).bind λd=>(dIn d k).map λb=>.bl (if neg then !b else b)
theorem Gs:∀c H Q,tF K (Zed aC fk fd) c H Q->Ed (tF K fk) (tF K fd) c H Q:=λc H Q ⟨g,s,l,hd,env,e,k⟩=>by obtain⟨j,t,e⟩:=Zc e;obtain⟨d,o,e⟩:=Zc e;obtain⟨b,q,rfl⟩:=map_some e;refine⟨g,s,j,hd,env,t,λy v f1 s1 n w=>⟨g,s,d,λp f=>Same.mut s1 (hd p f),env.mono s1,o,λx i A s2 u z=>?_⟩⟩;obtain⟨a,m,rfl,h,rfl,_⟩:=KA u (n.mono s2) q;exact⟨a,m,rfl,h,k _ i [] (s1.trans s2) (Is.bl _) λp f=>by simp at f⟩
theorem D3(b:X.A.units+1<dz)(d:VE X i fk)(c:VE X o fd)(e:cY .NotIn o=aB:=by with_unfolding_all rfl):VT X (.Compare i [.NotIn] [o] pos) (xB (Zed aC fk fd)):=PT.imp (HV (DO b d c) e) λa H Q h=>Kt Gs a H Q (Ah a H Q h)
noncomputable def O7(fd fk fx:XE):XE:=λs=>(fd s).bind λd=>(fk s).bind λk=>(fx s).bind λx=>(dIn d k).bind λb=>if b=aC then UL d k else ax x
theorem D4:∀m H Q,tF K (O7 fd fk fx) m H Q->B1 (tF K fd) (tF K fk) (tF K fx) m H Q:=λm H Q ⟨n,s,l,hd,env,e,k⟩=>by
 obtain⟨d,R,e⟩:=Zc e;obtain⟨I,O,e⟩:=Zc e;obtain⟨N,P,e⟩:=Zc e;obtain⟨b,q,e⟩:=Zc e;refine⟨n,s,d,hd,env,R,λx B f1 s1 o F=>?_⟩
 have g:∃a,x = .ref a/\IsD B a:=by
  cases d with
  | dK ks vs=>obtain⟨p,j,J,rfl,f,_⟩:=o.dK_inv;exact⟨p,rfl,.inl ⟨j,f⟩⟩
  | dT ks vs=>obtain⟨p,j,J,rfl,f,_⟩:=o.dT_inv;exact⟨p,rfl,.inr ⟨j,f⟩⟩
  | _=>cases q
 obtain⟨a,rfl,g⟩:=g;refine⟨a,rfl,g,n,s,I,λp f=>Same.mut s1 (hd p f),env.mono s1,O,λy U X s2 S W=>⟨n,s,N,λp f=>Same.mut (s1.trans s2) (hd p f),env.mono (s1.trans s2),P,λz w M h C G=>?_⟩⟩;obtain⟨T,L,ea,D,t,i⟩:=KA (o.mono (s2.trans h)) (S.mono h) q;cases ea;refine⟨L,D,?_⟩;rcases i with⟨u,rfl⟩ | ⟨c,v,fv,u,rfl,A,E⟩
 ·have:b=aB:=t.symm;subst this;rw[pW bx] at e;cases e;exact k z w M (s1.trans (s2.trans h)) C G
 ·have:b=aC:=t.symm;subst this;rw[p9 rfl,u] at e;cases e;exact k v w fv (s1.trans (s2.trans h)) A λp f=>F p (E p f)
theorem Ar(a:X.A.units+1<dz)(c:VE X o fd)(b:VE X e fk)(d:VE X f fx)(m:M2 X o "get" apos e f p5:=by exact⟨rfl,rfl,rfl,rfl⟩):VE X (.Call (.Attribute o "get" apos) [e,f] [] p5) (O7 fd fk fx):=
 PE.imp (B2 a c b d m) D4
end
noncomputable def As(d k v:PV):Option PV:=match d with
 | .dT ks vs=>(gd (ZC vs&&ZO v&&decide (ks.length<=10000))).bind λ_=>(MT k).map λk=>.dT (Q6 ks k) (Q7 ks vs k v)
 | .dK ks vs=>(gd (ZC vs&&ZO v&&decide (ks.length<=10000))).bind λ_=>(MS k).map λk=>.dK (Q6 ks k) (Q7 ks vs k v)
 | _=>aA
noncomputable def sDPut(i:Nat)(fk fv:XE):XS:=λs=>(fv s).bind λv=>(fk s).bind λk=>((s[i]?).join).bind λd=>(As d k v).map λd=>.nx (s.set i (ax d))
theorem EA{X:Cx}{O:List Nat}{i:Nat}{st:cB}{T fv:XE}(h:PS X st (L2.sDPut (Pp i) (tF X.K T) (tF X.K fv)))(l:i∈O:=by decide):VS X O [i] st (sDPut i T fv):=PS.imp h λD σ H ⟨H0,fps,s,out,r,e,k⟩=>by
 obtain⟨v,W,e⟩:=Zc e;obtain⟨S,U,e⟩:=Zc e;obtain⟨d,t,e⟩:=Zc e;obtain⟨d',m,rfl⟩:=map_some e;have t:=Lv t
 cases d with
 | dT ks vs=>
  obtain⟨_,F,m⟩:=Zc (m);have w:=Vi F;simp only[aw,decide_eq_true_eq] at w;obtain⟨⟨o,A⟩,f⟩:=w;obtain⟨J,M,rfl⟩:=map_some m;obtain⟨p,I,fq,u,P,rfl,B,x⟩:=r.dT_at l t;refine⟨λ_=>False,s,v,λ_ z=>z.elim,r.env,W,λy Y Z s1 E _=>⟨.ref p,u,λ_=>False,s,S,λ_ z=>z.elim,r.env.mono s1,U,λz H2 fz s2 Q _=>?_⟩⟩;have c:=s1.trans s2;obtain⟨b,rfl,hb⟩:=Ew M Q;have N:=Is.pure _ _ _ A E;subst N;have n:=(B.mono c).pureEq o;have R:=Iss.pure _ _ _ o B;subst R;have C:=r.grow c;have a:p∈fps i:=by rw[x];exact ag
  have L:=(C.own i l p a).2;refine⟨p,_,rfl,.inr ⟨I,J,b,c _ _ P,rfl,hb,by rw[<-aJ (·.1)];exact lt_size f,rfl⟩,?_⟩;refine k _ _ _ (C.mutate l a u (TQ t) (Is.dT Zk Ex (Iss.tr (TK.upd' L) _ _ _ (λq g=>by simp at g) (Ey n o (E.mono s2) A))) (by simp) (λq g=>?_) (λj G q g z=>r.dis i l j G q (by rw[x];exact g) z) b8) O2;rw[aM.mp g];exact⟨(r.own i l p a).1,by rw[Zk];exact b8⟩
 | dK ks vs=>
  obtain⟨_,F,m⟩:=Zc (m);have w:=Vi F;simp only[aw,decide_eq_true_eq] at w;obtain⟨⟨o,A⟩,f⟩:=w;obtain⟨J,M,rfl⟩:=map_some m;obtain⟨p,I,fq,u,P,rfl,B,x⟩:=r.dK_at l t;refine⟨λ_=>False,s,v,λ_ z=>z.elim,r.env,W,λy Y Z s1 E _=>⟨.ref p,u,λ_=>False,s,S,λ_ z=>z.elim,r.env.mono s1,U,λz H2 fz s2 Q _=>?_⟩⟩;have c:=s1.trans s2;obtain⟨rfl,_⟩:=Oc M Q;have N:=Is.pure _ _ _ A E;subst N;have n:=(B.mono c).pureEq o;have R:=Iss.pure _ _ _ o B;subst R;have C:=r.grow c;have a:p∈fps i:=by rw[x];exact ag
  have L:=(C.own i l p a).2;refine⟨p,_,rfl,.inl ⟨I,J,c _ _ P,rfl,by rw[<-aJ (·.1)];exact lt_size f,rfl⟩,?_⟩;refine k _ _ _ (C.mutate l a u (TQ t) (Is.dK Zk Ex (Iss.tr (TK.upd' L) _ _ _ (λq g=>by simp at g) (Ey n o (E.mono s2) A))) (by simp) (λq g=>?_) (λj G q g z=>r.dis i l j G q (by rw[x];exact g) z) b8) O2;rw[aM.mp g];exact⟨(r.own i l p a).1,by rw[Zk];exact b8⟩
 | _=>cases m
end VL
namespace VL
open PySem PySem.Spec PyProof.Rows L2
variable {K:aH}
section
variable {X:Cx} {a b c d:bO} {fa fb fc fd:XE} {pos:dw}
theorem Im(c:X.A.units+64<dz)(d:VE X a fa)(e:VE X b fb):VE X (.Compare a [.Eq] [b] pos) (Zm (Xz aB) fa fb):=Kp (Al c) (Gp aB) d e (UX _)
theorem Rv(c:X.A.units+64<dz)(d:VE X a fa)(e:VE X b fb):VT X (.Compare a [.Eq] [b] pos) (xB (Zm (Xz aB) fa fb)):=SF (Al c) (Gp aB) d e (UX _)
theorem VJ(c:X.A.units+64<dz)(d:VE X a fa)(e:VE X b fb):VT X (.Compare a [.NotEq] [b] pos) (xB (Zm (Xz aC) fa fb)):=SF (Zi4 c) (Gp aC) d e (UX _)
theorem Au(c:X.A.units+64<dz)(d:VE X a fa)(f:VE X b fb)(e:cY .In b=aB:=by with_unfolding_all rfl):VE X (.Compare a [.In] [b] pos) (Zm (PF aB) fa fb):=Kp (Am c) (Gq aB) d f e
theorem Av(c:X.A.units+64<dz)(d:VE X a fa)(f:VE X b fb)(e:cY .In b=aB:=by with_unfolding_all rfl):VT X (.Compare a [.In] [b] pos) (xB (Zm (PF aB) fa fb)):=SF (Am c) (Gq aB) d f e
theorem O8(c:X.A.units+64<dz)(d:VE X a fa)(f:VE X b fb)(e:cY .NotIn b=aB:=by with_unfolding_all rfl):VT X (.Compare a [.NotIn] [b] pos) (xB (Zm (PF aC) fa fb)):=SF (DT c) (Gq aC) d f e
noncomputable def blO:PV->Option Bool
 | .bl c=>ax c
 | _=>aA
theorem Aw{a:PV}{k:Bool}(h:blO a=ax k):a = .bl k:=by
 unfold blO at h;split at h
 ·cases h;rfl
 ·cases h
noncomputable def eCh(g h:PV->PV->Option PV)(a b c:XE):XE:=λs=>(a s).bind λx=>(b s).bind λy=>((g x y).bind blO).bind λk=>if k=aC then(c s).bind λz=>h y z else ax (.bl aB)
theorem Ax{r A:R2}{g h:PV->PV->Option PV}(P:RB K r g)(f:RB K A h):∀m H Q,tF K (eCh g h fa fb fc) m H Q->BK r A (tF K fa) (tF K fb) (tF K fc) m H Q:=λm H Q ⟨o,s,l,hd,env,e,k⟩=>by
 obtain⟨B,X,e⟩:=Zc e;obtain⟨j,U,e⟩:=Zc e;obtain⟨b,d,e⟩:=Zc e;obtain⟨z',d,I⟩:=Zc d;rw[Aw I] at d;refine⟨o,s,B,hd,env,X,λx H1 f1 s1 T n1=>⟨o,s,j,λp c=>Same.mut s1 (hd p c),env.mono s1,U,λy O D s2 C R=>?_⟩⟩;refine P O x y B j _ f1 D (T.mono s2) C d _ λv W fp u G n3=>⟨b,G.bl_inv.1,?_⟩;have a:=s1.trans (s2.trans u)
 cases b with
 | false=>
  rw[pW bx] at e ⊢;cases e;exact k _ W [] a (Is.bl _) λp c=>by simp at c
 | true=>
  rw[p9 rfl] at e ⊢;obtain⟨t,E,e⟩:=Zc e;refine⟨o,s,t,λp c=>Same.mut a (hd p c),env.mono a,E,λw J N i Y S=>?_⟩;refine f J y w j t l D N (C.mono (u.trans i)) Y e Q λv M n L F Z=>k v M n (a.trans (i.trans L)) F λp c z=>?_;rcases Z p c with q | q | q
  ·exact R p q z
  ·exact S p q z
  ·exact Xn (Same.mut (a.trans i) (hd p z)) q
theorem Ay{op d:nK}{r i:R2}{g h:PV->PV->Option PV}(m:TH X (dH op) r)(f:TH X (dH d) i)(n:RB X.K r g)(e:RB X.K i h)(o:VE X a fa)(j:VE X b fb)(l:VE X c fc)
  (k:lastMarks [op,d] [b,c]=aB:=by with_unfolding_all rfl):VE X (.Compare a [op,d] [b,c] pos) (eCh g h fa fb fc):=PE.imp (BL m f o j l k) (Ax n e)
end
section
variable {X:Cx} {a b:bO} {fa fb:XE} {pos:dw}
noncomputable def Az:PV->PV->Option PV
 | .lst m,.lst n=>if m.length+n.length<=10000 then ax (.lst (m++n)) else aA
 | _,_=>aA
noncomputable def LB:PV->PV->Option PV
 | .lst m,.lst n=>if m.length+n.length<=10000/\ZC m=aC/\ZC n=aC then ax (.lst (m++n)) else aA
 | _,_=>aA
theorem KC(t:VE X a fa)(w:VE X b fb):VM X (.BinOp a .Add b pos) (Zm LB fa fb):=PE.imp (F6 BU t w) λL H Q ⟨s,l,env,e,k⟩=>by
 obtain⟨h,i,D,B,e⟩:=VC e;refine⟨λ_=>False,s,h,λ_ z=>z.elim,env,D,λx G f1 s1 A _=>⟨λ_=>False,s,i,λ_ z=>z.elim,env.mono s1,B,λy I M s2 C _=>?_⟩⟩
 cases h with
 | lst m=>cases i with
  | lst n=>
   have e:(if m.length+n.length<=10000/\ZC m=aC/\ZC n=aC then ax (PV.lst (m++n)) else aA)=ax l:=e;split at e
   case isFalse=>cases e
   rename_i f;cases e;obtain⟨p,xs,J,rfl,E,j,rfl⟩:=A.lst_inv;obtain⟨u,v,F,rfl,d,c,rfl⟩:=C.lst_inv;refine⟨p,u,xs,v,rfl,rfl,s2 _ _ E,d,by rw[j.len,c.len];exact cJ (lt_size f.1),λq g=>?_⟩;refine k _ _ [q] (s1.trans (s2.trans (Same.new g _))) (Is.lst Zk ((((j.mono s2).pureEq f.2.1).append (c.pureEq f.2.2)).mono (Same.new g _))) (by simp) λr o=>?_;rw[aM.mp o];exact⟨Same.off (s1.trans s2) g,by rw[Zk];exact b8⟩
  | _=>cases e
 | _=>cases e
noncomputable def Gu:PV->PV->Option PV
 | .lst m,.int k=>if ZC m=aC/\-1000000<=k/\k<=1000000/\m.length*k.toNat<=10000 then ax (.lst (aS k.toNat m).flatten) else aA
 | _,_=>aA
theorem Iss.rep{H:Hp}{m:List PV}{xs:List V}(h:Iss K H m xs []):∀k:Nat,Iss K H (aS k m).flatten (aS k xs).flatten []
 | 0=>Iss.nil
 | k+1=>by rw[dU,dU,gL,gL];exact h.append (Iss.rep h k)
theorem Gv(j:VE X a fa)(o:VE X b fb):VM X (.BinOp a .Mult b pos) (Zm Gu fa fb):=PE.imp (F6 Zil j o) λE H Q ⟨s,l,env,e,k⟩=>by
 obtain⟨d,g,w,u,e⟩:=VC e;refine⟨λ_=>False,s,d,λ_ z=>z.elim,env,w,λx B f1 s1 t _=>⟨λ_=>False,s,g,λ_ z=>z.elim,env.mono s1,u,λy C F s2 v _=>?_⟩⟩
 cases d with
 | lst m=>cases g with
  | int n=>
   have e:(if ZC m=aC/\-1000000<=n/\n<=1000000/\m.length*n.toNat<=10000 then ax (PV.lst (aS n.toNat m).flatten) else aA)=ax l:=e;split at e
   case isFalse=>cases e
   rename_i f;cases e;obtain⟨p,xs,D,rfl,A,h,rfl⟩:=t.lst_inv;refine⟨p,n,xs,rfl,v.int_inv.1,s2 _ _ A,by omega,by omega,by rw[h.len];exact cJ (lt_size f.2.2.2),λq c=>?_⟩;refine k _ _ [q] (s1.trans (s2.trans (Same.new c _))) (Is.lst Zk ((Iss.rep ((h.mono s2).pureEq f.1) n.toNat).mono (Same.new c _))) (by simp) λr i=>?_;rw[aM.mp i];exact⟨Same.off (s1.trans s2) c,by rw[Zk];exact b8⟩
  | _=>cases e
 | _=>cases e
end
theorem Iss.fps{H:Hp}:∀{ls:List PV}{vs:List V}{fp:List aL},Iss K H ls vs fp->∃fps:Nat->List aL,(∀(i:Nat) l,ls[i]?=ax l->∃v,vs[i]?=ax v/\Is K H l v (fps i))/\∀i,ls.length<=i->fps i=[]
 | [],vs,fp,h=>⟨λ_=>[],λi l e=>by simp at e,λ_ _=>rfl⟩
 | a::ls,vs,fp,h=>by
  obtain⟨x,r,f1,j,rfl,g,d,rfl⟩:=h.inv;obtain⟨fps,f,p2⟩:=d.fps;refine⟨λi=>match i with | 0=>f1 | k+1=>fps k,λi l e=>?_,λi c=>?_⟩
  ·cases i with
   | zero=>simp at e;subst e;exact⟨x,rfl,g⟩
   | succ k=>
    obtain⟨v,a,b⟩:=f k l (by simpa using e);exact⟨v,by simpa using a,b⟩
  ·cases i with
   | zero=>simp at c
   | succ k=>exact p2 k (by simpa using c)
noncomputable def ZP(m:Nat)(ls:List PV):ZG:=ls.map ax++aS (m-ls.length) aA
noncomputable def U5:Out->Option PV
 | .rt v=>ax v
 | .nx _=>ax .non
 | _=>aA
noncomputable def YF(m:Nat)(f:XS):List PV->Option PV:=λls=>(f (ZP m ls)).bind U5
theorem EB{N:List bH}{n:Nat}{O W:List Nat}{f:XS}{vs:List V}{H:Hp}{Q:VK}{E:XK}(x:∀i∈O,n<=i)(h:Y5 K (YF N.length f) n vs H Q E):tFS K O W f { nx:=λ_ s=>Q .non s,rt:=Q } (L2.start N vs) H:=by
 obtain⟨L,ls,y,l,g,e,q⟩:=h;obtain⟨out,G,t⟩:=Zc e;obtain⟨fps,C,p2⟩:=g.fps;have k:=g.len
 have o:∀i:Nat,ls.length<=i->∀l,(ZP N.length ls)[i]?≠ax (ax l):=λi g l z=>by
  unfold ZP at z;rw[bA (by simpa using g),b7] at z;split at z<;>cases z
 have w:Rel K O H fps (ZP N.length ls) (L2.start N vs) H:=by
  refine⟨Same.refl H,?_,λi a z=>?_,λi u=>?_,λi g=>?_,λi g p m=>?_,λi g j J p m=>?_⟩
  ·unfold ZP L2.start;simp[k]
  ·by_cases c:i<ls.length
   ·unfold ZP at z;rw[aj (by simpa using c),aX] at z
    cases q:ls[i]? with
    | none=>rw[q] at z;cases z
    | some b=>
     rw[q] at z;cases z;obtain⟨v,A,b1⟩:=C i a q;refine⟨v,?_,b1⟩;unfold L2.start;rw[aj (by simpa [k] using c),aX,A];rfl
   ·exact absurd z (o i (by omega) a)
  ·by_cases c:i<ls.length
   ·exact absurd (by unfold ZP;rw[aj (by simpa using c),aX,aE c];rfl) (u ls[i])
   ·exact p2 i (by omega)
  ·rw[p2 i (by have:=x i g;omega)];exact cH
  ·rw[p2 i (by have:=x i g;omega)] at m;simp at m
  ·rw[p2 i (by have:=x i g;omega)] at m;simp at m
 refine⟨H,fps,ZP N.length ls,out,w,G,?_⟩
 cases out with
 | nx s'=>
  cases t;exact λI B s F _=>q .non s [] F.same Is.non cH λp m=>by simp at m
 | rt v=>
  cases t;exact λv y s D i d n=>q v s y D i d n
 | bk s'=>cases t
 | ct s'=>cases t
section
variable {P:bM} {w:bc} {mg:bH->Option aI} {base:ba}
theorem KD{x:bH}{st:cB}{N d:List bH}{k n:Nat}{O W:List Nat}(m:Nat)(f:XS)(D:Def K mg x st)(S:Zq N d (Zf st))
  (o:∀(kV doc pm:aI)(an:Option aL)(b ct:aI)(us:List aI),us.length=d.length->j4 (dP x x (Xm st) (Yy st) (Zf st) .none kV doc pm an b ct) ⟨us,[]⟩=pure (d.zip us))
  (g:d.length=n) (l:N.length=m) (p:∀i∈O,n<=i)
  (c:∀(e:aL)(b:aI)(A:bq)(a:List ma)(s:aO)(H:Hp)(E:XK),Room k (A.deeper (iZ x (Zf st) s.heap.objs.size e b))->VSs (OC J6 P w K mg base N x (Zf st) e b A a s H E).nox O W (Yy st) f) :
  Xi P w K mg base x d (Y5 K (YF m f) n) (k+1):=by
 subst l;refine D.cal S o (λvs H Q E h=>by rw[g];exact h.1) λe b A a s H vs Q E j h=>⟨_,c e b A a s H E j,EB p h⟩
end
end VL
namespace VL
open PySem PySem.Spec PyProof.Rows L2
variable {K:aH}
section
variable {X:Cx} {O:List Nat} {tg elt iter:bO} {ifs:List bO} {scope:gC} {pos:dw} {fi:XL} {T:Tgt} {ft:XT} {fe:XE}
theorem Ui(own fr:List bH)(f:List Nat){i:Nat}{y:bH}{g b:dw}(n:X.N.Nodup)(l:X.N[i]?=ax y)(d:X.env.scope.names.lookup y=ax .local)(c:X.calm=aC)(o:VI X tg iter fi)(S:Ud X.N X.env.scope scope own fr f=aC)
  (j:∀cl C s H a,PG (ZI X (own++fr) scope cl C s H a) tg (gT X.K T)) (h:∀cl C s H a,VTs (ZI X (own++fr) scope cl C s H a) ifs ft) (m:∀cl C s H a,VM (ZI X (own++fr) scope cl C s H a) elt fe)
  (p:∀i∈T.slots,i<own.length:=by decide)
  (e:iC (.ListComp elt [⟨tg,iter,ifs,0⟩] scope pos) (ax (.Name y g)) b.line X.env=pure aC:=by rfl)
  (k:∀x,cK iter X.env x=pure x:=by intro _;rfl):VS X O [i] (.Assign [.Name y g] (.ListComp elt [⟨tg,iter,ifs,0⟩] scope pos) b) (Zs i (Zw own.length f fi T ft fe)):=
 PS.imp (B6 own fr f n l d c o S j (λcl C s H a=>(show Bw (ZI X (own++fr) scope cl C s H a) ifs (HR X.K ft) from h cl C s H a)) (λcl C s H a=>(show PE (ZI X (own++fr) scope cl C s H a) elt (tM X.K fe) from m cl C s H a)) e k) (Et (Er p))
end
section
variable {P:bM} {w:bc} {mg:bH->Option aI} {base:ba}
theorem Zi9{x:bH}{st:cB}{N e:List bH}{k n:Nat}{O W:List Nat}{d:aL}{g:fL}(m:Nat)(f:XS)(F:Fun K x x st d g)(S:Zq N e (Zf st))
  (j:e.length=n) (o:N.length=m) (p:∀i∈O,n<=i)
  (c:∀(d:aL)(b:aI)(A:bq)(a:List ma)(s:aO)(H:Hp)(E:XK),Room k (A.deeper (iZ x (Zf st) s.heap.objs.size d b))->VSs (OC J6 P w K mg base N x (Zf st) d b A a s H E).nox O W (Yy st) f) :
  Pq P w K mg base J6 (k+1) d g e (Y5 K (YF m f) n):=by
 subst o;refine F.ok S (λvs H Q E h=>by rw[j];exact h.1) λb A a s H vs Q E l h=>⟨_,c d b A a s H E l,?_⟩;exact EB p h
theorem AA{st:cB}{x:bH}{D:List PV->Option PV}{k:Nat}{j:aL}(q:Def K mg "law" st)(i:mg "law" = ax (.ref j))
  (t:∀(kV c h:aI)(g:Option aL)(d ct u:aI),j4 (dP "law" "law" (Xm st) (Yy st) (Zf st) .none kV c h g d ct) ⟨[u],[]⟩=pure [(x,u)])
  (H:∀(a:ba)(f:aL)(b:fL),K.In a->a.Ns cO mg->Fun K "law" "law" st f b->Pq P w K mg a J6 k f b [x] (Y5 K D 1)) :
  ∃b:fL,(∀(s:aO)(u:aI),nP s b ⟨[u],[]⟩ [(x,u)])/\∀a:ba,K.In a->a.Ns cO mg->Pq P w K mg a J6 k j b [x] (Y5 K D 1):=by
 obtain⟨f,b,o,F⟩:=q.ex;have e:=i.symm.trans o;cases e;refine⟨b,?_,λa m p=>H a j b m p F⟩;obtain⟨z,y,kV,c,h,g,d,ct,l,rfl,v,n⟩:=F.ex;exact λs u=>.of_eq (t kV c h g d ct u)
end
end VL
namespace VL
open PySem L2
@[simp] theorem eVar_def(i:Nat)(s:ZG):Za i s=(s[i]?).join:=rfl
@[simp] theorem eC_def(l:PV)(s:ZG):eC l s=ax l:=rfl
@[simp] theorem XD(g:PV->PV->Option PV)(a b:XE)(s:ZG):Zm g a b s=(a s).bind λx=>(b s).bind λy=>g x y:=rfl
@[simp] theorem eUn_def(g:PV->Option PV)(a:XE)(s:ZG):Pz g a s=(a s).bind g:=rfl
@[simp] theorem U6(f:XE)(s:ZG):eP f s=(f s).bind λl=>if ZO l=aC then ax l else aA:=rfl
@[simp] theorem Od(s:ZG):PB [] s=ax []:=rfl
@[simp] theorem Zy(f:XE)(fs:List XE)(s:ZG):PB (f::fs) s=(f s).bind λx=>(PB fs s).map (x::·):=rfl
@[simp] theorem Yl(D:List PV->Option PV)(fs:List XE)(s:ZG):Ze D fs s=(PB fs s).bind D:=rfl
@[simp] theorem Rw(fs:List XE)(s:ZG):Wy fs s=(PB fs s).map .tup:=rfl
@[simp] theorem AB(fs:List XE)(s:ZG):Wz fs s=(PB fs s).map .lst:=rfl
@[simp] theorem Oe(g:PV->Option Int->Option Int->Option PV)(a:XE)(lo hi:XO)(s:ZG):O0 g a lo hi s=(a s).bind λx=>(lo s).bind λl=>(hi s).bind λu=>g x l u:=rfl
@[simp] theorem EC(s:ZG):MR s=ax aA:=rfl
@[simp] theorem gI_ii(g:Int->Int->Int)(i j:Int):gI g (.int i) (.int j)=ax (.int (g i j)):=rfl
@[simp] theorem gB_ii(g:Int->Int->Bool)(i j:Int):gB g (.int i) (.int j)=ax (.bl (g i j)):=rfl
@[simp] theorem Zja(C:Int->Int->Prop)[∀i j,Decidable (C i j)](g:Int->Int->Int)(i j:Int):gIC C g (.int i) (.int j)=if C i j then ax (.int (g i j)) else aA:=rfl
@[simp] theorem gIx_ti(l:List PV)(i:Int):ZR (.tup l) (.int i)=R9 l i:=rfl
@[simp] theorem gIx_li(l:List PV)(i:Int):ZR (.lst l) (.int i)=R9 l i:=rfl
@[simp] theorem gIx_ci(l:List PV)(i:Int):ZR (.cst l) (.int i)=R9 l i:=rfl
@[simp] theorem U7(f:XE)(s:ZG):xB f s=(f s).bind blO:=by
 unfold xB
 cases f s with
 | none=>rfl
 | some a=>cases a<;>rfl
@[simp] theorem AD(b:Bool):blO (.bl b)=ax b:=rfl
@[simp] theorem AE(a b:XT)(s:ZG):OO a b s=(a s).bind λc=>if c=aC then b s else ax aB:=rfl
@[simp] theorem Rx(a b:XT)(s:ZG):Gj a b s=(a s).bind λc=>if c=aC then ax aC else b s:=rfl
@[simp] theorem Ry(a:XT)(s:ZG):Py a s=(a s).map not:=rfl
@[simp] theorem Io(a b:XE)(s:ZG):Kr a b s=(xB a s).bind λc=>if c=aC then b s else ax (.bl aB):=rfl
@[simp] theorem eOr_def(a b:XE)(s:ZG):eOr a b s=(xB a s).bind λc=>if c=aC then ax (.bl aC) else b s:=rfl
@[simp] theorem eNot_def(a:XE)(s:ZG):Zd4 a s=(xB a s).map λc=>.bl !c:=rfl
@[simp] theorem Rz(c:XT)(a b:XE)(s:ZG):OP c a b s=(c s).bind λk=>if k=aC then a s else b s:=rfl
@[simp] theorem eIsN_def(neg:Bool)(a:XE)(s:ZG):Rj neg a s=(a s).bind (Af neg):=rfl
@[simp] theorem sNext_def(s:ZG):YE s=ax (.nx s):=rfl
@[simp] theorem O9(f g:XS)(s:ZG):Zn f g s=(f s).bind λo=>match o with | .nx s'=>g s' | r=>ax r:=rfl
@[simp] theorem Vj(c:XT)(f g:XS)(s:ZG):Ru c f g s=(c s).bind λk=>if k=aC then f s else g s:=rfl
@[simp] theorem AF(f:XE)(s:ZG):ZQ f s=(f s).map .rt:=rfl
@[simp] theorem Yf(i:Nat)(f:XE)(s:ZG):Zs i f s=(f s).map λl=>.nx (s.set i (ax l)):=rfl
@[simp] theorem retO_rt(v:PV):U5 (.rt v)=ax v:=rfl
@[simp] theorem pureV_int(i:Int):ZO (.int i)=aC:=rfl
@[simp] theorem pureV_bl(i:Bool):ZO (.bl i)=aC:=rfl
@[simp] theorem pureV_str(i:bH):ZO (.str i)=aC:=rfl
@[simp] theorem pureV_non:ZO .non=aC:=rfl
@[simp] theorem pureV_tup(l:List PV):ZO (.tup l)=ZC l:=by rw[ZO]
@[simp] theorem pureL_nil:ZC []=aC:=rfl
@[simp] theorem pureL_cons(a:PV)(l:List PV):ZC (a::l)=(ZO a&&ZC l):=rfl
theorem TV{b:Type}{l:List b}{f:b->PV}(h:∀a∈l,ZO (f a)=aC):ZC (l.map f)=aC:=by rw[X1,jT,bK];exact h
@[simp] theorem pureL_iL(l:List Int):ZC (l.map PV.int)=aC:=ZY l
abbrev pP(l:List Int):PV:=.tup (iL l)
abbrev wP(W:List (List Int)):PV:=.tup (W.map pP)
@[simp] theorem Ip(W:List (List Int)):ZC (W.map pP)=aC:=TV λa _=>by simp
theorem Na{l:List PV}{k:Nat}{a:PV}(h:l[k]?=ax a):R9 l (k:Int)=ax a:=TJ h
theorem Qm{l:List Int}{k:Nat}(h:k<l.length):(iL l)[k]?=ax (.int (Zl l k)):=by simp[Zl,aE h]
theorem YD{l:List Int}{k:Nat}(h:k<l.length):R9 (iL l) (k:Int)=ax (.int (Zl l k)):=TJ (Qm h)
theorem TX{W:List (List Int)}{k:Nat}(h:k<W.length):R9 (W.map pP) (k:Int)=ax (pP (ZA W k)):=by refine TJ ?_;rw[aX,OL h];rfl
@[simp] theorem AG(l:List Int):Rq [.tup (l.map PV.int)]=ax (.int l.sum):=by simp[Rq,PD,Yc l]
@[simp] theorem Gw(l:List Int):Rq [.lst (l.map PV.int)]=ax (.int l.sum):=by simp[Rq,PD,Yc l]
@[simp] theorem AH(l:List Bool):Kv [.lst (l.map PV.bl)]=ax (.bl (l.all id)):=by simp[Kv,PD,Sx l]
@[simp] theorem gLen_t(l:List PV):ZN [.tup l]=ax (.int l.length):=rfl
@[simp] theorem gLen_l(l:List PV):ZN [.lst l]=ax (.int l.length):=rfl
@[simp] theorem gLen_c(l:List PV):ZN [.cst l]=ax (.int l.length):=rfl
@[simp] theorem RA(l:List PV):Z1 [.lst l]=ax (.tup l):=rfl
@[simp] theorem gTuple_t(l:List PV):Z1 [.tup l]=ax (.tup l):=rfl
@[simp] theorem Iq(l:List PV):Vr [.tup l]=if ZC l=aC then ax (.lst l) else aA:=rfl
@[simp] theorem AI(l:List PV):Vr [.lst l]=if ZC l=aC then ax (.lst l) else aA:=rfl
@[simp] theorem gMin2_ii(i j:Int):Zlv [.int i,.int j]=ax (.int (if j<i then j else i)):=rfl
@[simp] theorem gMax2_ii(i j:Int):En [.int i,.int j]=ax (.int (if j>i then j else i)):=rfl
@[simp] theorem gInt1_b(c:Bool):OV [.bl c]=ax (.int (if c then 1 else 0)):=rfl
@[simp] theorem gInt1_i(c:Int):OV [.int c]=ax (.int c):=rfl
@[simp] theorem gInst_ii(i:Int):UK [.int i,.ty "int"]=ax (.bl aC):=rfl
@[simp] theorem gInst_ib(i:Int):UK [.int i,.ty "bool"]=ax (.bl aB):=rfl
@[simp] theorem gInst_tt(l:List PV):UK [.tup l,.ty "tuple"]=ax (.bl aC):=rfl
@[simp] theorem gInst_ll(l:List PV):UK [.lst l,.ty "list"]=ax (.bl aC):=rfl
theorem KG(n:Nat)(i j:Int):UQ (n+1) (.int i) (.int j)=aC:=rfl
theorem U8{c d:Type}{f:c->PV}{g:d->PV}{p:PV->PV->Bool}(h:∀a b,p (f a) (g b)=aC):∀(l:List c)(m:List d),((l.map f).zip (m.map g)).all (λz=>p z.1 z.2)=aC
 | [],_=>by simp
 | _::_,[]=>by simp
 | a::l,b::m=>by rw[af,af,dG,jz,U8 h l m,h a b];rfl
theorem Zef(n:Nat)(l m:List Int):UQ (n+2) (pP l) (pP m)=aC:=U8 (λa b=>KG n a b) l m
theorem Zeg(n:Nat)(l m:List Int):UQ (n+2) (.lst (iL l)) (.lst (iL m))=aC:=U8 (λa b=>KG n a b) l m
theorem AJ{l m:List Int}:iL l=iL m↔l=m:=by
 constructor
 ·intro h;exact(List.map_inj_right (λa b e=>PV.int.inj e)).mp h
 ·intro h;rw[h]
theorem pP_inj{l m:List Int}:pP l=pP m↔l=m:=by rw[PV.tup.injEq];exact AJ
@[simp] theorem Uj(neg:Bool)(i j:Int):Xz neg (.int i) (.int j)=ax (.bl (if neg then !decide (i=j) else decide (i=j))):=by
 unfold Xz;rw[p9 (KG 7 i j)];congr 2;cases neg<;>simp
@[simp] theorem gEq_pp(neg:Bool)(l m:List Int):Xz neg (.tup (l.map PV.int)) (.tup (m.map PV.int))=ax (.bl (if neg then !decide (l=m) else decide (l=m))):=by unfold Xz;rw[p9 (Zef 6 l m)];have:decide ((PV.tup (l.map PV.int)) = .tup (m.map PV.int))=decide (l=m):=decide_eq_decide.mpr pP_inj;rw[this]
@[simp] theorem Zjb(neg:Bool)(l m:List Int):Xz neg (.lst (l.map PV.int)) (.lst (m.map PV.int))=ax (.bl (if neg then !decide (l=m) else decide (l=m))):=by unfold Xz;rw[p9 (Zeg 6 l m)];have:decide ((PV.lst (l.map PV.int)) = .lst (m.map PV.int))=decide (l=m):=decide_eq_decide.mpr (by rw[PV.lst.injEq];exact AJ);rw[this]
theorem LC{d:Type}{T:Tgt}{f:XT}{c:XE}{e:ZG}{q g:d->PV}:∀{ls:List d},(∀a∈ls,∃s1,Xg T (q a) e=ax s1/\f s1=ax aC/\c s1=ax (g a))->Vg T f c e (ls.map q)=ax (ls.map g)
 | [],_=>rfl
 | a::r,h=>by obtain⟨s1,l,i,j⟩:=h a ag;have m:=LC (ls:=r) λb k=>h b (aN _ k);rw[af,af];unfold Vg;rw[l];simp only[aQ,i,if_true,j,m,bz]
theorem RD{d:Type}{T:Tgt}{j:XT}{e:XE}{f:ZG}{q g:d->PV}{c:d->Bool}:∀{ls:List d},(∀a∈ls,∃s1,Xg T (q a) f=ax s1/\j s1=ax (c a)/\(c a=aC->e s1=ax (g a)))->Vg T j e f (ls.map q)=ax ((ls.filter c).map g)
 | [],_=>rfl
 | a::r,h=>by
  obtain⟨s1,n,k,l⟩:=h a ag;have i:=RD (ls:=r) λb m=>h b (aN _ m);rw[af];unfold Vg;rw[n];simp only[aQ,k]
  cases hc:c a with
  | true=>simp[l hc,i,hc]
  | false=>simp[i,hc]
theorem ZL{e:Type}{n:Nat}{d:List Nat}{i:XL}{T:Tgt}{f:XT}{c:XE}{s:ZG}(ls:List e)(q g:e->PV)(b:i s=ax (ls.map q))(j:ls.length<=10000)
  (h:∀a∈ls,∃s1,Xg T (q a) (ZH n d s)=ax s1/\f s1=ax aC/\c s1=ax (g a)):Zw n d i T f c s=ax (.lst (ls.map g)):=by
 unfold Zw;rw[b];simp only[aQ,aJ,p9 j,LC h,bz]
theorem XG{b:Type}{n:Nat}{f:List Nat}{j:XL}{T:Tgt}{i:XT}{e:XE}{s:ZG}(ls:List b)(q g:b->PV)(c:b->Bool)(d:j s=ax (ls.map q))(k:ls.length<=10000)
  (h:∀a∈ls,∃s1,Xg T (q a) (ZH n f s)=ax s1/\i s1=ax (c a)/\(c a=aC->e s1=ax (g a))):Zw n f j T i e s=ax (.lst ((ls.filter c).map g)):=by
 unfold Zw;rw[d];simp only[aQ,aJ,p9 k,RD h,bz]
theorem U9{T:Tgt}{fb:XS}:∀{ls:List PV}{s:ZG}(Jv:Nat->ZG->Prop),Jv 0 s->(∀(i:Nat) l st,ls[i]?=ax l->Jv i st->∃s1 s2,Xg T l st=ax s1/\fb s1=ax (.nx s2)/\Jv (i+1) s2)->
  ∃f,VF T fb ls s=ax (.nx f)/\Jv ls.length f
 | [],s,Jv,h0,_=>⟨s,rfl,h0⟩
 | l::r,s,Jv,h0,h=>by obtain⟨s1,s2,a,b,c⟩:=h 0 l s rfl h0;obtain⟨f,d,e⟩:=U9 (ls:=r) (s:=s2) (λi=>Jv (i+1)) c λi k st g j=>h (i+1) k st (by simpa using g) j;refine⟨f,?_,e⟩;unfold VF;rw[a];simp only[aQ,b];exact d
theorem AK{n i:Nat}{l:PV}(h:(Kw n)[i]?=ax l):i<n/\l = .int (i:Int):=by have a:=(aR.mp h).1;unfold Kw at a h;rw[aJ,bt] at a;rw[aX,cC a] at h;exact⟨a,(bC h).symm⟩
theorem Ir{lo:Int}{n i:Nat}{l:PV}(h:(SI lo n)[i]?=ax l):i<n/\l = .int (lo+(i:Int)):=by have a:=(aR.mp h).1;unfold SI at a h;rw[aJ,bt] at a;rw[aX,cC a] at h;exact⟨a,(bC h).symm⟩
@[simp] theorem AL(n:Nat):(Kw n).length=n:=by unfold Kw;simp
@[simp] theorem Iu(lo:Int)(n:Nat):(SI lo n).length=n:=by unfold SI;simp
@[simp] theorem bindT_one(i:Nat)(l:PV)(s:ZG):Xg (.one i) l s=ax (s.set i (ax l)):=rfl
theorem D5(i j:Nat)(a b:PV)(s:ZG):Xg (.many [i,j]) (.tup [a,b]) s=ax ((s.set i (ax a)).set j (ax b)):=rfl
theorem Y6(m:List PV):Xt m=(aD m.length).map λ(i:Nat)=>.tup [.int (i:Int),m.getD i .non]:=by
 apply gM;intro i;rw[aX];by_cases h:i<m.length
 ·have:(Xt m)[i]?=ax (.tup [.int (i:Int),m[i]]):=by unfold Xt;simp
  rw[this,cC h];simp[aE h]
 ·rw[bw (by rw[WI];omega),bw (by simpa using h)];rfl
theorem Uk(m n:List PV)(h:n.length=m.length):Qj m n=(aD m.length).map λ(i:Nat)=>.tup [m.getD i .non,n.getD i .non]:=by
 apply gM;intro i;rw[aX];by_cases a:i<m.length
 ·have:(Qj m n)[i]?=ax (.tup [m[i],n[i]]):=by unfold Qj;rw[aX,jh (z:=(m[i],n[i])) |>.mpr ⟨aE a,aE (by omega)⟩];rfl
  rw[this,cC a];simp[aE a,aE (show i<n.length by omega)]
 ·rw[bw (by rw[Ii];omega),bw (by simpa using a)];rfl
theorem XH(l:List Int)(i:Nat)(h:i<l.length):(iL l).getD i .non = .int (Zl l i):=by rw[aF,Qm h];rfl
theorem AM(W:List (List Int))(i:Nat)(h:i<W.length):(W.map pP).getD i .non=pP (ZA W i):=by rw[aF,aX,OL h];rfl
@[simp] theorem Zeh(f:XE)(s:ZG):Yk [f] s=(f s).bind λa=>(DZ a).bind λj=>if -1000000<=j/\j<=1000000 then ax (Kw j.toNat) else aA:=by
 unfold Yk
 cases h:f s with
 | none=>simp[h]
 | some a=>cases a<;>simp[h,DZ]
@[simp] theorem Zei(f g:XE)(s:ZG):VD [f,g] s=(f s).bind λa=>(g s).bind λb=>(DZ a).bind λi=>(DZ b).bind λj=>if -1000000<=i/\i<=1000000/\-1000000<=j/\j<=1000000 then ax (SI i (j-i).toNat) else aA:=by
 unfold VD
 cases h:f s with
 | none=>simp[h]
 | some a=>cases h2:g s with
  | none=>simp[h,h2]
  | some b=>cases a<;>cases b<;>simp[h,h2,DZ]
@[simp] theorem TY(i:Int):DZ (.int i)=ax i:=rfl
@[simp] theorem ED(i:List PV):asL (.lst i)=ax i:=rfl
@[simp] theorem xEnum_def(b:Bool)(f:XE)(s:ZG):Xf b [f] s=(f s).bind λl=>(seqB b l).map Xt:=by
 unfold Xf;cases h:f s<;>simp[h]
@[simp] theorem xZip_def(b1 b2:Bool)(f g:XE)(s:ZG):MQ b1 b2 [f,g] s=(f s).bind λl=>(g s).bind λr=>(seqB b1 l).bind λm=>(seqB b2 r).map λn=>Qj m n:=by
 unfold MQ;cases h:f s<;>cases h2:g s<;>simp[h,h2]
@[simp] theorem seqB_f(l:List PV):seqB aB (.tup l)=ax l:=rfl
@[simp] theorem seqB_t(l:List PV):seqB aC (.lst l)=ax l:=rfl
@[simp] theorem seqB_c(l:List PV):seqB aC (.cst l)=ax l:=rfl
@[simp] theorem xLst_def(f:XE)(s:ZG):YL f s=(f s).bind asS:=rfl
@[simp] theorem asS_l(l:List PV):asS (.lst l)=ax l:=rfl
@[simp] theorem asS_c(l:List PV):asS (.cst l)=ax l:=rfl
theorem RE{f:XE}{s:ZG}{l:List PV}(h:f s=ax (.tup l)):U2 f s=ax l:=by unfold U2;rw[h]
@[simp] theorem AN(O:List Nat)(fi:XL)(T:Tgt)(fb:XS)(s:ZG):YU O fi T fb s=(fi (Xr O s)).bind λls=>VF T fb ls s:=rfl
@[simp] theorem xTrue_def(s:ZG):ZD s=ax aC:=rfl
theorem Xd{f:XE}{s:ZG}{n:Nat}(h:f s=ax (.int (n:Int)))(a:n<=10000):Yk [f] s=ax (Kw n):=by rw[Zeh,h];simp only[aQ,TY];rw[p9 ⟨by omega,by omega⟩,bV]
theorem LD{f g:XE}{s:ZG}{i j:Int}(h:f s=ax (.int i))(h':g s=ax (.int j))(a : -10000<=i/\i<=10000)(b : -10000<=j/\j<=10000):VD [f,g] s=ax (SI i (j-i).toNat):=by rw[Zei,h,h'];simp only[aQ,TY];rw[p9 ⟨by omega,by omega,by omega,by omega⟩]
theorem AO{i j:Int}(a : -10000<=i)(h:i<=10000):CMul i j:=by
 refine .inl ?_;have e:(2^64:Int)=18446744073709551616:=by decide
 rw[e];omega
theorem TZ{c:Bool}(h:c=aC):gd c=ax ():=by unfold gd;rw[p9 h]
theorem Nc{i:Nat}{f:XE}{s:ZG}{m n:List PV}(h:f s=ax (.lst n))(b:MI s i=ax m)(a:m.length+n.length<=10000):WB i f s=ax (.nx (s.set i (ax (.lst (m++n))))):=by unfold WB;rw[h];simp only[aQ,ED,b,TZ (decide_eq_true a)]
theorem Ul{i:Nat}{f:XE}{s:ZG}{m:List PV}{l:PV}(h:f s=ax l)(b:MI s i=ax m)(a:m.length<=10000):Yz i f s=ax (.nx (s.set i (ax (.lst (m++[l]))))):=by unfold Yz;rw[h];simp only[aQ,b,TZ (decide_eq_true a)]
theorem Gx{i:Nat}{a f:XE}{s:ZG}{m:List PV}{l:PV}{k:Int}(g:a s=ax (.int k))(h:f s=ax l)(o:MI s i=ax m)(j:ZC m=aC)(d:ZO l=aC)(n:0<=k)(e:k<=1000000)(b:m.length<=10000) :
  TR i a f s=ax (.nx (s.set i (ax (.lst (m.take k.toNat++l::m.drop k.toNat))))):=by
 unfold TR;rw[g,h];have c:(ZC m&&ZO l&&decide (0<=k/\k<=1000000/\m.length<=10000))=aC:=by rw[j,d,decide_eq_true ⟨n,e,b⟩];rfl
 simp only[aQ,TY,o,TZ c]
theorem D6{i:Nat}{a f:XE}{s:ZG}{m:List PV}{l:PV}{k:Int}{j:Nat}(h:f s=ax l)(d:a s=ax (.int k))(n:MI s i=ax m)(e:ZC m=aC)(b:ZO l=aC)(g:J0 m.length k=ax j) :
  SM i a f s=ax (.nx (s.set i (ax (.lst (m.set j l))))):=by
 unfold SM;rw[d,h];have c:(ZC m&&ZO l)=aC:=by rw[e,b];rfl
 simp only[aQ,TY,n,TZ c,g,bz]
theorem Nd{i:Nat}{d fb f:XE}{s:ZG}{m n:List PV}{l:PV}{a b:Int}{j c:Nat}(h:f s=ax l)(p:d s=ax (.int a))(t:fb s=ax (.int b))(q:MI s i=ax m)(g:J0 m.length a=ax j)(k:m[j]?=ax (.lst n))(v:ZC n=aC)(u:ZO l=aC)(e:J0 n.length b=ax c) :
  WC i d fb f s=ax (.nx (s.set i (ax (.lst (m.set j (.lst (n.set c l))))))):=by
 unfold WC;rw[h,p,t];have o:(ZC n&&ZO l)=aC:=by rw[v,u];rfl
 simp only[aQ,TY,ED,q,g,k,TZ o,e,bz]
theorem RF{n k:Nat}(h:k<n):J0 n (k:Int)=ax k:=by unfold J0;rw[p9 (by omega),p9 (by omega)];rfl
theorem Zjc{i j:Int}(a:0<j)(h:j<=10000):BI i j:=⟨a,by omega⟩
end VL
namespace VL
open PySem PySem.Spec PyProof.Rows L2
variable {K:aH}
noncomputable def Zha(K:aH):R2:=λx y H Q=>∃a b xs ys,x = .ref a/\y = .ref b/\SqT K H a xs/\SqT K H b ys/\xs.length+ys.length<=sizeLine/\
 (xs=[]->Q (.ref b) H)/\(ys=[]->Q (.ref a) H)/\∀p,H p=aA->Q (.ref p) (upd H p (.tup (xs++ys)))
theorem KH{X:Cx}:TH X (dy .Add) (Zha X.K):=by
 intro O s P H x y v u Q I l o h;obtain⟨a,b,xs,M,rfl,rfl,p,t,N,G,J,A⟩:=h;by_cases j:xs=[]
 ·cases l;cases o;obtain⟨F,C,B,_⟩:=I.tuple p;obtain⟨c,R,p2,_⟩:=I.tuple t;obtain⟨⟨w,L,m,D⟩,k,z,n,hd⟩:=id B;obtain⟨⟨q,i,data2,f⟩,d,g,E,e⟩:=id p2;subst z hd g e
  exact k8 ⟨_,k,rfl⟩ ⟨_,d,rfl⟩ kP mX iN iD (gn _ _)
   (tuple_addW0 a b F.toArray c.toArray n E L i D f (by simp[C.nil_iff.mpr j])) ⟨k,d,.ref b,H,I,rfl,G j⟩
 ·exact Zdm _ _ _ _ _ _ _ _ _ I l o ⟨a,b,xs,M,rfl,rfl,p,t,j,N,J,λ_=>A⟩
noncomputable def LF:PV->PV->Option PV
 | .tup m,.tup n=>if m.length+n.length<=10000 then ax (.tup (m++n)) else aA
 | _,_=>aA
theorem KI:RB K (Zha K) LF:=λH x y a b l o fb h i e Q k=>by
 cases a with
 | tup m=>cases b with
  | tup n=>
   have e:(if m.length+n.length<=10000 then ax (PV.tup (m++n)) else aA)=ax l:=e;split at e
   case isFalse=>cases e
   rename_i s;cases e;obtain⟨p,xs,rfl,v,g⟩:=h.tup_inv;obtain⟨t,u,rfl,f,c⟩:=i.tup_inv;refine⟨p,t,xs,u,rfl,rfl,SqT.of v,SqT.of f,by rw[g.len,c.len];exact cJ (lt_size s),λz=>?_,λz=>?_,λq j=>?_⟩
   ·have:=dI.mp (by rw[<-g.len,z];rfl);subst this;exact k _ _ fb (Same.refl _) i λr d=>.inr (.inl d)
   ·have:=dI.mp (by rw[<-c.len,z];rfl);subst this;rw[dX] at k;exact k _ _ o (Same.refl _) h λr d=>.inl d
   ·exact k _ _ (o++fb) (Same.new j _) (Is.tup Zk ((g.append c).mono (Same.new j _))) λr d=>(aV.mp d).elim .inl λz=>.inr (.inl z)
  | _=>cases e
 | _=>cases e
end VL
namespace VL
open PySem
open PySem.Sem (wp)
open PySem.Builtin
theorem Qn:fillsNumberSlot (.type "tuple") "mul" = pure aB:=rfl
theorem KJ:seqRepeat? (.type "tuple")=pure (ax (.builtin "tuple.__mul__")):=rfl
theorem Nf(a:Int)(t:Tok)(l:aL)(items:Array aI)(n:Nat)(c:Option aL)(b:Array (Option aI)) :
  Meets (fj.«int.__rmul__» ⟨[.int a t,.ref l],[]⟩) (λ_ R s=>s.heap.get? l=ax { cls:=.type "tuple",dict:=c,data:=.seq items n,slots:=b }/\R (.ok (.ret aI.notImplemented)) s):=
 .of_wp λprog w A R s h=>by obtain⟨f,g,d,tk,os⟩:=s;obtain⟨e,h⟩:=h;wp_walk;exact⟨_,rfl,h⟩
theorem Ng(l:aL)(items:Array aI)(n:Nat)(k:Option aL)(i:Array (Option aI))(x:Int)(u:Tok)(p:1<x)(v:x<2^63)(c:items.isEmpty=aB)(o:items.size*x.toNat<=sizeLine)
  (a:Array aI) (f:ml (λe j=>e++j) #[] (aS x.toNat items)=a) (t:a.size<=sizeLine) :
  Meets (fj.«tuple.__mul__» ⟨[.ref l,.int x u],[]⟩) (λ_ R s=>s.heap.get? l=ax { cls:=.type "tuple",dict:=k,data:=.seq items n,slots:=i }/\R (.ok (.ret (jW s.heap.objs.size))) { s with heap:=s.heap.push { cls:=kY "tuple",data:=Data.seq a },toks:=s.toks }):=
 .of_wp λprog w A R s h=>by
  obtain⟨y,g,d,tk,os⟩:=s;obtain⟨q,h⟩:=h;have b:items.size*x.toNat<=2^40:=by rw[fT] at o;omega
  have m:(items.size:Int)*x=((items.size*x.toNat:Nat):Int):=by rw[Int.natCast_mul,g9 (by omega)]
  wp_walk
  refine gz (by simp;omega) ?_
  wp_walk
  refine gz (by simp[c];omega) ?_
  wp_walk
  refine gz (by simp[c];omega) ?_
  wp_walk
  refine gz (decide_eq_false (by omega)) ?_
  wp_walk
  refine gz (decide_eq_false (by rw[m];unfold Tuple.tupleTooMany;simp only[decide_eq_true_eq];omega)) ?_
  wp_walk
  rw[f];exact⟨_,rfl,h⟩
theorem MU(l:aL)(items:Array aI)(n:Nat)(b:Option aL)(a:Array (Option aI))(u:Tok) :
  Meets (fj.«tuple.__mul__» ⟨[.ref l,.int 1 u],[]⟩) (λ_ R s=>s.heap.get? l=ax { cls:=.type "tuple",dict:=b,data:=.seq items n,slots:=a }/\R (.ok (.ret (jW l))) s):=
 .of_wp λprog w A R s h=>by
  obtain⟨e,g,d,tk,os⟩:=s;obtain⟨c,h⟩:=h
  wp_walk
  exact⟨_,rfl,h⟩
end VL
namespace VL
open PySem PySem.Spec PyProof.Rows L2
noncomputable def Zhb(K:aH):R2:=λx y H Q=>∃a k xs,x = .ref a/\y = .int k/\SqT K H a xs/\xs≠[]/\1<=k/\k<2^62/\xs.length*k.toNat<=sizeLine/\
 (k=1->Q (.ref a) H)/\∀p,H p=aA->Q (.ref p) (upd H p (.tup (aS k.toNat xs).flatten))
theorem Zej{X:Cx}:TH X (dy .Mult) (Zhb X.K):=by
 intro S s U H x y v u Q I C G h;obtain⟨a,k,xs,rfl,rfl,J,P,T,W,l,O,D⟩:=h;cases C;obtain⟨t,rfl⟩:=G;obtain⟨c,f,E,_⟩:=I.tuple J;obtain⟨⟨A,j,m,i⟩,d,B,n,hd⟩:=id E;subst B hd;have p:=f.length
 refine je rfl ⟨_,d,rfl⟩ (λw=>kc w k t) Qn F.fills_int_mul F.slot_int_rmul KJ F.slot_int_index.lookup
  (fY F.slot_int_rmul (kc s k t) F.entry_int_rmul (F.args_int_rmul_2 _ _) (Nf k t a c.toArray n j i) ⟨d,rfl,⟨_,d,rfl⟩,?_⟩)
 by_cases N:k=1
 ·subst N;exact fY F.slot_tuple_mul ⟨_,d,rfl⟩ F.entry_tuple_mul (F.args_tuple_mul_2 _ _) (MU a c.toArray n j i t) ⟨d,.ref a,H,I,rfl,O rfl⟩
 ·have g:c.toArray.isEmpty=aB:=by
   cases c with
   | nil=>exact absurd (f.nil_iff.mp rfl) P
   | cons _ _=>rfl
  have L:ml (λz M=>z++M) #[] (aS k.toNat c.toArray)=(aS k.toNat c).flatten.toArray:=by have:=Qa c k.toNat [];exact this
  have R:(aS k.toNat c).flatten.length<=sizeLine:=by rw[Kj,nR,<-p];exact l
  refine fY F.slot_tuple_mul ⟨_,d,rfl⟩ F.entry_tuple_mul (F.args_tuple_mul_2 _ _) (Ng a c.toArray n j i k t (by omega) (by omega) g (by rw[aU,<-p];exact l) _ L (by rw[aU];exact R)) ⟨d,?_⟩;refine⟨.ref s.heap.objs.size,_,I.laid (λb Y q=>aK _ q) (aZ _) ?_,rfl,D _ (I.hok.fresh (aZ _))⟩;exact⟨⟨by rw[Kj,nR];exact l,λo e=>OA e⟩,_,f.rep k.toNat,n6 _ _⟩
noncomputable def AQ:PV->PV->Option PV
 | .tup m,.int k=>if ZC m=aC/\m≠[]/\1<=k/\k<=1000000/\m.length*k.toNat<=10000 then ax (.tup (aS k.toNat m).flatten) else aA
 | _,_=>aA
theorem Zek{K:aH}:RB K (Zhb K) AQ:=λH x y a b l o fb g i e Q k=>by
 cases a with
 | tup m=>cases b with
  | int n=>
   unfold AQ at e;simp only at e;split at e
   case isFalse=>cases e
   rename_i c;cases e;obtain⟨p,xs,rfl,j,f⟩:=g.tup_inv;refine⟨p,n,xs,rfl,i.int_inv.1,SqT.of j,λz=>c.2.1 (dI.mp (by rw[<-f.len,z];rfl)),c.2.2.1,by omega,by rw[f.len];exact cJ (lt_size c.2.2.2.2),λz=>?_,λq h=>?_⟩
   ·subst z;have s:(aS (iH 1) m).flatten=m:=by simp
    rw[s] at k;exact k _ _ o (Same.refl _) g λr d=>.inl d
   ·exact k _ _ [] (Same.new h _) (Is.tup Zk ((Iss.rep (f.pureEq c.1) n.toNat).mono (Same.new h _))) λr d=>by simp at d
  | _=>cases e
 | _=>cases e
end VL
namespace PW
open PySem L2 VL
noncomputable def LH:XS:=(ZQ (eP (Ze Rq [Zm ZR (Za 0) (Za 1)])))
noncomputable def VN:List PV->Option PV:=YF 2 LH
noncomputable def Qo:XS:=(Zn (Zs 1 (Wz []))
  (Zn (YU [1] (Xf aB [Za 0]) (.many [2,3]) (YU [1] (VD [Zm YJ (Za 2) (eC (.int 1)),Ze ZN [Za 0]]) (.one 4) (WB 1 (Zw 1 [2,4] (Yk [Zm ZR (Za 3) (Za 4)]) (.one 0) ZD (eP (Wy [Za 1,Za 2,Za 0]))))))
  (ZQ (Za 1))))
noncomputable def Xv:List PV->Option PV:=YF 5 Qo
noncomputable def EE:XS:=(ZQ (eP (Zm YJ (Zm Wi (Ze ZN [Ze Xv [Za 0]]) (Ze ZN [Za 0])) (eC (.int 1)))))
noncomputable def RG:List PV->Option PV:=YF 1 EE
noncomputable def EF:XS:=(ZQ (eP (Ze Rq [Za 0])))
noncomputable def Of:List PV->Option PV:=YF 1 EF
noncomputable def AR:XS:=(ZQ (eP (Ze Rq [Zw 2 [1,2] (Xf aB [Zm ZR (Za 0) (Za 2)]) (.many [0,1]) ZD (Zm Px (Za 1) (Zm Wi (Zm ZR (Za 2) (Za 0)) (Zm ZR (Za 2) (Za 3))))])))
noncomputable def Nh:List PV->Option PV:=YF 3 AR
noncomputable def Zhc:XS:=(ZQ (eP (Ze Z1 [Zw 2 [0,2] (Xf aB [Za 1]) (.many [0,1]) ZD (Zm YJ (Za 1) (Ze Nh [Za 2,Za 3,Za 0]))])))
noncomputable def VP:List PV->Option PV:=YF 3 Zhc
noncomputable def AS:XS:=(ZQ (eP (Ze Z1 [Zw 2 [] (MQ aB aB [Za 0,Za 1]) (.many [0,1]) ZD (Zm YJ (Za 0) (Za 1))])))
noncomputable def Vt:List PV->Option PV:=YF 2 AS
noncomputable def EG:XS:=(ZQ (eP (Ze Z1 [Zw 2 [] (MQ aB aB [Za 0,Za 1]) (.many [0,1]) ZD (Zm Wi (Za 0) (Za 1))])))
noncomputable def RH:List PV->Option PV:=YF 2 EG
noncomputable def LI:XS:=(ZQ (eP (Kr (Ze UK [Za 0,eC (.ty "int")]) (Zd4 (Ze UK [Za 0,eC (.ty "bool")])))))
noncomputable def VQ:List PV->Option PV:=YF 1 LI
end PW
set_option maxHeartbeats 1000000
namespace VL
open PySem PySem.Spec PyProof.Rows L2
noncomputable def xSq(f:XE):XL:=λs=>match YL f s with
 | some m=>ax m
 | none=>U2 f s
theorem Zly{f:XE}{s:ZG}{l:List PV}(q:f s=ax (.lst l)):xSq f s=ax l:=by unfold xSq YL;rw[q];rfl
theorem Zlz{f:XE}{s:ZG}{l:List PV}(q:f s=ax (.tup l)):xSq f s=ax l:=by unfold xSq YL;rw[q];exact RE q
noncomputable def XI:List Int->Int
 | []=>0
 | [x]=>x
 | x::y::r=>if XI (y::r)<x then XI (y::r) else x
theorem VR:∀{l:List Int},l≠[]->XI l∈l/\∀x∈l,XI l<=x
 | [],h=>absurd rfl h
 | [x],_=>by simp[XI]
 | x::y::r,_=>by
  obtain⟨a,b⟩:=VR (l:=y::r) (by simp);unfold XI;split
  ·rename_i h;refine⟨aN _ a,λz c=>?_⟩;rcases aa.mp c with rfl | c
   ·omega
   ·exact b z c
  ·rename_i h;refine⟨by simp,λz c=>?_⟩;rcases aa.mp c with rfl | c
   ·omega
   ·have:=b z c;omega
theorem EH{l:List Int}{m:Int}(h:m∈l)(g:∀x∈l,m<=x):XI l=m:=by obtain⟨a,b⟩:=VR (l:=l) (by intro z;subst z;simp at h);have:=b m h;have:=g _ a;omega
theorem Ni(val:Nat->Int):∀k,argBest (λi j=>decide (val i<val j)) k<=k/\∀j,j<=k->val (argBest (λi j=>decide (val i<val j)) k)<=val j
 | 0=>⟨aZ _,λj c=>by rw[Nat.le_zero.mp c];exact dY _⟩
 | k+1=>by
  obtain⟨a,b⟩:=Ni val k;unfold argBest;split
  ·rename_i h;have h:=of_decide_eq_true h;refine⟨aZ _,λj c=>?_⟩;by_cases e:j=k+1
   ·subst e;exact dY _
   ·have:=b j (by omega);omega
  ·rename_i h;have h:¬_:=λz=>h (decide_eq_true z);refine⟨by omega,λj c=>?_⟩;by_cases e:j=k+1
   ·subst e;omega
   ·exact b j (by omega)
noncomputable def AU(f:List Int->Int)(K:aH):List V->Hp->VK->Prop:=λxs H Q=>∃(b:Bool) (p:aL) (ns:List Int),xs=[.ref p]/\ns≠[]/\MH b K H p (ns.map V.int)/\Q (.int (f ns)) H
section
variable {X:Cx}
theorem LJ(D:X.calm=aC):XW X (.builtin "min") (AU XI X.K):=by
 intro S s U H xs T Q I r h;obtain⟨b,p,ns,rfl,w,N,q⟩:=h;obtain⟨u,rfl,E⟩:=Sr r;cases E;obtain⟨m,B,a,W⟩:=I.seqB N;have C:=let⟨_,e⟩:=a.has;a9 e;have l:=B.length;rw[aJ] at l;have n:=fK.mpr w
 have d:∀(i:Nat)(v:aI),m.toArray[i]?=ax v->∃t,v=di (ns.getD i 0) t:=λi v k=>by
  have k:m[i]?=ax v:=by simpa using k
  have G:i<ns.length:=by rw[l];exact(aR.mp k).1
  obtain⟨u,z,R⟩:=B.get (i:=i) (x:=.int ns[i]) (by simp);rw[k] at z;cases z;obtain⟨t,rfl⟩:=R;refine⟨t,?_⟩;rw[aF,aE G];rfl
 refine call_min_walk (YQ a ?_);refine⟨_,_,_,_,_,_,λi j=>decide (ns.getD i 0<ns.getD j 0),rfl,Walks.seqB (A:=X.A.in1) b (I.ok.hd D) s.heap.objs.size p (bN C) m.toArray,⟨IterB.new (ak _ rfl),a.at λo e=>aK _ e⟩,λc g=>?_,by rw[aU,<-l];exact n,CmpOf.ints_lt (λi=>ns.getD i 0) d,λv h' tk k J=>?_⟩
 ·show c<(s.heap.push _).objs.size;rw[cR];rcases aa.mp g with rfl | g
  ·exact dt _
  ·rw[aM.mp g];exact cz C
 ·obtain⟨t,rfl⟩:=d _ _ k;obtain⟨L,y⟩:=Ni (λi=>ns.getD i 0) (m.toArray.size-1);rw[aU,<-l] at L y
  have e:XI ns=ns.getD (argBest (λi j=>decide (ns.getD i 0<ns.getD j 0)) (m.toArray.size-1)) 0:=by
   rw[aU,<-l];refine EH ?_ λx O=>?_
   ·rw[aF,aE (by omega)];exact bQ _
   ·obtain⟨j,F,P⟩:=bp O;have:=y j (by omega);rw[aF (i:=j),aE F,P] at this;exact this
  refine⟨.int (XI ns),H,I.kept (λc o f=>J c o ?_ (aK _ f)),⟨t,by rw[e]⟩,q⟩;intro M;rw[aM.mp M] at f;exact absurd (a9 f) (cS _)
end
noncomputable def EI(f:List Int->Int):List PV->Option PV
 | [l]=>(PD l).bind λm=>(Ys m).bind λns=>if ns=[] then aA else ax (.int (f ns))
 | _=>aA
abbrev AV:List PV->Option PV:=EI XI
theorem Zem{K:aH}(f:List Int->Int):RC K (AU f K) (EI f):=λH vs ls l w h e Q k=>by
 unfold EI at e;split at e
 ·obtain⟨m,q,n⟩:=Zc e;obtain⟨ns,o,a⟩:=Zc n;split at a
  ·cases a
  ·rename_i c;cases a;obtain⟨v,rfl,i⟩:=h.one_inv;obtain⟨p,xs,u,rfl,d,g,t⟩:=Ug i q;have s:=Yd o;subst s;obtain⟨rfl,rfl⟩:=g.iL;obtain⟨b,j⟩:=Gm d;exact⟨b,p,ns,rfl,c,j,k _ H [] (Same.refl H) (Is.int _) λp d=>by simp at d⟩
 ·cases e
theorem EJ{K:aH}:RC K (AU XI K) AV:=Zem XI
theorem EK(f:List Int->Int){l:List Int}(h:l≠[]):EI f [pP l]=ax (.int (f l)):=by show(Ys (iL l)).bind _=_;rw[Yc];simp only[aQ];rw[pW h]
noncomputable def sortI(l:List Int):List Int:=l.mergeSort λa b=>decide (a<=b)
theorem sortI_perm(l:List Int):(sortI l).Perm l:=List.mergeSort_perm l _
theorem Um(l:List Int):(sortI l).Pairwise (·<=·):=by have:=List.pairwise_mergeSort (le:=λa b:Int=>decide (a<=b)) (λa b c e d=>by simp only[decide_eq_true_eq] at *;omega) (λa b=>by simp only[jH,decide_eq_true_eq];omega) l;exact this.imp λh=>of_decide_eq_true h
theorem sortI_eq{l m:List Int}(f:m.Perm l)(d:m.Pairwise (·<=·)):m=sortI l:=
 List.Perm.eq_of_pairwise (λa b _ _ e c=>Int.le_antisymm e c) d (Um l) (f.trans (sortI_perm l).symm)
theorem Uo:∀{us:List aI}{ns:List Int},i7 us ns->Vals (ns.map V.int) us
 | _,_,.nil=>.nil
 | _,_,.cons n t h=>.cons ⟨t,rfl⟩ (Uo h)
noncomputable def KN(K:aH):List V->Hp->VK->Prop:=λxs H Q=>∃p ns,xs=[.ref p]/\SqL K H p (ns.map V.int)/\ns.length<64/\∀l,H l=aA->Q (.ref l) (upd H l (.lst ((sortI ns).map V.int)))
theorem RI{X:Cx}:XW X (.builtin "sorted") (KN X.K):=by
 intro w s z H xs x Q I r h;obtain⟨p,ns,rfl,v,y,q⟩:=h;obtain⟨u,rfl,i⟩:=Sr r;cases i;obtain⟨l,d,k,f⟩:=I.list v;have a:=d.length;rw[aJ] at a f;refine sorted_ints k.isList (SA d) (by omega) λout m g t j=>?_;obtain⟨e,n⟩:=sortedAll_at s.heap l out;have c:=sortI_eq t j;subst c;refine⟨.ref (s.heap.objs.size+1),_,I.laid (λb o=>sortedAll_old) (iG _) (show ObjOk X.prog X.w _ _ _ (.lst ((sortI ns).map V.int)) from⟨?_,out.toList,e,Uo g,?_⟩),rfl,q _ (I.hok.fresh (iG _))⟩
 ·rw[aJ,(sortI_perm ns).length_eq];exact f
 ·rw[ij];exact n
noncomputable def RJ:List PV->Option PV
 | [.lst l]=>(Ys l).bind λns=>if ns.length<64 then ax (.lst (iL (sortI ns))) else aA
 | [.cst l]=>(Ys l).bind λns=>if ns.length<64 then ax (.lst (iL (sortI ns))) else aA
 | _=>aA
theorem Nj{K:aH}:RCM K (KN K) RJ:=λH vs ls l s h e Q k=>by
 have b:∀(p:aL)(ns:List Int),SqL K H p (ns.map V.int)->ns.length<64->l = .lst (iL (sortI ns))->KN K [.ref p] H Q:=by rintro p ns c n rfl;refine⟨p,ns,rfl,c,n,λq j=>k _ _ [q] (Same.new j _) (Is.lst Zk (Iss.ofInts _)) (by simp) λr m=>?_⟩;rw[aM.mp m];exact⟨j,by rw[Zk];exact b8⟩
 unfold RJ at e;split at e
 ·obtain⟨ns,f,a⟩:=Zc e;split at a
  ·cases a;obtain⟨v,rfl,i⟩:=h.one_inv;have g:=Yd f;subst g;obtain⟨p,xs,o,rfl,c,d,_⟩:=i.lst_inv;obtain⟨rfl,rfl⟩:=d.iL;exact b p ns (.inl (.inl c)) (by assumption) rfl
  ·cases a
 ·obtain⟨ns,f,a⟩:=Zc e;split at a
  ·cases a;obtain⟨v,rfl,i⟩:=h.one_inv;have g:=Yd f;subst g;obtain⟨p,xs,rfl,c,d⟩:=i.cst_inv;obtain⟨rfl,rfl⟩:=d.iL;exact b p ns c.sq (by assumption) rfl
  ·cases a
 ·cases e
noncomputable def KO:XS:=λ_=>aA
theorem Nk{X:Cx}{O W:List Nat}{st:cB}:VS X O W st KO:=by intro a s b H D I h;obtain⟨_,_,_,_,_,q,_⟩:=h;cases q
theorem Nl:∀(us:List aI)(k:Nat),(∀(i:Nat)(v:aI),us[i]?=ax v->∃t,v=di ((k+i:Nat):Int) t)->Vals ((aD us.length).map λi=>V.int ((k+i:Nat):Int)) us
 | [],k,_=>.nil
 | u::us,k,h=>by
  obtain⟨t,rfl⟩:=h 0 u rfl;rw[az,fu,af,bZ];refine .cons ⟨t,rfl⟩ ?_;have:=Nl us (k+1) λi v a=>by obtain⟨t,e⟩:=h (i+1) v (by simpa using a);exact⟨t,by rw[e];congr 2;omega⟩
  refine Eq.mp (congrArg (λl=>Vals l us) (au λi _=>?_)) this;show V.int _=V.int _;congr 2;omega
noncomputable def tLR(ta:TA):TE:=λσ H Q=>ta σ H λvs H1=>∃j:Nat,vs=[.int (j:Int)]/\j<=10000/\∀l,H1 l=aA->Q (.ref l) (upd H1 l (.lst ((aD j).map λ(i:Nat)=>V.int (i:Int))))
section
variable {X:Cx} {a:bO} {ta:TA} {p p2 pos pos2:dw}
theorem KP(z:X.calm=aC)(g:Gl X "list")(f:X.mg "list" = aA)(k:Gl X "range")(u:X.mg "range" = aA)(D:PA X [a] ta)(C:aP [a] X.env=[(aB,eval a X.env)]:=by rfl)
  (F:aP [.Call (.Name "range" p2) [a] [] pos2] X.env=(aB,eval (.Call (.Name "range" p2) [a] [] pos2) X.env)::aP [] X.env:=by rfl) (m:(dC pos (aP [] X.env)).any (·.1)=aB:=by rfl) :
  PE X (.Call (.Name "list" p) [.Call (.Name "range" p2) [a] [] pos2] [] pos) (tLR ta):=by
 intro y s G H Q I h;refine dE (XZ I g f rfl ?_);refine bg ?_ F m;refine eB ?_;refine pL (XZ I k u oY (bg (Yo (D pos2 y s G H _ I h) λP s1 ⟨vs,N,E,B,L⟩=>?_) C rfl));obtain⟨j,e,O,q⟩:=L;subst e
 cases B with
 | cons r rr=>
  cases rr;obtain⟨t,rfl⟩:=r;refine call_range_1 (gK ?_);have sz:sizeLine=2^24:=rfl;refine call_list_range (n:=j) (I.ok.hd z) (pS ..) (small_one (by omega) (by omega) (by omega) (by omega)) (by rw[rangeSize_one];split<;>omega) (by omega) λh' tk c M J A d=>?_;have w:=E.kept (t':=s1.toks+1+1) (h':=s1.heap.push { cls:=.type "range",data:=.fields #[.int 0 s1.toks,.int (j:Int) t,.int 1 (s1.toks+1)] }) λb o e=>aK _ e;refine⟨.ref _,_,w.laid J (aZ _) (show ObjOk X.prog X.w _ _ _ (.lst ((aD j).map λ(i:Nat)=>V.int (i:Int))) from⟨by simp;omega,c.toList,M,?_,?_⟩),rfl,q _ (w.hok.fresh (aZ _))⟩
  ·have:=Nl c.toList 0 λi v x=>by obtain⟨t',e⟩:=d.2 i v (by simpa using x);exact⟨t',by rw[e];congr 1;omega⟩
   rw[cM,d.1] at this;refine Eq.mp (congrArg (λl=>Vals l c.toList) (au λi _=>?_)) this;congr 2;omega
  ·rw[ij];exact A
end
noncomputable def Up:PV->Option PV
 | .int k=>if 0<=k/\k<=10000 then ax (.lst (iL ((aD k.toNat).map λ(i:Nat)=>(i:Int)))) else aA
 | _=>aA
theorem Uq{X:Cx}{a:bO}{m:XE}{p p2 pos b:dw}(t:X.calm=aC)(d:Gl X "list")(f:X.mg "list" = aA)(g:Gl X "range")(j:X.mg "range" = aA)(v:VE X a m)(n:aP [a] X.env=[(aB,eval a X.env)]:=by rfl)
  (y:aP [.Call (.Name "range" p2) [a] [] b] X.env=(aB,eval (.Call (.Name "range" p2) [a] [] b) X.env)::aP [] X.env:=by rfl) (h:(dC pos (aP [] X.env)).any (·.1)=aB:=by rfl) :
  VM X (.Call (.Name "list" p) [.Call (.Name "range" p2) [a] [] b] [] pos) (Pz Up m):=
 PE.imp (KP t d f g j (Wx v Qg n) n y h) λF H Q ⟨s,l,env,e,k⟩=>by
  obtain⟨x,D,c⟩:=Zc e;refine⟨λ_=>False,s,[x],λ_ z=>z.elim,env,by show(m s).bind _=_;rw[D];rfl,λvs E I s1 B _=>?_⟩;obtain⟨w,rfl,C⟩:=B.one_inv
  cases x with
  | int kk=>
   unfold Up at c;simp only at c;split at c
   case isFalse=>cases c
   rename_i G;cases c;refine⟨kk.toNat,by rw[C.int_inv.1];congr 2;omega,by omega,λq o=>?_⟩;have A:(aD kk.toNat).map (λ(i:Nat)=>V.int (i:Int))=((aD kk.toNat).map λ(i:Nat)=>(i:Int)).map V.int:=by rw[bZ];rfl
   rw[A];refine k _ _ [q] (s1.trans (Same.new o _)) (Is.lst Zk (Iss.ofInts _)) (by simp) λr u=>?_;rw[aM.mp u];exact⟨Same.off s1 o,by rw[Zk];exact b8⟩
  | _=>cases c
variable {K:aH}
noncomputable def Cst(mg:bH->Option aI)(x:bH)(k:Int):Prop:=∃t,mg x=ax (di k t)
theorem Gy{X:Cx}{x:bH}{k:Int}{pos:dw}(a:Gl X x)(b:Cst X.mg x k)(hd:(x==("__debug__" : bH))=aB:=by decide):VE X (.Name x pos) (eC (.int k)):=by obtain⟨t,e⟩:=b;exact B8 (Zc6 a e (v:=.int k) ⟨t,rfl⟩ hd) λ_=>Is.int k
end VL
namespace VL
open PySem PySem.Spec PyProof.Rows L2
variable {K:aH}
noncomputable def CMulW(i j:Int):Prop:=i.natAbs.log2<67108863/\j.natAbs.log2<67108863
noncomputable def Nm(i j:Int):Prop:=j≠0/\j.natAbs.log2<9000
instance (i j:Int):Decidable (CMulW i j):=by unfold CMulW;infer_instance
instance (i j:Int):Decidable (Nm i j):=by unfold Nm;infer_instance
theorem EL(i:Int):gg i<=i.natAbs.log2+1:=by
 unfold gg;split
 ·exact dq _
 ·exact aZ _
theorem CMulW.ok{i j:Int}(h:CMulW i j):IntMulOk i j:=by
 unfold IntMulOk fj.Int.intTooBig;have d:=EL i;have a:=EL j;have b:=h.1;have c:=h.2
 have:decide (((gg i:Int)+(gg j:Int))>(bitsLine:Int))=aB:=decide_eq_false (by
  have e:(bitsLine:Int)=134217728:=rfl;rw[e];omega)
 rw[this];simp
section
variable {X:Cx} {a b:bO} {fa fb:XE} {pos:dw}
theorem Zen:TH X (dy .Mult) (rI CMulW λi j=>.int (i*j)):=opI λ_ _ _ _ _ _ _ a q=>mul_int q a.ok
theorem AW:TH X (dy .FloorDiv) (rI Nm λi j=>.int (i.fdiv j)):=opI λ_ _ _ _ _ _ _ a q=>floordiv_int a.1 q (.inl (PyProof.noPylong_of_log2 a.2))
abbrev AX:=gIC CMulW (· * ·)
abbrev AY:=gIC Nm pV
theorem EM(c:VE X a fa)(d:VE X b fb):VE X (.BinOp a .Mult b pos) (Zm AX fa fb):=UJ Zen (Ic _ _) c d
theorem Iv(c:VE X a fa)(d:VE X b fb):VE X (.BinOp a .FloorDiv b pos) (Zm AY fa fb):=UJ AW (Ic _ _) c d
end
theorem Nn:∀{ns:List Int}{n:Int},n∈ns->n.natAbs.log2<=kT (ns.map .int)
 | m::r,n,h=>by
  rw[af];simp only[kT,PySem.W.WData.weight];rcases aa.mp h with rfl | h
  ·by_cases a:n=0
   ·subst a;have:Nat.log2 (Int.natAbs 0)=0:=by decide +kernel
    omega
   ·rw[pW (by simpa using a)];omega
  ·have:=Nn h;omega
end VL
namespace VL
open PySem PySem.Spec PyProof.Rows L2
variable {K:aH}
noncomputable def Zjd(K:aH)(H0:Hp)(D:Y9):Out->Prop
 | .nx _=>∀σ' H',Same H0 H'->D.nx σ' H'
 | .rt l=>∀v fp H',Same H0 H'->Is K H' l v fp->fp.Nodup->(∀p∈fp,H0 p=aA/\UU (H' p))->D.rt v H'
 | _=>False
noncomputable def Zl1(K:aH)(O:List Nat)(f:XS):TS:=λD σ H=>∃H0 fps s out,Rel K O H0 fps s σ H/\f s=ax out/\Zjd K H0 D out
noncomputable def D7(X:Cx)(O:List Nat)(st:List cB)(f:XS):Prop:=PSs X st (Zl1 X.K O f)
section
variable {X:Cx} {O O' W:List Nat} {st:cB} {YC:List cB} {f g:XS}
theorem VSs.r(h:VSs X O W YC f):D7 X O YC f:=PSs.imp h λD i H ⟨c,fps,s,out,r,e,k⟩=>⟨c,fps,s,out,r,e,by
 cases out with
 | nx s'=>exact λg a b d _=>k a b d.same
 | rt l=>exact k
 | bk s'=>exact k.elim
 | ct s'=>exact k.elim⟩
theorem YY(h:VS X O W st f)(i:D7 X O YC g):D7 X O (st::YC) (Zn f g):=PSs.imp (JU h i) λD o H ⟨c,fps,s,out,r,e,k⟩=>by
 obtain⟨b,m,e⟩:=Zc e;refine⟨c,fps,s,b,r,m,?_⟩
 cases b with
 | nx s1=>exact λa j n d _=>⟨c,a,s1,out,d,e,k⟩
 | bk s1=>cases e;exact k.elim
 | ct s1=>cases e;exact k.elim
 | rt l=>cases e;exact k
theorem D8(h:D7 X O' YC g)(b:∀i∈O',i∈O:=by decide):D7 X O YC g:=PSs.imp h λD c H ⟨a,fps,s,out,r,e,k⟩=>⟨a,fps,s,out,r.weak b,e,k⟩
end
theorem D9{N:List bH}{n:Nat}{O:List Nat}{vs:List V}{H:Hp}{ls:List PV}{s:List aL}(k:∀i∈O,n<=i)(u:vs.length=n)(d:Iss K H ls vs s):∃fps,Rel K O H fps (ZP N.length ls) (L2.start N vs) H:=by
 obtain⟨fps,o,p2⟩:=d.fps;have e:=d.len
 have f:∀i:Nat,ls.length<=i->∀l,(ZP N.length ls)[i]?≠ax (ax l):=λi d l z=>by
  unfold ZP at z;rw[bA (by simpa using d),b7] at z;split at z<;>cases z
 refine⟨fps,Same.refl H,?_,λi a z=>?_,λi h=>?_,λi d=>?_,λi d p g=>?_,λi d j t p g=>?_⟩
 ·unfold ZP L2.start;simp[e]
 ·by_cases c:i<ls.length
  ·unfold ZP at z;rw[aj (by simpa using c),aX] at z
   cases q:ls[i]? with
   | none=>rw[q] at z;cases z
   | some b=>
    rw[q] at z;cases z;obtain⟨v,m,b1⟩:=o i a q;refine⟨v,?_,b1⟩;unfold L2.start;rw[aj (by simpa [e] using c),aX,m];rfl
  ·exact absurd z (f i (by omega) a)
 ·by_cases c:i<ls.length
  ·exact absurd (by unfold ZP;rw[aj (by simpa using c),aX,aE c];rfl) (h ls[i])
  ·exact p2 i (by omega)
 ·rw[p2 i (by have:=k i d;omega)];exact cH
 ·rw[p2 i (by have:=k i d;omega)] at g;simp at g
 ·rw[p2 i (by have:=k i d;omega)] at g;simp at g
theorem AZ{N:List bH}{n:Nat}{O:List Nat}{f:XS}{vs:List V}{H:Hp}{Q:VK}{E:XK}(s:∀i∈O,n<=i)(h:Y5 K (YF N.length f) n vs H Q E):Zl1 K O f { nx:=λ_ a=>Q .non a,rt:=Q } (L2.start N vs) H:=by
 obtain⟨m,ls,j,l,o,e,q⟩:=h;obtain⟨out,u,b⟩:=Zc e;obtain⟨fps,g⟩:=D9 s m o;refine⟨H,fps,ZP N.length ls,out,g,u,?_⟩
 cases out with
 | nx s'=>
  cases b;exact λk a c=>q .non a [] c Is.non cH λp t=>by simp at t
 | rt v=>
  cases b;exact λv j a c i d n=>q v a j c i d n
 | bk s'=>cases b
 | ct s'=>cases b
end VL
namespace VL
open PySem PySem.Spec PyProof.Rows L2
noncomputable def A0(i:Nat)(f0:XE):XS:=λs=>(f0 s).bind λl0=>match s[i]? with
 | some (ax l)=>if ZO l0=aC then ax (.rt (.tup [l0,l])) else aA
 | _=>aA
theorem A1{X:Cx}{O:List Nat}{e:bO}{i:Nat}{d:XE}{pos:dw}(t:PE X e (Zk7 (Q4 (tF X.K d) (Q4 (Pp i) DJ))))(f:i∈O:=by decide):VS X O [] (.Return (ax e) pos) (A0 i d):=PS.imp (HW t) λD B H ⟨A,fps,s,out,r,e,k⟩=>by
 obtain⟨m,j,e⟩:=Zc e;split at e
 case h_2=>cases e
 rename_i l y;split at e
 case isFalse=>cases e
 rename_i n;cases e;obtain⟨v,h,u⟩:=r.is i _ y;refine⟨λ_=>False,s,m,λ_ z=>z.elim,r.env,j,λp b f1 s1 g _=>?_⟩;have:=Is.pure _ _ _ n g;subst this;refine⟨v,h,(by show 2<=sizeLine;decide),λq w=>?_⟩;have a:Same b (upd b q (.tup [p,v])):=Same.new w _;have c:=r.grow s1;refine k _ (fps i) _ (c.same.trans a) (Is.tup Zk ?_) (r.nd i f) λz x=>?_
 ·have o:=Iss.cons (g.mono a) (Iss.one ((u.mono s1).mono a));simpa using o
 ·have:=c.own i f z x;exact⟨this.1,Same.mut a this.2⟩
end VL
namespace PW
open PySem L2 VL
noncomputable def Qp:XS:=(ZQ (eP (Ze Rq [Zw 1 [0,1] (xSq (Za 2)) (.one 0) ZD (Zm ZR (Zm ZR (Za 1) (Za 2)) (Za 0))])))
noncomputable def X3:List PV->Option PV:=YF 3 Qp
noncomputable def Wn:XS:=(Zn (YU [] (Xf aB [Za 1]) (.many [3,4]) (Ru (OO (xB (Zm (PF aC) (Za 3) (Za 2))) (xB (Zm MO (Za 4) (Ze X3 [Za 0,Za 3,Za 2])))) (ZQ (eP (Za 3))) YE))
  (ZQ (eP (eC .non))))
noncomputable def Z5:List PV->Option PV:=YF 5 Wn
noncomputable def KQ:XS:=(Zn (Zs 3 (Wz [eP (Za 2)]))
  (Zn (Zs 4 (Ze Z5 [Za 0,Za 1,Za 3]))
  (Zn (XC (xB (Rj aC (Za 4))) (Zn (Yz 3 (eP (Za 4)))
  (Zs 4 (Ze Z5 [Za 0,Za 1,Za 3]))))
  (ZQ (Za 3)))))
noncomputable def Vk:List PV->Option PV:=YF 5 KQ
noncomputable def Qq:XS:=(ZQ (Zw 2 [1] (Xf aB [Za 0]) (.many [0,1]) (OO (xB (Zm (Xz aC) (Za 0) (Za 2))) (xB (Zm MO (Za 1) (eC (.int 0))))) (eP (Za 0))))
noncomputable def YZ:List PV->Option PV:=YF 2 Qq
noncomputable def Ca:XS:=(ZQ (eP (Ze Z1 [Zw 2 [3,1,2,0] (MQ aB aB [Za 0,Za 1]) (.many [0,1]) ZD (Zm AY (Zm Wi (Zm AX (Zm ZR (Za 3) (Za 4)) (Za 0)) (Zm AX (Zm ZR (Za 5) (Za 4)) (Za 1))) (Za 2))])))
noncomputable def Qr:List PV->Option PV:=YF 4 Ca
noncomputable def Iw:XS:=(Zn (Zs 1 (Ze Vr [Za 0]))
  (Zn (Zs 2 (eP (eC (.int 1))))
  (Zn (YU [1] (Yk [Ze ZN [Za 0]]) (.one 3) (Zn (Zs 4 (eP (Zm ZR (Za 1) (Za 3))))
  (Zn (Zs 1 (Zw 2 [3,4,2] (Xf aC [Za 1]) (.many [0,1]) ZD (eP (OP (xB (Zm (Xz aB) (Za 0) (Za 2))) (Za 1) (Ze Qr [Za 1,Za 3,Za 2,Za 4])))))
  (Zs 2 (eP (Zm ZR (Za 4) (Za 3)))))))
  (A0 1 (Za 2)))))
noncomputable def Np:List PV->Option PV:=YF 5 Iw
noncomputable def Nq:XS:=(Zn (Zs 2 (Ze Np [Zw 2 [] (MQ aB aB [Za 0,Za 1]) (.many [0,1]) ZD (Zm LF (Za 0) (Wy [Za 1]))]))
  (ZQ (Zw 1 [2] (YL (Zm ZR (Za 2) (eC (.int 1)))) (.one 0) ZD (eP (Zm AY (Zm ZR (Za 0) (Pz Ie (eC (.int 1)))) (Zm ZR (Za 1) (eC (.int 0))))))))
noncomputable def WT:List PV->Option PV:=YF 3 Nq
noncomputable def A2:XS:=(ZQ (eP (Ze Z1 [Zw 1 [1,0] (YL (Za 2)) (.one 0) ZD (OP (xB (Zm (Xz aB) (Za 0) (Za 1))) (Ze VN [Za 2,Za 1]) (Pz Ie (Zm ZR (Zm ZR (Za 2) (Za 1)) (Za 0))))])))
noncomputable def Nr:List PV->Option PV:=YF 3 A2
noncomputable def Qs:XS:=(Zn (Zs 2 (Zw 1 [1] (Yk [Ze ZN [Za 0]]) (.one 0) (xB (Zm (Xz aC) (Za 0) (Za 1))) (eP (Za 0))))
  (ZQ (eP (Ze Z1 [Zw 1 [0,2] (YL (Za 2)) (.one 0) ZD (Ze Nr [Za 1,Za 0,Za 2])]))))
noncomputable def X4:List PV->Option PV:=YF 3 Qs
noncomputable def Cb:XS:=(Zn (Zs 3 (eP (Zm LF (O0 PH (Za 1) MR (Qk (Za 2))) (O0 PH (Za 1) (Qk (Zm YJ (Za 2) (eC (.int 1)))) MR))))
  (Zn (Zs 4 (Ze WT [Ze X4 [Za 0,Za 2],Za 3]))
  (Zn (TR 4 (Za 2) (eC (.int 0)))
  (ZQ (eP (Ze Z1 [Za 4]))))))
noncomputable def X5:List PV->Option PV:=YF 5 Cb
noncomputable def Ta:XS:=(ZQ (eP (Ze Z1 [Zw 1 [1] (Yk [Ze ZN [Za 0]]) (.one 0) ZD (OP (xB (Zm (PF aB) (Za 0) (Za 1))) (Pz Ie (eC (.int 1))) (eC (.int 0)))])))
noncomputable def YB:List PV->Option PV:=YF 2 Ta
noncomputable def EN:XS:=(Zn (Zs 1 (eP (Ze AV [Za 0])))
  (ZQ (eP (Ze Z1 [Zw 1 [1] (U2 (Za 0)) (.one 0) ZD (Zm Wi (Za 0) (Za 1))]))))
noncomputable def T1:List PV->Option PV:=YF 2 EN
noncomputable def Nt:XS:=(Zn (Zs 3 (Ze X5 [Za 0,Za 1,Za 2]))
  (Zn (Zs 4 (Ze VP [Za 0,Za 1,Za 3]))
  (Zn (Zs 5 (Ze YZ [Za 4,Za 2]))
  (Zn (XC (xB (Zm El (Ze ZN [Za 5]) (eC (.int 0)))) (Zn (Zs 6 (Ze YB [Za 0,Za 5]))
  (Zn (Zs 3 (Ze Vt [Za 3,Za 6]))
  (Zn (Zs 4 (Ze VP [Za 0,Za 4,Za 6]))
  (Zs 5 (Ze YZ [Za 4,Za 2]))))))
  (ZQ (Wy [Ze T1 [Za 3],eP (Za 4),Ze Vk [Za 0,Za 4,Za 2]]))))))
noncomputable def Tc:List PV->Option PV:=YF 7 Nt
end PW
namespace L2
open PySem PySem.Spec PyProof.Rows
abbrev WJ:=aL->dW->List (List Y8×V)->It
end L2
namespace VL
open PySem PySem.Spec PyProof.Rows L2
variable {K:aH}
theorem LK{b:Type}[DecidableEq b]{a:List b}{k:b}(h:k∉a):Q6 a k=a++[k]:=pW h
theorem LL{a:Type}[DecidableEq a]{b:List a}{vs:List PV}{k:a}{v:PV}(h:k∉b):Q7 b vs k v=vs++[v]:=pW h
end VL
namespace VL
open PySem PySem.Spec PyProof.Rows L2
section
variable {K:aH} {P:bM} {w:bc} {mg:bH->Option aI} {base:ba}
theorem Zeo{x:bH}{st:cB}{N d:List bH}{k n:Nat}{O:List Nat}(m:Nat)(f:XS)(D:Def K mg x st)(S:Zq N d (Zf st))
  (o:∀(kV doc pm:aI)(an:Option aL)(b ct:aI)(us:List aI),us.length=d.length->j4 (dP x x (Xm st) (Yy st) (Zf st) .none kV doc pm an b ct) ⟨us,[]⟩=pure (d.zip us))
  (g:d.length=n) (l:N.length=m) (p:∀i∈O,n<=i)
  (c:∀(e:aL)(b:aI)(A:bq)(a:List ma)(s:aO)(H:Hp)(E:XK),Room k (A.deeper (iZ x (Zf st) s.heap.objs.size e b))->D7 (OC J6 P w K mg base N x (Zf st) e b A a s H E).nox O (Yy st) f) :
  Xi P w K mg base x d (Y5 K (YF m f) n) (k+1):=by
 subst l;refine D.cal S o (λvs H Q E h=>by rw[g];exact h.1) λe b A a s H vs Q E j h=>⟨_,c e b A a s H E j,AZ p h⟩
end
theorem Zep{K:aH}:RB K Zld Az:=λH x y a b l z fb j v e Q k=>by
 cases a with
 | lst m=>cases b with
  | lst n=>
   have e:(if m.length+n.length<=10000 then ax (PV.lst (m++n)) else aA)=ax l:=e;split at e
   case isFalse=>cases e
   rename_i o;cases e;obtain⟨p,xs,s,rfl,w,i,rfl⟩:=j.lst_inv;obtain⟨t,u,h,rfl,f,d,rfl⟩:=v.lst_inv;refine⟨p,t,xs,u,rfl,rfl,w,f,by rw[i.len,d.len];exact cJ (lt_size o),λq g=>?_⟩;refine k _ _ (q::(s++h)) (Same.new g _) (Is.lst Zk ((i.append d).mono (Same.new g _))) λr c=>?_;rcases aa.mp c with rfl | c
   ·exact .inr (.inr g)
   ·rcases aV.mp c with c | c
    ·exact .inl (aN _ c)
    ·exact .inr (.inl (aN _ c))
  | _=>cases e
 | _=>cases e
theorem Zeq{X:Cx}{a b:bO}{c fb:XE}{pos:dw}(e:VE X a c)(d:VE X b fb):VE X (.BinOp a .Add b pos) (Zm Az c fb):=UJ BU Zep e d
end VL
namespace PW
open PySem L2 VL
noncomputable def A3:XS:=(Zn (Zs 3 (eP (Zm Vd (Zm Px (Zm YJ (Zm Vd (Za 0) (eC (.int 999983))) (Za 1)) (Zm YJ (Za 1) (eC (.int 389)))) (eC (.int 999983)))))
  (Zn (Zs 3 (eP (Zm Vd (Zm YJ (Zm YJ (Zm Px (Za 3) (Za 3)) (Zm SD (Za 0) (eC (.int 999983)))) (Za 1)) (eC (.int 999979)))))
  (ZQ (eP (Zm Vd (Zm SD (Za 3) (eC (.int 3))) (Za 2))))))
noncomputable def Xj:List PV->Option PV:=YF 4 A3
noncomputable def Ur:XS:=(Zn (Zs 3 (eP (Zm ZR (Za 1) (Zm Vd (Za 0) (Ze ZN [Za 1])))))
  (Zn (Zs 0 (eP (Zm SD (Za 0) (Ze ZN [Za 1]))))
  (Zn (Zs 4 (Wz []))
  (Zn (Zs 5 (Wz []))
  (Zn (YU [4,5,9] (Yk [Za 3]) (.one 6) (Zn (TR 4 (Zm Vd (Za 0) (Zm YJ (Za 6) (eC (.int 1)))) (Za 6))
  (Zs 0 (eP (Zm SD (Za 0) (Zm YJ (Za 6) (eC (.int 1))))))))
  (Zn (YU [4,5,9] (VD [eC (.int 1),Za 3]) (.one 6) (Zn (Yz 5 (eP (Wy [Za 6,Zm Vd (Za 0) (Za 6)])))
  (Zs 0 (eP (Zm SD (Za 0) (Za 6))))))
  (Zn (Zs 7 (eP (Zm Px (Ze OV [Zm El (Za 3) (eC (.int 1))]) (Zm Vd (Za 0) (Zm YJ (Zm Wi (Za 2) (Za 3)) (eC (.int 2)))))))
  (Zn (Zs 0 (eP (Zm SD (Za 0) (Zm YJ (Zm Wi (Za 2) (Za 3)) (eC (.int 2))))))
  (Zn (YU [4,5,9] (Yk [Za 7]) (.one 6) (Zn (Zs 8 (eP (Zm Vd (Za 0) (Za 3))))
  (Zn (Zs 0 (eP (Zm SD (Za 0) (Za 3))))
  (Zn (Yz 5 (eP (Wy [Za 8,Zm Vd (Zm YJ (Zm YJ (Za 8) (eC (.int 1))) (Zm Vd (Za 0) (Zm Wi (Za 3) (eC (.int 1))))) (Za 3)])))
  (Zs 0 (eP (Zm SD (Za 0) (Zm Wi (Za 3) (eC (.int 1))))))))))
  (Zn (Zs 9 (Zw 1 [3] (Yk [Za 3]) (.one 0) ZD (Zm Gu (Wz [eC (.int 0)]) (Za 1))))
  (Zn (YU [9] (YL (Za 5)) (.many [8,10]) (Zn (Zs 11 (eP (Zm YJ (Zm ZR (Zm ZR (Za 9) (Zm ZR (Za 4) (Za 8))) (Zm ZR (Za 4) (Za 10))) (eC (.int 1)))))
  (Zn (WC 9 (Zm ZR (Za 4) (Za 8)) (Zm ZR (Za 4) (Za 10)) (Za 11))
  (WC 9 (Zm ZR (Za 4) (Za 10)) (Zm ZR (Za 4) (Za 8)) (Za 11)))))
  (ZQ (eP (Ze Z1 [Zw 1 [] (YL (Za 9)) (.one 0) ZD (Ze Z1 [Za 0])]))))))))))))))
noncomputable def Us:List PV->Option PV:=YF 12 Ur
noncomputable def Zje:XS:=(ZQ (eP (OP (xB (Zm MO (Za 1) (Ze ZN [Za 0]))) (Zm ZR (Za 0) (Za 1)) (eC (.int 0)))))
noncomputable def Vu:List PV->Option PV:=YF 2 Zje
noncomputable def EO:XS:=(Zn (Ru (xB (Zm (Xz aB) (Zm Vd (Ze Vu [Za 0,eC (.int 0)]) (eC (.int 2))) (eC (.int 1)))) (ZQ (Ze Us [Ze Vu [Za 0,eC (.int 1)],Za 1,Za 2])) YE)
  (Zn (Zs 3 (eP (Zm ZR (Za 1) (Ze Xj [Ze Vu [Za 0,eC (.int 0)],eC (.int 1),Ze ZN [Za 1]]))))
  (Zn (Zs 4 (Zw 1 [3] (Yk [Za 3]) (.one 0) ZD (Zm Gu (Wz [eC (.int 0)]) (Za 1))))
  (Zn (Zs 5 (eP (eC (.int 0))))
  (Zn (YU [4] (VD [eC (.int 1),eC (.int 13)]) (.one 6) (Zn (Zs 7 (Ze Vu [Za 0,Za 6]))
  (Zn (Zs 8 (Ze Xj [Za 7,eC (.int 13),Za 3]))
  (Zn (Zs 9 (eP (Zm Vd (Zm YJ (Zm YJ (Za 8) (eC (.int 1))) (Ze Xj [Za 7,eC (.int 17),Ze En [eC (.int 1),Zm Wi (Za 3) (eC (.int 1))]])) (Za 3))))
  (Zn (Ru (xB (Zm MO (Za 6) (Za 3))) (Zn (Zs 8 (eP (Za 6)))
  (Zs 9 (Ze Xj [Za 7,eC (.int 5),Za 6]))) YE)
  (Zn (Zs 10 (eP (Kr (Zm El (Za 3) (eC (.int 1))) (Kr (Zm MO (Za 5) (Za 2)) (Zm El (Ze Xj [Za 7,eC (.int 3),eC (.int 3)]) (eC (.int 0)))))))
  (Ru (Gj (xB (Zm MO (Za 6) (Za 3))) (xB (Za 10))) (Zn (WC 4 (Za 8) (Za 9) (Zm YJ (Zm ZR (Zm ZR (Za 4) (Za 8)) (Za 9)) (eC (.int 1))))
  (Zn (WC 4 (Za 9) (Za 8) (Zm ZR (Zm ZR (Za 4) (Za 8)) (Za 9)))
  (Zs 5 (eP (Zm YJ (Za 5) (eC (.int 1))))))) YE)))))))
  (Zn (Zs 11 (Ze Xj [Ze Vu [Za 0,eC (.int 0)],eC (.int 7),Za 3]))
  (Zn (Zs 4 (Zw 1 [11] (YL (Zm Az (O0 SK (Za 4) (Qk (Za 11)) MR) (O0 SK (Za 4) MR (Qk (Za 11))))) (.one 0) ZD (Zm LB (O0 SK (Za 0) (Qk (Za 1)) MR) (O0 SK (Za 0) MR (Qk (Za 1))))))
  (ZQ (eP (Ze Z1 [Zw 1 [] (YL (Za 4)) (.one 0) ZD (Ze Z1 [Za 0])]))))))))))
noncomputable def KR:List PV->Option PV:=YF 12 EO
noncomputable def A4:XS:=(Zn (Zs 3 (Wz []))
  (Zn (YU [3] (Yk [Ze ZN [Za 0]]) (.one 4) (Zn (Zs 5 (eP (Zm ZR (Za 1) (Za 4))))
  (Zn (YU [3] (Yk [Ze ZN [Za 0]]) (.one 6) (Zn (Zs 7 (eP (Zm Wi (Zm ZR (Za 2) (Za 4)) (Zm ZR (Za 2) (Za 6)))))
  (Zs 5 (eP (Zm Wi (Za 5) (Zm Px (Zm ZR (Zm ZR (Za 0) (Za 4)) (Za 6)) (Za 7)))))))
  (Yz 3 (eP (Za 5))))))
  (ZQ (eP (Ze Z1 [Za 3])))))
noncomputable def Nu:List PV->Option PV:=YF 8 A4
noncomputable def A5:XS:=(ZQ (eP (Ze Z1 [Zw 1 [1] (Yk [Ze ZN [Za 0]]) (.one 0) ZD (OP (xB (Zm (Xz aB) (Za 0) (Za 1))) (eC (.int 1)) (eC (.int 0)))])))
noncomputable def Nv:List PV->Option PV:=YF 2 A5
noncomputable def SN:XS:=(Zn (Ru (Gj (Py (xB (Ze UK [Za 0,eC (.ty "tuple")]))) (xB (Zm (Xz aC) (Ze ZN [Za 0]) (Za 1)))) (ZQ (eP (eC (.bl aB)))) YE)
  (ZQ (eP (Ze Kv [Zw 1 [] (U2 (Za 0)) (.one 0) ZD (Ze VQ [Za 0])]))))
noncomputable def Ut:List PV->Option PV:=YF 2 SN
noncomputable def Cc:XS:=(ZQ (eP (Zm YJ (Zm Wi (Zm SD (Ze Rq [Zw 1 [] (U2 (Za 0)) (.one 0) ZD (Ze Rq [Za 0])]) (eC (.int 2))) (Ze ZN [Za 0])) (eC (.int 1)))))
noncomputable def Qt:List PV->Option PV:=YF 1 Cc
end PW
namespace VL
open PySem PySem.W PyProof.Rows
section
variable {r:Nat->Int} {n:Nat}
noncomputable def at0(p:Array Nat)(i:Nat):Nat:=p.getD i 0
end
end VL
namespace VL
open PySem PySem.W PyProof.Rows L2
theorem Q8:∀{l m:List Nat},l.Nodup->(∀x∈l,x∈m)->m.length<=l.length->l.Perm m
 | [],m,_,_,hl=>by have:m=[]:=dI.mp (by simpa using hl);subst this;exact .nil
 | x::l,m,nd,sub,hl=>by
  have a:=aq.mp nd;have b:=sub x (by simp);have d:=mE b;refine List.Perm.trans ?_ d.symm;refine .cons x (Q8 a.2 (λy c=>?_) ?_)
  ·have ne:y≠x:=λz=>a.1 (z▸c);exact(e8 ne).mpr (sub y (by simp[c]))
  ·rw[fI b];simp only[az] at hl;omega
end VL
namespace VL
open PySem PySem.Spec PyProof.Rows L2
variable {K:aH}
instance (x:bH) (n:Int):Decidable (MulOk x n):=by unfold MulOk;infer_instance
end VL
namespace VL
open PySem PySem.Spec PyProof.Rows L2
variable {K:aH}
noncomputable def Zer(j i:Nat)(fk:XE):XS:=λs=>(fk s).bind λkk=>(DZ kk).bind λk=>(MI s i).bind λm=>
 (gd (ZC m&&decide (0<=k/\k<10000/\m.length<=10000))).bind λ_=>(m[k.toNat]?).bind λl=>ax (.nx ((s.set i (ax (.lst (m.take k.toNat++m.drop (k.toNat+1))))).set j (ax l)))
theorem Cd{m:List PV}(h:ZC m=aC){k:Nat}{l:PV}(e:m[k]?=ax l):ZO l=aC:=by rw[X1,bK] at h;exact h l (av e)
section
variable {X:Cx} {O:List Nat} {st:cB} {i j:Nat} {fk:XE}
theorem Zjf(h:PS X st (Ke (tBM X.K "list" BR (Pp i) (Q4 (tF X.K fk) DJ)) (Sq j)))(u:i∈O:=by decide)(M:j∉O:=by decide):VS X O [j,i] st (Zer j i fk):=PS.imp h λD σ H ⟨Z,fps,s,out,r,e,k⟩=>by
 obtain⟨kk,C,e⟩:=Zc e;obtain⟨a,T,e⟩:=Zc e;obtain⟨m,n,e⟩:=Zc e;obtain⟨_,L,e⟩:=Zc e;obtain⟨l,G,e⟩:=Zc e;rw[U4 T] at C;have n:=VH n;have B:=Vi L;simp only[aw,decide_eq_true_eq] at B;obtain⟨f,k0,Y,F⟩:=B;cases e;obtain⟨p,xs,fq,x,g,Q,E⟩:=r.lst_at u n;refine⟨.ref p,x,tyL g,λ_=>False,s,_,λ_ z=>z.elim,r.env,C,λz J fz s1 S _=>?_⟩;obtain⟨rfl,_⟩:=S.int_inv;have b:=(Q.mono s1).pureEq f;obtain⟨y,f1,I,A,_⟩:=b.get G;have P:=(aR.mp I).1;have:=Is.pure _ _ _ (Cd f G) A;subst this;refine⟨p,xs,a,a.toNat,y,rfl,rfl,s1 _ _ g,by omega,by omega,?_,I,?_⟩
 ·have q:(0:Int)<=a/\a<(xs.length:Int):=by omega
  simp[n8,show ¬a<0 by omega,q.2]
 obtain⟨g1,o,_⟩:=b.take a.toNat;obtain⟨W,v,_⟩:=b.drop (a.toNat+1);have o:=o.pureEq (O3 _ f);have v:=v.pureEq (O4 _ f);rw[iU];have R:=(r.grow s1).relist u n E x (o.append v) (by simp) λq c=>by simp at c
 have U:=(r.grow s1).own i u p (by rw[E];exact ag);have w:Is X.K (L2.upd J p (.lst (xs.take a.toNat++xs.drop (a.toNat+1)))) l y []:=Is.tr (TK.upd' U.2) _ _ _ (λq c=>by simp at c) A;have N:=R.set w (λz=>absurd z M) (λq _ _ p g=>by simp at g);refine k _ _ _ N λq c=>?_;have d:q≠j:=λz=>c (by rw[z];simp);have t:q≠i:=λz=>c (by rw[z];simp);exact⟨by rw[bW,pW (bX d)],by rw[Ya d];exact .inl (Ya t)⟩
end
end VL
namespace VL
open PySem
noncomputable def Rise(xs:Array Nat):Prop:=xs.toList.Pairwise (· < ·)
theorem RK{xs:Array Nat}{i:Nat}(h:i<xs.size)(d:Nat):xs.getD i d=xs[i]:=by unfold j6;rw[dif_pos h];rfl
theorem Rise.at{xs:Array Nat}(h:Rise xs){i k:Nat}(b:i<k)(a:k<xs.size)(d:Nat):xs.getD i d<xs.getD k d:=by have:=List.pairwise_iff_getElem.mp h i k (by simp;omega) (by simpa using a) b;simp only[ik] at this;unfold j6;rw[dif_pos a,dif_pos (show i<xs.size by omega)];exact this
theorem KS{xs:Array Nat}{j:Nat}(h:Rise xs):∀(fuel lo hi:Nat),lo<=hi->hi<=xs.size->hi-lo<=fuel->(∀i,i<lo->xs.getD i j<j)->(∀i,hi<=i->i<xs.size->j<=xs.getD i j)->
  gO xs j fuel lo hi<=xs.size/\(∀i,i<gO xs j fuel lo hi->xs.getD i j<j)/\∀i,gO xs j fuel lo hi<=i->i<xs.size->j<=xs.getD i j
 | 0,lo,hi,h1,h2,h3,h4,h5=>by unfold gO;exact⟨by omega,h4,λi a=>h5 i (by omega)⟩
 | fuel+1,lo,hi,h1,h2,h3,h4,h5=>by
  unfold gO;by_cases q:lo<hi
  ·rw[p9 q];simp only;by_cases p:xs.getD ((lo+hi)/2) j<j
   ·rw[p9 p];refine KS h fuel _ hi (by omega) h2 (by omega) (λi a=>?_) h5;by_cases e:i=(lo+hi)/2
    ·rw[e];exact p
    ·have:=h.at (show i<(lo+hi)/2 by omega) (show(lo+hi)/2<xs.size by omega) j;omega
   ·rw[pW p];refine KS h fuel lo _ (by omega) (by omega) (by omega) h4 (λi a b=>?_);by_cases e:i=(lo+hi)/2
    ·rw[e];omega
    ·have:=h.at (show(lo+hi)/2<i by omega) b j;omega
  ·rw[pW q];exact⟨by omega,h4,λi a=>h5 i (by omega)⟩
theorem SO{xs:Array Nat}(h:Rise xs)(j:Nat):b9 xs j<=xs.size/\(∀i,i<b9 xs j->xs.getD i j<j)/\∀i,b9 xs j<=i->i<xs.size->j<=xs.getD i j:=
 KS h xs.size 0 xs.size (dq _) (aZ _) (by omega) (λi c=>by omega) (λi b a=>by omega)
theorem Gz{xs:Array Nat}(h:Rise xs):b9 xs 0=0:=by
 have a:=SO h 0;by_cases q:b9 xs 0=0
 ·exact q
 ·have:=a.2.1 0 (by omega);omega
theorem GA{xs:Array Nat}(h:Rise xs){i:Nat}(b:i<xs.size):b9 xs (xs[i]+1)=i+1:=by
 have a:=SO h (xs[i]+1);have c:∀d,xs.getD i d=xs[i]:=λd=>RK b d
 have g:i<b9 xs (xs[i]+1):=by
  by_cases q:b9 xs (xs[i]+1)<=i
  ·have:=a.2.2 i q b;rw[c] at this;omega
  ·omega
 by_cases q:b9 xs (xs[i]+1)=i+1
 ·exact q
 ·have f:=a.2.1 (i+1) (by omega);have e:=h.at (show i<i+1 by omega) (show i+1<xs.size by omega) (xs[i]+1);rw[c] at e;omega
theorem GB(n:Nat):Rise (Array.range n):=by unfold Rise;rw[Array.toList_range];exact kj
theorem A6{xs:Array Nat}(h:Rise xs){j:Nat}(k:¬xs[b9 xs j]?=ax j):Rise (e9 xs (b9 xs j) j):=by
 have g:=SO h j;generalize b9 xs j=p at g k;unfold Rise e9;simp only[dk,iO,mF];rw[ip,ip];have m:xs.toList.Pairwise (· < ·):=h;have take:(xs.toList.extract 0 p)=xs.toList.take p:=by simp[km]
 have drop:(xs.toList.extract p xs.size)=xs.toList.drop p:=by simp only[km];exact bY (by simp)
 rw[take,drop];have lt:∀a∈xs.toList.take p,a<j:=λa d=>by obtain⟨i,e,rfl⟩:=bp d;rw[bG] at e;have:=g.2.1 i (by omega);rw[List.getElem_take];unfold j6 at this;rw[dif_pos (show i<xs.size by simp at e;omega)] at this;simpa using this
 have n:∀a∈xs.toList.drop p,j<a:=λa d=>by
  obtain⟨i,e,rfl⟩:=bp d;rw[bU] at e;have f:p+i<xs.size:=by simp at e;omega
  rw[List.getElem_drop];have l:=g.2.2 (p+i) (by omega) f;unfold j6 at l;rw[dif_pos f] at l;have t:¬xs[p]=j:=λz=>k (by rw[eR (by omega),z]);have s:j<=xs[p]:=by have:=g.2.2 p (aZ _) (by omega);unfold j6 at this;rw[dif_pos (show p<xs.size by omega)] at this;exact this
  by_cases z:i=0
  ·subst z;simp only[jR,ik];omega
  ·have o:=h.at (show p<p+i by omega) f 0;rw[RK f,RK (show p<xs.size by omega)] at o;simp only[ik];omega
 refine⟨⟨m.sublist (e7 _ _),by simp,λa d b c=>?_⟩,m.sublist (List.drop_sublist _ _),λa d b c=>?_⟩
 ·rw[aM.mp c];exact lt a d
 ·rcases aV.mp d with q | q
  ·have:=lt a q;have:=n b c;omega
  ·rw[aM.mp q];exact n b c
structure Wh(led:Bool)(t:cX):Prop where
 rise:Rise t.place
 dum:t.dummies = #[]
 led:t.led=led
theorem Ce(led:Bool):Wh led (og 0 0 led):=⟨by unfold Rise og;simp,rfl,rfl⟩
theorem Vl{led:Bool}{t:cX}(h:Wh led t)(n:Nat):Wh led (t.standIn n):=⟨GB n,rfl,h.led⟩
theorem Iy{t:cX}(hd:t.dummies = #[]){f:Nat->Int}{h:Int}:∀(fuel:Nat)(p:oh),p.dummy=aA->∀j d,fA t f h fuel p=ax (.empty j d)->d=aA/\¬t.place[b9 t.place j]?=ax j
 | 0,p,hp,j,d,e=>by simp[fA] at e
 | fuel+1,p,hp,j,d,e=>by
  unfold fA at e;have b:dc t.dummies p.j=aB:=by rw[hd];unfold dc;simp
  have a:(t.advance p).dummy=aA:=by
   unfold nt;split
   ·exact hp
   ·exact hp
  cases hs:t.slot p.j with
  | empty=>
   rw[hs] at e;simp only[jm,pJ] at e;obtain⟨rfl,rfl⟩:=e;refine⟨hp,λz=>?_⟩;unfold kA at hs;simp only at hs;rw[z] at hs;simp at hs
  | dummy=>
   exfalso;unfold kA at hs;simp only at hs;rw[b] at hs;split at hs<;>simp at hs
  | live i=>
   rw[hs] at e;simp only at e;split at e
   ·cases e
   ·exact Iy hd fuel _ a j d e
theorem Zes{t:cX}(hd:t.dummies = #[]){h:Int}{j:Nat}{b:Bool}(e:t.freeSlot h=ax (j,b)):b=aB/\¬t.place[b9 t.place j]?=ax j:=by
 unfold jn at e;split at e
 ·rename_i a d f;have:=Iy hd _ _ rfl a d f;obtain⟨rfl,c⟩:=this;simp at e;obtain⟨rfl,rfl⟩:=e;exact⟨rfl,c⟩
 ·cases e
theorem Zet{led:Bool}{t:cX}(h:Wh led t){j:Nat}(b:¬t.place[b9 t.place j]?=ax j):Wh led (t.put j).1:=by
 refine⟨A6 h.rise b,?_,h.led⟩;show(if dc t.dummies j=aC then _ else t.dummies) = #[];have a:dc t.dummies j=aB:=by rw[h.dum];unfold dc;simp
 rw[a];exact h.dum
theorem GC{led:Bool}{t:cX}(h:Wh led t)(d:Array (Int×aI))(a:Int)(x:aI):Wh led (pR t d a x).2.1:=by
 unfold pR
 cases e:t.freeSlot a with
 | none=>exact Vl h _
 | some jb=>
  obtain⟨j,b⟩:=jb;have:=Zes h.dum e;have c:=Zet h this.2;show Wh led ((t.put j).1.orStandIn _);unfold mz;split
  ·exact c
  ·exact Vl c _
theorem Cf{led:Bool}{t:cX}(h:Wh led t)(d:Array (Int×aI))(n:Nat):Wh led (oj t d n).2.1:=by
 unfold oj
 cases e:t.relaid (d.map (·.1)) n with
 | none=>exact Vl h _
 | some to=>
  obtain⟨t',o⟩:=to;simp only;split
  ·show Wh led t';unfold cX.relaid m6 at e;simp only[oO,mS,Option.bind_eq_some_iff,jm,pK] at e;obtain⟨j,_,rfl,_⟩:=e;refine⟨?_,rfl,h.led⟩;show List.Pairwise (· < ·) (List.map _ _).toArray.toList;rw[List.toList_toArray,List.map_filterMap];refine List.Pairwise.filterMap (R:=(· < ·)) _ (λa k g b f i c=>?_) kj;simp at f c;omega
  ·exact Vl h _
end VL
set_option maxHeartbeats 3200000
namespace VL
open PySem PySem.Spec PyProof.Rows
section
variable {prog:bM} {w:bc} {A:bq} {E:aI->aO->Prop} {s:aO}
noncomputable def Qu(w:bc):Bool:=!w.params.followText "set-order"
noncomputable def PM(w:bc):dW:={ cls:=.type "set",dict:=aA,data:=.set #[] 0 (.fresh 0 0 (Qu w)) }
theorem A7(v:aI){Q:aI->aO->Prop}(h:Q (.ref s.heap.objs.size) { s with heap:=s.heap.push (PM w) }) :
  jQ (model prog w) A (.call (.builtin "set.__new__") ⟨[.type "set",v],[]⟩) (wants Q E) s:=by
 refine codeAny_of_tree ?_;refine aG (m:=checkBuiltinCall "set.__new__" ⟨[.type "set",v],[]⟩) (oJ (F.newCall_set_1 v) (aW ⟨plainId_quiet F.plain_set_new _,jI F.entry_set_new ?_⟩));rw[iu F.plain_set_new _];unfold fj.«set.__new__» om;have a:=sub_set_self;cases s;simp only
 wp_walk
 refine kU (aW ?_);simp only[newObj];exact aG (wpAny_alloc (aW (aW h)))
end
theorem Iz:∀{us:List aI}{ns:List Int},i7 us ns->us.length=ns.length
 | _,_,.nil=>rfl
 | _,_,.cons n t h=>by simp[Iz h]
end VL
namespace VL
open PySem PySem.W PyProof.Rows L2
theorem Q9{b:Type}:∀{l:List b}{p:Nat}(h:p<l.length),(l[p]::l.eraseIdx p).Perm l
 | a::l,0,h=>iR _
 | a::l,p+1,h=>by have:=Q9 (l:=l) (p:=p) (by simpa using h);simp only[ko,kW];exact(oq _ _ _).trans (this.cons a)
theorem ER{b:Type}(next:Nat->Nat):∀(fuel k:Nat)(left:List b)(out:Array b),left.length=fuel->∃l,(nu.go next fuel k left out).toList=out.toList++l/\l.Perm left
 | 0,k,left,out,h=>⟨[],by unfold nu.go;simp,by rw[dI.mp h]⟩
 | fuel+1,k,left,out,h=>by
  have a:next k%left.length<left.length:=gW _ (by omega)
  obtain⟨l,d,c⟩:=ER next fuel (k+1) (left.eraseIdx (next k%left.length)) (out.push left[next k%left.length]) (by rw[j7 a];omega)
  refine⟨left[next k%left.length]::l,?_,?_⟩
  ·unfold nu.go;rw[aE a];simp only;rw[d];simp
  ·exact(c.cons _).trans (Q9 a)
theorem Cg{a:Type}(next:Nat->Nat)(xs:Array a):(nu next xs).toList.Perm xs.toList:=by
 obtain⟨l,c,b⟩:=ER next xs.size 0 xs.toList #[] (by simp)
 unfold nu;rw[c];simpa using b
noncomputable def Sl(w:bc)(a:aL)(ep:Nat)(es:Array (Int×aI)):Array (Int×aI):=if w.params.followText "set-order" = aC then nu (w.params.setOrder a ep) es else es
theorem IA(w:bc)(a:aL)(ep:Nat)(b:Array (Int×aI)):(Sl w a ep b).toList.Perm b.toList:=by
 unfold Sl;split
 ·exact Cg _ _
 ·exact iR _
theorem RL(w:bc)(a:aL)(ep:Nat)(b:Array (Int×aI)):(Sl w a ep b).size=b.size:=by have:=(IA w a ep b).length_eq;simpa using this
noncomputable def JQ(w:bc)(t:cX)(i:Nat):Nat:=if w.params.followText "set-order" = aC then 0 else match i with
 | 0=>0
 | j+1=>t.place.getD j 0+1
noncomputable def IsSetIter(h:ba)(it a:aL)(st i n ep:Nat):Prop:=∃o,h.get? it=ax o/\o.cls = .type "set_iterator"/\o.data = .fields #[.int st 0,.int i 0,.ref a,.int n 0,.int ep 0]
theorem slot_setit_next:Slot "set_iterator" "__next__" "set_iterator.__next__":=
 .of (owner:="set_iterator") (n:="__next__") (by rw[typeLookup_type,lU];kernel_rfl) (by decide +kernel) (by decide +kernel) (by decide +kernel)
  (by first | exact .inl (by decide +kernel) | exact .inr (by decide +kernel)) (by rw[mH];kernel_rfl)
theorem VU:entryFor table "set_iterator.__next__" = ax fj.«set_iterator.__next__»:=entryFor_of_tree (by kernel_rfl)
theorem Pa:Manifest.owners.lookup (String.ofList ['r','o','t','a','r','e','t','i','_','t','e','s'].reverse)=ax Manifest.sig_set_iterator:=by kernel_rfl
theorem UM(a:aI):argsOk "set_iterator.__next__" ⟨[a],[]⟩:=by unfold argsOk;rw[signature?_of (id:="set_iterator.__next__") (n:=['_','_','t','x','e','n','_','_']) (o:=['r','o','t','a','r','e','t','i','_','t','e','s']) (by kernel_rfl) Pa];kernel_rfl
theorem UN:Slot "set_iterator" "__iter__" "set_iterator.__iter__":=
 .of (owner:="set_iterator") (n:="__iter__") (by rw[typeLookup_type,lU];kernel_rfl) (by decide +kernel) (by decide +kernel) (by decide +kernel)
  (by first | exact .inl (by decide +kernel) | exact .inr (by decide +kernel)) (by rw[mH];kernel_rfl)
theorem PN(a:aI):argsOk "set_iterator.__iter__" ⟨[a],[]⟩:=by unfold argsOk;rw[signature?_of (id:="set_iterator.__iter__") (n:=['_','_','r','e','t','i','_','_']) (o:=['r','o','t','a','r','e','t','i','_','t','e','s']) (by kernel_rfl) Pa];kernel_rfl
theorem Nw:entryFor table "set.__iter__" = ax fj.«frozenset.__iter__»:=
 entryFor_alias (id':="frozenset.__iter__") (by kernel_rfl) rfl (by decide +kernel) (by kernel_rfl)
section
variable {prog:bM} {w:bc} {A:bq} {E:aI->aO->Prop} {s:aO} {it a:aL} {i ep:Nat} {o:dW} {es:Array (Int×aI)} {t:cX} {ks:List Nat}
theorem IsSetIter.typeIs{st i n ep:Nat}(x:IsSetIter s.heap it a st i n ep):s.TypeIs (.ref it) "set_iterator":=let⟨o,c,b,_⟩:=x;⟨o,c,b⟩
theorem IsSetIter.at{h h':ba}{st i n ep:Nat}(x:IsSetIter h it a st i n ep)(e:∀o,h.get? it=ax o->h'.get? it=ax o):IsSetIter h' it a st i n ep:=let⟨o,b,r⟩:=x;⟨o,e _ b,r⟩
theorem Qv{Q:Bool->aO->Prop}(h:Q (w.params.followText "set-order") s):bJ (model prog w) A setsByText Q E s:=aG (kU (aW h))
theorem GD{st i n ep:Nat}{Q:aI->aO->Prop}(c:IsSetIter s.heap it a st i n ep)(h:Q (.ref it) s):bJ (model prog w) A (nY (.ref it)) Q E s:=by
 obtain⟨b,d⟩:∃b,entryFor table "set_iterator.__iter__" = ax b/\∀(A:bq)(E:aI->aO->Prop)(s:aO)(v:aI)(Q:PySem.Fin->aO->Prop),Q (.done (.ret v)) s->bJ (model prog w) A (b ⟨[v],[]⟩) Q E s:=
  ⟨fj.«dict_keyiterator.__iter__»,entryFor_alias (id':="dict_keyiterator.__iter__") (by kernel_rfl) rfl (by decide +kernel) (by kernel_rfl),λA E s v Q h=>by
   show bJ _ _ (ret v) _ _ s;exact aW h⟩
 refine wpAny_pyIter_slot c.typeIs UN (cj UN c.typeIs d.1 (d.2 _ _ _ _ _ ?_) (PN _));exact⟨_,rfl,"set_iterator",_,c.typeIs,slot_setit_next.lookup,h⟩
theorem A8{Q:Bool->aO->Prop}(e:s.TypeIs (.ref a) "set")(h:Q aB s):bJ (model prog w) A (jU (.ref a)) Q E s:=by
 unfold jU;refine aG (wpAny_specialOf e PySem.F.slot_set_len.lookup ?_);generalize d:("set.__len__" : String)=id0
 wp_delta
 rw[show splitId id0=ax ("set","__len__") from by subst d;decide +kernel];subst d;refine aG (kR (T:="set") (b:=aC) e (by rw[mH];kernel_rfl) ?_);refine cf (λc=>absurd c (by decide)) (λ_=>?_);refine cf (λ_=>?_) (λc=>absurd (by decide +kernel) c);refine aG (wpAny_typeOf e ?_);exact aW h
end
noncomputable def Ci:aI->Int
 | .int n _=>n
 | _=>0
theorem LM:∀{us:List aI},(∀v∈us,∃n t,v=di n t)->i7 us (us.map Ci)
 | [],_=>.nil
 | u::us,h=>by obtain⟨n,t,rfl⟩:=h u (by simp);exact .cons n t (LM λv a=>h v (by simp[a]))
theorem IB(ns:List Nat):(ns.map λ(k:Nat)=>V.int (k:Int))=(ns.map λ(k:Nat)=>(k:Int)).map V.int:=by rw[bZ];rfl
end VL
namespace VX
open PySem PySem.Spec PyProof.Rows L2 VL
abbrev XR:=ZG->Option bH
noncomputable def tFX(K:aH)(O:List Nat)(fx:XR)(E:XK):TS:=λ_ σ H=>∃H0 fps s n,Rel K O H0 fps s σ H/\fx s=ax n/\∀C H',jS K cO n=ax (ax (.ref C))->Same H0 H'->E (.ref C) aA H'
noncomputable def VX(X:Cx)(O:List Nat)(E:XK)(st:cB)(fx:XR):Prop:=PS X st (tFX X.K O fx E)
abbrev XF:=ZG->Option (bH×PV)
noncomputable def sEx(f:XE):XS:=λs=>(f s).map λ_=>.nx s
theorem Zl2{X:Cx}{O:List Nat}{e:bO}{f:XE}{pos:dw}(c:VE X e f)(b:iC e aA pos.line X.env=pure aB:=by rfl):VS X O [] (.Expr e pos) (sEx f):=PS.imp (Y3 c b) λD d H ⟨i,fps,s,out,r,e,k⟩=>by obtain⟨l,h,rfl⟩:=map_some e;exact⟨λ_=>False,s,l,λ_ z=>z.elim,r.env,h,λv g m a is _=>k fps d g (r.grow a) λj _=>⟨rfl,Kep.refl _⟩⟩
end VX
namespace VL
open PySem PySem.Spec PyProof.Rows L2
theorem Zl3{X:Cx}{d e:bO}{f:XE}(h:VE X e f):VI X d e (xSq f):=by
 intro a s b H R I ⟨c,st,ls,hd,env,e,k⟩;unfold xSq at e
 cases q:YL f st with
 | some m=>
  rw[q] at e;cases e;exact Yp h a s b H R I ⟨c,st,_,hd,env,q,k⟩
 | none=>
  rw[q] at e;exact Qi h a s b H R I ⟨c,st,ls,hd,env,e,k⟩
end VL
namespace PW
open PySem L2 VL
noncomputable def A9:XS:=(Zn (Zs 1 (Wz []))
  (Zn (YU [1] (Yk [Ze ZN [Za 0]]) (.one 2) (YU [1] (VD [Zm YJ (Za 2) (eC (.int 1)),Ze ZN [Za 0]]) (.one 3) (WB 1 (Zw 1 [2,3] (Yk [Zm ZR (Zm ZR (Za 0) (Za 2)) (Za 3)]) (.one 0) ZD (eP (Wy [Za 1,Za 2]))))))
  (ZQ (Za 1))))
noncomputable def Nx:List PV->Option PV:=YF 4 A9
noncomputable def IC:XS:=(Zn (Zs 2 (Ze Nx [Za 0]))
  (Zn (Zs 3 (Pz Up (Ze ZN [Za 0])))
  (Zn (Zs 4 (Wz []))
  (Zn (Zs 5 (Pz Up (Ze ZN [Za 2])))
  (Zn (Zs 6 (eP (Zm SD (Za 1) (eC (.int 2)))))
  (Zn (YU [4,5] (Yk [Ze ZN [Za 2]]) (.one 7) (Zn (Zs 8 (Ze Xj [Zm YJ (Za 1) (Zm Px (Zm Px (eC (.int 53)) (Za 7)) (Za 7)),Zm YJ (eC (.int 47)) (Za 7),Ze ZN [Za 5]]))
  (Zn (Ru (xB (Zm (Xz aB) (Zm Vd (Za 1) (eC (.int 2))) (eC (.int 1)))) (Zn (Zs 8 (eP (Zm Vd (Za 6) (Ze ZN [Za 5]))))
  (Zs 6 (eP (Zm SD (Za 6) (Ze ZN [Za 5]))))) YE)
  (Zn (Zer 8 5 (Za 8))
  (Zn (Eu (.many [9,10]) (Zm ZR (Za 2) (Za 8)))
  (Ru (xB (Zm (Xz aC) (Zm ZR (Za 3) (Za 9)) (Zm ZR (Za 3) (Za 10)))) (Zn (Zs 11 (eP (Zm ZR (Za 3) (Za 9))))
  (Zn (Zs 3 (Zw 1 [11,3,10] (YL (Za 3)) (.one 0) ZD (eP (OP (xB (Zm (Xz aB) (Za 0) (Za 1))) (Zm ZR (Za 2) (Za 3)) (Za 0)))))
  (Yz 4 (eP (Za 8))))) YE))))))
  (ZQ (eP (Ze Z1 [Ze RJ [Za 4]])))))))))
noncomputable def Ny:List PV->Option PV:=YF 12 IC
end PW
namespace VL
open PySem
theorem GF{mask:Nat}{b:Array (Option Nat)}{i p f:Nat}(h:(b.getD i (ax 0)).isNone=aC):iS mask b (f+1) i p=ax i:=by unfold iS;have a:∃r,hU mask i+1-i=r+1:=⟨hU mask i-i,by unfold hU;split<;>omega⟩;obtain⟨r,a⟩:=a;rw[a,fu,c9];simp only[jR,h]
noncomputable def GG(ks:List Nat)(j:Nat):Option Nat:=if j∈ks then ax (ks.idxOf j) else aA
noncomputable def RM(mask:Nat)(acc:Option (Array (Option Nat)×Nat))(h:Int):Option (Array (Option Nat)×Nat):=acc.bind λz=>(iS mask z.1 (fR mask) (kB h%(mask+1)) (kB h)).bind λj=>ax (z.1.setIfInBounds j (ax z.2),z.2+1)
theorem Td{a:Array (Option Nat)}{j:Nat}(h:j<a.size)(d:Option Nat):a.getD j d=a[j]:=by unfold j6;rw[dif_pos h];rfl
end VL
namespace VL
open PySem PySem.Spec PyProof.Rows
theorem KU{k:Nat}(h:k<=31):kB (k:Int)=k:=by unfold kB;omega
theorem Zaa{led:Bool}{t:cX}(g:Wh led t)(j:31<=t.mask){k:Nat}(e:k<=31)(c:k∉t.place.toList):t.freeSlot (k:Int)=ax (k,aB):=by
 have i:¬t.place[b9 t.place k]?=ax k:=λz=>c (by
  rw[<-da] at z;exact av z)
 have b:dc t.dummies k=aB:=by rw[g.dum];unfold dc;simp
 have a:t.slot k = .empty:=by unfold kA;simp only;rw[pW (by simpa using i),b];rfl
 have st:(t.probeStart (k:Int)).j=k:=by unfold mU;simp only;rw[KU e];exact du (by omega)
 have d:t.probe (λ_=>(k:Int)+1) (k:Int) (t.probeStart (k:Int))=ax (.empty k aA):=by unfold ot;obtain⟨f,h⟩:∃f,10*fR t.mask=f+1:=⟨10*fR t.mask-1,by unfold fR;omega⟩;rw[h];unfold fA;rw[st,a];rfl
 unfold jn;rw[d];rfl
noncomputable def nx8(j:Nat):Nat:=(j*5+1)%8
noncomputable def it8:Nat->Nat->Nat
 | 0,j=>j
 | n+1,j=>it8 n (nx8 j)
theorem ES{t:cX}(hd:t.dummies = #[]){j:Nat}(h:t.slot j≠.empty):j∈t.place.toList/\∃i,t.slot j = .live i:=by
 have b:dc t.dummies j=aB:=by rw[hd];unfold dc;simp
 unfold kA at h ⊢;simp only at h ⊢;by_cases q:(t.place[b9 t.place j]?==ax j)=aC
 ·rw[p9 q];have a:t.place[b9 t.place j]?=ax j:=by simpa using q
  rw[<-da] at a;exact⟨av a,_,rfl⟩
 ·rw[pW q,b] at h;exact absurd rfl h
theorem ET{t:cX}(hd:t.dummies = #[])(b:t.mask=7){h:Int}:∀(n fuel:Nat)(p:oh),n<fuel->p.more=0->p.i=p.j->p.perturb<32->p.dummy=aA->t.slot (it8 n p.j) = .empty->
  ∃j,fA t (λ_=>h+1) h fuel p=ax (.empty j aA)
 | n,0,p,hf,_,_,_,_,_=>by omega
 | n,fuel+1,p,hf,h1,h2,h3,h4,he=>by
  unfold fA;by_cases q:t.slot p.j = .empty
  ·rw[q];exact⟨p.j,by rw[h4]⟩
  ·obtain⟨_,i,c⟩:=ES hd q;rw[c];have ne:((h+1:Int)==h)=aB:=by simp;omega
   simp only[ne]
   cases n with
   | zero=>exact absurd he q
   | succ n=>
    have a:t.advance p={ p with j:=nx8 p.j,more:=0,i:=nx8 p.j,perturb:=0 }:=by
     unfold nt cX.leap hU;have d:p.perturb/32=0:=by omega
     rw[pW (by omega)];simp only[b,h2,d];have lt:(p.j*5+1+0)%(7+1)<8:=gW _ (by decide);rw[pW (by omega)];unfold nx8;simp
    rw[a];exact ET hd b n fuel _ (by omega) rfl rfl (by show 0<32;decide) h4 he
theorem Zev:∀j,j<8->[it8 0 j,it8 1 j,it8 2 j,it8 3 j,it8 4 j].Nodup:=by decide
theorem ID:∀{l m:List Nat},l.Nodup->(∀x∈l,x∈m)->l.length<=m.length
 | [],m,_,_=>dq _
 | x::l,m,nd,sub=>by have a:=aq.mp nd;have b:=sub x (by simp);have:=ID (l:=l) (m:=m.erase x) a.2 λy c=>(e8 (λz:y=x=>a.1 (by rw[<-z];exact c))).mpr (sub y (by simp[c]));rw[fI b] at this;have:0<m.length:=iT b;simp only[az];omega
theorem Zab{led:Bool}{t:cX}(a:Wh led t)(b:t.mask=7)(l:t.place.size<=4){k:Nat}(f:k<=31):∃j,t.freeSlot (k:Int)=ax (j,aB):=by
 have g:k%8<8:=gW _ (by decide)
 obtain⟨n,o,e⟩:∃n,n<5/\t.slot (it8 n (k%8)) = .empty:=by
  refine cA λq=>?_;have all:∀n,n<5->it8 n (k%8)∈t.place.toList:=λn h=>(ES a.dum λz=>q ⟨n,h,z⟩).1
  have:=ID (Zev (k%8) g) (m:=t.place.toList) (λx c=>by
   simp only[aa,br,or_false] at c;rcases c with rfl | rfl | rfl | rfl | rfl
   ·exact all 0 (by decide)
   ·exact all 1 (by decide)
   ·exact all 2 (by decide)
   ·exact all 3 (by decide)
   ·exact all 4 (by decide))
  simp at this;omega
 have st:t.probeStart (k:Int)={ j:=k%8,more:=0,i:=k%8,perturb:=k,dummy:=aA }:=by unfold mU hU;rw[KU f,b];have:k%(7+1)<8:=gW _ (by decide);simp only;rw[pW (by omega)];simp
 obtain⟨j,d⟩:=ET a.dum b (h:=(k:Int)) n (10*fR t.mask) { j:=k%8,more:=0,i:=k%8,perturb:=k,dummy:=aA } (by unfold fR;omega) rfl rfl (by show k<32;omega) rfl e;refine⟨j,?_⟩;unfold jn ot;rw[st,d];rfl
theorem LN{mask:Nat}(g:31<=mask):∀(ks dn:List Nat)(ow:Array (Option Nat)),(dn++ks).Nodup->(∀k∈ks,k<=31)->ow.size=mask+1->(∀j,j<=mask->ow.getD j aA=GG dn j)->
  ∃a,(ks.map λ(k:Nat)=>(k:Int)).foldl (RM mask) (ax (ow,dn.length))=ax (a,(dn++ks).length)/\a.size=mask+1/\∀j,j<=mask->a.getD j aA=GG (dn++ks) j
 | [],dn,ow,_,_,hs,ho=>⟨ow,by simp,hs,by simpa using ho⟩
 | k::ks,dn,ow,nd,hk,hs,ho=>by
  have e:=hk k (by simp);have b:k∉dn:=λz=>by rw[cN] at nd;exact nd.2.2 k z k (by simp) rfl
  have fr:(ow.getD k (ax 0)).isNone=aC:=by have:=ho k (by omega);rw[Td (by omega)] at this;rw[Td (by omega),this];unfold GG;rw[pW b];rfl
  obtain⟨f,d⟩:∃f,fR mask=f+1:=⟨mask+14,rfl⟩;have st:RM mask (ax (ow,dn.length)) (k:Int)=ax (ow.setIfInBounds k (ax dn.length),dn.length+1):=by unfold RM;simp only[aQ];rw[KU e,du (show k<mask+1 by omega),d,GF fr];rfl
  obtain⟨a,m,i,l⟩:=LN g ks (dn++[k]) (ow.setIfInBounds k (ax dn.length)) (by simpa using nd) (λq h=>hk q (by simp[h])) (by simpa using hs) (λj c=>by
   rw[Td (by simp;omega),Array.getElem_setIfInBounds (by omega)];have o:=ho j c;rw[Td (by omega)] at o;by_cases q:k=j
   ·subst q;rw[p9 rfl];unfold GG;rw[p9 (by simp),nW,pW b];simp
   ·rw[pW q,o];unfold GG;by_cases z:j∈dn
    ·rw[p9 z,p9 (by simp[z]),nW,p9 z]
    ·rw[pW z,pW (by simp[z];exact λy=>q y.symm)])
  refine⟨a,?_,i,by simpa using l⟩;rw[af,gy,st];have:dn.length+1=(dn++[k]).length:=by simp
  rw[this,m];simp
theorem MV(mask:Nat)(a:Array Int):jo mask a=(a.toList.foldl (RM mask) (ax (lJ (mask+1) aA,0))).map (·.1):=by unfold jo;rw[<-Array.foldl_toList];rfl
theorem IE{b c:Type}{f g:b->Option c}:∀{l:List b},(∀j∈l,f j=g j)->l.filterMap f=l.filterMap g
 | [],_=>rfl
 | a::l,h=>by rw[dS,dS,h a (by simp),IE λj d=>h j (by simp[d])]
theorem Zhd{b c:Type}(p:b->Bool)(g:b->c):∀l:List b,(l.filterMap λj=>if p j=aC then ax (g j) else aA)=(l.filter p).map g
 | []=>rfl
 | a::l=>by
  have:=Zhd p g l;cases h:p a<;>simp[dS,jA,h,this]
theorem Cj{a:List Nat}(c:a.Nodup):a.map (λj=>a.idxOf j)=aD a.length:=by
 apply fS
 ·simp
 ·intro i b e;simp only[aJ] at b;rw[oA,nA];have d:a.idxOf a[i]<a.length:=kC.mpr (bQ b);exact(kO c).mp (nB d)
theorem Ck{t:cX}{c:Array (Int×aI)}{a:List Nat}(A:c.toList.map (·.1)=a.map λ(k:Nat)=>(k:Int))(w:a.Nodup)(m:∀k∈a,k<=31)(P:a.length<=18)(N:t.plain=aC) :
  ∃b f,oj t c 20=(b,f,aB)/\f.plain=aC/\f.mask=31/\b.toList.map (·.1)=f.place.toList.map λ(k:Nat)=>(k:Int):=by
 have v:c.size=a.length:=by have:=congrArg df A;simpa using this
 obtain⟨y,C,E,M⟩:=LN (mask:=31) (by decide) a [] (lJ 32 aA) (by simpa using w) m (by simp) (λj p=>by
  unfold GG;rw[Td (by simp;omega)];simp)
 have ls:jo 31 (c.map (·.1))=ax y:=by rw[MV,Array.toList_map,A];have:(a.map λ(k:Nat)=>(k:Int)).foldl (RM 31) (ax (lJ (31+1) aA,0))=ax (y,([]++a).length):=C;rw[this];rfl
 let d:=(aD 32).filter λj=>decide (j∈a)
 have n:((aD (31+1)).filterMap λj=>(y.getD j aA).map λz=>(j,z))=d.map λj=>(j,a.idxOf j):=by
  rw[<-Zhd (λj=>decide (j∈a)) (λj=>(j,a.idxOf j))];refine IE λj p=>?_;have u:j<=31:=by have:=aY.mp p;omega
  rw[M j u];unfold GG;simp only[lE];by_cases q:j∈a<;>simp[q]
 have s:d.Perm a:=(List.perm_ext_iff_of_nodup (cq.filter _) w).mpr λx=>by show x∈(aD 32).filter (λj=>decide (j∈a))↔_;rw[bj,aY,decide_eq_true_eq];exact⟨λh=>h.2,λh=>⟨by have:=m x h;omega,h⟩⟩
 let f:cX:={ mask:=31,place:=d.toArray,dummies:=#[],finger:=t.finger,led:=t.led,moves:=t.movedTo 31,plain:=t.plain };have I:t.relaid (c.map (·.1)) 20=ax (f,(d.map λj=>a.idxOf j).toArray):=by show m6 31 t.finger (t.movedTo 31) t.led t.plain (c.map (·.1))=_;unfold m6;rw[ls];simp only[mS,aQ,oO];rw[n,bZ,bZ];simp only[Function.comp_def,List.map_id'];rfl
 have inj:∀j∈d,∃e,c[a.idxOf j]?=ax e/\e.1=(j:Int):=λj p=>by
  have J:j∈a:=s.mem_iff.mp p;have G:=kC.mpr J;have D:a.idxOf j<c.size:=by omega
  refine⟨c[a.idxOf j],by simp[D],?_⟩;have g:=congrArg (λl=>l[a.idxOf j]?) A;simp only[aX] at g;rw[aE G,da,eR D] at g;simp only[bz,jm] at g;rw[g,nB]
 have O:∀l:List Nat,(∀j∈l,∃e,c[a.idxOf j]?=ax e/\e.1=(j:Int))->(((l.map λj=>a.idxOf j).filterMap λi=>c[i]?).map (·.1))=l.map λ(j:Nat)=>(j:Int):=by
  intro l
  induction l with
  | nil=>intro _;rfl
  | cons j l ih=>
   intro h;obtain⟨e,C,E⟩:=h j (by simp);rw[af,dS,C];simp only[af];rw[ih λx L=>h x (by simp[L]),E]
 let b:=((d.map λj=>a.idxOf j).toArray.filterMap λi=>c[i]?);have o:b.toList.map (·.1)=d.map λ(j:Nat)=>(j:Int):=by show((d.map λj=>a.idxOf j).toArray.filterMap λi=>c[i]?).toList.map (·.1)=_;rw[Array.toList_filterMap];exact O d inj
 have B:b.size=a.length:=by have:=congrArg df o;simp only[aJ,cM] at this;rw[this,s.length_eq]
 have H:coversAll (d.map λj=>a.idxOf j).toArray c.size=aC:=by unfold coversAll;rw[List.isPerm_iff,v,<-Cj w];exact s.map _
 have F:f.fits b.size=aC:=by unfold m7 kD;rw[B];have:d.length=a.length:=s.length_eq;simp[f,this];omega
 refine⟨b,f,?_,N,rfl,o⟩;unfold oj;rw[I];show(if(coversAll (d.map λj=>a.idxOf j).toArray c.size&&f.fits b.size)=aC then(b,f,aB) else _)=_;rw[H,F];rfl
structure Zew(led:Bool)(XU:Nat)(es:Array (Int×aI))(t:cX):Prop where
 tab:Wh led t
 plain:t.plain=aC
 fits:t.fits es.size=aC
 val:∀e∈es.toList,∃tg,e.2=di e.1 tg
 way:∃ks:List Nat,es.toList.map (·.1)=(ks.map λ(k:Nat)=>(k:Int))/\ks.Nodup/\(∀k∈ks,k<=31)/\((t.mask=7/\ks.length<=XU)\/(t.mask=31/\t.place.toList=ks))
theorem IF{a:Type}(xs:Array a)(p:Nat)(x:a):(e9 xs p x).toList=xs.toList.take p++x::xs.toList.drop p:=by
 unfold e9;simp only[dk,iO,mF];have take:(xs.toList.extract 0 p)=xs.toList.take p:=by simp[km]
 have drop:(xs.toList.extract p xs.size)=xs.toList.drop p:=by simp only[km];exact bY (by simp)
 rw[take,drop];simp
theorem VY{t:cX}{n:Nat}(h:t.fits n=aC):t.place.size=n:=by unfold m7 at h;simp only[aw,beq_iff_eq,decide_eq_true_eq] at h;exact h.1
theorem Cm{led:Bool}{f:Array (Int×aI)}{t:cX}(h:Zew led 4 f t){k:Nat}(u:k<=31)(H:(k:Int)∉f.toList.map (·.1))(O:f.size<=17)(l:Tok) :
  ∃b c,pR t f (k:Int) (.int k l)=(b,c,aB,aB)/\Zew led 5 b c:=by
 obtain⟨g,v,I,n,i⟩:=h.way;have F:g.length=f.size:=by have:=congrArg df v;simpa using this.symm
 have N:=VY h.fits;have D:k∉g:=λz=>H (by rw[v];exact ar.mpr ⟨k,z,rfl⟩)
 obtain⟨j,s,J⟩:∃j,t.freeSlot (k:Int)=ax (j,aB)/\(t.mask=31->j=k):=by
  rcases i with⟨m,A⟩ | ⟨m,o⟩
  ·obtain⟨j,s⟩:=Zab h.tab m (by omega) u;exact⟨j,s,λz=>by omega⟩
  ·exact⟨k,Zaa h.tab (by omega) u (by rw[o];exact D),λ_=>rfl⟩
 have G:dc t.dummies j=aB:=by rw[h.tab.dum];unfold dc;simp
 let p:=b9 t.place j;let c:cX:={ t with place:=e9 t.place p j };let b:=e9 f p ((k:Int),di (k:Int) l);have pt:t.put j=(c,p):=by unfold cX.put;simp only[G];rfl
 have q:b.toList=f.toList.take p++((k:Int),di (k:Int) l)::f.toList.drop p:=IF _ _ _;have C:c.place.toList=t.place.toList.take p++j::t.place.toList.drop p:=IF _ _ _;have s1:b.size=f.size+1:=by have:=congrArg df q;rw[aT,az,bG,bU] at this;simp only[cM] at this;omega
 have E:c.place.size=f.size+1:=by have:=congrArg df C;rw[aT,az,bG,bU] at this;simp only[cM] at this;omega
 have y:c.fits b.size=aC:=by
  unfold m7 kD;rw[E,s1];have d:c.dummies.size=0:=by show t.dummies.size=0;rw[h.tab.dum];rfl
  rw[d];have m:c.mask=t.mask:=rfl;rw[m];simp only[beq_self_eq_true,Bool.true_and,decide_eq_true_eq];rcases i with⟨m,A⟩ | ⟨m,o⟩<;>omega
 have w:pR t f (k:Int) (.int k l)=(b,c,aB,aB):=by unfold pR;rw[s];simp only[pt];show(b,c.orStandIn b.size,aB,!c.fits b.size)=_;unfold mz;rw[y];rfl
 have tk:=GC h.tab f (k:Int) (.int k l);rw[w] at tk;refine⟨b,c,w,tk,h.plain,y,λe B=>?_,g.take p++k::g.drop p,?_,?_,λx M=>?_,?_⟩
 ·rw[q] at B;rcases aV.mp B with z | z
  ·exact h.val e (cW z)
  ·rcases aa.mp z with rfl | z
   ·exact⟨l,rfl⟩
   ·exact h.val e (dh z)
 ·rw[q,ay,af,gu,gH,v,ay,af,gu,gH]
 ·have L:(g.take p++k::g.drop p).Perm (k::g):=by
   have:=nj (a:=k) (l₁:=g.take p) (l₂:=g.drop p)
   rwa [lO] at this
  exact L.nodup_iff.mpr (aq.mpr ⟨D,I⟩)
 ·rcases aV.mp M with z | z
  ·exact n x (cW z)
  ·rcases aa.mp z with rfl | z
   ·exact u
   ·exact n x (dh z)
 ·rcases i with⟨m,A⟩ | ⟨m,o⟩
  ·left;refine⟨m,?_⟩;rw[aT,az,bG,bU];omega
  ·right;refine⟨m,?_⟩;rw[C,o,J m]
noncomputable def UR(N:List Int)(k:Int):List Int:=if k∈N then N else N++[k]
section
variable {prog:bM} {w:bc} {A:bq} {E:aI->aO->Prop} {s:aO}
noncomputable def SetP(prog:bM)(w:bc)(led:Bool)(h:ba)(a:aL)(N:List Int):Prop:=
 ∃o es ep t,h.get? a=ax o/\o.ExactSet/\o.data = .set es ep t/\ElemsOf (jP prog w) es.toList/\(es.toList.map (·.1)).Perm N/\Zew led 4 es t
theorem SetP.keep{led:Bool}{h h':ba}{a:aL}{N:List Int}(x:SetP prog w led h a N)(k:∀o,h.get? a=ax o->h'.get? a=ax o):SetP prog w led h' a N:=by obtain⟨o,c,ep,t,b,r⟩:=x;exact⟨o,c,ep,t,k o b,r⟩
theorem LO{h:ba}{a:aL}{o:dW}{c es':Array (Int×aI)}{ep:Nat}{t t':cX}(b:h.get? a=ax o)(hd:o.data = .set c ep t):(h.update a (dW.putSet es' t')).get? a=ax { o with data:=.set es' (ep+1) t' }:=by have:=eO (dW.putSet es' t') b (by rw[putSet_of _ _ hd];rfl);rw[putSet_of _ _ hd] at this;exact this
theorem Zex{k:Nat}(h:k<=31):hashInt (k:Int)=k:=by
 have:∀k,k<=31->hashInt ((k:Nat):Int)=(k:Int):=by decide +kernel
 exact this k h
theorem Zac{a:aL}{N:List Int}{k:Nat}{I:Tok}{led:Bool}{Q:Bool->aO->Prop}(hS:SetP prog w led s.heap a N)(J:k<=31)(hl:N.length<=17)
  (h:∀h' b,cP a s.heap h'->SetP prog w led h' a (UR N (k:Int))->Q b { s with heap:=h' }):bJ (model prog w) A (setAddHashed a (.int k I) ((jP prog w).hash k)) Q E s:=by
 obtain⟨o,v,ep,t,R,Y,hd,W,O,T⟩:=hS;have hf:=T.fits;have hz:v.size=N.length:=by have:=O.length_eq;simpa using this
 have hb:v.size<scanBound:=by have:scanBound=4096:=rfl;omega
 have M:(jP prog w).is (k:Int) (.int k I)=aC:=nC _ _ _ _;have C:(di (k:Int) I).scannable=aC:=rfl
 have f:∀e∈v.toList,(jP prog w).is (k:Int) e.2=aC↔e.1=(k:Int):=λe G=>by
  obtain⟨u,hu⟩:=T.val e G;rw[hu];constructor
  ·intro z;exact(jP prog w).inj _ _ _ (nC prog w e.1 u) z
  ·intro z;rw[z];exact nC _ _ _ _
 unfold setAddHashed setAddHashedIn;refine fH (aG (gQ R hd hf ?_));simp only[byScan_of C hb W,if_true];unfold setAddByScan;refine aG (aG (mw (aG (wpAny_setScan_of M R hd hf W ?_))))
 cases q:List.findIdx? (λe=>(jP prog w).is (k:Int) e.2) v.toList with
 | some j=>
  obtain⟨lj,pj,_⟩:=List.findIdx?_eq_some_iff_getElem.mp q;have hin:(k:Int)∈N:=O.mem_iff.mp (ar.mpr ⟨_,bQ lj,(f _ (bQ lj)).mp pj⟩);refine aW (aW ?_);have g:=h s.heap aB (cP.refl a s.heap);unfold UR at g;rw[p9 hin] at g;exact g ⟨o,v,ep,t,R,Y,hd,W,O,T⟩
 | none=>
  have S:(k:Int)∉v.toList.map (·.1):=λz=>by obtain⟨e,G,e1⟩:=ar.mp z;have:=List.findIdx?_eq_none_iff.mp q e G;rw[(f e G).mpr e1] at this;cases this
  have nN:(k:Int)∉N:=λz=>S (O.mem_iff.mpr z);have hh:(jP prog w).hash (k:Int)=(k:Int):=Zex J;rw[hh];obtain⟨c,i,ly,d⟩:=Cm T J S (by omega) I;have Z:=layNew_perm t v (k:Int) (.int k I);rw[ly,iO] at Z;have L:ElemsOf (jP prog w) c.toList:=by have:=W.push M C;rw[hh] at this;exact this.perm Z
  have B:(c.toList.map (·.1)).Perm (UR N (k:Int)):=by unfold UR;rw[pW nN];have p2:=Z.map (λe:Int×aI=>e.1);rw[ay] at p2;exact p2.trans (O.append_right [(k:Int)])
  have sz1:c.size=N.length+1:=by have:=B.length_eq;unfold UR at this;rw[pW nN,aT] at this;simpa using this
  simp only[ly];refine aG (aW ?_);refine cf (λ_=>?_) (λz=>absurd d.plain z);refine aG ?_;rw[hashByValue_scannable 8 C];refine aW ?_;have pk:plainKind (di (k:Int) I)=aC:=rfl;simp only[pk,if_true];have p:∀{m:Nat},m<=18->m<=sizeLine:=λ{m} q=>by rw[fT];omega
  have g1:=LO (es':=c) (t':=i) R hd;refine aG (wpAny_storeSet_of R hd ?_ (p (by omega)));obtain⟨ks,U,nd,D,P⟩:=d.way;have lk:ks.length=c.size:=by have:=congrArg df U;simpa using this.symm
  refine cf (λz=>?_) (λz=>?_)
  ·have n:i.tooFull=aC:=by simpa using z
   unfold oB kD at n;rw[VY d.fits,d.tab.dum] at n;simp only[aU,jE,jR,decide_eq_true_eq] at n
   have s5:c.size=5:=by
    rcases P with⟨m,l5⟩ | ⟨m,_⟩
    ·rw[m] at n;omega
    ·rw[m] at n;omega
   have gr:cX.grown c.size=20:=by rw[s5];rfl
   obtain⟨l,F,rl,p2,m2,o2⟩:=Ck (t:=i) U nd D (by omega) d.plain;have tk:=Cf d.tab c 20;have ft:=relayAll_fits i c 20;have H:=relayAll_perm i c 20;rw[rl] at tk ft H;rw[gr];simp only[rl];refine aG (aW ?_);have g2:=LO (es':=l) (t':=F) g1 rfl;have sz2:l.size=c.size:=by have:=H.length_eq;simpa using this
   refine aG (wpAny_storeSet_of g1 rfl ?_ (p (by omega)));have pl2:F.place.toList.map (λ(k:Nat)=>(k:Int))=(F.place.toList).map λ(k:Nat)=>(k:Int):=rfl;have nd2:F.place.toList.Nodup:=tk.rise.imp λq=>by omega
   have X:∀x∈F.place.toList,x<=31:=λx hx'=>by
    have:(x:Int)∈l.toList.map (·.1):=by rw[o2];exact ar.mpr ⟨x,hx',rfl⟩
    have:=(H.map (λe:Int×aI=>e.1)).mem_iff.mp this;rw[U] at this;obtain⟨y,hy,ey⟩:=ar.mp this;have:=D y hy;omega
   exact aW (aW (h _ aC ((cw s.heap a _).trans (cw _ a _)) ⟨_,l,_,F,g2,Y,rfl,L.perm H,(H.map (λe:Int×aI=>e.1)).trans B,tk,p2,ft,λe G=>d.val e (H.mem_iff.mp G),F.place.toList,o2,nd2,X,.inr ⟨m2,rfl⟩⟩))
  ·have n:i.tooFull=aB:=by
    cases q:i.tooFull with
    | false=>rfl
    | true=>exact absurd (by rw[q];rfl) z
   have t4:Zew led 4 c i:=by
    refine⟨d.tab,d.plain,d.fits,d.val,ks,U,nd,D,?_⟩;rcases P with⟨m,l5⟩ | r
    ·left;refine⟨m,?_⟩;unfold oB kD at n;rw[VY d.fits,d.tab.dum,m] at n;simp only[aU,jE,jR,decide_eq_false_iff_not] at n;omega
    ·exact .inr r
   exact aW (aW (h _ aC (cw s.heap a _) ⟨_,c,_,i,g1,Y,rfl,L,B,t4⟩))
end
end VL
namespace VW
open PySem PySem.W PyProof.Rows L2 VL
structure GH(led:Bool)(es:Array (Int×aI))(t:cX):Prop where
 tab:Wh led t
 plain:t.plain=aC
 fits:t.fits es.size=aC
section
variable {prog:bM} {w:bc} {A:bq} {E:aI->aO->Prop} {s:aO} {it a:aL} {i ep:Nat} {o:dW} {es:Array (Int×aI)} {t:cX}
theorem Nz{Q:Option (aI×Nat)->aO->Prop}(g:s.heap.get? a=ax o)(hd:o.data = .set es ep t)(b:GH (Qu w) es t)(p:i<=es.size)
  (h:Q (((Sl w a ep es)[i]?).map λe=>(e.2,JQ w t (i+1))) s):bJ (model prog w) A (setNext a (JQ w t i) i ep) Q E s:=by
 have l:=b.fits;unfold setNext;refine aG (gQ g hd l ?_);refine aG (Qv ?_)
 cases q:w.params.followText "set-order" with
 | true=>
  have c:Sl w a ep es=nu (w.params.setOrder a ep) es:=by unfold Sl;rw[p9 q]
  have f:∀j,JQ w t j=0:=λj=>by unfold JQ;rw[p9 q]
  rw[c,f] at h;rw[f];refine cf (λ_=>?_) (λz=>absurd rfl z);refine cf (λz=>absurd z (by simp)) (λ_=>?_);refine aG ?_;unfold setWalk;refine aG (gQ g hd l ?_);refine aG (Qv ?_);rw[q];refine cf (λ_=>?_) (λz=>absurd rfl z);exact aG (kU (aW (aW h)))
 | false=>
  have c:Sl w a ep es=es:=by unfold Sl;rw[pW (by rw[q];decide)]
  have m:t.led=aC:=by rw[b.tab.led];unfold Qu;rw[q];rfl
  have n:b9 t.place (JQ w t i)=i:=by
   unfold JQ;rw[pW (by rw[q];decide)]
   cases i with
   | zero=>exact Gz b.tab.rise
   | succ j=>
    have d:j<t.place.size:=by rw[VY b.fits];omega
    simp only;rw[RK d];exact GA b.tab.rise d
  rw[c] at h;refine cf (λz=>absurd z (by decide)) (λ_=>?_);refine cf (λz=>absurd (show(!t.plain&&decide (es.size>1))=aC from z) (by rw[b.plain];simp)) (λ_=>?_);refine aG ?_;refine cf (λz=>absurd z (by rw[m];simp)) (λ_=>aW ?_);simp only[n];by_cases z:i<es.size
  ·have k:i<t.place.size:=by rw[VY b.fits];omega
   rw[eR z] at h ⊢;rw[eR k];simp only[bz] at h;have:JQ w t (i+1)=t.place[i]+1:=by unfold JQ;rw[pW (by rw[q];decide)];simp only;rw[RK k]
   rw[this] at h;exact aW h
  ·rw[iJ (by omega)] at h ⊢;exact aW h
theorem MW{e:Int×aI}{Q:Option aI->aO->Prop}(c:IsSetIter s.heap it a (JQ w t i) i es.size ep)(h:s.heap.get? a=ax o)(hd:o.data = .set es ep t)(j:GH (Qu w) es t)(g:(Sl w a ep es)[i]?=ax e)
  (l:∀h',IsSetIter h' it a (JQ w t (i+1)) (i+1) es.size ep->cP it s.heap h'->Q (ax e.2) { s with heap:=h' }):bJ (model prog w) A (jv (.ref it)) Q E s:=by
 obtain⟨m,d,n,b⟩:=id c
 have p:i<es.size:=by
  have:=(j8.mp g).1
  rwa [RL] at this
 unfold jv
 refine aG (jy (cV (name:=bH.ofString "__next__") c.typeIs slot_setit_next
  (cj slot_setit_next c.typeIs VU ?_ (UM _))))
 unfold fj.«set_iterator.__next__»;refine aG (aW ?_);refine aG (wpAny_fieldsOf d b ?_);simp only;refine aG (jM h hd j.fits ?_);rw[pW (by simp)];simp only[bV];refine aG (Nz h hd j (cJ p) ?_);rw[g];simp only[bz];refine aG (iP d b (by simp) ?_);have k:(s.heap.update it (dW.mapFields (·.setIfInBounds 0 (gJ (JQ w t (i+1)))))).get? it=ax (m.mapFields (·.setIfInBounds 0 (gJ (JQ w t (i+1))))):=eO _ d (iW (eJ b _));have f:=eJ b (·.setIfInBounds 0 (gJ (JQ w t (i+1))));refine aG (iP k f (by simp) ?_);refine aW ⟨_,rfl,aW (l _ ⟨_,eO _ k (iW (eJ f _)),(jj ..).trans ((jj ..).trans n),?_⟩ ((cw ..).trans (cw ..)))⟩;rw[eJ f];simp[gJ]
theorem KW{Q:Option aI->aO->Prop}(h:A.handled=aA)(c:IsSetIter s.heap it a (JQ w t es.size) es.size es.size ep)(f:s.heap.get? a=ax o)(hd:o.data = .set es ep t)(g:GH (Qu w) es t)
  (i:∀h',mB it s.heap h'->Q aA { s with heap:=h' }):bJ (model prog w) A (jv (.ref it)) Q E s:=by
 obtain⟨j,e,k,d⟩:=id c;unfold jv
 refine aG (jy (cV (name:=bH.ofString "__next__") c.typeIs slot_setit_next
  (cj slot_setit_next c.typeIs VU ?_ (UM _))))
 unfold fj.«set_iterator.__next__»;refine aG (aW ?_);refine aG (wpAny_fieldsOf e d ?_);simp only;refine aG (jM f hd g.fits ?_);rw[pW (by simp)];simp only[bV];refine aG (Nz f hd g (aZ _) ?_);rw[iJ (by rw[RL];exact aZ _)];simp only[Option.map_none];refine aG (iP e d (by simp) ?_);show bJ _ _ (newExc (.type "StopIteration") [] >>= _) _ _ _;refine aG ?_;simp only[newExc,newTuple];refine aG (cy ?_ (by size_fits));refine aG (m:=mC _ _) (oJ (a:=oU) (by first | rfl | (simp only[mC];rfl)) ?_);refine cy ?_ (by size_fits);simp only[raiseNew];refine aG (wpAny_handled ?_);rw[show A.in1.handled=aA from h];refine aG (aW (wpAny_throw ?_));refine aG (kR (T:="StopIteration") (b:=aC) ⟨_,ak _ rfl,rfl⟩ isSubtype_stop ?_);exact aW (i _ (((cw ..).extBut.push _).push _))
theorem Zad{Q:aI->aO->Prop}(b:s.heap.get? a=ax o)(f:o.ExactSet)(hd:o.data = .set es ep t)(e:GH (Qu w) es t)
  (g:Q (.ref s.heap.objs.size) { s with heap:=s.heap.push { cls:=.type "set_iterator",data:=.fields #[.int 0 0,.int 0 0,.ref a,.int es.size 0,.int ep 0] } }):bJ (model prog w) A (nY (.ref a)) Q E s:=by
 have d:s.TypeIs (.ref a) "set":=⟨o,b,f.1⟩;have c:=e.fits;refine wpAny_pyIter_slot d lV (cj lV d Nw ?_ (PySem.F.args_set_iter_1 _));unfold fj.«frozenset.__iter__» pM;refine aG (aG (aW (aW ?_)));refine aG (aG (jM b hd c (aW ?_)));unfold setDrawn;refine aG (aG (gQ b hd c (aG (Qv (aW ?_)))));refine cf (λz=>absurd (show(!(w.params.followText "set-order")&&(!t.plain&&decide (es.size>1)))=aC from z) (by rw[e.plain];simp)) (λ_=>?_);refine aG (aW ?_);unfold setEpoch;refine aG (aG (gQ b hd c (aW ?_)));refine aG (cy (aW ⟨_,rfl,"set_iterator",_,⟨_,ak _ rfl,rfl⟩,slot_setit_next.lookup,?_⟩));simpa [gJ] using g
end
section
variable {prog:bM} {w:bc} {a:aL} {ep:Nat} {o:dW} {es:Array (Int×aI)} {t:cX}
theorem Cn{A:bq}{f:aL}(s:A.handled=aA)(k:a≠f)(hd:o.data = .set es ep t)(m:GH (Qu w) es t) :
  Walks prog w A f [f,a] [f] es.size (λi v=>∃e,(Sl w a ep es)[i]?=ax e/\v=e.2) (λi h=>IsSetIter h f a (JQ w t i) i es.size ep/\h.get? a=ax o) where
 sub:=λb g=>by rw[aM.mp g];exact ag
 frame:=λ_ _ _ st n=>⟨st.1.at λo e=>n _ (by simp) o e,n a (by simp) o st.2⟩
 item:=λi j Q E u st c=>by
  have d:i<(Sl w a ep es).size:=by rw[RL];exact u
  refine MW st.1 st.2 hd m (e:=(Sl w a ep es)[i]) (by simp[d]) λh' l p=>?_;exact c _ h' j.toks ⟨(Sl w a ep es)[i],by simp[d],rfl⟩ ⟨l,p.extBut a o k st.2⟩ λb o g e=>p.extBut b o (λh=>g (by simp[h])) e
 done:=λj Q E st c=>KW s st.1 st.2 hd m λh' q=>c h' j.toks λb o g e=>q b o (λh=>g (by simp[h])) e
 self:=λ_ _ _ _ st c=>GD st.1 c
theorem Zey(c:o.ExactSet)(hd:o.data = .set es ep t)(f:GH (Qu w) es t) :
  KdlSrc prog w "set" a a es.size (λi v=>∃e,(Sl w a ep es)[i]?=ax e/\v=e.2) (λh=>h.get? a=ax o) where
 type:=λ_ b=>⟨o,b,c.1⟩
 there:=λ_ b=>⟨a9 b,a9 b⟩
 keep:=λ_ _ b j=>j a (.inl rfl) o b
 notList:=by decide
 notTuple:=by decide
 hint:=λ_ _ _ _ b d=>A8 ⟨o,b,c.1⟩ d
 iter:=λA s g b=>⟨_,λi h=>IsSetIter h s.heap.objs.size a (JQ w t i) i es.size ep/\h.get? a=ax o,(λ_ _ d=>Zad b c hd f d),Cn g (bN (a9 b)) hd f,⟨⟨_,ak _ rfl,rfl,by
  have:JQ w t 0=0:=by unfold JQ;split<;>rfl
  rw[this];rfl⟩,aK _ b⟩⟩
end
section
variable {prog:bM} {w:bc} {A:bq} {E:aI->aO->Prop} {s:aO}
theorem GI{a:aL}{ep:Nat}{o:dW}{c:Array (Int×aI)}{t:cX}{Q:aI->aO->Prop}(L:A.handled=aA)(H:s.heap.get? a=ax o)(R:o.ExactSet)(hd:o.data = .set c ep t)(I:GH (Qu w) c t)
  (z:∀e∈c.toList,∃tg,e.2=di e.1 tg) (O:c.size<=20) (h:∀(D:aL)(f h':ba)(tk:Nat)(out:Array aI)(d:List Int)(e:Nat),(∀b o,s.heap.get? b=ax o->f.get? b=ax o)->f.objs.size<=D->(∀b o,f.get? b=ax o->h'.get? b=ax o)->h'.get? D=ax (seqObj "list" out e)->
   i7 out.toList d->d.Perm (c.toList.map (·.1))->d.Pairwise (·<=·)->Q (.ref D) { s with heap:=h',toks:=tk }) :
  bJ (model prog w) A (call (.builtin "sorted") [.ref a]) Q E s:=by
 refine Calls.call_function_entry kind_sorted plain_sorted entry_sorted (args_sorted1 _) ?_;unfold fj.«sorted»;refine aG (m:=checkCount "sorted" 1 1 _) (aW ?_);refine aG (kdu_collect (A:=A.in1) (Zey R hd I) L H (by rw[fT];omega) λf tk acc N g=>?_)
 have n:acc.toList=(Sl w a ep c).toList.map (·.2):=by
  apply gM;intro i;rw[aX];by_cases q:i<acc.size
  ·have l:acc.toList[i]?=ax acc[i]:=by simp[q]
   obtain⟨e,y,S⟩:=g.2 i acc[i] (by simp[q]);rw[l,da,y,S];rfl
  ·have l:acc.toList[i]?=aA:=by simp;omega
   have y:(Sl w a ep c).toList[i]?=aA:=by have:=g.1;have:=RL w a ep c;simp;omega
   rw[l,y];rfl
 have F:acc.toList.Perm (c.toList.map (·.2)):=by rw[n];exact(IA w a ep c).map _
 have M:i7 acc.toList (acc.toList.map Ci):=LM λv p=>by obtain⟨e,k,rfl⟩:=ar.mp (F.mem_iff.mp p);obtain⟨u,x⟩:=z e k;exact⟨_,u,x⟩
 have C:(acc.toList.map Ci).Perm (c.toList.map (·.1)):=by
  have l:(c.toList.map (·.2)).map Ci=c.toList.map (·.1):=by rw[bZ];refine au λe k=>?_;obtain⟨u,x⟩:=z e k;show Ci e.2=e.1;rw[x];rfl
  rw[<-l];exact F.map Ci
 have B:acc.toList.length<=20:=by have:=C.length_eq;simp only[aJ,cM] at this;rw[cM];omega
 refine aG (wpAny_newList ?_ (by rw[fT];omega));have j:(f.push (seqObj "list" acc.toList.toArray 0)).get? f.objs.size=ax (seqObj "list" acc.toList.toArray 0):=ak _ rfl;show bJ _ _ _ _ _ { s with heap:=f.push (seqObj "list" acc.toList.toArray 0),toks:=tk };refine aG (fH (cj slot_list_sort ⟨_,j,rfl⟩ entry_list_sort (list_sort_tree j M (by omega) λout d G P J=>⟨_,rfl,?_⟩) (args_list_sort _)));obtain⟨e,k⟩:=sortedHeap_at (out:=out) j;refine aW ⟨_,rfl,h f.objs.size f _ tk out d e N (aZ _) (λb o q=>?_) k G (P.trans C) J⟩;rw[sortedHeap_old (bN (a9 q)) (by rw[size_push'];exact cz (a9 q))];exact aK _ q
end
end VW
namespace VW
open PySem PySem.W PySem.Spec PyProof.Rows L2 VL
noncomputable def US(ns:List Nat):List Int:=(ns.map λ(k:Nat)=>(k:Int)).foldl UR []
theorem Co(ns:List Nat)(k:Nat):US (ns++[k])=UR (US ns) (k:Int):=by unfold US;rw[ay,jq];rfl
theorem IG:∀(l N:List Int),(l.foldl UR N).length<=N.length+l.length
 | [],N=>by simp
 | k::l,N=>by
  have:=IG l (UR N k)
  have h:(UR N k).length<=N.length+1:=by
   unfold UR;split<;>simp
  rw[gy,az];omega
theorem IH(ns:List Nat):(US ns).length<=ns.length:=by have:=IG (ns.map λ(k:Nat)=>(k:Int)) [];simpa [US] using this
section
variable {prog:bM} {w:bc} {A:bq} {R:pQ->aO->Prop} {I a:aL} {fp wr:List aL} {G:Array oV->Array oV->Prop} {P:Nat->aI->Prop} {St:Nat->aO->Prop} {led:Bool} {ns:List Nat}
theorem LP(W:WalksS prog w A.in1 I fp wr G ns.length P St)(j:a∉fp)(C:∀i v,P i v->∃t,v = .int ((ns.getD i 0:Nat):Int) t)(f:∀k∈ns,k<=31)(E:ns.length<=17) :
  ∀(m i:Nat)(s:aO),i+m=ns.length->St i s->SetP prog w led s.heap a (US (ns.take i))->
   (∀c,Moved (a::wr) G s c->SetP prog w led c.heap a (US ns)->R (.ok (.ret .none)) c)->
   jQ (model prog w) A (.builtin "set.update.loop" ⟨[.ref a,.ref I],[]⟩) R s
 | 0,i,s,e,st,hS,k=>by
  have g:i=ns.length:=by omega
  subst g;have d:a∉wr:=λz=>j (W.sub _ z);rw[ck] at hS;refine jI gh ?_;rw[iu dm _];refine aG (m:=jv (.ref I)) (W.done s _ _ st λc h=>?_);exact aW (k c (h.mono λb z=>aN _ z) (hS.keep λo z=>h.heap a o d z))
 | m+1,i,s,e,st,hS,k=>by
  have d:a∉wr:=λz=>j (W.sub _ z);have g:i<ns.length:=by omega
  refine jI gh ?_;rw[iu dm _];refine aG (m:=jv (.ref I)) (W.item i s _ _ (by omega) st λv c F u h=>?_);obtain⟨t,rfl⟩:=C i v F;have gd:ns.getD i 0=ns[i]:=by simp[g]
  rw[gd];refine aG (m:=holding [di ((ns[i]:Nat):Int) t] (setAdd a (.int ((ns[i]:Nat):Int) t))) (fH ?_);unfold setAdd;refine fH (aG ((jP prog w).pyHash (k:=((ns[i]:Nat):Int)) (nC _ _ _ _) ?_));have B:SetP prog w led ({ c with toks:=c.toks+1 }:aO).heap a (US (ns.take i)):=hS.keep λo z=>h.heap a o d z;refine Zac (s:={ c with toks:=c.toks+1 }) B (f _ (bQ g)) (by have:=IH (ns.take i);rw[bG] at this;omega) λh' H D p=>?_;have n:SetP prog w led h' a (US (ns.take (i+1))):=by rw[dQ g,Co];exact p
  refine aW ⟨plainId_quiet dm _,LP W j C f E m (i+1) _ (by omega) (W.frame _ c _ _ u (iG _) λb z o e=>?_) n λy l x=>?_⟩
  ·rw[D.2 b λq:b=a=>j (by rw[<-q];exact z)];exact e
  ·refine k y (Moved.trans W.gtrans ((h.mono λb z=>aN _ z).then_heap (iG _) λb o z e=>?_) l) x;rw[D.2 b λq:b=a=>z (by rw[q];exact ag)];exact e
end
section
variable {prog:bM} {w:bc} {A:bq} {E:aI->aO->Prop} {s:aO}
theorem Cp{l:aL}{items:Array aI}{ns:List Nat}{Q:aI->aO->Prop}(hh:A.handled=aA)(hl:s.heap.IsTuple l items)(M:i7 items.toList (ns.map λ(k:Nat)=>(k:Int)))(q:∀k∈ns,k<=31)(m:ns.length<=17)
  (h:∀(h':ba)(tk:Nat),SetP prog w (Qu w) h' s.heap.objs.size (US ns)->(∀b o,b<s.heap.objs.size->s.heap.get? b=ax o->h'.get? b=ax o)->Q (.ref s.heap.objs.size) { s with heap:=h',toks:=tk }) :
  bJ (model prog w) A (call (.type "set") [.ref l]) Q E s:=by
 have j:items.size=ns.length:=by have:=Iz M;simpa using this
 obtain⟨c,tl,T⟩:=F.called_set.mro;have x1:=F.called_set.made;have x2:=F.called_set.sub;have x3:=F.called_set.notType;have x4:=F.called_set.canCreate;have x5:=F.typeCall_set_1 (.ref l);refine me (codeAny_of_tree ?_);refine aW ⟨Code.quiet_builtin _ (by decide +kernel),jI F.entry_type_call ?_⟩;rw[bq.under_plain (weight_type_call_type "set" [.ref l] []) rfl]
 repeat (any_goals (first | assumption | wp_step))
 refine gZ (A7 (.ref l) (E:=E) (Q:=λv f=>v = .ref s.heap.objs.size/\f={ s with heap:=s.heap.push (PM w) }) ⟨rfl,rfl⟩) λr f g=>?_
 cases r with
 | error e=>exact g
 | ok fl=>
  cases fl with
  | ret v=>
   obtain⟨rfl,rfl⟩:=g;have C:(s.heap.push (PM w)).get? s.heap.objs.size=ax (PM w):=ak _ rfl;have ty:aO.TypeIs { s with heap:=s.heap.push (PM w) } (.ref s.heap.objs.size) "set":=⟨_,C,rfl⟩;have y1:=F.called_set.init.lookup;have y2:=F.called_set.init.bind (.ref s.heap.objs.size)
   repeat (any_goals (first | assumption | wp_step))
   refine gZ (codeAny_call_builtin (R:=wants (λr d=>r = .none/\∃h' tk,d={ s with heap:=h',toks:=tk }/\SetP prog w (Qu w) h' s.heap.objs.size (US ns)/\∀b o,b<s.heap.objs.size->s.heap.get? b=ax o->h'.get? b=ax o) E) F.called_set.init.plain F.entry_set_init (check_set_init_1 ty ?_)) λn d a=>?_
   ·obtain⟨X,N,J,O,H⟩:=hl;obtain⟨oc,od,Y,os⟩:=X;simp only at J H;subst J H;have g4:(s.heap.push (PM w)).get? l=ax { cls:=.type "tuple",dict:=od,data:=.seq items O,slots:=os }:=aK _ N;have P:(s.heap.push (PM w)).IsTuple l items:=⟨_,g4,rfl,O,rfl⟩;have u1:=F.sub_tuple_set;have u2:=F.sub_tuple_frozenset;have u3:(kY "tuple"==kY "dict")=aB:=by decide
    have u4:(s.heap.push (PM w)).get? s.heap.objs.size=ax { cls:=.type "set",dict:=aA,data:=.set #[] 0 (.fresh 0 0 (Qu w)) }:=C;unfold fj.«set.__init__» noKeywords oP;generalize x:nY=PI
    wp_walk
    subst x;refine j3 P (aG (wpAny_runValue ?_));have S:l<s.heap.objs.size:=a9 N;have hq:A.in1.in1.in1.handled=aA:=by simp[hh]
    have ne:l≠(s.heap.push (PM w)).objs.size:=by rw[cR];exact bN (cz S)
    have nf:s.heap.objs.size∉[(s.heap.push (PM w)).objs.size,l]:=by rw[cR];simp only[aa,br,or_false,not_or];exact⟨bN (dt _),fW S⟩
    have ga:((s.heap.push (PM w)).push { cls:=.type "tuple_iterator",data:=.fields #[.ref l,.int 0 0] }).get? s.heap.objs.size=ax (PM w):=aK _ C;have L:=(Walks.tuple (prog:=prog) (w:=w) hq _ l ne items).toS;rw[j] at L;refine LP (led:=Qu w) (ns:=ns) L nf (λi v D=>?_) q m ns.length 0 _ (by omega) ⟨⟨_,ak _ rfl,rfl,rfl⟩,P.push _⟩ ?_ λU p z=>?_
    ·have I:i<items.size:=(j8.mp D).1;obtain⟨t,e⟩:=i7.int_at M i v (by rw[da];exact D);refine⟨t,e.trans ?_⟩;congr 1;rw[j] at I;simp[I]
    ·exact⟨_,#[],0,_,ga,⟨rfl,rfl,rfl⟩,rfl,λe y=>by simp at y,iR _,Ce _,rfl,rfl,λe y=>by simp at y,[],rfl,cH,by simp,.inl ⟨rfl,by simp⟩⟩
    ·obtain⟨h',g',Z,B,u⟩:=U;have eg:g'=s.gens:=p.gens;have ed:Z=s.drawn:=p.drawn;have W:u=s.os:=p.os;subst eg ed W;refine aW (aW ⟨rfl,h',B,rfl,z,λb o G e=>?_⟩);refine p.heap b o ?_ (aK _ (aK _ e));rw[cR];simp only[aa,br,or_false,not_or];exact⟨bN G,bN (cz G)⟩
   ·cases n with
    | error e=>exact a
    | ok f₂=>
     cases f₂ with
     | ret r=>
      obtain⟨rfl,h',tk,rfl,z1,z2⟩:=a
      repeat (any_goals (first | assumption | wp_step))
      exact h _ _ z1 z2
     | _=>exact a.elim
  | _=>exact g.elim
end
noncomputable def tSN(K:aH)(ta:TA):TE:=λσ H Q=>ta σ H λvs H1=>∃(p:aL) (ns:List Nat),vs=[.ref p]/\SqT K H1 p (ns.map λ(k:Nat)=>V.int (k:Int))/\(∀k∈ns,k<=31)/\ns.length<=17/\∀l,H1 l=aA->Q (.ref l) (upd H1 l (.lst ((VL.sortI (US ns)).map V.int)))
section
variable {X:Cx} {a:bO} {ta:TA} {p p2 pos pos2:dw}
theorem MX(v:X.calm=aC)(g:Gl X "sorted")(f:X.mg "sorted" = aA)(j:Gl X "set")(l:X.mg "set" = aA)(W:PA X [a] ta)(T:aP [a] X.env=[(aB,eval a X.env)]:=by rfl)
  (y:aP [.Call (.Name "set" p2) [a] [] pos2] X.env=(aB,eval (.Call (.Name "set" p2) [a] [] pos2) X.env)::aP [] X.env:=by rfl) (k:(dC pos (aP [] X.env)).any (·.1)=aB:=by rfl) :
  PE X (.Call (.Name "sorted" p) [.Call (.Name "set" p2) [a] [] pos2] [] pos) (tSN X.K ta):=by
 intro n s B H Q I h;refine dE (XZ I g f (u:=.builtin "sorted") (by decide +kernel) ?_);refine fO (id:="sorted") ?_ y k;rw[y];show bJ _ _ (spliced ((aB,eval (.Call (.Name "set" p2) [a] [] pos2) X.env)::[])) _ _ s;refine eB ?_;refine pL (XZ I j l (u:=.type "set") (by decide +kernel) (bg (Yo (W pos2 n s B H _ I h) λus s1 ⟨vs,F,x,P,q1⟩=>?_) T rfl));obtain⟨b,ns,e,hq,i,c,q⟩:=q1;subst e
 cases P with
 | cons r rr=>
  cases rr;cases r;obtain⟨Z,C,R,hz⟩:=x.tuple hq;rw[IB] at C;refine Cp (items:=Z.toArray) (ns:=ns) (I.ok.hd v) R (SA C) i c λh' tk N hk=>gK ?_;obtain⟨o,L,ep,t,J,hx,hd,O,A,d⟩:=N;have ls:=IH ns;have lz:L.size=(US ns).length:=by have:=A.length_eq;simpa using this
  refine GI (I.ok.hd v) J hx hd ⟨d.tab,d.plain,d.fits⟩ d.val (by omega) λD U h2 tk2 out m e S w k3 Y G a2 M=>?_;have E:Inv X n B F { s1 with heap:=U,toks:=tk2 }:=x.kept (t':=tk2) λb o z=>S b o (hk b o (a9 z) z);have en:m=VL.sortI (US ns):=VL.sortI_eq (a2.trans A) M;subst en;have lo:(VL.sortI (US ns)).length<=17:=by rw[(VL.sortI_perm _).length_eq];omega
  refine⟨.ref D,_,E.laid (t':=tk2) k3 w (show ObjOk X.prog X.w _ _ _ (.lst ((VL.sortI (US ns)).map V.int)) from⟨?_,out.toList,e,?_,?_⟩),rfl,q D (E.hok.fresh w)⟩
  ·rw[aJ,fT];omega
  ·exact Uo G
  ·rw[ij];exact Y
end
noncomputable def inS(ns:List Int):Bool:=ns.all (λk=>decide (0<=k)&&decide (k<=31))&&decide (ns.length<=17)
noncomputable def gSN:PV->Option PV
 | .tup l=>(Ys l).bind λns=>if inS ns=aC then ax (.lst (iL (VL.sortI (ns.foldl UR [])))) else aA
 | _=>aA
theorem vm_sortedSetN{X:Cx}{a:bO}{w:XE}{p p2 pos b:dw}(D:X.calm=aC)(d:Gl X "sorted")(f:X.mg "sorted" = aA)(h:Gl X "set")(o:X.mg "set" = aA)(F:VE X a w)(y:aP [a] X.env=[(aB,eval a X.env)]:=by rfl)
  (G:aP [.Call (.Name "set" p2) [a] [] b] X.env=(aB,eval (.Call (.Name "set" p2) [a] [] b) X.env)::aP [] X.env:=by rfl) (n:(dC pos (aP [] X.env)).any (·.1)=aB:=by rfl) :
  VM X (.Call (.Name "sorted" p) [.Call (.Name "set" p2) [a] [] b] [] pos) (Pz gSN w):=
 PE.imp (MX D d f h o (Wx F Qg y) y G n) λT H Q ⟨s,l,env,e,k⟩=>by
  obtain⟨x,P,t⟩:=Zc e;refine⟨λ_=>False,s,[x],λ_ z=>z.elim,env,by show(w s).bind _=_;rw[P];rfl,λvs S U s1 M _=>?_⟩;obtain⟨v,rfl,J⟩:=M.one_inv
  cases x with
  | tup m=>
   unfold gSN at t;obtain⟨ns,N,g⟩:=Zc t;split at g
   case isFalse=>cases g
   rename_i c;cases g;have R:=Yd N;subst R;obtain⟨p,xs,rfl,O,I⟩:=J.tup_inv;obtain⟨rfl,rfl⟩:=I.iL;unfold inS at c;simp only[aw,decide_eq_true_eq,bK] at c
   have A:ns=(ns.map iH).map λ(k:Nat)=>(k:Int):=by
    rw[bZ]
    conv=>lhs;rw[<-mI ns]
    refine au λz u=>?_;have:=c.1 z u;show z=((z.toNat:Nat):Int);omega
   have L:ns.map V.int=(ns.map iH).map λ(k:Nat)=>V.int (k:Int):=by rw[IB,<-A]
   have C:US (ns.map iH)=ns.foldl UR []:=by unfold US;rw[<-A]
   refine⟨p,ns.map iH,rfl,?_,?_,by rw[aJ];exact c.2,λq B=>?_⟩
   ·rw[<-L];exact .inl (.inl O)
   ·intro j E;obtain⟨z,u,rfl⟩:=ar.mp E;have:=c.1 z u;omega
   ·rw[C];refine k _ _ [q] (s1.trans (Same.new B _)) (Is.lst Zk (Iss.ofInts _)) (by simp) λr i=>?_;rw[aM.mp i];exact⟨Same.off s1 B,by rw[Zk];exact b8⟩
  | _=>cases t
end VW
namespace VW
open PySem PySem.Spec PyProof.Rows L2 VL
noncomputable def tLS(K:aH)(ta:TA):TE:=λσ H Q=>ta σ H λvs H1=>∃(p:aL) (ns:List Int),vs=[.ref p]/\SqL K H1 p (ns.map V.int)/\ns.length<=1000/\Q (.int ((ns.foldl ou []).length:Int)) H1
theorem Cq(ns:List Int):firstMet (λi=>ns.getD i 0) ns.length=ns.foldl ou []:=by
 unfold firstMet;congr 1;apply fS
 ·simp
 ·intro i b a;simp[a]
section
variable {X:Cx} {a:bO} {ta:TA} {p p2 pos pos2:dw}
theorem Cr(y:X.calm=aC)(f:Gl X "len")(d:X.mg "len" = aA)(g:Gl X "set")(j:X.mg "set" = aA)(G:PA X [a] ta)(F:aP [a] X.env=[(aB,eval a X.env)]:=by rfl)
  (v:aP [.Call (.Name "set" p2) [a] [] pos2] X.env=(aB,eval (.Call (.Name "set" p2) [a] [] pos2) X.env)::aP [] X.env:=by rfl) (i:(dC pos (aP [] X.env)).any (·.1)=aB:=by rfl) :
  PE X (.Call (.Name "len" p) [.Call (.Name "set" p2) [a] [] pos2] [] pos) (tLS X.K ta):=by
 intro k s w H Q I h;refine dE (XZ I f d (u:=.builtin "len") (by decide +kernel) ?_);refine fO (id:="len") ?_ v i;rw[v];show bJ _ _ (spliced ((aB,eval (.Call (.Name "set" p2) [a] [] pos2) X.env)::[])) _ _ s;refine eB ?_;refine pL (XZ I g j (u:=.type "set") (by decide +kernel) (bg (Yo (G pos2 k s w H _ I h) λS s1 ⟨vs,l,n,C,M⟩=>?_) F rfl));obtain⟨b,ns,e,N,T,q⟩:=M;subst e
 cases C with
 | cons r rr=>
  cases rr;cases r;obtain⟨m,x,E,Y⟩:=n.list N;have c:m.length=ns.length:=by have:=x.length;rw[aJ] at this;exact this.symm
  have W:scanBound=4096:=rfl;refine call_set_list (ns:=ns) (items:=m.toArray) (I.ok.hd y) E.isList (SA x) (by rw[aU];omega) λh' tk B L=>gK ?_;obtain⟨o,R,ep,t,A,O,hd,_,_,U,J,D⟩:=B;have P:Inv X k w l { s1 with heap:=h',toks:=tk }:=n.kept (t':=tk) λb o z=>L b o (a9 z) z;refine PySem.call_len_set A O hd J (by omega) ?_;rw[D,aU,c,Cq];exact⟨.int _,l,P.tok _ |>.tok _,⟨_,rfl⟩,q⟩
end
noncomputable def gLS:PV->Option PV
 | .lst l=>(Ys l).bind λns=>if ns.length<=1000 then ax (.int ((ns.foldl ou []).length:Int)) else aA
 | _=>aA
theorem ve_lenSet{X:Cx}{a:bO}{n:XE}{p p2 pos b:dw}(q:X.calm=aC)(c:Gl X "len")(d:X.mg "len" = aA)(g:Gl X "set")(i:X.mg "set" = aA)(u:VE X a n)(o:aP [a] X.env=[(aB,eval a X.env)]:=by rfl)
  (w:aP [.Call (.Name "set" p2) [a] [] b] X.env=(aB,eval (.Call (.Name "set" p2) [a] [] b) X.env)::aP [] X.env:=by rfl) (h:(dC pos (aP [] X.env)).any (·.1)=aB:=by rfl) :
  VM X (.Call (.Name "len" p) [.Call (.Name "set" p2) [a] [] b] [] pos) (Pz gLS n):=
 PE.imp (Cr q c d g i (Wx u Qg o) o w h) λJ H Q ⟨s,l,env,e,k⟩=>by
  obtain⟨x,E,j⟩:=Zc e;refine⟨λ_=>False,s,[x],λ_ z=>z.elim,env,by show(n s).bind _=_;rw[E];rfl,λvs G L s1 B _=>?_⟩;obtain⟨v,rfl,A⟩:=B.one_inv
  cases x with
  | lst m=>
   unfold gLS at j;obtain⟨ns,C,f⟩:=Zc j;split at f
   case isFalse=>cases f
   rename_i t;cases f;have F:=Yd C;subst F;obtain⟨p,xs,I,rfl,D,y,_⟩:=A.lst_inv;obtain⟨rfl,rfl⟩:=y.iL;exact⟨p,ns,rfl,.inl (.inl D),t,k _ _ [] s1 (by simp[Is]) (by simp) (by simp)⟩
  | _=>cases j
end VW
namespace PW
open PySem L2 VL VX
noncomputable def Te:XS:=(Zn (Zs 3 (Pz Up (Ze ZN [Za 0])))
  (Zn (YU [3] (U2 (Za 2)) (.one 4) (Zn (Zs 5 (eP (Zm ZR (Za 1) (Za 4))))
  (Zn (Zs 6 (eP (Zm ZR (Za 3) (Zm ZR (Za 5) (eC (.int 0))))))
  (Zn (Zs 7 (eP (Zm ZR (Za 3) (Zm ZR (Za 5) (eC (.int 1))))))
  (Zs 3 (Zw 1 [6,7] (YL (Za 3)) (.one 0) ZD (eP (OP (xB (Zm (Xz aB) (Za 0) (Za 2))) (Za 1) (Za 0)))))))))
  (ZQ (Za 3))))
noncomputable def Y7:List PV->Option PV:=YF 8 Te
noncomputable def Qw:XS:=(Zn (Zs 2 (Ze Xv [Za 0]))
  (Zn (Ru (Gj (xB (Zm (Xz aC) (Ze ZN [Za 1]) (Zm Wi (Ze ZN [Za 0]) (eC (.int 1))))) (Py (xB (Ze Kv [Zw 1 [2] (U2 (Za 1)) (.one 0) ZD (eCh oLe MO (eC (.int 0)) (Za 0) (Ze ZN [Za 1]))])))) (ZQ (eP (eC (.bl aB)))) YE)
  (ZQ (eP (Kr (Zm (Xz aB) (Ze Vr [Za 1]) (Pz VW.gSN (Za 1))) (Zm (Xz aB) (Pz VW.gLS (Ze Y7 [Za 0,Za 2,Za 1])) (eC (.int 1))))))))
noncomputable def T2:List PV->Option PV:=YF 3 Qw
end PW
namespace VL
open PySem PySem.Spec PyProof.Rows L2
noncomputable def Zez(K:aH):V->List V->Hp->VK->Prop:=λx vs H Q=>∃(p:aL) (ns:List Int) (k:Int),x = .ref p/\vs=[.int k]/\SqL K H p (ns.map V.int)/\Q (.int ((ns.count k:Nat):Int)) H
noncomputable def eqK(k:Int):aI->Bool
 | .int c _=>c==k
 | _=>aB
theorem NA:∀{ns:List Int}{p8:List aI},Vals (ns.map V.int) p8->∀k:Int,p8.countP (eqK k)=ns.count k
 | [],p8,r,k=>by cases r;rfl
 | n::ns,p8,r,k=>by
  rw[af] at r
  cases r with
  | cons r1 r2=>
   obtain⟨t,rfl⟩:=r1;rw[i6,NA r2 k,jJ];rfl
theorem Cs{X:Cx}:MtR X "list.count" (Zez X.K):=by
 intro L s P H x vs v N Q I w J h;obtain⟨p,ns,k,rfl,rfl,G,q⟩:=h;cases w;obtain⟨u,rfl,b⟩:=Sr J;obtain⟨t,rfl⟩:=b;obtain⟨g,r,A,S⟩:=I.list G;obtain⟨o,n,c,m,hd,B⟩:=A;obtain⟨l,R,d,C⟩:=o;subst m hd B;refine fY F.slot_list_count ⟨_,c,rfl⟩ F.entry_list_count (F.args_list_count_2 _ _) (SeqAt.list_countAt p g.toArray n aA C (.int k t) (eqK k)) ⟨c,λy E=>?_,?_⟩
 ·have a:y∈g:=by simpa using E
  obtain⟨j,z,e⟩:=bp a;have D:=r.length;rw[aJ] at D;obtain⟨M,f,b⟩:=r.get (i:=j) (x:=.int ns[j]) (by simp);obtain⟨O,rfl⟩:=b;rw[aE z,e] at f;cases f;exact mx _ _ _ _
 ·rw[NA r k];exact⟨.int _,H,I.tok _,⟨_,rfl⟩,q⟩
noncomputable def T3:PV->PV->Option PV
 | .lst l,.int k=>(Ys l).map λns=>PV.int ((ns.count k:Nat):Int)
 | _,_=>aA
section
variable {X:Cx} {o e:bO} {fo fe:XE} {apos p5:dw}
theorem LQ(i:VE X o fo)(t:VE X e fe)
  (b:mY o "count" X.env (eval o X.env)=eval o X.env:=by rfl)
  (d:((dC p5 (aP [e] X.env)).all (λx=>!x.1)&&(o4 p5 (lZ [] X.env)).all (λx=>x.1.isSome)
   &&decide (([e]:List bO).length+([]:List mN).length+(if([]:List mN).isEmpty then 0 else 1)<30))=aC:=by rfl)
  (c:(apos.endLine==p5.line)=aC:=by rfl) (f:aP [e] X.env=(aB,eval e X.env)::aP [] X.env:=by rfl) (a:(dC p5 (aP [] X.env)).any (·.1)=aB:=by rfl) :
  VE X (.Call (.Attribute o "count" apos) [e] [] p5) (Zm T3 fo fe):=
 PE.imp (WQ F.plainAttrs_list F.slot_list_count F.type_list_count Cs i (Wx t Qg f) b d c f a) λO H Q ⟨g,s,l,hd,env,e,k⟩=>by
  obtain⟨j,N,C,A,e⟩:=VC e;refine⟨g,s,j,hd,env,C,λv I P s1 y J=>?_⟩;unfold T3 at e;split at e
  ·obtain⟨ns,B,rfl⟩:=map_some e;have E:=Yd B;subst E;obtain⟨p,xs,n,rfl,h,u,_⟩:=y.lst_inv;obtain⟨rfl,rfl⟩:=u.iL;refine⟨.inl ⟨rfl,_,.inl (.inl h)⟩,g,s,[_],λq z=>Same.mut s1 (hd q z),env.mono s1,by show(fe s).bind _=_;rw[A];rfl,λvs L n s2 D M=>?_⟩;obtain⟨w,rfl,G⟩:=D.one_inv;obtain⟨rfl,_⟩:=G.int_inv;exact⟨p,ns,_,rfl,rfl,.inl (.inl (s2 _ _ h)),k _ _ [] (s1.trans s2) (Is.int _) λr m=>by simp at m⟩
  ·cases e
end
theorem Inv.freezeL{X:Cx}{g:List (aL×dW)}{h:Pw}{H:Hp}{s:aO}{d:aL}{xs:List V}{o:dW}(I:L2.Inv X g h H s)(hd:H d=ax (.lst xs))(j:s.heap.get? d=ax o) :
  L2.Inv X g h (upd H d (.frz o (.lst xs))) s:=by
 have ne:∀b u,H b=ax u->(∀k,u≠.lst k)->b≠d:=λb u q n z=>by rw[z,hd] at q;exact n _ (bC q).symm
 have l:∀b,H b=aA->b≠d:=λb q z=>by rw[z,hd] at q;cases q
 have un:Un X.fs [] H (upd H d (.frz o (.lst xs))) s.heap s.heap:=
  ⟨λb o q _ _ _=>q,λb o q _ _ _=>⟨o.slots,q⟩,λb o q n _=>by rw[upd_ne (l b n)];exact n,λb o q _=>⟨o,q⟩,
   λb xs q=>by rw[upd_ne (ne b _ q λ_ z=>nomatch z)];exact q,λb o u q=>by rw[upd_ne (ne b _ q λ_ z=>nomatch z)];exact q,λb m q=>⟨#[],by rw[upd_ne (ne b _ q λ_ z=>nomatch z),q];simp⟩⟩
 have f:HOk X.prog X.w (upd H d (.frz o (.lst xs))) s.heap:=λb u q=>by
  have e:∀c y,H c=ax (.own y)->upd H d (.frz o (.lst xs)) c=ax (.own y):=λc y z=>by rw[upd_ne (ne c _ z λ_ z=>nomatch z)];exact z
  have a:∀c xs',H c=ax (.tup xs')->upd H d (.frz o (.lst xs)) c=ax (.tup xs'):=λc y z=>by rw[upd_ne (ne c _ z λ_ z=>nomatch z)];exact z
  by_cases i:b=d
  ·subst i;rw[Zk] at q;cases q;exact⟨j,(I.hok b _ hd).stay (λ_ _ _ z=>z) (λc z=>e c _ z) a λc u z=>by rw[upd_ne (ne c _ z λ_ z=>nomatch z)];exact z⟩
  ·rw[upd_ne i] at q;exact(I.hok b u q).stay (λ_ _ _ z=>z) (λc z=>e c _ z) a λc u z=>by rw[upd_ne (ne c _ z λ_ z=>nomatch z)];exact z
 have:=I.un (t':=s.toks) un f;exact this
noncomputable def Ct(f:XE):XE:=λs=>(f s).bind λl=>match l with
 | .lst m=>(Ys m).map λns=>.cst (iL ns)
 | _=>aA
theorem GJ{X:Cx}{e:bO}{f:XE}(h:VM X e f):VE X e (Ct f):=by
 intro t s B H Q I ⟨P,st,l,hd,env,D,k⟩;obtain⟨m,G,i⟩:=Zc (D)
 cases m with
 | lst ms=>
  obtain⟨ns,F,x⟩:=map_some (i);subst x;have J:=Yd F;subst J;refine Yo (h t s B H (λv c=>∃p,v = .ref p/\c p=ax (.lst (ns.map V.int))/\Same H c/\H p=aA) I ⟨st,.lst (iL ns),env.free,G,λv R S d is M y=>?_⟩) λu s1 ⟨v,c,g,E,p,j,a,d,A⟩=>?_
  ·obtain⟨p,xs,O,rfl,a,C,rfl⟩:=is.lst_inv;obtain⟨rfl,rfl⟩:=C.iL;exact⟨p,rfl,a,d,(y p (by simp)).1⟩
  ·subst j;obtain⟨z,N,n,r,L,e⟩:=g.lstM a;refine⟨.ref p,_,Inv.freezeL g a e,E,k _ _ [] (λb o q=>?_) ?_ (by simp)⟩
   ·rw[upd_ne (λw=>by rw[w,A] at q;cases q)];exact d b o q
   ·unfold Is;exact⟨p,_,rfl,.inl ⟨_,Zk⟩,Iss.ofInts _⟩
 | _=>cases i
noncomputable def Zl4(K:aH):R2:=λx y H Q=>∃l b xs zs,x = .ref l/\y = .ref b/\SqL K H l xs/\SqL K H b zs/\xs.length+zs.length<=sizeLine/\∀p,H p=aA->Q (.ref p) (upd H p (.lst (xs++zs)))
theorem Ze0{X:Cx}:TH X (dy .Add) (Zl4 X.K):=by
 intro M s R H x y v u Q I B C h;obtain⟨l,b,xs,P,rfl,rfl,G,L,T,q⟩:=h;cases B;cases C;obtain⟨i,r,D,z⟩:=I.list G;obtain⟨a,o,g,U⟩:=I.list L;obtain⟨⟨p,S,k,N⟩,n,j,w,hd,E⟩:=D;obtain⟨⟨m,J,data2,A⟩,F,c,f,d,e⟩:=g;have O:=r.length;have t:=o.length;subst w hd E f d e;refine k8 ⟨_,j,rfl⟩ ⟨_,c,rfl⟩ noFill_list_add seq_list_add PySem.F.slot_list_add PySem.F.entry_list_add (PySem.F.args_list_add_2 _ _) (list_addW l b i.toArray a.toArray n F _ _ _ _ (by rw[aU,aU];omega)) ⟨j,c,?_⟩;have ea:i.toArray++a.toArray=(i++a).toArray:=by simp
 rw[ea];exact⟨.ref _,_,I.lnew (r.append o) (by rw[aT];omega),rfl,q _ I.fresh⟩
noncomputable def Zae:PV->PV->Option PV
 | .cst m,.lst n=>(Ys m).bind λns=>(Ys n).bind λms=>if ns.length+ms.length<=10000 then ax (.lst (iL (ns++ms))) else aA
 | _,_=>aA
theorem Ze1{X:Cx}{a b:bO}{i fb:XE}{pos:dw}(o:VE X a i)(A:VM X b fb):VM X (.BinOp a .Add b pos) (Zm Zae i fb):=PE.imp (F6 Ze0 o A) λP H Q ⟨s,l,env,e,k⟩=>by
 obtain⟨f,g,E,C,e⟩:=VC e;refine⟨λ_=>False,s,f,λ_ z=>z.elim,env,E,λx L f1 s1 B _=>⟨s,g,env.mono s1,C,λy M S s2 D J N=>?_⟩⟩
 cases f with
 | cst m=>cases g with
  | lst n=>
   obtain⟨ns,G,e⟩:=Zc (e);obtain⟨O,u,e⟩:=Zc e;split at e
   case isFalse=>cases e
   rename_i t;cases e;have:=Yd G;subst this;have:=Yd u;subst this;obtain⟨p,xs,rfl,F,w⟩:=B.cst_inv;obtain⟨v,R,I,rfl,d,c,rfl⟩:=D.lst_inv;obtain⟨rfl,rfl⟩:=w.iL;obtain⟨rfl,rfl⟩:=c.iL;refine⟨p,v,_,_,rfl,rfl,(F.tr (Same.tk2 s2)).sq,.inl (.inl d),by simp only[aJ];exact cJ (lt_size t),λq h=>?_⟩;refine k _ _ [q] (s1.trans (s2.trans (Same.new h _))) ?_ (by simp) λr j=>?_
   ·rw[<-ay];exact Is.lst Zk (Iss.ofInts _)
   ·rw[aM.mp j];exact⟨Same.off (s1.trans s2) h,by rw[Zk];exact b8⟩
  | _=>cases e
 | _=>cases e
noncomputable def Zaf(fk fv:XE):XE:=λs=>(fk s).bind λk=>(fv s).bind λv=>(MS k).bind λkt=>if ZO v=aC then ax (.dK [kt] [v]) else aA
theorem Zag{X:Cx}{e f:bO}{pos:dw}{h fv:XE}(x:VE X e h)(n:VE X f fv):VM X (.Dict [ax e] [f] pos) (Zaf h fv):=PE.imp (Zds (BZ x n Zdr) rfl rfl (λz=>nomatch z) (by simp)) λJ H Q ⟨s,l,env,e,k⟩ p d=>by
 obtain⟨w,B,e⟩:=Zc e;obtain⟨v,E,e⟩:=Zc e;obtain⟨i,D,e⟩:=Zc e;split at e
 case isFalse=>cases e
 rename_i t;cases e;have c:Same H (upd H p (.dK [])):=Same.new d _;refine⟨λ_=>False,s,w,λ_ z=>z.elim,env.mono c,B,λz G L s1 F _=>⟨λ_=>False,s,v,λ_ z=>z.elim,env.mono (c.trans s1),E,λy g I s2 m _=>?_⟩⟩;obtain⟨rfl,rfl⟩:=Oc D F;have C:=Is.pure _ _ _ t m;subst C;have b:=s1.trans s2;have j:=b _ _ Zk;refine⟨j,[(i,y)],rfl,by simp,?_⟩;have A:UU (g p):=by rw[j];exact b8
 have o:Same H (upd g p (.dK [(i,y)])):=λq u a=>by
  have ne:q≠p:=λz=>by rw[z,d] at a;cases a
  rw[upd_ne ne];exact b q u (c q u a)
 refine k (.ref p) _ [p] o (Is.dK Zk rfl ?_) (by simp) λq a=>?_
 ·exact Iss.one (Is.tr (TK.upd' A) _ _ _ (λq a=>by simp at a) m)
 ·rw[aM.mp a];exact⟨d,by rw[Zk];exact b8⟩
end VL
namespace L2
open PySem PySem.Spec PyProof.Rows
theorem NB{x y:bH}{a c:aL}(h:([(x,a)]:List (bH×aL)).lookup y=ax c):c=a:=by grind
theorem Pb{x y:bH}{a c:aL}(h:([(x,a)]:List (bH×aL)).lookup y=ax c):y=x:=by grind
end L2
namespace VL
open PySem PySem.Spec PyProof.Rows L2
variable {K:aH}
noncomputable def NC(H:Hp)(e:aL):Hp:=λb=>if b=e then aA else H b
theorem KY{H:Hp}{e:aL}:NC H e e=aA:=by unfold NC;rw[p9 rfl]
theorem XY{H:Hp}{e b:aL}(h:b≠e):NC H e b=H b:=by unfold NC;rw[pW h]
theorem T4{H:Hp}{e b:aL}(h:H b=aA):NC H e b=aA:=by
 unfold NC;split
 ·rfl
 ·exact h
theorem Ze2{H:Hp}{e b:aL}{o:HO}(h:NC H e b=ax o):b≠e/\H b=ax o:=by
 unfold NC at h;split at h
 ·cases h
 ·rename_i n;exact⟨n,h⟩
theorem WU{H:Hp}{e b:aL}{o u:HO}(c:H e=ax o)(a:H b=ax u)(d:u≠o):b≠e:=by grind
section
variable {P:bM} {w:bc} {H H':Hp} {h h':ba} {e:aL} {eo:dW} {fs:List aL}
theorem Zah(x:HOk P w H h)(c:H e=ax (.frz eo (.own 1))):HOk P w (NC H e) h:=λa o d=>by
 obtain⟨ne,d⟩:=Ze2 d
 exact(x a o d).stay (λ_ _ _ q=>q) (λb q=>by rw[XY (WU c q (by nofun))];exact q) (λb xs q=>by rw[XY (WU c q (by nofun))];exact q)
  λb u q=>by rw[XY (WU c q (by simp))];exact q
theorem EU(x:HOk P w H h)(a:H e=aA)(d:h.get? e=ax eo):HOk P w (upd H e (.frz eo (.own 1))) h:=λb u q=>by
 by_cases z:b=e
 ·subst z;rw[Zk] at q;cases q;exact⟨d,_,d⟩
 ·rw[upd_ne z] at q;exact(x b u q).stay (λ_ _ _ r=>r) (λc r=>by rw[upd_ne (Zr r a)];exact r) (λc xs r=>by rw[upd_ne (Zr r a)];exact r) λc v r=>by rw[upd_ne (Zr r a)];exact r
theorem TabsH.rm{mg:bH->Option aI}{a:ba}(t:TabsH K mg a H)(d:H e=ax (.frz eo (.own 1))):TabsH K mg a (NC H e):=λq c f g=>by obtain⟨Pt,h,tk,j,b,i,k⟩:=t q c f g;exact⟨Pt,h,tk,j,by rw[XY (WU d b (by nofun))];exact b,i,k⟩
theorem TabsH.add{mg:bH->Option aI}{a:ba}(t:TabsH K mg a H)(d:H e=aA):TabsH K mg a (upd H e (.frz eo (.own 1))):=λq c f g=>by obtain⟨Pt,h,tk,j,b,i,k⟩:=t q c f g;exact⟨Pt,h,tk,j,by rw[upd_ne (Zr b d)];exact b,i,k⟩
theorem Ze3(u:Un fs [] (NC H e) H' h h')(a:H e=ax (.frz eo (.own 1)))(c:H' e=aA):Un fs [] H (upd H' e (.frz eo (.own 1))) h h' where
 keep b o q n hf hx:=u.keep b o q (T4 n) hf hx
 slot b o q n hf hx:=u.slot b o q (T4 n) hf hx
 free b o q n hx:=by rw[upd_ne (λz=>by rw[z,a] at n;cases n)];exact u.free b o q (T4 n) hx
 there:=u.there
 tups b xs q:=by have ne:=WU a q (by nofun);rw[upd_ne ne];exact u.tups b xs (by rw[XY ne];exact q)
 frzs b o v q:=by
  by_cases z:b=e
  ·subst z;rw[a] at q;cases q;exact Zk
  ·rw[upd_ne z];exact u.frzs b o v (by rw[XY z];exact q)
 tbls b ps q:=by have ne:=WU a q (by nofun);obtain⟨more,z⟩:=u.tbls b ps (by rw[XY ne];exact q);exact⟨more,by rw[upd_ne ne];exact z⟩
theorem Zjg(u:Un fs [] (upd H e (.frz eo (.own 1))) H' h h')(f:H e=aA)(g:h.get? e=ax eo)(k:e∉fs)(d:HOk P w H' h'):Un fs [] H (NC H' e) h h':=by
 have i:=u.frzs e eo _ Zk;have l:=(d e _ i).1;refine⟨λb o q n c a=>?_,λb o q n c a=>?_,λb o q n a=>?_,u.there,λb xs q=>?_,λb o v q=>?_,λb j q=>?_⟩
 ·by_cases z:b=e
  ·subst z;rw[g] at q;cases q;exact l
  ·exact u.keep b o q (by rw[upd_ne z];exact n) c a
 ·have z:b≠e:=λz=>k (z▸c);exact u.slot b o q (by rw[upd_ne z];exact n) c a
 ·by_cases z:b=e
  ·subst z;exact KY
  ·exact T4 (u.free b o q (by rw[upd_ne z];exact n) a)
 ·have z:=Zr q f;rw[XY z];exact u.tups b xs (by rw[upd_ne z];exact q)
 ·have z:=Zr q f;rw[XY z];exact u.frzs b o v (by rw[upd_ne z];exact q)
 ·have z:=Zr q f;obtain⟨more,y⟩:=u.tbls b j (by rw[upd_ne z];exact q);exact⟨more,by rw[XY z];exact y⟩
end
mutual
def YM:PV->Bool
 | .non=>aC
 | .bl _=>aC
 | .int _=>aC
 | .str _=>aC
 | .ty _=>aC
 | .exc _=>aB
 | .exf _ _=>aB
 | .clo _ _=>aB
 | .tup l=>Xh l
 | .lst l=>Xh l
 | .cst l=>Xh l
 | .dK _ l=>Xh l
 | .dT _ l=>Xh l
def Xh:List PV->Bool
 | []=>aC
 | x::r=>YM x&&Xh r
end
theorem Rd.rm{H:Hp}{e:aL}{c:dW}(a:H e=ax (.frz c (.own 1))){p:aL}{u:HO}(b:u≠.own 1)(d:∀o v,u≠.frz o v)(r:Rd H p u):Rd (NC H e) p u:=by
 rcases r with r | ⟨o,r⟩
 ·exact .inl (by rw[XY (WU a r (d _ _))];exact r)
 ·exact .inr ⟨o,by rw[XY (WU a r (by intro z;cases z;exact b rfl))];exact r⟩
mutual
theorem Is.rm{H:Hp}{e:aL}{k:dW}(b:H e=ax (.frz k (.own 1))):∀(l:PV)(v:V)(fp:List aL),YM l=aC->Is K H l v fp->Is K (NC H e) l v fp
 | .non,_,_,_,h=>by simpa only[Is] using h
 | .bl _,_,_,_,h=>by simpa only[Is] using h
 | .int _,_,_,_,h=>by simpa only[Is] using h
 | .str _,_,_,_,h=>by simpa only[Is] using h
 | .ty _,_,_,_,h=>by simpa only[Is] using h
 | .exc _,_,_,hp,_=>by simp[YM] at hp
 | .exf _ _,_,_,hp,_=>by simp[YM] at hp
 | .clo _ _,_,_,hp,_=>by simp[YM] at hp
 | .tup l,v,fp,hp,h=>by simp only[Is] at h ⊢;obtain⟨p,xs,d,a,c⟩:=h;exact⟨p,xs,d,by rw[XY (WU b a (by nofun))];exact a,Iss.rm b l xs fp (by simpa only[YM] using hp) c⟩
 | .lst l,v,fp,hp,h=>by simp only[Is] at h ⊢;obtain⟨p,xs,f,d,a,c,g⟩:=h;exact⟨p,xs,f,d,by rw[XY (WU b a (by nofun))];exact a,Iss.rm b l xs f (by simpa only[YM] using hp) c,g⟩
 | .cst l,v,fp,hp,h=>by
  simp only[Is] at h ⊢;obtain⟨p,xs,d,a,c⟩:=h;refine⟨p,xs,d,?_,Iss.rm b l xs fp (by simpa only[YM] using hp) c⟩;rcases a with⟨o,a⟩ | a
  ·exact .inl ⟨o,by rw[XY (WU b a (by intro z;cases z))];exact a⟩
  ·exact .inr a
 | .dK ks l,v,fp,hp,h=>by simp only[Is] at h ⊢;obtain⟨p,i,f,d,a,j,c,g⟩:=h;exact⟨p,i,f,d,Rd.rm b (λz=>HO.noConfusion z) (λ_ _ z=>HO.noConfusion z) a,j,Iss.rm b l _ f (by simpa only[YM] using hp) c,g⟩
 | .dT ks l,v,fp,hp,h=>by simp only[Is] at h ⊢;obtain⟨p,i,f,d,a,j,c,g⟩:=h;exact⟨p,i,f,d,Rd.rm b (λz=>HO.noConfusion z) (λ_ _ z=>HO.noConfusion z) a,j,Iss.rm b l _ f (by simpa only[YM] using hp) c,g⟩
theorem Iss.rm{H:Hp}{e:aL}{c:dW}(a:H e=ax (.frz c (.own 1))):∀(l:List PV)(xs:List V)(fp:List aL),Xh l=aC->Iss K H l xs fp->Iss K (NC H e) l xs fp
 | [],_,_,_,h=>by simpa only[Iss] using h
 | l::ls,xs,fp,hp,h=>by simp only[Xh,aw] at hp;obtain⟨x,r,f1,i,g,d,b,f⟩:=h.inv;subst g f;exact Iss.cons (Is.rm a l x f1 hp.1 d) (Iss.rm a ls r i hp.2 b)
end
structure Tf(N ps:List bH)(L:Lam):Prop where
 kind:L.scope.kind = .function
 co:L.scope.isCoroutine=aB
 gen:L.scope.isGenerator=aB
 nocell:∀y∈L.scope.names,y.2≠.cell
 nd:N.Nodup
 eq:N=ps++[L.free]
 par:∀x∈ps,L.scope.names.lookup x=ax .local
 fre:L.scope.names.lookup L.free=ax .free
 one:∀y∈L.scope.names,y.2 = .free->y.1=L.free
 qn:Po L.qual=aB
noncomputable def Zai(P:bM)(w:bc)(K:aH)(mg:bH->Option aI)(base:ba)(N:List bH)(L:Lam)(f c e:aL)(A:bq)(outer:List ma)(s:aO)(H:Hp):Cx where
 prog:=P
 w:=w
 K:=K
 mg:=mg
 base:=base
 A:=A.deeper (kq L.qual L.scope s.heap.objs.size f (.ref c) [(L.free,e)])
 N:=N
 s₀:=s
 H₀:=H
 env:=kq L.qual L.scope s.heap.objs.size f (.ref c) [(L.free,e)]
 outer:=outer
 stack:=kq L.qual L.scope s.heap.objs.size f (.ref c) [(L.free,e)]::outer
 ex:=[]
 calm:=aC
 fn:=λ_=>aB
 pn:=[]
 xe:=λ_ _=>False
theorem Zaj:∀{b:List bH}{a:List aI}{i:Nat}{x:bH}{u:aI},b.Nodup->b[i]?=ax x->a[i]?=ax u->(b.zip a).reverse.lookup x=ax u:=by
 intro b
 induction b with
 | nil=>intro a i x u _ h _;simp at h
 | cons p r ih=>
  intro a i x u c e d
  cases a with
  | nil=>simp at d
  | cons v a=>
   rw[dG,List.reverse_cons,List.lookup_append]
   cases i with
   | zero=>
    have k:p=x:=by simpa using e
    have g:v=u:=by simpa using d
    subst k g
    have f:(r.zip a).reverse.lookup p=aA:=by
     rw[List.lookup_eq_none_iff];intro q j;have:=(gx (List.mem_reverse.mp j)).1
     first
      | (intro z;rw[<-z] at this;exact(aq.mp c).1 this)
      | (simp;intro z;rw[<-z] at this;exact(aq.mp c).1 this)
    rw[f];simp[bh]
   | succ i=>
    rw[ih (aq.mp c).2 (by simpa using e) (by simpa using d)];rfl
end VL
namespace VL
open PySem PySem.Spec PyProof.Rows L2
variable {K:aH}
section
variable {P:bM} {w:bc} {mg:bH->Option aI} {base:ba}
theorem Ze4{N B:List bH}{L:Lam}{f c e:aL}{A:bq}{d:List ma}{s:aO}{H:Hp}{F:List aI}{vs:List V}{x:V}{u:aI}{h₁:ba}{tk:Nat}
  (S:Tf N B L) (hd:A.handled=aA) (k:Env0 P w K mg base A d s H) (R:vs.length=B.length) (r:Vals vs F) (T:H e=aA) (O:s.heap.IsCell e (ax u)) (Q:RelV x u)
  (D:h₁.Ns s.heap.objs.size (λy=>(B.zip F).reverse.lookup y)) (t:∀b o,s.heap.get? b=ax o->h₁.get? b=ax o) :
  Inv (Zai P w K mg base N L f c e A d s H) [] (vs.map ax++[ax x]) H { s with heap:=h₁,toks:=tk }:=by
 have l:∀b:aL,b∉(Zai P w K mg base N L f c e A d s H).ex:=λb z=>absurd (show b∈([]:List aL) from z) (by simp);have E:B.Nodup:=by have:=S.nd;rw[S.eq] at this;exact(cN.mp this).1
 have C:=O.keeps t
 refine⟨⟨k.mod,S.kind,rfl,rfl,aZ _,λy z a j g=>(Pb j).trans (Pb g).symm,λy m=>?_,λy a z=>(by cases z),λ_=>hd,l3 k.frames,.inr ⟨rfl,rfl⟩,λb z=>absurd z (l b),k.bs,k.bsz,λb _ _=>l b,λb z=>absurd z (l b),k.funs,k.frf,k.tab,λq _ U G=>?_⟩,
  rfl,k.bare,Un.kept t,⟨_,D,λi y v j g h3=>?_⟩,λy a h=>?_,k.hok.fresh (aZ _),λy a h=>?_,λp hp=>absurd (show p∈([]:List (aL×dW)) from hp) (by simp),k.hok.kept t,?_⟩
 ·have m:=m;rcases m with m | m
  ·exact absurd rfl (S.nocell _ (cu m))
  ·have J:y=L.free:=S.one _ (cu m) rfl;refine⟨e,?_⟩;show([(L.free,e)]:List (bH×aL)).lookup y=_;rw[J];simp[bh]
 ·have:=(F8 (U)).symm;rw[this,S.qn] at G;cases G
 ·have j:N[i]?=ax y:=j;rw[S.eq] at j;by_cases I:i<vs.length
  ·rw[aj (by simpa using I),aX] at g;rw[aj (by omega)] at j
   cases q:vs[i]? with
   | none=>rw[q] at g;cases g
   | some a=>
    rw[q] at g;cases g;obtain⟨z,W,X⟩:=r.get q;exact⟨z,X,.inl ⟨S.par y (av j),Zaj E j W⟩⟩
  ·rw[bA (by simpa using I),aJ] at g;rw[bA (by omega)] at j
   have e1:i-vs.length=0:=by
    cases q:i-vs.length with
    | zero=>rfl
    | succ n=>rw[q] at g;simp at g
   have Y:i-B.length=0:=by omega
   rw[e1] at g;rw[Y] at j;have Z:x=v:=by simpa using g
   have M:L.free=y:=by simpa using j
   subst Z M;refine⟨u,Q,.inr ⟨.inr S.fre,e,?_,C⟩⟩;show([(L.free,e)]:List (bH×aL)).lookup L.free=_;simp[bh]
 ·have h:=h;rw[NB h];exact⟨_,C⟩
 ·have h:=h;rw[NB h];exact T
 ·show _=N.length;rw[S.eq];simp[R]
noncomputable def spL(K:aH)(L:Lam)(f:aL)(D:PV->List PV->Option PV)(n:Nat):Sp:=λvs H Q _=>vs.length=n/\∃l ls u x fp fps r,CloAt H L (.ref f) u/\RelV x u/\Is K H l x fp/\YM l=aC/\Iss K H ls vs fps/\Xh ls=aC/\D l ls=ax r/\ZO r=aC/\
 ∀v H',Same H H'->Is K H' r v []->Q v H'
noncomputable def LR(P:bM)(w:bc)(K:aH)(mg:bH->Option aI)(base:ba)(k:Nat)(L:Lam)(D:PV->List PV->Option PV)(n:Nat):Prop:=
 ∀(A:bq)(outer:List ma)(s:aO)(H:Hp)(f:aL)(us:List aI)(vs:List V)(Q:VK)(E:XK),Room k A->Env0 P w K mg base A outer s H->Vals vs us->spL K L f D n vs H Q E->
  jQ (model P w) A (.call (.ref f) ⟨us,[]⟩) (CR J6 outer P w H s Q E) s
theorem Env0.rm{A:bq}{a:List ma}{s:aO}{H:Hp}{e:aL}{g:dW}(c:Env0 P w K mg base A a s H)(d:H e=ax (.frz g (.own 1))):Env0 P w K mg base A a s (NC H e):=
 ⟨c.frames,c.mod,λb o q=>⟨(c.bs b o q).1,T4 (c.bs b o q).2⟩,c.bsz,c.funs,λb f=>T4 (c.frf b f),TabsH.rm c.tab d,Zah c.hok d,c.bare⟩
theorem GK{N G:List bH}{L:Lam}{k n:Nat}(f:XE)(S:Tf N G L)
  (T:∀(cl:List (bH×aL))(pm cdv ct:aI)(C:List aI),C.length=G.length->j4 (gV "<lambda>" L.qual L.params L.body L.scope cl pm cdv ct) ⟨C,[]⟩=pure (G.zip C)) (hn:G.length=n)
  (t:∀(D c e:aL)(A:bq)(d:List ma)(s:aO)(H:Hp),Room k (A.deeper (kq L.qual L.scope s.heap.objs.size D (.ref c) [(L.free,e)]))->VE (Zai P w K mg base N L D c e A d s H) L.body f) :
  LR P w K mg base (k+1) L (λl ls=>f (ls.map ax++[ax l])) n:=by
 intro A d s H D C vs Q E hr j rv hsp;obtain⟨hl,l,ls,u,x,fp,fps,r,⟨fa',fo,c,oc,e,Y,pm,ct,hv,hf,hfo,hc,hco,h,heo⟩,rx,il,pl,is,pls,hD,pr,q⟩:=hsp;cases hv;have ho:=(j.hok D _ hf).1;have hoc:=(j.hok c _ hc).1;have R:=(j.hok e _ h).1;obtain⟨cvs,ctk,hcd,hcq⟩:=hco;have W:vs.length=G.length:=by rw[hl,hn]
 have lim:=j.mod.nolimit.keeps λb o e=>(j.bs b o e).1;refine PySem.W.kla_callFunE hr.depth ho hfo S.co S.gen rfl ⟨c,oc,cvs,ctk,rfl,hoc,hcd,hcq⟩ ?_;rw[T _ _ _ _ C (by rw[<-rv.length];exact W)];refine aW (lx S.nocell (λy p=>S.par y.1 (gx p).1) (λh₁ hns hsb=>?_) S.kind);have M:=λb o q=>hsb.extBut b o (bN (a9 q)) (aK _ q);refine⟨lim.keeps M,?_⟩;refine PySem.W.kla_codeExpr ?_;have e1:=Env0.rm j h;have I:=Ze4 (f:=D) (c:=c) (tk:=s.toks+(G.zip C).length) S hr.hd e1 W rv KY ⟨Y,R,heo⟩ rx hns M
 have env:EnvIs K (λ_=>False) (NC H e) (ls.map ax++[ax l]) (vs.map ax++[ax x]):=⟨λi a g=>by
  have hlv:=is.len;by_cases O:i<ls.length
  ·rw[aj (by simpa using O),aX] at g
   cases z:ls[i]? with
   | none=>rw[z] at g;cases g
   | some b=>
    rw[z] at g;cases g;obtain⟨v,f1,h1,h2,_⟩:=is.get z;refine⟨v,f1,?_,Is.rm h _ _ _ ?_ h2,λ_ _ z=>z⟩
    ·rw[aj (by rw[aJ];omega),aX,h1];rfl
    ·have all:∀(m:List PV),Xh m=aC->∀y∈m,YM y=aC:=by
      intro m
      induction m with
      | nil=>intro _ y p;simp at p
      | cons a r ih=>
       intro hm y p;simp only[Xh,aw] at hm;rcases aa.mp p with rfl | p
       ·exact hm.1
       ·exact ih hm.2 y p
     exact all ls pls _ (av z)
  ·rw[bA (by simpa using O),aJ] at g
   have z:i-ls.length=0:=by
    cases q:i-ls.length with
    | zero=>rfl
    | succ n=>rw[q] at g;simp at g
   rw[z] at g;have e3:l=a:=by simpa using g
   subst e3;refine⟨x,fp,?_,Is.rm h _ _ _ pl il,λ_ _ z=>z⟩;rw[bA (by rw[aJ];omega),aJ,show i-vs.length=0 by omega];rfl⟩
 refine cU (t D c e A d s (NC H e) (hr.deeper _) [] _ _ _ (λv F=>Same (NC H e) F/\∃X,Is K F r v X) I ⟨λ_=>False,_,r,λ_ z=>z.elim,env,hD,λv F X sm i _=>⟨sm,X,i⟩⟩) (λy s' hs=>?_) λ_ _ hs=>hs.elim;obtain⟨v,F,J,ry,sm,X,i⟩:=hs;have B:=J.freeC L.free e (by show([(L.free,e)]:List (bH×aL)).lookup L.free=_;simp[bh]);have U:Un (Kc d) [] (NC H e) F s.heap s'.heap:=J.base;have enf:e∉Kc d:=λz=>by rw[j.frf e z] at h;cases h
 have he':=U.keep e Y R KY enf (by simp);have i2:=Is.pure _ _ _ pr i;subst i2
 have Z:Same H (upd F e (.frz Y (.own 1))):=λb o T=>by
  by_cases z:b=e
  ·subst z;rw[h] at T;cases T;exact Zk
  ·rw[upd_ne z];exact sm b o (by rw[XY z];exact T)
 exact⟨v,_,J.os,J.bare,Ze3 U h B,EU J.hok B he',ry,q v _ Z (i.mono (Same.new B _))⟩
end
noncomputable def Zak(T:Lam->PV->List PV->Option PV)(i:Nat)(fs:List XE):XE:=λs=>match s[i]? with
 | some (ax (.clo L l))=>(PB fs s).bind λls=>if(YM l&&Xh ls)=aC then(T L l ls).bind (λr=>if ZO r=aC then ax r else aA) else aA
 | _=>aA
section
variable {X:Cx} {x:bH} {k:Nat} {e:bO} {es:List bO} {fs:List XE} {p pos:dw}
theorem Zjh(i:Nat){T:Lam->PV->List PV->Option PV}{n:Nat}(hN:X.N[i]?=ax x)(hv:Vis X.env.scope x)(hT:∀L,(∃l ls r,T L l ls=ax r)->LR X.prog X.w X.K X.mg X.base k L (T L) n)(hr:Room k X.A)(ha:VA X (e::es) fs)(hn:fs.length=n:=by rfl)
  (R:(x==("__debug__" : bH))=aB:=by decide) (C:(x==("__classdict__" : bH))=aB:=by decide) (he:aP (e::es) X.env=(aB,eval e X.env)::aP es X.env:=by rfl) (M:(dC pos (aP es X.env)).any (·.1)=aB:=by rfl) :
  VM X (.Call (.Name x p) (e::es) [] pos) (Zak T i fs):=by
 intro N s E H Q I ⟨st,r,env,o,q⟩;unfold Zak at o;split at o
 ·rename_i L l hs;obtain⟨ls,Y,G⟩:=Zc o;split at G
  ·rename_i j;simp only[aw] at j;obtain⟨r',W,O⟩:=Zc G;split at O
   ·rename_i A;cases O;obtain⟨v,fp,J,hi,_⟩:=env.is i _ hs;have B:=hi;obtain⟨u,y,b,ry,il⟩:=B;obtain⟨f,Z,c,oc,ce,eo,pm,ct,D,hf,S,_⟩:=id b;subst D;have d:∀{s1:aO}{a:Hp},Inv X N E a s1->a f=ax (.frz Z (.own 0))->PySem.W.FnAt f s1.heap:=λ{s1 a} w h1=>by have:=(w.hok f _ h1).1;obtain⟨oc',od',dat,sl'⟩:=Z;cases (S);exact⟨_,_,_,_,this⟩
    refine dE (Yo (BC hN hv R C N s E H (λU a=>U = .ref f/\a=H) I ⟨_,J,rfl,rfl⟩) λuf s1 ⟨U,a,w,r1,ef,eH⟩=>?_);subst ef eH;obtain rfl:=r1;refine PySem.W.callWith_F (d w hf) (Yo (ha pos N s1 E a (λvs h=>Same a h/\∃fps,Iss X.K h ls vs fps) w ⟨λ_=>False,st,ls,λ_ z=>z.elim,env,Y,λvs h fps g t _=>⟨g,fps,t⟩⟩) λus s2 ⟨vs,h,F,rv,g,fps,t⟩=>⟨d F (g f _ hf),?_⟩) he M;refine me (gZ (hT L ⟨l,ls,r,W⟩ X.A X.stack s2 h f us vs Q E0 hr F.env0 rv ⟨by rw[t.len,Ue Y,hn],l,ls,u,y,fp,fps,r,b.tr (Same.tk2 g),ry,il.mono g,j.1,t,j.2,W,A,λv H' P i'=>q v H' [] (g.trans P) i' cH λp j=>by simp at j⟩) λrr s' m=>?_)
    cases rr with
    | error er=>exact(m).elim
    | ok fl=>
     cases fl with
     | ret u'=>exact F.after m
     | next=>exact dD m
     | brk=>exact dD m
     | cont=>exact dD m
   ·cases O
  ·cases G
 ·cases o
end
end VL
namespace VL
open PySem PySem.Spec PyProof.Rows L2
variable {K:aH}
theorem GL{pos pos':dw}{c v:aI}{a b:Int}(l:List aI)(h:TriplesOk l)(d:jX pos (l++[gJ a,gJ b,c])=ax v):jX pos l=ax v\/v=c:=by
 fun_induction TriplesOk l with
 | case1=>
  simp only[lE,jX,gJ] at d;split at d
  ·exact .inr (bC d).symm
  ·cases d
 | case2 a' t b' u x YC ih=>
  simp only[oE,jX] at d ⊢;split at d
  ·rename_i e;rw[p9 e];exact .inl d
  ·rename_i e;rw[pW e];exact ih h d
 | case3 l h1 h2=>exact h.elim
noncomputable def Zn2(X:Cx)(L:Lam):TE:=λ_ H Q=>∀f fo c oc e pm ct H1,Same H H1->H1 f=ax (.frz fo (.own 0))->fo.data = .func (gV "<lambda>" L.qual L.params L.body L.scope [(L.free,e)] pm (.ref c) ct)->
 H1 c=ax (.frz oc (.own 0))->HU oc L.qual->X.env.cells.lookup L.free=ax e->Q (.ref f) H1
section
variable {X:Cx}
theorem Zji{q:bH}{L:Lam}{f:dw}(hfn:X.env.func≠aA)(hq:X.env.qual=q++".<locals>.")(T:Po q=aC)(hL:L.qual=Oz q)(Y:ox L.params X.env=([],[]))
  (y:∃e,X.env.cells.lookup L.free=ax e/\kg L.scope X.env=pure [(L.free,e)]):PE X (.Lambda L.params L.body L.scope f) (Zn2 X L):=by
 intro p0 s σ H Q I h;obtain⟨e,U,y⟩:=y;have j:=I.ok.cod q hfn hq T
 obtain⟨m,i⟩:∃m,X.env.code = .ref m:=by
  cases z:X.env.code with
  | ref c=>exact⟨c,rfl⟩
  | _=>rw[z] at j;simp[dM] at j
 rw[i] at j;obtain⟨Pt,ps,tk,hC,hP,Z,hB⟩:=(TabsH.un I.ok.tab I.base) q m T j;obtain⟨q',tk',M,eq,hg,x,ht2⟩:=(show ObjOk X.prog X.w H s.heap Pt (.tbl ps) from I.hok Pt _ hP);rw[Z] at eq;cases eq;have G:s.heap.Ns cO X.mg:=I.mod.glob.keeps I.bk;have hgP:cO≠Pt:=λz=>by obtain⟨o,es,ep,J,hd,_⟩:=G;rw[z,hg] at J;cases J;cases hd
 have P:s.heap.BuiltinsAt X.mg Pt:=by obtain⟨bm,ob,b1,b2,b3,b4,b5,b6⟩:=hB;exact⟨bm,ob,b1,b2,b3,b4,I.bk _ _ b5,b6⟩
 have E:X.env.qual++"<lambda>" = L.qual:=by rw[hq,hL];rfl
 have fresh:∀b,s.heap.objs.size<=b->H b=aA:=λb a=>I.hok.fresh a;refine PySem.W.kla_eval Y ?_;rw[E]
 cases hf:jX f M.toList with
 | none=>
  refine PySem.W.kla_makeFunction (mg:=X.mg) y I.ok.glob G i (hC.keeps I.bk) hg x hf hgP P λd g h' tk2 hx A R W htb=>?_;obtain⟨c2,w,vs,t,e2,hoc,hd,hv⟩:=W;cases e2;generalize p:PySem.W.kla_obj "<lambda>" L.qual L.params L.body L.scope [(L.free,e)] ((X.mg "__name__").getD .none) d g=fo;have F:fo.data = .func (gV "<lambda>" L.qual L.params L.body L.scope [(L.free,e)] ((X.mg "__name__").getD .none) (.ref d) g):=by rw[<-p]
  have N:h'.objs.size≠d:=fW R;have l:s.heap.objs.size<=h'.objs.size:=cD A (cJ R);have nc:H d=aA:=fresh _ A;have nf:H h'.objs.size=aA:=fresh _ l;have hP1:Pt<s.heap.objs.size:=a9 hg;have up:∀b o,H b=ax o->upd (upd H d (.frz w (.own 0))) h'.objs.size (.frz fo (.own 0)) b=ax o:=λb o a=>by rw[upd_ne (Zr a nf),upd_ne (Zr a nc)];exact a
  have C:∀b o,b≠Pt->s.heap.get? b=ax o->(h'.push fo).get? b=ax o:=λb o a B=>aK _ (hx b o a B);have gP:(h'.push fo).get? Pt=ax (gX (M++#[gJ f.line,gJ f.col,.ref d])):=aK _ htb
  have un:Un X.fs [] H (upd (upd H d (.frz w (.own 0))) h'.objs.size (.frz fo (.own 0))) s.heap (h'.push fo):=by
   refine⟨λb o a n _ _=>C b o (λz=>by rw[z,hP] at n;cases n) a,λb o a n _ _=>⟨o.slots,C b o (λz=>by rw[z,hP] at n;cases n) a⟩,λb o a n _=>?_,λb o a _=>?_,λb xs a=>up b _ a,λb o u a=>up b _ a,λb ps a=>⟨#[],by rw[up b _ a];simp⟩⟩
   ·have O:=a9 a;rw[upd_ne (bN (bB O l)),upd_ne (bN (bB O A))];exact n
   ·by_cases z:b=Pt
    ·rw[z];exact⟨_,gP⟩
    ·exact⟨o,C b o z a⟩
  have gc:(h'.push fo).get? d=ax w:=aK _ hoc;have S:(h'.push fo).get? h'.objs.size=ax fo:=ak _ (by rw[<-p];rfl);have upc:upd (upd H d (.frz w (.own 0))) h'.objs.size (.frz fo (.own 0)) d=ax (.frz w (.own 0)):=by rw[upd_ne (bX N),Zk]
  have D:HOk X.prog X.w (upd (upd H d (.frz w (.own 0))) h'.objs.size (.frz fo (.own 0))) (h'.push fo):=λb u a=>by
   by_cases z1:b=h'.objs.size
   ·subst z1;rw[Zk] at a;cases a;exact⟨S,_,S⟩
   ·rw[upd_ne z1] at a;by_cases z2:b=d
    ·subst z2;rw[Zk] at a;cases a;exact⟨gc,_,gc⟩
    ·rw[upd_ne z2] at a;by_cases z3:b=Pt
     ·subst z3;rw[hP] at a;cases a;refine⟨_,tk,_,Z,gP,?_,λpos v k=>?_⟩
      ·rw[dk];exact TriplesOk_snoc _ _ _ _ x
      ·rw[dk] at k;rcases GL (pos':=pos) _ x k with k | k
       ·obtain⟨c3,o3,J,e2,e3⟩:=ht2 pos v k;exact⟨c3,o3,J,up _ _ e2,e3⟩
       ·exact⟨d,w,k,upc,vs,t,hd,by rw[<-hL];exact hv⟩
     ·exact(I.hok b u a).stay (λb' o hb' q=>C b' o (by
       rcases hb' with z | z
       ·rw[z];exact z3
       ·exact λz'=>by rw[z',hP] at z;cases z) q) (λb' q=>up _ _ q) (λb' xs q=>up _ _ q) λb' u' q=>up _ _ q
  have I1:=I.un (t':=tk2) un D;exact⟨.ref h'.objs.size,_,I1,rfl,h _ fo d w e _ g _ up Zk F upc ⟨vs,t,hd,hv⟩ U⟩
 | some cv=>
  obtain⟨d,w,J,hc1,hc2⟩:=ht2 f cv hf;subst J;refine PySem.W.kla_makeFunctionHit (mg:=X.mg) y I.ok.glob G i (hC.keeps I.bk) hg x hf P λg h' tk2 hk l=>?_;generalize p:({ cls:=.type "function",data:=.func (gV "<lambda>" L.qual L.params L.body L.scope [(L.free,e)] ((X.mg "__name__").getD .none) (.ref d) g) }:dW)=fo;have F:fo.data = .func (gV "<lambda>" L.qual L.params L.body L.scope [(L.free,e)] ((X.mg "__name__").getD .none) (.ref d) g):=by rw[<-p]
  have nf:H h'.objs.size=aA:=fresh _ l;have up:∀b o,H b=ax o->upd H h'.objs.size (.frz fo (.own 0)) b=ax o:=λb o a=>by rw[upd_ne (Zr a nf)];exact a
  have C:∀b o,s.heap.get? b=ax o->(h'.push fo).get? b=ax o:=λb o B=>aK _ (hk b o B);have S:(h'.push fo).get? h'.objs.size=ax fo:=ak _ (by rw[<-p];rfl);have un:Un X.fs [] H (upd H h'.objs.size (.frz fo (.own 0))) s.heap (h'.push fo):=Un.laid C l nf;have D:HOk X.prog X.w (upd H h'.objs.size (.frz fo (.own 0))) (h'.push fo):=I.hok.laid C l ⟨S,_,S⟩;have I1:=I.un (t':=tk2) un D;exact⟨.ref h'.objs.size,_,I1,rfl,h _ fo d w e _ g _ up Zk F (up _ _ hc1) (by rw[hL];exact hc2) U⟩
end
section
variable {X:Cx} {x:bH} {ps:List bH} {sp:Sp} {k:Nat} {e:bO} {es:List bO} {t:TA} {p pos:dw}
noncomputable def Zjj(X:Cx)(i:Nat)(y:bH)(sp:Sp)(t:TA):TE:=λσ H Q=>t σ H λvs H1=>∀ce eo u v,X.env.cells.lookup y=ax ce->H1 ce=aA->σ[i]?=ax (ax v)->RelV v u->eo.data = .cell (ax u)->
 ∃Q':VK,sp vs (upd H1 ce (.frz eo (.own 1))) Q' E0/\∀z H',H' ce=ax (.frz eo (.own 1))->Q' z H'->Q z (NC H' ce)
theorem Zal(C:Xi X.prog X.w X.K X.mg X.base x ps sp k)(hr:Room k X.A)(hg:Gl X x)(i:Nat){y:bH}(hN:X.N[i]?=ax y)(hk:X.env.scope.names.lookup y=ax .cell)(W:X.fn y=aC)(U:∀D H Q,t D H Q->∃v,D[i]?=ax (ax v))(ha:PA X (e::es) t)
  (P:(x==("__debug__" : bH))=aB:=by decide) (he:aP (e::es) X.env=(aB,eval e X.env)::aP es X.env:=by rfl) (R:(dC pos (aP es X.env)).any (·.1)=aB:=by rfl) :
  PE X (.Call (.Name x p) (e::es) [] pos) (Zjj X i y sp t):=by
 obtain⟨f,fd,hm,N,l,F⟩:=C.ex;intro p0 s D H Q I h;obtain⟨v,Y⟩:=U D H _ h;refine dE (Kd I hg hm ?_ P);refine mf I.ok.mod.kin N (Yo (ha pos p0 s D H _ I h) λM s1 ⟨vs,H1,c,r,q⟩=>⟨c.kIn,?_⟩) he R;obtain⟨m,hns,hl⟩:=c.loc;obtain⟨u,ru,lk⟩:=hl i y v hN Y (.inr (.inl hk));rcases lk with⟨z,_⟩ | ⟨_,a,j,O,E,hd⟩
 ·have z:X.env.scope.names.lookup y=ax .local:=z;rw[hk] at z;cases z
 have g:=c.freeC y a j;obtain⟨Q',n,T⟩:=q a O u v j g Y ru hd;have B:=c.ok.cab y a W j
 have G:a∉Kc X.stack:=λz=>by
  rcases aa.mp (c.stkSub a z) with z | z
  ·exact c.cne y a j z
  ·obtain⟨_,o,ho,_⟩:=c.ok.funs.mem z;exact absurd (bB (a9 ho) B) (cS _)
 have d:=c.env0
 have e1:Env0 X.prog X.w X.K X.mg X.base X.A X.stack s1 (upd H1 a (.frz O (.own 1))):=by
  refine⟨d.frames,d.mod,λb o l=>⟨(d.bs b o l).1,?_⟩,d.bsz,d.funs,λb l=>?_,TabsH.add d.tab g,EU d.hok g E,d.bare⟩
  ·have:b≠a:=λz=>by have:=a9 l;have h2:=c.ok.bsz;rw[z] at this;exact absurd (bB this (cD h2 B)) (cS _)
   rw[upd_ne this];exact(d.bs b o l).2
  ·have nb:b≠a:=λz=>by rw[z] at l;exact G l
   rw[upd_ne nb];exact d.frf b l
 have S:M.length=ps.length:=by rw[<-r.length];exact F.len _ _ _ _ n
 have L:=l s1 M c.kIn (by simpa using S);rw[dX] at L;refine me (gZ (F.run X.A X.stack s1 _ ⟨M,[]⟩ M vs Q' E0 hr e1 L r n) λrr s' J=>?_)
 cases rr with
 | error er=>exact(J).elim
 | ok fl=>
  cases fl with
  | ret u'=>
   obtain⟨v',H',os,w,un,A,rv,qq⟩:=(J);have Z:=un.frzs a O _ Zk;exact c.after ⟨v',NC H' a,os,w,Zjg un g E G A,Zah A Z,rv,T v' H' Z qq⟩
  | next=>exact dD J
  | brk=>exact dD J
  | cont=>exact dD J
end
end VL
namespace VL
open PySem PySem.Spec PyProof.Rows L2
variable {K:aH}
noncomputable def ND(D:List PV->Option PV)(f1 f2:XE)(L:Lam)(i:Nat):XE:=λs=>(f1 s).bind λl1=>(f2 s).bind λl2=>match s[i]? with
 | some (ax l)=>(D [l1,l2,.clo L l]).bind λr=>if YM r=aC then ax r else aA
 | _=>aA
section
variable {X:Cx} {x:bH} {ps:List bH} {k:Nat} {a b:bO} {f1 f2:XE} {p pos lpos:dw}
theorem Zam{q:bH}{L:Lam}{D:List PV->Option PV}(C:Xi X.prog X.w X.K X.mg X.base x ps (Y5 X.K D 3) k)(hr:Room k X.A)(hg:Gl X x)(i:Nat)(hN:X.N[i]?=ax L.free)(hk:X.env.scope.names.lookup L.free=ax .cell)(Y:X.fn L.free=aC)
  (h1:VE X a f1) (h2:VE X b f2) (W:X.env.func≠aA) (hq:X.env.qual=q++".<locals>.") (N:Po q=aC) (hL:L.qual=Oz q) (t:ox L.params X.env=([],[]))
  (hcl:∃e,X.env.cells.lookup L.free=ax e/\kg L.scope X.env=pure [(L.free,e)])
  (B:aP (a::b::[.Lambda L.params L.body L.scope lpos]) X.env=(aB,eval a X.env)::aP (b::[.Lambda L.params L.body L.scope lpos]) X.env) (S:aP (b::[.Lambda L.params L.body L.scope lpos]) X.env=(aB,eval b X.env)::aP [.Lambda L.params L.body L.scope lpos] X.env)
  (hs3:aP [.Lambda L.params L.body L.scope lpos] X.env=(aB,eval (.Lambda L.params L.body L.scope lpos) X.env)::aP [] X.env) (U:(dC pos (aP (b::[.Lambda L.params L.body L.scope lpos]) X.env)).any (·.1)=aB)
  (Z:(x==("__debug__" : bH))=aB:=by decide):VM X (.Call (.Name x p) (a::b::[.Lambda L.params L.body L.scope lpos]) [] pos) (ND D f1 f2 L i):=by
 have pa:=Z2 h1 (Z2 h2 (Z2 (Zji W hq N hL t hcl) Y0 hs3) S) B;have pa2:=PA.imp pa (t':=λF H Q=>(∃v,F[i]?=ax (ax v))/\_) λF H Q z=>z.2;refine PE.imp (Zal C hr hg i hN hk Y (λF H Q z=>z.1) pa2 Z B U) λF H Q ⟨s,r,env,e,qq⟩=>?_;obtain⟨l1,e1,e⟩:=Zc e;obtain⟨l2,e2,e⟩:=Zc e;split at e
 ·rename_i lc hs;obtain⟨r',hD,e⟩:=Zc e;split at e
  ·rename_i I;cases e;obtain⟨v,fpc,hv,ic,_⟩:=env.is i _ hs;refine⟨⟨v,hv⟩,λ_=>False,s,l1,λ_ z=>z.elim,env,e1,λv1 H1 fp1 s1 i1 _=>⟨λ_=>False,s,l2,λ_ z=>z.elim,env.mono s1,e2,λv2 H2 fp2 s2 i2 _=>?_⟩⟩;intro f fo c oc d pm ct E n hf O hc hco m ce l u v' R hn A ru hd;have w:=bC (m.symm.trans R);subst w;rw[hv] at A;cases A;have j:Same E (upd E d (.frz l (.own 1))):=Same.new hn _;have P:Is X.K (upd E d (.frz l (.own 1))) (.clo L lc) (.ref f) fpc:=by exact⟨u,v,⟨f,fo,c,oc,d,l,pm,ct,rfl,j _ _ hf,O,j _ _ hc,hco,Zk,hd⟩,ru,ic.mono (((s1.trans s2).trans n).trans j)⟩
   refine⟨λz h=>∃g,Same (upd E d (.frz l (.own 1))) h/\Is X.K h r z g/\g.Nodup/\∀p∈g,upd E d (.frz l (.own 1)) p=aA/\UU (h p),?_,λz h hz ⟨g,sm,M,nd,T⟩=>?_⟩
   ·exact⟨rfl,[l1,l2,.clo L lc],_,r,Iss.cons (i1.mono ((s2.trans n).trans j)) (Iss.cons (i2.mono (n.trans j)) (Iss.one P)),hD,λz h g sm M nd T=>⟨g,sm,M,nd,T⟩⟩
   ·have s5:Same H (NC h d):=λy o J=>by have h3:=((s1.trans s2).trans n) y o J;rw[XY (Zr h3 hn)];exact sm y o (j y o h3)
    refine qq z _ g s5 (Is.rm hz _ _ _ I M) nd λy J=>?_;obtain⟨G,n2⟩:=T y J;have ne:y≠d:=λz=>by rw[z,Zk] at G;cases G
    rw[upd_ne ne] at G;exact⟨Same.off ((s1.trans s2).trans n) G,by rw[XY ne];exact n2⟩
  ·cases e
 ·cases e
theorem NF{q:bH}{L:Lam}{c:mO}{f:bO}{d:gC}{i:Nat}{D:List PV->Option PV}(o:L.params=c)(u:L.body=f)(j:L.scope=d)(C:Xi X.prog X.w X.K X.mg X.base x ps (Y5 X.K D 3) k)(E:Room k X.A)(A:Gl X x)(F:X.N[i]?=ax L.free)(G:X.env.scope.names.lookup L.free=ax .cell)(y:X.fn L.free=aC)
  (B:VE X a f1) (H:VE X b f2) (w:X.env.func≠aA) (I:X.env.qual=q++".<locals>.") (v:Po q=aC) (z:L.qual=Oz q) (g:ox c X.env=([],[]))
  (l:∃e,X.env.cells.lookup L.free=ax e/\kg d X.env=pure [(L.free,e)])
  (s:aP (a::b::[.Lambda c f d lpos]) X.env=(aB,eval a X.env)::aP (b::[.Lambda c f d lpos]) X.env) (h:aP (b::[.Lambda c f d lpos]) X.env=(aB,eval b X.env)::aP [.Lambda c f d lpos] X.env)
  (t:aP [.Lambda c f d lpos] X.env=(aB,eval (.Lambda c f d lpos) X.env)::aP [] X.env) (n:(dC pos (aP (b::[.Lambda c f d lpos]) X.env)).any (·.1)=aB)
  (m:(x==("__debug__" : bH))=aB:=by decide):VM X (.Call (.Name x p) (a::b::[.Lambda c f d lpos]) [] pos) (ND D f1 f2 L i):=by
 subst o u j;exact Zam C E A i F G y B H w I v z g l s h t n m
end
end VL
namespace VL
open PySem PySem.Spec PyProof.Rows L2
variable {K:aH}
noncomputable def LS(K:aH):List (bH×aL×aL):=(["tree_of","still_by","made_of"]:List bH).filterMap λx=>(i8 K x).map λcp=>(x,cp)
noncomputable def RN(K:aH)(q:bM):Bool:=
 oy K&&decide ((LS K).map (·.2.2)).Nodup&&(LS K).all (λr=>((recsOf q).find? (λe=>e.name==r.1)).isSome)&&
 K.all λp=>match p.2.data with
  | .fields vs=>(match vs.toList with
   | _::.str n _::_=>!(Po n) || (match i8 K n with
    | some (c,_)=>c==p.1
    | none=>aB)
   | _=>aC)
  | _=>aC
theorem Cu{x:bH}{c Pt:aL}(h:(x,c,Pt)∈LS K):i8 K x=ax (c,Pt)/\Po x=aC:=by
 obtain⟨y,a,e⟩:=hW.mp h
 cases z:i8 K y with
 | none=>rw[z] at e;cases e
 | some cp=>
  rw[z] at e;cases e;refine⟨z,?_⟩;simp only[aa,br,or_false] at a;rcases a with rfl | rfl | rfl<;>decide
theorem Zan{x:bH}{c Pt:aL}(h:i8 K x=ax (c,Pt))(a:Po x=aC):(x,c,Pt)∈LS K:=by
 refine hW.mpr ⟨x,?_,by rw[h];rfl⟩;unfold Po at a;simp only[jH,beq_iff_eq] at a;simp only[aa,br,or_false];rcases a with(h | h) | h
 ·exact .inl h
 ·exact .inr (.inl h)
 ·exact .inr (.inr h)
theorem GN{q:bM}(g:RN K q=aC){x:bH}{c:aL}(h:Po x=aC)(a:dM K (.ref c) x=aC):∃Pt,(x,c,Pt)∈LS K:=by
 unfold RN at g;simp only[aw] at g;have b:=g.2
 have a:(match K.lookup c with
   | some ⟨_,_,.fields vs,_⟩=>(match vs.toList with | _::.str n _::_=>n==x | _=>aB)
   | _=>aB)=aC:=a
 split at a
 ·rename_i o m vs l f;split at a
  ·rename_i y n t r e;have i:=beq_iff_eq.mp a;subst i;have d:=bK.mp b (c,_) (ku f);simp only[e,h] at d;split at d
   ·rename_i c2 k j;have:=beq_iff_eq.mp d;subst this;exact⟨k,Zan j h⟩
   ·cases d
  ·cases a
 ·cases a
theorem II:∀{l:List (bH×aL×aL)}{x:bH}{c Pt:aL},(l.map (·.2.2)).Nodup->(x,c,Pt)∈l->l.find? (λr=>r.2.2==Pt)=ax (x,c,Pt)
 | [],_,_,_,_,h=>by simp at h
 | r::l,x,c,Pt,nd,h=>by
  rw[af] at nd;rw[c9];rcases aa.mp h with e | h
  ·subst e;simp
  ·have:r.2.2≠Pt:=λz=>(aq.mp nd).1 (ar.mpr ⟨_,h,z.symm⟩);have a:(r.2.2==Pt)=aB:=by simpa using this
   rw[a];exact II (aq.mp nd).2 h
noncomputable def GO(l:List (bH×aL×aL))(H:Hp):Hp:=λb=>match l.find? (λr=>r.2.2==b) with
 | some r=>ax (.tbl #[.str (Oz r.1) 0])
 | none=>H b
theorem Cv{l:List (bH×aL×aL)}{H:Hp}{b:aL}(h:∀r∈l,r.2.2≠b):GO l H b=H b:=by unfold GO;rw[eM.mpr λr a=>by simpa using h r a]
theorem SQ(l:List (bH×aL×aL))(H:Hp)(b:aL):(∃r∈l,r.2.2=b/\GO l H b=ax (.tbl #[.str (Oz r.1) 0]))\/((∀r∈l,r.2.2≠b)/\GO l H b=H b):=by
 unfold GO
 cases z:l.find? (λr=>r.2.2==b) with
 | some r=>exact .inl ⟨r,dZ z,by simpa using jK z,rfl⟩
 | none=>exact .inr ⟨λr a=>by simpa using eM.mp z r a,rfl⟩
theorem Cw{P:bM}{w:bc}{mg mb:bH->Option aI}{k:Nat}{fa a:aL}{fd:fL}{x:bH}{D:List PV->Option PV}{f:aO}{vs:List aI}{ns:List Int}{l:List (bH×aL×aL)}
  (KX:K.In f.heap) (Q:f.heap.Ns cO mg) (hb:f.heap.Ns kZ mb) (hbb:∀x:bH,x≠"__name__"->mb x=dB x) (hlim:f.heap.NoLimit) (hg:f.gens = #[])
  (hbm:∃bm T,mg "__builtins__" = ax (.ref bm)/\bm≠kZ/\f.heap.get? bm=ax T/\T.cls = .type "module"/\T.dict=ax kZ/\T.data = .plain)
  (hT:∀r∈l,lW f.heap r.2.1 r.2.2/\f.heap.get? r.2.2=ax (gX #[])) (hK:oy K=aC) (hcov:∀(q:bH)(c:aL),Po q=aC->dM K (.ref c) q=aC->∃Pt,(q,c,Pt)∈l) (hnd:(l.map (·.2.2)).Nodup)
  (M:f.heap.get? a=ax { cls:=.type "list",data:=.seq vs.toArray }) (hi:i7 vs ns) (hl:ns.length<=sizeLine) (p:Room k nX)
  (F:∀base:ba,K.In base->base.Ns cO mg->Pq P w K mg base J6 k fa fd [x] (Y5 K D 1)) (N:∀(s:aO)(u:aI),nP s fd ⟨[u],[]⟩ [(x,u)])
  (hD:D [.cst (iL ns)]=ax (.bl aC)) :
  jQ (model P w) nX (.call (.ref fa) ⟨[.ref a],[]⟩) (λr B=>r = .ok (.ret (.bool aC))/\OldK f.heap B.heap/\B.os=f.os/\k5 B.gens) f:=by
 have rv:=Lj hi;have lenV:=hi.length
 have Zcd:∀j:Hp,CsK K j a (ns.map V.int)->(j a=aA\/(K.lookup a=aA/\∃xs,j a=ax (.frz { cls:=.type "list",data:=.seq vs.toArray } (.lst xs))/\ObjOk P w j f.heap a (.frz { cls:=.type "list",data:=.seq vs.toArray } (.lst xs))))->(∀b,b≠a->j b=aA)->
   jQ (model P w) nX (.call (.ref fa) ⟨[.ref a],[]⟩) (λr B=>r = .ok (.ret (.bool aC))/\OldK f.heap B.heap/\B.os=f.os/\k5 B.gens) f:=by
  intro j hS hA hO;have na:∀r∈l,r.2.2≠a:=λr p z=>by have e:=(hT r p).2;rw[z,M] at e;cases e
  generalize hH:GO l j=H;have tb:∀r∈l,H r.2.2=ax (.tbl #[.str (Oz r.1) 0]):=λr p=>by rw[<-hH];unfold GO;rw[II hnd p]
  have Ha:H a=j a:=by rw[<-hH];exact Cv na
  have free:∀{b:aL}{o:dW},f.heap.get? b=ax o->o≠gX #[]->b≠a->H b=aA:=λ{b o} e no nb=>by
   rw[<-hH];rcases SQ l j b with⟨r,p,E,_⟩ | ⟨_,E⟩
   ·have t:=(hT r p).2;rw[E,e] at t;exact absurd (bC t) no
   ·rw[E];exact hO b nb
  have g:∀{b:aL}{o:dW},f.heap.get? b=ax o->H b=aA->(Kb f.heap H).get? b=ax o:=λe n=>BA e n;have C:∀{b:aL}{m:bH->Option aI},f.heap.Ns b m->(Kb f.heap H).Ns b m:=λ{b m} ⟨o,es,ep,e,d,r⟩=>⟨o,es,ep,g e (free e (λz=>by rw[z] at d;cases d) λz=>by rw[z,M] at e;cases e;cases d),d,r⟩
  have W:=λb o e=>g (KX b o e) (by
   by_cases z:b=a
   ·subst z;rw[Ha];rcases hA with h | ⟨h,_⟩
    ·exact h
    ·rw[e] at h;cases h
   ·refine free (KX b o e) (λz2=>?_) z;have J:=bK.mp hK (b,o) (ku e);subst z2;exact absurd (J) bx)
  have hM:Mod K mg (Kb f.heap H):=⟨W,C Q,⟨mb,C hb,hbb⟩,let⟨mc,S,J⟩:=hlim;⟨mc,C S,J⟩⟩
  have U:HOk P w H f.heap:=λb u e=>by
   rw[<-hH] at e;rcases SQ l j b with⟨r,p,E,t⟩ | ⟨hn,t⟩
   ·rw[t] at e;cases e;refine⟨Oz r.1,0,#[],rfl,?_,trivial,λpos v hv=>?_⟩
    ·rw[<-E];exact(hT r p).2
    ·simp[jX] at hv
   ·rw[t] at e;by_cases z:b=a
    ·subst z;rcases hA with h | ⟨_,xs,h,ok⟩
     ·rw[h] at e;cases e
     ·rw[h] at e;cases e;obtain⟨o1,o2⟩:=ok;exact⟨o1,o2⟩
    ·rw[hO b z] at e;cases e
  have tab:TabsH K mg (Kb f.heap H) H:=λq c S J=>by
   obtain⟨Pt,hm⟩:=hcov q c S J;obtain⟨⟨o,us,X,tf,L,tg,inF,Y,tt,f1,R,f3,f4,f5,f6,f7,f8,f9,f10⟩,hP⟩:=hT _ hm;obtain⟨bm,T,b1,b2,G,O,b5,b6⟩:=hbm;refine⟨Pt,_,0,⟨o,us,X,tf,L,tg,inF,Y,tt,g f1 (free f1 (λz=>by rw[z] at R;cases R) λz=>?_),R,f3,f4,f5,f6,f7,f8,f9,f10⟩,tb _ hm,rfl,bm,T,b1,b2,λz=>?_,λz=>?_,g G (free G (λz=>by rw[z] at O;cases O) λz=>?_),O,b5,b6⟩
   ·rw[z,M] at f1;cases f1;injection R with R;exact absurd R (by decide)
   ·obtain⟨o',es,ep,e',hd',_⟩:=Q;rw[z,e'] at G;cases G;rw[hd'] at b6;cases b6
   ·rw[z,hP] at G;cases G;cases O
   ·rw[z,M] at G;cases G;injection O with O;exact absurd O (by decide)
  have e0:Env0 P w K mg (Kb f.heap H) nX [] f H:=⟨rfl,hM,λb o e=>Zc4 e,Nat.le_of_eq (Dz _ _),trivial,λb hb=>absurd (show b∈([]:List aL) from hb) (by simp),tab,U,.of_eq hg⟩
  have hS':CsK K H a (ns.map V.int):=by
   rcases hS with⟨o,h⟩ | h
   ·exact .inl ⟨o,by rw[Ha];exact h⟩
   ·exact .inr h
  refine gZ ((F _ W (C Q)).run nX [] f H ⟨[.ref a],[]⟩ [.ref a] [.ref a] (λv _=>v = .bl aC) E0 p e0 (N f (.ref a)) (.cons rfl .nil)
   ⟨rfl,[.cst (iL ns)],[],.bl aC,Iss.one (Is.cst hS' (Iss.ofInts ns)),hD,λv H' fq _ i _ _=>i.bl_inv.1⟩) λr B h=>?_
  cases r with
  | error e=>exact(h).elim
  | ok fl=>
   cases fl with
   | next=>exact dD h
   | brk=>exact dD h
   | cont=>exact dD h
   | ret u=>
    obtain⟨v,H',os,Z,un,I,r',q⟩:=h;have q':=q;subst q';obtain rfl:=r'
    have key:∀b o,f.heap.get? b=ax o->B.heap.get? b=ax o\/(isCodeTable f.heap b/\o=gX #[]/\∃ps,B.heap.get? b=ax (gX ps)):=λb o e=>by
     cases z:H b with
     | none=>exact .inl (un.keep b o e z (by intro z;exact absurd (show b∈([]:List aL) from z) (by simp)) (by simp))
     | some u=>
      have A:=z;rw[<-hH] at A;rcases SQ l j b with⟨r,p,E,t⟩ | ⟨hn,t⟩
      ·rw[t] at A;cases A;obtain⟨more,z4⟩:=un.tbls b _ z;obtain⟨_,_,ps',_,e4,_⟩:=(I b _ z4);have h5:=(hT r p);rw[E] at h5;refine .inr ⟨(h5.1.tab h5.2).isCodeTable,?_,ps',e4⟩;rw[e] at h5;exact bC h5.2
      ·rw[t] at A;by_cases y:b=a
       ·subst y;rcases hA with h | ⟨_,xs,h,_⟩
        ·rw[h] at A;cases A
        ·rw[h] at A;cases A;have z2:=un.frzs b _ _ z;have e1:=(U b _ z).1;have E:=(I b _ z2).1;rw[e] at e1;cases e1;exact .inl E
       ·rw[hO b y] at A;cases A
    refine⟨rfl,⟨λb o e=>?_,λb o e=>?_⟩,os,Z⟩
    ·rcases key b o e with h | ⟨S,J,ps,h3⟩
     ·exact .inl h
     ·subst J;exact .inr (.inl ⟨S,rfl,#[],ps,rfl,by rw[Array.empty_append];exact h3⟩)
    ·rcases key b o e with h | ⟨S,J,ps,h3⟩
     ·exact⟨_,h⟩
     ·exact⟨_,h3⟩
 cases hk:K.lookup a with
 | some o=>
  have e:=KX a o hk;rw[M] at e;cases e;exact Zcd (λ_=>aA) (.inr ⟨_,vs.toArray,_,hk,rfl,rfl,rfl,by rw[aU,lenV];exact hl,by simpa using rv⟩) (.inl rfl) λ_ _=>rfl
 | none=>
  refine Zcd (λb=>if b=a then ax (.frz { cls:=.type "list",data:=.seq vs.toArray } (.lst (ns.map V.int))) else aA) (.inl ⟨{ cls:=.type "list",data:=.seq vs.toArray },p9 rfl⟩) (.inr ⟨hk,_,p9 rfl,M,?_⟩) λb hb=>pW hb;exact⟨by rw[aJ];exact hl,vs,_,rv,M⟩
open PySem.W PySem.Calls in
theorem law_walkT{l:PySem.W.OpenLaw}{q:bM}{i:List bH}{XP:(bH->Option aI)->ba->Prop}{T:bc->ba->Prop}{d:DefRec}{KK:Params->aH}{x:bH}{D:List PV->Option PV}(k:Nat)(hn:l.most=ax 63)(J:d.params.defaults=[])
  (hr:Room k nX) (v:∀w:bc,RN (KK w.params) q=aC) (hD:∀ns:List Int,ns.length<=63->(∀n∈ns,n.natAbs.log2<=1048576)->D [.cst (iL ns)]=ax (.bl aC))
  (Z:∀(w:bc)(h:ba),T w h->(KK w.params).In h)
  (F:∀(w:bc)(mg:bH->Option aI)(C:aL)(h:ba),(KK w.params).In h->h.Ns cO mg->mg d.name=ax (.ref C)->
   ∃H:fL,(∀(s:aO)(u:aI),nP s H ⟨[u],[]⟩ [(x,u)])/\∀base:ba,(KK w.params).In base->base.Ns cO mg->Pq l.prog w (KK w.params) mg base J6 k C H [x] (Y5 (KK w.params) D 1)) :
  PySem.W.WalkO q i XP T l.row.toRowW d [] (λf vs=>PySem.call f vs):=by
 intro w U e mg mb j W C o pm cd doc dv kv ho hd hcd t I B S R as p y hrd M hlo;obtain rfl:dv = .none:=Dflts.none t J;obtain rfl:kv = .none:=Dflts.noKw t;obtain⟨a,vs,ns,rfl,rfl,z,m,b⟩:=Att.script_of hn p M
 have hw:∀n∈ns,n.natAbs.log2<=1048576:=λn h=>by
  have E:(WData.list (ns.map nh)).layable=aC:=bK.mp y _ (aM.mpr rfl);unfold WData.layable at E;have A:=of_decide_eq_true (mJ.mp E).2;have N:WData.weightAll (ns.map nh)<=1048576:=by simpa [WData.weight] using A
  exact cD (Nn h) N
 have O:=Z w _ W;obtain⟨H,hb,hF⟩:=F w mg C _ O j.T.g I;have g:=v w;have Q:=g;unfold RN at Q;simp only[aw] at Q;obtain⟨⟨⟨g1,g2⟩,g3⟩,_⟩:=Q;have hT:∀r∈LS (KK w.params),lW e.heap r.2.1 r.2.2/\e.heap.get? r.2.2=ax (gX #[]):=λr G=>by obtain⟨d',P⟩:=cT.mp (bK.mp g3 r G);exact PySem.W.tab_of j.T O P (Cu (x:=r.1) (c:=r.2.1) (Pt:=r.2.2) G).1
 have L:=j.T.bmain;refine enter_call (gZ (Cw O j.T.g j.T.b j.T.builtins j.T.nolimit B (let⟨bm,ob,b1,Y,b3,b4,X,b6⟩:=L;⟨bm,ob,b1,Y,b3,b4,X,b6⟩) hT g1 (λq c E A=>GN g E A) (of_decide_eq_true g2) z m (cD b (by decide)) hr hF hb (hD ns b hw)) λr s' hq=>?_);obtain⟨rfl,A,N,h4⟩:=hq;exact⟨.inl ⟨.bool aC,.bool aC,[],rfl,λ_=>rfl,.bool aC,Att.post_true l _,λ_=>⟨List.Pairwise.nil,λ_ G=>(nomatch G)⟩⟩,A,N,h4⟩
end VL
namespace VL
open PySem L2
noncomputable def Zl5:cB->Option (mO×bO×gC)
 | .Return (ax (.Call _ [_,_,.Lambda a b sc _] _ _)) _=>ax (a,b,sc)
 | .Assign _ (.Call _ [_,_,.Lambda a b sc _] _ _) _=>ax (a,b,sc)
 | _=>aA
noncomputable def NG(st:cB)(i:Nat)(q free:bH):Lam:=match (Yy st)[i]? with
 | some s=>(match Zl5 s with
  | some (a,b,sc)=>⟨Oz q,a,b,sc,free⟩
  | none=>⟨Oz q,Xm st,.Name free ⟨0,0,0,0⟩,Zf st,free⟩)
 | none=>⟨Oz q,Xm st,.Name free ⟨0,0,0,0⟩,Zf st,free⟩
end VL
namespace PW
open PySem L2 VL VX
noncomputable def XU(i:Nat):cB:=iX.main.body.getD i (.Pass ⟨0,0,0,0⟩)
noncomputable def Yn:Lam:=NG (XU 43) 1 "still_by" "tree"
noncomputable def Uu:XE:=(Zm (PF aB) (Za 0) (Za 3))
noncomputable def YN:Lam:=NG (XU 50) 2 "made_of" "heads"
noncomputable def T5:XE:=(Zm (Xz aB) (Zm ZR (Za 3) (Za 0)) (Za 1))
noncomputable def YO:Lam:=NG (XU 38) 1 "tree_of" "purse"
noncomputable def T6:XE:=(Zm MO (Zm ZR (Za 3) (Za 1)) (Za 2))
open Classical in
noncomputable def VZ(L:Lam)(l:PV)(ls:List PV):Option PV:=if L=Yn then Uu (ls.map ax++[ax l]) else if L=YN then T5 (ls.map ax++[ax l]) else if L=YO then T6 (ls.map ax++[ax l]) else aA
noncomputable def Qx:XS:=(Zn (YU [] (Xf aC [Za 0]) (.many [3,4]) (Ru (OO (xB (Zm (PF aC) (Za 3) (Za 1))) (xB (Zm (Xz aC) (Zm (PF aB) (Zm ZR (Za 4) (eC (.int 0))) (Za 2)) (Zm (PF aB) (Zm ZR (Za 4) (eC (.int 1))) (Za 2))))) (ZQ (eP (Za 3))) YE))
  (ZQ (eP (eC .non))))
noncomputable def Xe:List PV->Option PV:=YF 5 Qx
noncomputable def Zao:XS:=(Zn (Zs 3 (Ze Xv [Za 0]))
  (Zn (Zs 4 (Wz [eP (Za 1)]))
  (Zn (Zs 5 (Wz []))
  (Zn (Zs 6 (Wz []))
  (Zn (Zs 7 (Ze Xe [Za 3,Za 5,Za 4]))
  (Zn (XC (xB (Rj aC (Za 7))) (Zn (Yz 5 (eP (Za 7)))
  (Zn (Zs 8 (eP (OP (xB (Zm (PF aB) (Zm ZR (Zm ZR (Za 3) (Za 7)) (eC (.int 0))) (Za 4))) (Zm ZR (Zm ZR (Za 3) (Za 7)) (eC (.int 1))) (Zm ZR (Zm ZR (Za 3) (Za 7)) (eC (.int 0))))))
  (Zn (Zs 9 (eP (Ze ZN [Zw 1 [8,3] (YL (Za 5)) (.one 0) (xB (Zm (PF aB) (Za 1) (O0 PH (Zm ZR (Za 2) (Za 0)) MR (Qk (eC (.int 2)))))) (Za 0)])))
  (Zn (Ru (xV (Zak VZ 2 [Za 7,Za 8,Za 9])) (Zn (Yz 4 (eP (Za 8)))
  (Yz 6 (eP (Wy [Za 7,Za 8,Za 9])))) YE)
  (Zs 7 (Ze Xe [Za 3,Za 5,Za 4])))))))
  (ZQ (Za 6))))))))
noncomputable def V0:List PV->Option PV:=YF 10 Zao
noncomputable def GP:XS:=(Zn (Zs 3 (Zm Gu (Wz [eC (.int 0)]) (Ze ZN [Za 0])))
  (Zn (Zs 4 (ND V0 (Za 0) (Za 1) Yn 2))
  (Zn (YU [3] (YL (Za 4)) (.many [5,6,7]) (SM 3 (Za 6) (Zm Wi (Za 7) (eC (.int 1)))))
  (ZQ (eP (Ze Z1 [Za 3]))))))
noncomputable def Uv:List PV->Option PV:=YF 8 GP
noncomputable def GQ:XS:=(Zn (Ru (Py (xB (Ze T2 [Za 0,Za 2]))) KO YE)
  (ZQ (Ze Uv [Za 0,Za 1,Za 2])))
noncomputable def NH:List PV->Option PV:=YF 3 GQ
noncomputable def NI:XS:=(Ru (xB (Zm (Xz aC) (Ze Of [Za 1]) (Ze RG [Za 0]))) KO YE)
noncomputable def WV:List PV->Option PV:=YF 2 NI
noncomputable def PQ:XS:=(Zn (Zs 2 (Wz [eP (Wy [Wy [],Pz Ie (eC (.int 1))])]))
  (Zn (YU [] (Xf aB [Za 1]) (.many [3,4]) (Zs 2 (Zm LB (Za 2) (Zw 2 [3,0,4] (YL (Za 2)) (.many [0,1]) ZD (Wy [Zm LF (Za 0) (Wy [Za 2]),Zm Wi (Zm YJ (Zm YJ (Za 1) (Za 4)) (eC (.int 1))) (Ze X3 [Za 3,Za 2,Za 0])])))))
  (Zn (Zs 5 (Zw 2 [] (YL (O0 SK (Za 2) (Qk (eC (.int 1))) MR)) (.many [0,1]) (xB (Zm MO (Za 1) (eC (.int 0)))) (eP (Za 0))))
  (ZQ (eP (OP (xB (Zm El (Ze ZN [Za 5]) (eC (.int 0)))) (Zm ZR (Za 5) (eC (.int 0))) (eC .non)))))))
noncomputable def YV:List PV->Option PV:=YF 6 PQ
noncomputable def GR:XS:=(Zn (YU [] (Xf aB [Za 1]) (.many [2,3]) (Ru (xB (Zm El (Zm T3 (Za 0) (Za 2)) (Za 3))) (ZQ (eP (Za 2))) YE))
  (ZQ (eP (eC .non))))
noncomputable def WX:List PV->Option PV:=YF 4 GR
noncomputable def IJ:XS:=(ZQ (eP (OP (xB (Zm (Xz aB) (Za 1) (Zm ZR (Za 0) (eC (.int 0))))) (Zm ZR (Za 0) (eC (.int 1))) (Zm ZR (Za 0) (eC (.int 0))))))
noncomputable def Vm:List PV->Option PV:=YF 2 IJ
noncomputable def LU:XS:=(Zn (Zs 4 (Zaf (Za 3) (Ct (Wz []))))
  (Zn (Zs 5 (Wz [eP (Za 3)]))
  (Zn (Zs 6 (eP (eC (.int 0))))
  (Zn (XC (xB (Zm oGe (Zm T3 (Za 1) (Zm ZR (Za 5) (Za 6))) (Zm ZR (Za 2) (Zm ZR (Za 5) (Za 6))))) (Zn (Zs 7 (eP (Zm ZR (Za 5) (Za 6))))
  (Zn (YU [4,5] (Xf aC [Za 1]) (.many [8,9]) (Zn (Zs 10 (Ze Vm [Zm ZR (Za 0) (Za 8),Za 9]))
  (Ru (OO (xB (Zm (Xz aB) (Za 9) (Za 7))) (xB (Zed aC (Za 10) (Za 4)))) (Zn (sDPut 4 (Za 10) (Ct (Zm Zae (Zm UL (Za 4) (Za 7)) (Wz [eP (Za 8)]))))
  (Yz 5 (eP (Za 10)))) YE)))
  (Zi8 6 YJ (eC (.int 1))))))
  (ZQ (eP (Zm UL (Za 4) (Zm ZR (Za 5) (Za 6)))))))))
noncomputable def Qy:List PV->Option PV:=YF 11 LU
noncomputable def Pc:XS:=(Zn (Zs 2 (Ze Xv [Za 0]))
  (Zn (Zs 3 (Zw 1 [] (YL (Za 2)) (.one 0) ZD (eP (Zm ZR (Za 0) (eC (.int 0))))))
  (Zn (Zs 4 (Ze WX [Za 3,Za 1]))
  (Zn (XC (xB (Rj aC (Za 4))) (Zn (Zs 5 (Ze Qy [Za 2,Za 3,Za 1,Za 4]))
  (Zn (YU [3] (YL (Za 5)) (.one 6) (SM 3 (Za 6) (Ze Vm [Zm ZR (Za 2) (Za 6),Zm ZR (Za 3) (Za 6)])))
  (Zs 4 (Ze WX [Za 3,Za 1])))))
  (ZQ (Za 3))))))
noncomputable def Tg:List PV->Option PV:=YF 7 Pc
noncomputable def Cy:XS:=(ZQ (eP (Ze Z1 [Ze RJ [Zw 1 [] (YL (Ze V0 [Za 0,Za 1,Za 2])) (.one 0) ZD (Zm ZR (Za 0) (eC (.int 0)))]])))
noncomputable def WL:List PV->Option PV:=YF 3 Cy
noncomputable def Cz:XS:=(Zn (Zs 2 (Ze RH [Ze Vt [Za 1,Zm AQ (Wy [eC (.int 1)]) (Ze ZN [Za 0])],Ze Nv [Za 0,eC (.int 0)]]))
  (Zn (Zs 3 (eP (Ct (Ze Tg [Za 0,Za 2]))))
  (Zn (Zs 4 (ND WL (Za 0) (eC (.int 0)) YN 3))
  (ZQ (eP (Wy [Za 4,Ze Z1 [Zw 2 [4] (Xf aC [Za 3]) (.many [0,1]) (xB (Zm (PF aC) (Za 0) (Za 2))) (Za 1)]]))))))
noncomputable def Qz:List PV->Option PV:=YF 5 Cz
noncomputable def Zap:XS:=(ZQ (eP (Ze Z1 [Zw 1 [0] (Yk [Ze ZN [Za 0]]) (.one 0) ZD (Zm Wi (Zm SD (Ze VN [Za 1,Za 0]) (eC (.int 2))) (eC (.int 1)))])))
noncomputable def NJ:List PV->Option PV:=YF 1 Zap
noncomputable def IK:XS:=(Zn (sEx (Ze WV [Za 0,Za 1]))
  (Zn (Zs 2 (Ze X5 [Za 0,Ze RH [Za 1,Ze NJ [Za 0]],eC (.int 0)]))
  (Zn (Zs 3 (Ze VP [Za 0,Za 1,Za 2]))
  (Zn (Zs 4 (Ze YV [Za 0,Za 3]))
  (Zn (XC (xB (Rj aC (Za 4))) (Zn (Zs 5 (Ze YB [Za 0,Za 4]))
  (Zn (Zs 2 (Ze Vt [Za 2,Za 5]))
  (Zn (Zs 3 (Ze VP [Za 0,Za 3,Za 5]))
  (Zs 4 (Ze YV [Za 0,Za 3]))))))
  (Zn (Zs 6 (Ze Qz [Za 0,Za 3]))
  (ZQ (eP (Wy [Ze T1 [Za 2],Za 3,Zm ZR (Za 6) (eC (.int 0)),Zm ZR (Za 6) (eC (.int 1))])))))))))
noncomputable def RO:List PV->Option PV:=YF 7 IK
noncomputable def KZ:XS:=(ZQ (eP (Kr (Zm (Xz aB) (Ze ZN [Ze YZ [Za 1,Za 2]]) (eC (.int 0))) (Zm (Xz aB) (Ze ZN [Ze Vk [Za 0,Za 1,Za 2]]) (Ze ZN [Za 0])))))
noncomputable def WD:List PV->Option PV:=YF 3 KZ
noncomputable def CA:XS:=(Zn (Ru (Py (xB (Ze WD [Za 0,Za 2,Za 1]))) KO YE)
  (ZQ (ND WL (Za 0) (Za 1) YO 2)))
noncomputable def T7:List PV->Option PV:=YF 3 CA
noncomputable def Ze5:XS:=(Zn (Zs 3 (Ze NH [Za 0,Za 1,Za 2]))
  (Zn (Ru (Gj (Py (xB (Ze Ut [Za 3,Ze ZN [Za 0]]))) (xB (Zm (Xz aC) (Zm ZR (Za 3) (Za 1)) (eC (.int 0))))) (ZQ (eP (eC .non))) YE)
  (Zn (Zs 4 (Ze Vr [Za 3]))
  (Zn (SM 4 (Za 1) (Zm Wi (Ze Qt [Za 0]) (Ze Rq [Za 3])))
  (Zn (Zs 5 (Ze RO [Za 0,Ze Z1 [Za 4]]))
  (Zn (Ru (Gj (Py (xB (Ze UK [Za 5,eC (.ty "tuple")]))) (Gj (xB (Zm (Xz aC) (Ze ZN [Za 5]) (eC (.int 4)))) (Py (xB (Ze Ut [Zm ZR (Za 5) (eC (.int 0)),Ze ZN [Za 0]]))))) (ZQ (eP (eC .non))) YE)
  (Zn (Ru (Gj (xB (Zm (Xz aC) (Ze Nu [Za 0,Za 4,Zm ZR (Za 5) (eC (.int 0))]) (Zm ZR (Za 5) (eC (.int 1))))) (xB (Zm MO (Ze AV [Zm ZR (Za 5) (eC (.int 1))]) (eC (.int 0))))) (ZQ (eP (eC .non))) YE)
  (Zn (Zs 6 (eP (Zm ZR (Ze Tc [Za 0,Zm ZR (Za 5) (eC (.int 1)),Za 1]) (eC (.int 1)))))
  (Zn (Ru (Gj (xB (Zm (Xz aC) (Za 6) (Ze Z1 [Za 4]))) (xB (Zm (Xz aC) (Ze T7 [Za 0,Za 1,Za 6]) (Za 2)))) (ZQ (eP (eC .non))) YE)
  (ZQ (eP (Zm ZR (Za 5) (eC (.int 1))))))))))))))
noncomputable def K1:List PV->Option PV:=YF 7 Ze5
noncomputable def Zhe:XS:=(Zn (Zs 1 (Ze KR [Za 0,Wz [eC (.int 1),eC (.int 2),eC (.int 3),eC (.int 4),eC (.int 5)],eC (.int 8)]))
  (Zn (Zs 2 (Ze Xj [Ze Vu [Za 0,eC (.int 13)],eC (.int 331),Ze ZN [Za 1]]))
  (Zn (Zs 3 (eC (.dT [] [])))
  (Zn (YU [3] (YL (Zm LB (Wz [Ze Vu [Za 0,eC (.int 12)]]) (O0 SK (Za 0) (Qk (eC (.int 13))) (Qk (eC (.int 21)))))) (.one 4) (Zn (Zs 5 (Ze Ny [Za 1,Za 4]))
  (Zn (Zs 6 (Ze K1 [Za 1,Za 2,Za 5]))
  (Zn (Ru (Gj (xB (Rj aB (Za 6))) (xB (Zm (Xz aC) (O7 (Za 3) (Za 6) (Za 5)) (Za 5)))) (ZQ (eP (eC (.bl aB)))) YE)
  (sDPut 3 (Za 6) (Za 5))))))
  (ZQ (eP (eC (.bl aC))))))))
noncomputable def D_law:List PV->Option PV:=YF 7 Zhe
end PW
namespace VL
open PySem PySem.Spec PyProof.Rows L2
theorem Wm{N P:List bH}{h:gC}(a:h.kind = .function:=by rfl)(b:h.isCoroutine=aB:=by rfl)(c:h.isGenerator=aB:=by rfl)(d:N.Nodup:=by decide +kernel)(e:N.take P.length=P:=by rfl)
  (f:∀x∈P,h.names.lookup x=ax .local\/h.names.lookup x=ax .cell:=by decide +kernel) (g:∀y∈h.names,y.2≠.free:=by decide +kernel):Zq N P h:=⟨a,b,c,d,e,f,g⟩
section
variable {X:Cx} {e e1 e2 e3 e4 e5:bO} {f f1 f2 f3 f4 f5:XE} {es:List bO} {fs:List XE} {x:bH} {p pos pos':dw} {k k' n:Nat} {O W:List Nat}
theorem vo(i:Nat)(c:X.N[i]?=ax x:=by rfl)(b:Vis X.env.scope x:=by first | exact j5 rfl | exact mq (j5 rfl) | exact mq (mq rfl))(hd:(x==("__debug__" : bH))=aB:=by decide)
  (a:(x==("__classdict__" : bH))=aB:=by decide):VE X (.Name x pos) (Za i):=Rc (pv i c b hd a)
theorem Y4(a:VE X e1 f1)(b:aP [e1] X.env=(aB,eval e1 X.env)::aP [] X.env:=by rfl):VA X [e1] [f1]:=Wx a Qg b
theorem Wk(a:VE X e1 f1)(b:VE X e2 f2)(c:aP [e1,e2] X.env=(aB,eval e1 X.env)::aP [e2] X.env:=by rfl)(d:aP [e2] X.env=(aB,eval e2 X.env)::aP [] X.env:=by rfl):VA X [e1,e2] [f1,f2]:=Wx a (Y4 b d) c
theorem Uw(a:VE X e1 f1)(b:VE X e2 f2)(c:VE X e3 f3)(f:aP [e1,e2,e3] X.env=(aB,eval e1 X.env)::aP [e2,e3] X.env:=by rfl)(d:aP [e2,e3] X.env=(aB,eval e2 X.env)::aP [e3] X.env:=by rfl)(e:aP [e3] X.env=(aB,eval e3 X.env)::aP [] X.env:=by rfl):VA X [e1,e2,e3] [f1,f2,f3]:=Wx a (Wk b c d e) f
theorem va4(a:VE X e1 f1)(b:VE X e2 f2)(c:VE X e3 f3)(d:VE X e4 f4)(h:aP [e1,e2,e3,e4] X.env=(aB,eval e1 X.env)::aP [e2,e3,e4] X.env:=by rfl)(e:aP [e2,e3,e4] X.env=(aB,eval e2 X.env)::aP [e3,e4] X.env:=by rfl)(f:aP [e3,e4] X.env=(aB,eval e3 X.env)::aP [e4] X.env:=by rfl)(g:aP [e4] X.env=(aB,eval e4 X.env)::aP [] X.env:=by rfl):VA X [e1,e2,e3,e4] [f1,f2,f3,f4]:=Wx a (Uw b c d e f g) h
theorem Vc{g:List bH}{D:List PV->Option PV}(C:Xi X.prog X.w X.K X.mg X.base x g (Y5 X.K D n) k)(i:Room k' X.A)(j:VA X (e::es) fs)(h:k<=k':=by decide)(c:Gl X x:=by rfl)(d:fs.length=n:=by rfl)
  (b:(x==("__debug__" : bH))=aB:=by decide) (f:aP (e::es) X.env=(aB,eval e X.env)::aP es X.env:=by rfl) (a:(dC pos (aP es X.env)).any (·.1)=aB:=by rfl) :
  VM X (.Call (.Name x p) (e::es) [] pos) (Ze D fs):=Em C (i.mono h) c j d b f a
theorem V8{g:List bH}{D:List PV->Option PV}(C:Xi X.prog X.w X.K X.mg X.base x g (Y5 X.K D n) k)(i:Room k' X.A)(j:VA X (e::es) fs)(h:k<=k':=by decide)(c:Gl X x:=by rfl)(d:fs.length=n:=by rfl)
  (b:(x==("__debug__" : bH))=aB:=by decide) (f:aP (e::es) X.env=(aB,eval e X.env)::aP es X.env:=by rfl) (a:(dC pos (aP es X.env)).any (·.1)=aB:=by rfl) :
  VE X (.Call (.Name x p) (e::es) [] pos) (Ze D fs):=VM.ve (Em C (i.mono h) c j d b f a)
theorem vb{id:String}{r:List V->Hp->VK->Prop}{g:List PV->Option PV}(i:XW X (.builtin id) r)(j:RC X.K r g)(l:X.mg x=aA)(k:VA X (e::es) fs)(c:Gl X x:=by rfl)(d:dB x=ax (.builtin id):=by decide +kernel)(f:x≠"__name__":=by decide)(b:(x==("__debug__" : bH))=aB:=by decide)
  (h:aP (e::es) X.env=(aB,eval e X.env)::aP es X.env:=by rfl) (a:(dC pos (aP es X.env)).any (·.1)=aB:=by rfl):VE X (.Call (.Name x p) (e::es) [] pos) (Ze g fs):=Ig i j c l d k f b h a
theorem vmb{id:String}{r:List V->Hp->VK->Prop}{g:List PV->Option PV}(i:XW X (.builtin id) r)(j:RCM X.K r g)(l:X.mg x=aA)(k:VA X (e::es) fs)(c:Gl X x:=by rfl)(d:dB x=ax (.builtin id):=by decide +kernel)(f:x≠"__name__":=by decide)(b:(x==("__debug__" : bH))=aB:=by decide)
  (h:aP (e::es) X.env=(aB,eval e X.env)::aP es X.env:=by rfl) (a:(dC pos (aP es X.env)).any (·.1)=aB:=by rfl):VM X (.Call (.Name x p) (e::es) [] pos) (Ze g fs):=Aj i j c l d k f b h a
theorem V9(g:X.mg "len" = aA)(d:VE X e f)(c:Gl X "len":=by rfl)(b:aP [e] X.env=(aB,eval e X.env)::aP [] X.env:=by rfl)(a:(dC pos (aP [] X.env)).any (·.1)=aB:=by rfl):VE X (.Call (.Name "len" p) [e] [] pos) (Ze ZN [f]):=
 Ig BN Zi1 c g (by decide +kernel) (Y4 d b) (by decide) (by decide) b a
theorem Yg{a:XE}(i:Nat)(f:X.N.Nodup)(c:VM X e a)(g:X.N[i]?=ax x:=by rfl)(b:BB X.env.scope x:=by first | exact j5 rfl | exact mq rfl)(d:iC e (ax (.Name x pos')) pos.line X.env=pure aB:=by rfl)(h:X.fn x=aC\/X.env.scope.names.lookup x=ax .local:=by first | exact .inl rfl | exact .inr rfl | assumption) :
  VS X O [i] (.Assign [.Name x pos'] e pos) (Zs i a):=Zi6 f g b c d h
theorem Sm(i:Nat)(b:X.N.Nodup)(c:X.N[i]?=ax x:=by rfl)(a:BB X.env.scope x:=by first | exact j5 rfl | exact mq rfl)(d:X.fn x=aC\/X.env.scope.names.lookup x=ax .local:=by first | exact .inl rfl | exact .inr rfl | assumption):PG X (.Name x pos) (Sq i):=P7 b c a d
theorem Sy(i:Nat){N:List bH}{a:gC}{cl:List (bH×aL)}{C:aL}{s:aO}{H:Hp}{b:List aL}(d:N.Nodup:=by decide +kernel)(e:N[i]?=ax x:=by rfl)(c:BB (ZI X N a cl C s H b).env.scope x:=by exact j5 rfl)(f:(ZI X N a cl C s H b).env.scope.names.lookup x=ax .local:=by rfl):PG (ZI X N a cl C s H b) (.Name x pos) (Sq i):=P7 d e c (.inr f)
end
section
variable {X:Cx} {tg iter elt e1 e2:bO} {fi:XL} {T:Tgt} {ft:XT} {fe f1 f2:XE} {p pos pos':dw} {O W:List Nat} {body:List cB} {fb:XS} {scope:gC}
theorem MJ(f:VI X tg iter fi)(a:PG X tg (gT X.K T))(b:VSs X O W body fb)(g:mM (model X.prog X.w) X.A X.env X.xe:=by exact eZ)(d:X.calm=aC:=by rfl)(e:∀i∈T.slots,i∉O:=by decide)
  (c:∀x,cK iter X.env x=pure x:=by intro _;rfl):VS X O (T.slots++W) (.For tg iter body [] pos) (YU O fi T fb):=Zi7 g d f a b e c
theorem GS(d:X.mg "range" = aA)(c:VE X e1 f1)(b:Gl X "range":=by rfl)(a:aP [e1] X.env=[(aB,eval e1 X.env)]:=by rfl):VI X tg (.Call (.Name "range" p) [e1] [] pos) (Yk [f1]):=DV b d (Y4 c (by rw[a];rfl)) a
theorem vr2(f:X.mg "range" = aA)(e:VE X e1 f1)(d:VE X e2 f2)(c:Gl X "range":=by rfl)(b:aP [e1,e2] X.env=[(aB,eval e1 X.env),(aB,eval e2 X.env)]:=by rfl)(a:aP [e2] X.env=[(aB,eval e2 X.env)]:=by rfl):VI X tg (.Call (.Name "range" p) [e1,e2] [] pos) (VD [f1,f2]):=DW c f (Wk e d (by rw[b,a]) (by rw[a];rfl)) b a
theorem CB(o:bH)(fr:List bH)(a:List Nat)(b:VI X (.Name o pos') iter fi)(f:∀{cl C s H ex},VE (ZI X ([o]++fr) scope cl C s H ex) elt fe)(S:Ud X.N X.env.scope scope [o] fr a=aC:=by kernel_rfl)
  (e:([o]++fr).Nodup:=by decide +kernel) (c:∀cl C s H ex,BB (ZI X ([o]++fr) scope cl C s H ex).env.scope o:=by intro _ _ _ _ _;exact j5 rfl) (d:∀cl C s H ex,(ZI X ([o]++fr) scope cl C s H ex).env.scope.names.lookup o=ax .local:=by intro _ _ _ _ _;rfl) (j:X.calm=aC:=by rfl) (g:∀x,cK iter X.env x=pure x:=by intro _;rfl) :
  VE X (.ListComp elt [⟨.Name o pos',iter,[],0⟩] scope pos) (Zw 1 a fi (.one 0) ZD fe):=Wf [o] fr a j b S (λ_ _ _ _ _=>P7 (i:=0) e rfl (c _ _ _ _ _) (.inr (d _ _ _ _ _))) (λ_ _ _ _ _=>Yq) (λ_ _ _ _ _=>f) (λi b=>by cases b with | head=>exact lK | tail _ h=>cases h) g
theorem vcq{a:List bO}(o:bH)(fr:List bH)(b:List Nat)(c:VI X (.Name o pos') iter fi)(l:∀{cl C s H ex},VTs (ZI X ([o]++fr) scope cl C s H ex) a ft)(g:∀{cl C s H ex},VE (ZI X ([o]++fr) scope cl C s H ex) elt fe)(S:Ud X.N X.env.scope scope [o] fr b=aC:=by kernel_rfl)
  (f:([o]++fr).Nodup:=by decide +kernel) (d:∀cl C s H ex,BB (ZI X ([o]++fr) scope cl C s H ex).env.scope o:=by intro _ _ _ _ _;exact j5 rfl) (e:∀cl C s H ex,(ZI X ([o]++fr) scope cl C s H ex).env.scope.names.lookup o=ax .local:=by intro _ _ _ _ _;rfl) (k:X.calm=aC:=by rfl) (j:∀x,cK iter X.env x=pure x:=by intro _;rfl) :
  VE X (.ListComp elt [⟨.Name o pos',iter,a,0⟩] scope pos) (Zw 1 b fi (.one 0) ft fe):=Wf [o] fr b k c S (λ_ _ _ _ _=>P7 (i:=0) f rfl (d _ _ _ _ _) (.inr (e _ _ _ _ _))) (λ_ _ _ _ _=>l) (λ_ _ _ _ _=>g) (λi c=>by cases c with | head=>exact lK | tail _ h=>cases h) j
end
section
variable {K:aH} {P:bM} {w:bc} {mg:bH->Option aI} {base:ba} {x a b c d e:bH} {st:cB} {N:List bH} {k m:Nat} {O W:List Nat} {f:XS}
abbrev BdA(x:bH)(st:cB)(us:List aI)(r:List (bH×aI)):Prop:=∀(kV doc pm:aI)(an:Option aL)(cdv ct:aI),j4 (dP x x (Xm st) (Yy st) (Zf st) .none kV doc pm an cdv ct) ⟨us,[]⟩=pure r
abbrev Ze6(P:bM)(w:bc)(K:aH)(mg:bH->Option aI)(base:ba)(N:List bH)(x:bH)(st:cB)(k:Nat)(O W:List Nat)(f:XS):Prop:=∀{fa:aL}{cdv:aI}{A:bq}{outer:List ma}{s:aO}{H:Hp}{E:XK},Room k (A.deeper (iZ x (Zf st) s.heap.objs.size fa cdv))->VSs (OC J6 P w K mg base N x (Zf st) fa cdv A outer s H E).nox O W (Yy st) f
theorem dk1(O:List Nat)(D:Def K mg x st)(S:Zq N [a] (Zf st))(q:Ze6 P w K mg base N x st k O W f)(c:∀t,BdA x st [t] [(a,t)]:=by intro _ _ _ _ _ _ _;rfl)(h:N.length=m:=by rfl)(e:∀i∈O,1<=i:=by decide):Xi P w K mg base x [a] (Y5 K (YF m f) 1) (k+1):=
 KD m f D S (λ_ _ _ _ _ _ d b=>match d,b with | [t],_=>c t _ _ _ _ _ _) rfl h e λ_ _ _ _ _ _ _ g=>q g
theorem K2(O:List Nat)(D:Def K mg x st)(S:Zq N [a,b] (Zf st))(q:Ze6 P w K mg base N x st k O W f)(d:∀t u,BdA x st [t,u] [(a,t),(b,u)]:=by intro _ _ _ _ _ _ _ _;rfl)(j:N.length=m:=by rfl)(g:∀i∈O,2<=i:=by decide):Xi P w K mg base x [a,b] (Y5 K (YF m f) 2) (k+1):=
 KD m f D S (λ_ _ _ _ _ _ e c=>match e,c with | [t,u],_=>d t u _ _ _ _ _ _) rfl j g λ_ _ _ _ _ _ _ h=>q h
theorem LV(O:List Nat)(D:Def K mg x st)(S:Zq N [a,b,c] (Zf st))(q:Ze6 P w K mg base N x st k O W f)(e:∀t u v,BdA x st [t,u,v] [(a,t),(b,u),(c,v)]:=by intro _ _ _ _ _ _ _ _ _;rfl)(l:N.length=m:=by rfl)(h:∀i∈O,3<=i:=by decide):Xi P w K mg base x [a,b,c] (Y5 K (YF m f) 3) (k+1):=
 KD m f D S (λ_ _ _ _ _ _ g d=>match g,d with | [t,u,v],_=>e t u v _ _ _ _ _ _) rfl l h λ_ _ _ _ _ _ _ j=>q j
theorem dk4(O:List Nat)(D:Def K mg x st)(S:Zq N [a,b,c,d] (Zf st))(q:Ze6 P w K mg base N x st k O W f)(g:∀t u v y,BdA x st [t,u,v,y] [(a,t),(b,u),(c,v),(d,y)]:=by intro _ _ _ _ _ _ _ _ _ _;rfl)(n:N.length=m:=by rfl)(j:∀i∈O,4<=i:=by decide):Xi P w K mg base x [a,b,c,d] (Y5 K (YF m f) 4) (k+1):=
 KD m f D S (λ_ _ _ _ _ _ h e=>match h,e with | [t,u,v,y],_=>g t u v y _ _ _ _ _ _) rfl n j λ_ _ _ _ _ _ _ l=>q l
end
end VL
namespace PW
open PySem L2 VL VX
section
variable (P:bM) (w:bc) (K:aH) (mg:bH->Option aI) (base:ba)
abbrev Th:Prop:=Xi P w K mg base "_law_pick" ["_law_cell","_law_salt","_law_many"] (Y5 K Xj 3) 1
abbrev Ux:Prop:=Xi P w K mg base "_law_read_web" ["_law_number","_law_sizes","_law_most"] (Y5 K Us 3) 1
abbrev K3:Prop:=Xi P w K mg base "_law_at" ["_law_script","_law_k"] (Y5 K Vu 2) 1
abbrev K4:Prop:=Xi P w K mg base "_law_web" ["_law_script","_law_sizes","_law_most"] (Y5 K KR 3) 2
abbrev NK:Prop:=Xi P w K mg base "_law_ties" ["_law_web_here"] (Y5 K Nx 1) 1
abbrev NL:Prop:=Xi P w K mg base "_law_tree" ["_law_web_here","_law_cell"] (Y5 K Ny 2) 2
abbrev WM:Prop:=Xi P w K mg base "ties_of" ["web"] (Y5 K Xv 1) 1
abbrev X6:Prop:=Xi P w K mg base "tie_to_look_at" ["ties","looked","fire"] (Y5 K Xe 3) 1
abbrev RP:Prop:=Xi P w K mg base "walked" ["web","base","burns"] (Y5 K V0 3) 2
abbrev SR:Prop:=Xi P w K mg base "still_by" ["web","base","tree"] (Y5 K Uv 3) 3
abbrev Ti:Prop:=Xi P w K mg base "pieces_of" ["web","ties","grove"] (Y5 K Y7 3) 1
abbrev QA:Prop:=Xi P w K mg base "is_tree" ["web","numbers"] (Y5 K T2 2) 2
abbrev SS:Prop:=Xi P w K mg base "still_of" ["web","base","tree"] (Y5 K NH 3) 4
abbrev K5:Prop:=Xi P w K mg base "total" ["purse"] (Y5 K Of 1) 1
abbrev K6:Prop:=Xi P w K mg base "loops" ["web"] (Y5 K RG 1) 2
abbrev WY:Prop:=Xi P w K mg base "refuse_total" ["web","purse"] (Y5 K WV 2) 3
abbrev QB:Prop:=Xi P w K mg base "reduced" ["row","by","place","divisor"] (Y5 K Qr 4) 1
abbrev NM:Prop:=Xi P w K mg base "evened" ["rows"] (Y5 K Np 1) 2
abbrev WZ:Prop:=Xi P w K mg base "solved_below" ["square","column"] (Y5 K WT 2) 3
abbrev T8:Prop:=Xi P w K mg base "ties_at" ["web","house"] (Y5 K VN 2) 1
abbrev NN:Prop:=Xi P w K mg base "row_of" ["web","house","others"] (Y5 K Nr 3) 2
abbrev X7:Prop:=Xi P w K mg base "square_without" ["web","base"] (Y5 K X4 2) 3
abbrev T9:Prop:=Xi P w K mg base "nearing" ["web","purse","base"] (Y5 K X5 3) 4
abbrev GU:Prop:=Xi P w K mg base "gain" ["web","script","house"] (Y5 K Nh 3) 1
abbrev EV:Prop:=Xi P w K mg base "run" ["web","purse","script"] (Y5 K VP 3) 2
abbrev Sa:Prop:=Xi P w K mg base "ties_to" ["web","house","others"] (Y5 K X3 3) 1
abbrev Wo:Prop:=Xi P w K mg base "lacking_among" ["web","purse"] (Y5 K YV 2) 2
abbrev Og:Prop:=Xi P w K mg base "minus" ["one","other"] (Y5 K RH 2) 1
abbrev SU:Prop:=Xi P w K mg base "overfull" ["heads","wanted"] (Y5 K WX 2) 1
abbrev Vn:Prop:=Xi P w K mg base "other_end" ["tie","end"] (Y5 K Vm 2) 1
abbrev QC:Prop:=Xi P w K mg base "way_out" ["ties","heads","wanted","house"] (Y5 K Qy 4) 2
abbrev Tj:Prop:=Xi P w K mg base "heads_for" ["web","wanted"] (Y5 K Tg 2) 3
abbrev Sb:Prop:=Xi P w K mg base "tree_by" ["web","base","burns"] (Y5 K WL 3) 3
abbrev NO:Prop:=Xi P w K mg base "plus" ["one","other"] (Y5 K Vt 2) 1
abbrev NP:Prop:=Xi P w K mg base "one_at" ["web","house"] (Y5 K Nv 2) 1
abbrev QD:Prop:=Xi P w K mg base "made_of" ["web","purse"] (Y5 K Qz 2) 4
abbrev Vo:Prop:=Xi P w K mg base "borrowing" ["web","houses"] (Y5 K YB 2) 1
abbrev Oh:Prop:=Xi P w K mg base "least" ["script"] (Y5 K T1 1) 1
abbrev NQ:Prop:=Xi P w K mg base "middle" ["web"] (Y5 K NJ 1) 2
abbrev NR:Prop:=Xi P w K mg base "broken" ["web","purse"] (Y5 K RO 2) 5
abbrev QE:Prop:=Xi P w K mg base "_law_loops" ["_law_web_here"] (Y5 K Qt 1) 1
abbrev Sd:Prop:=Xi P w K mg base "in_debt" ["purse","base"] (Y5 K YZ 2) 1
abbrev Wq:Prop:=Xi P w K mg base "house_to_burn" ["web","purse","fire"] (Y5 K Z5 3) 2
abbrev Oi:Prop:=Xi P w K mg base "burnt" ["web","purse","base"] (Y5 K Vk 3) 3
abbrev NS:Prop:=Xi P w K mg base "settle" ["web","purse","base"] (Y5 K Tc 3) 5
abbrev QF:Prop:=Xi P w K mg base "_law_whole" ["_law_found"] (Y5 K VQ 1) 1
abbrev SV:Prop:=Xi P w K mg base "_law_wholes" ["_law_found","_law_many"] (Y5 K Ut 2) 2
abbrev NT:Prop:=Xi P w K mg base "_law_lend" ["_law_web_here","_law_purse","_law_script"] (Y5 K Nu 3) 1
abbrev Uy:Prop:=Xi P w K mg base "is_settled" ["web","purse","base"] (Y5 K WD 3) 4
abbrev QG:Prop:=Xi P w K mg base "tree_of" ["web","base","purse"] (Y5 K T7 3) 5
abbrev K7:Prop:=Xi P w K mg base "_law_one" ["_law_web_here","_law_base","_law_tree_here"] (Y5 K K1 3) 6
end
section
variable {P:bM} {w:bc} {K:aH} {mg:bH->Option aI} {base:ba}
theorem IL:Tf (["tie","house","seen","tree"]:List bH) (["tie","house","seen"]:List bH) Yn:=⟨rfl,rfl,rfl,by decide +kernel,by decide +kernel,rfl,by decide +kernel,rfl,by decide +kernel,by decide +kernel⟩
theorem IM(B:XQ mg):LR P w K mg base 1 Yn (λl ls=>Uu (ls.map ax++[ax l])) 3:=
 GK (k:=0) Uu IL (λ_ _ _ _ d b=>match d,b with | [_,_,_],_=>rfl) rfl (λg c e A a s H f=>(Au f.units (Rc (pv 0)) (Rc (pv 3))))
theorem GV:Tf (["tie","house","seen","heads"]:List bH) (["tie","house","seen"]:List bH) YN:=⟨rfl,rfl,rfl,by decide +kernel,by decide +kernel,rfl,by decide +kernel,rfl,by decide +kernel,by decide +kernel⟩
theorem GW(B:XQ mg):LR P w K mg base 1 YN (λl ls=>T5 (ls.map ax++[ax l])) 3:=
 GK (k:=0) T5 GV (λ_ _ _ _ d b=>match d,b with | [_,_,_],_=>rfl) rfl (λg c e A a s H f=>(Im f.units (Zj (Rc (pv 3)) (Rc (pv 0))) (Rc (pv 1))))
theorem GX:Tf (["tie","house","seen","purse"]:List bH) (["tie","house","seen"]:List bH) YO:=⟨rfl,rfl,rfl,by decide +kernel,by decide +kernel,rfl,by decide +kernel,rfl,by decide +kernel,by decide +kernel⟩
theorem GY(B:XQ mg):LR P w K mg base 1 YO (λl ls=>T6 (ls.map ax++[ax l])) 3:=
 GK (k:=0) T6 GX (λ_ _ _ _ d b=>match d,b with | [_,_,_],_=>rfl) rfl (λf c e A a s H g=>(Zg5 (Zj (Rc (pv 3)) (Rc (pv 1))) (Rc (pv 2))))
theorem Ze8(B:XQ mg):∀L,(∃l ls r,VZ L l ls=ax r)->LR P w K mg base 1 L (VZ L) 3:=by
 intro L ⟨l,ls,r,h⟩;by_cases a:L=Yn
 ·have q:VZ L=λl ls=>Uu (ls.map ax++[ax l]):=by funext l ls;unfold VZ;rw[p9 a]
  rw[q,a];exact IM B
 by_cases b:L=YN
 ·have q:VZ L=λl ls=>T5 (ls.map ax++[ax l]):=by funext l ls;unfold VZ;rw[pW a,p9 b]
  rw[q,b];exact GW B
 by_cases c:L=YO
 ·have q:VZ L=λl ls=>T6 (ls.map ax++[ax l]):=by funext l ls;unfold VZ;rw[pW a,pW b,p9 c]
  rw[q,c];exact GY B
 unfold VZ at h;rw[pW a,pW b,pW c] at h;cases h
abbrev NU:cB:=XU 57
theorem sc_l_pick:Zq ["_law_cell","_law_salt","_law_many","_law_number"] ["_law_cell","_law_salt","_law_many"] (Zf NU):=Wm
theorem CC(a:Def K mg "_law_pick" NU)(B:XQ mg):Th P w K mg base:=
 LV [] a sc_l_pick λb=>
  (Zd (Yg 3 sc_l_pick.nd (VE.pure (Xq (SE (Yb (Xq (vo 0) Zh) (vo 1)) (Yb (vo 1) Zh)) Zh)))
  (Zd (Yg 3 sc_l_pick.nd (VE.pure (Xq (Yb (Yb (SE (vo 3) (vo 3)) (Xo (vo 0) Zh)) (vo 1)) Zh)))
  (Zg (Zz (VE.pure (Xq (Xo (vo 3) Zh) (vo 2)))))))
abbrev Uz:cB:=XU 58
theorem sc_l_read_web:Zq ["_law_number","_law_sizes","_law_most","_law_many","_law_order","_law_pairs","_law_k","_law_more","_law_one_here","_law_rows","_law_other","_law_times"] ["_law_number","_law_sizes","_law_most"] (Zf Uz):=Wm
theorem MY(c:Def K mg "_law_read_web" Uz)(B:XQ mg):Ux P w K mg base:=
 Zeo (O:=[4,5,9]) (k:=0) 12 Ur c sc_l_read_web (λ_ _ _ _ _ _ d b=>match d,b with | [_,_,_],_=>rfl) rfl rfl (by decide) (λf e A a s H E g=>
  (YY (Yg 3 sc_l_read_web.nd (VE.pure (Zj (vo 1) (Xq (vo 0) (V9 B.len (vo 1))))))
  (YY (Yg 0 sc_l_read_web.nd (VE.pure (Xo (vo 0) (V9 B.len (vo 1)))))
  (YY (Yg 4 sc_l_read_web.nd (XA YS))
  (YY (Yg 5 sc_l_read_web.nd (XA YS))
  (YY (MJ (GS B.range (vo 3)) (Sm 6 sc_l_read_web.nd) (Zd (Lz (Y3 (WQ bT kE kF Lp (pv 4) (Z2 (Xq (vo 0) (Yb (vo 6) Zh)) (Z2 (vo 6) Y0)))))
  (Zg (Yg 0 sc_l_read_web.nd (VE.pure (Xo (vo 0) (Yb (vo 6) Zh)))))))
  (YY (MJ (vr2 B.range Zh (vo 3)) (Sm 6 sc_l_read_web.nd) (Zd (Xc (Y3 (WQ bT cE cF Xa (pv 5) (Z2 (VE.pure (X2 (Wk (vo 6) (Xq (vo 0) (vo 6))))) Y0))))
  (Zg (Yg 0 sc_l_read_web.nd (VE.pure (Xo (vo 0) (vo 6)))))))
  (YY (Yg 7 sc_l_read_web.nd (VE.pure (SE (ZK DG Zd7 rfl B.int (by decide +kernel) (Y4 (Aa (vo 3) Zh))) (Xq (vo 0) (Yb (Y1 (vo 2) (vo 3)) Zh)))))
  (YY (Yg 0 sc_l_read_web.nd (VE.pure (Xo (vo 0) (Yb (Y1 (vo 2) (vo 3)) Zh))))
  (YY (MJ (GS B.range (vo 7)) (Sm 6 sc_l_read_web.nd) (Zd (Yg 8 sc_l_read_web.nd (VE.pure (Xq (vo 0) (vo 3))))
  (Zd (Yg 0 sc_l_read_web.nd (VE.pure (Xo (vo 0) (vo 3))))
  (Zd (Xc (Y3 (WQ bT cE cF Xa (pv 5) (Z2 (VE.pure (X2 (Wk (vo 8) (Xq (Yb (Yb (vo 8) Zh) (Xq (vo 0) (Y1 (vo 3) Zh))) (vo 3))))) Y0))))
  (Zg (Yg 0 sc_l_read_web.nd (VE.pure (Xo (vo 0) (Y1 (vo 3) Zh)))))))))
  (YY (Ui (["_law_house"]:List bH) (["_law_many"]:List bH) [3] (i:=9) sc_l_read_web.nd rfl rfl rfl (GS B.range (vo 3)) (by kernel_rfl) (λ_ _ _ _ _=>(Sy 0)) (λ_ _ _ _ _=>Yq) (λ_ _ _ _ _=>(Gv (OT (Y4 Zh)) (vo 1))))
  (D8 (O':=[9]) (VSs.r (Zd (MJ (Yp (vo 5)) (YI (n:=2) rfl (Zv (Sm 8 sc_l_read_web.nd) (Zv (Sm 10 sc_l_read_web.nd) Yh))) (Zd (Yg 11 sc_l_read_web.nd (VE.pure (Yb (Zj (Zj (vo 9) (Zj (vo 4) (vo 8))) (Zj (vo 4) (vo 10))) Zh)))
  (Zd (TU (UW (vo 11) (Sz (J1 ix_list (pv 9) (Zj (vo 4) (vo 8)) (λ_ _=>rfl)) (Zj (vo 4) (vo 10)) WO)))
  (Zg (TU (UW (vo 11) (Sz (J1 ix_list (pv 9) (Zj (vo 4) (vo 10)) (λ_ _=>rfl)) (Zj (vo 4) (vo 8)) WO)))))))
  (Zg (Zz (VE.pure (ZK Zu ZW rfl B.tuple (by decide +kernel) (Y4 (CB "_law_row" [] [] (Yp (vo 9)) (ZK Zu ZW rfl B.tuple (by decide +kernel) (Y4 (vo 0)))))))))))))))))))))))
abbrev GZ:cB:=XU 56
theorem Ze9:Zq ["_law_script","_law_k"] ["_law_script","_law_k"] (Zf GZ):=Wm
theorem Zfa(a:Def K mg "_law_at" GZ)(B:XQ mg):K3 P w K mg base:=
 K2 [] a Ze9 λb=>
  (Zg (Zz (VE.pure (Sw (ON (vo 1) (V9 B.len (vo 0))) (Zj (vo 0) (vo 1)) Zh))))
abbrev K8:cB:=XU 59
theorem sc_p_web:Zq ["_law_script","_law_sizes","_law_most","_law_many","_law_rows","_law_ties_here","_law_k","_law_cell","_law_one_here","_law_other","_law_more","_law_by"] ["_law_script","_law_sizes","_law_most"] (Zf K8):=Wm
theorem Zaq(e:Def K mg "_law_web" K8)(B:XQ mg)(b:K3 P w K mg base)(c:Ux P w K mg base)(a:Th P w K mg base):K4 P w K mg base:=
 LV [4] e sc_p_web λd=>
  (Zd (Xu (Rv d.units (Xq (V8 b d (Wk (vo 0) Zh)) Zh) Zh) (Zg (Zz (Vc c d (Uw (V8 b d (Wk (vo 0) Zh)) (vo 1) (vo 2))))) Yi)
  (Zd (Yg 3 sc_p_web.nd (VE.pure (Zj (vo 1) (V8 a d (Uw (V8 b d (Wk (vo 0) Zh)) Zh (V9 B.len (vo 1)))))))
  (Zd (Ui (["_law_house"]:List bH) (["_law_many"]:List bH) [3] (i:=4) sc_p_web.nd rfl rfl rfl (GS B.range (vo 3)) (by kernel_rfl) (λ_ _ _ _ _=>(Sy 0)) (λ_ _ _ _ _=>Yq) (λ_ _ _ _ _=>(Gv (OT (Y4 Zh)) (vo 1))))
  (Zd (Yg 5 sc_p_web.nd (VE.pure Zh))
  (Zd (MJ (vr2 B.range Zh Zh) (Sm 6 sc_p_web.nd) (Zd (Yg 7 sc_p_web.nd (Vc b d (Wk (vo 0) (vo 6))))
  (Zd (Yg 8 sc_p_web.nd (Vc a d (Uw (vo 7) Zh (vo 3))))
  (Zd (Yg 9 sc_p_web.nd (VE.pure (Xq (Yb (Yb (vo 8) Zh) (V8 a d (Uw (vo 7) Zh (vb (DF rfl) Zd6 B.max (Wk Zh (Y1 (vo 3) Zh)))))) (vo 3))))
  (Zd (Xu (ON (vo 6) (vo 3)) (Zd (Yg 8 sc_p_web.nd (VE.pure (vo 6)))
  (Zg (Yg 9 sc_p_web.nd (Vc a d (Uw (vo 7) Zh (vo 6)))))) Yi)
  (Zd (Yg 10 sc_p_web.nd (VE.pure (OQ (Aa (vo 3) Zh) (OQ (Zg5 (vo 5) (vo 2)) (Ks (Aa (V8 a d (Uw (vo 7) Zh Zh)) Zh))))))
  (Zg (Xu (VW.vt (Rh (ON (vo 6) (vo 3)) (U1 (U0 (vo 10))))) (Zd (TU (UW (Yb (Zj (Zj (vo 4) (vo 8)) (vo 9)) Zh) (Sz (J1 ix_list (pv 4) (vo 8) (λ_ _=>rfl)) (vo 9) WO)))
  (Zd (TU (UW (Zj (Zj (vo 4) (vo 8)) (vo 9)) (Sz (J1 ix_list (pv 4) (vo 9) (λ_ _=>rfl)) (vo 8) WO)))
  (Zg (Yg 5 sc_p_web.nd (VE.pure (Yb (vo 5) Zh)))))) Yi))))))))
  (Zd (Yg 11 sc_p_web.nd (Vc a d (Uw (V8 b d (Wk (vo 0) Zh)) Zh (vo 3))))
  (Zd (Ui (["_law_row"]:List bH) (["_law_by"]:List bH) [11] (i:=4) sc_p_web.nd rfl rfl rfl (Yp (Zeq (WK (vo 4) (Wg (vo 11)) Vh) (WK (vo 4) Vh (Wg (vo 11))))) (by kernel_rfl) (λ_ _ _ _ _=>(Sy 0)) (λ_ _ _ _ _=>Yq) (λ_ _ _ _ _=>(KC (WK (vo 0) (Wg (vo 1)) Vh) (WK (vo 0) Vh (Wg (vo 1))))))
  (Zg (Zz (VE.pure (ZK Zu ZW rfl B.tuple (by decide +kernel) (Y4 (CB "_law_row" [] [] (Yp (vo 4)) (ZK Zu ZW rfl B.tuple (by decide +kernel) (Y4 (vo 0))))))))))))))))
abbrev NV:cB:=XU 64
theorem sc_l_ties:Zq ["_law_web_here","_law_found","_law_one_here","_law_other"] ["_law_web_here"] (Zf NV):=Wm
theorem CD(a:Def K mg "_law_ties" NV)(B:XQ mg):NK P w K mg base:=
 dk1 [1] a sc_l_ties λb=>
  (Zd (Yg 1 sc_l_ties.nd (XA YS))
  (Zd (MJ (GS B.range (V9 B.len (vo 0))) (Sm 2 sc_l_ties.nd) (Zg (MJ (vr2 B.range (Yb (vo 2) Zh) (V9 B.len (vo 0))) (Sm 3 sc_l_ties.nd) (Zg (Ly (Y3 (WQ bT kG kH Ld (pv 1) (Z2 (TM (["_law_nth"]:List bH) (["_law_one_here","_law_other"]:List bH) [2,3] rfl (GS B.range (Zj (Zj (vo 0) (vo 2)) (vo 3))) (by kernel_rfl) (λ_ _ _ _ _=>(Sy 0)) (λ_ _ _ _ _=>Yq) (λ_ _ _ _ _=>(VE.pure (X2 (Wk (vo 1) (vo 2)))))) Y0))))))))
  (Zg (TN (pv 1)))))
abbrev NW:cB:=XU 65
theorem sc_l_tree:Zq ["_law_web_here","_law_cell","_law_ties_here","_law_marks","_law_found","_law_left","_law_number","_law_k","_law_at_here","_law_one_here","_law_other","_law_gone"] ["_law_web_here","_law_cell"] (Zf NW):=Wm
theorem CF(d:Def K mg "_law_tree" NW)(B:XQ mg)(b:NK P w K mg base)(a:Th P w K mg base):NL P w K mg base:=
 K2 [4,5] d sc_l_tree λc=>
  (Zd (Yg 2 sc_l_tree.nd (Vc b c (Y4 (vo 0))))
  (Zd (Yg 3 sc_l_tree.nd (Uq rfl rfl B.list rfl B.range (V9 B.len (vo 0))))
  (Zd (Yg 4 sc_l_tree.nd (XA YS))
  (Zd (Yg 5 sc_l_tree.nd (Uq rfl rfl B.list rfl B.range (V9 B.len (vo 2))))
  (Zd (Yg 6 sc_l_tree.nd (VE.pure (Xo (vo 1) Zh)))
  (Zd (MJ (GS B.range (V9 B.len (vo 2))) (Sm 7 sc_l_tree.nd) (Zd (Yg 8 sc_l_tree.nd (Vc a c (Uw (Yb (vo 1) (SE (SE Zh (vo 7)) (vo 7))) (Yb Zh (vo 7)) (V9 B.len (vo 5)))))
  (Zd (Xu (Rv c.units (Xq (vo 1) Zh) Zh) (Zd (Yg 8 sc_l_tree.nd (VE.pure (Xq (vo 6) (V9 B.len (vo 5)))))
  (Zg (Yg 6 sc_l_tree.nd (VE.pure (Xo (vo 6) (V9 B.len (vo 5))))))) Yi)
  (Zd (Zjf (BF (i:=8) sc_l_tree.nd rfl (j5 rfl) (WQ bT PySem.F.slot_list_pop PySem.F.type_list_pop BS (pv 5) (Z2 (vo 8) Y0))))
  (Zd (Zeb (T:=(.many [9,10])) (UW (Zj (vo 2) (vo 8)) (YI (n:=2) rfl (Zv (Sm 9 sc_l_tree.nd) (Zv (Sm 10 sc_l_tree.nd) Yh)))))
  (Zg (Xu (VJ c.units (Zj (vo 3) (vo 9)) (Zj (vo 3) (vo 10))) (Zd (Yg 11 sc_l_tree.nd (VE.pure (Zj (vo 3) (vo 9))))
  (Zd (Yg 3 sc_l_tree.nd (TM (["_law_mark"]:List bH) (["_law_gone","_law_marks","_law_other"]:List bH) [11,3,10] rfl (Yp (vo 3)) (by kernel_rfl) (λ_ _ _ _ _=>(Sy 0)) (λ_ _ _ _ _=>Yq) (λ_ _ _ _ _=>(VE.pure (Sw (Rv c.units (vo 0) (vo 1)) (Zj (vo 2) (vo 3)) (vo 0))))))
  (Zg (Xc (Y3 (WQ bT cE cF Xa (pv 4) (Z2 (VE.pure (vo 8)) Y0))))))) Yi)))))))
  (Zg (Zz (VE.pure (ZK Zu ZW rfl B.tuple (by decide +kernel) (Y4 (VM.ve (vmb RI Nj B.sorted (Y4 (vo 4)))))))))))))))
abbrev QH:cB:=XU 13
theorem sc_ties_of:Zq ["web","ties","a","row","b"] ["web"] (Zf QH):=Wm
theorem G0(a:Def K mg "ties_of" QH)(B:XQ mg):WM P w K mg base:=
 dk1 [1] a sc_ties_of λb=>
  (Zd (Yg 1 sc_ties_of.nd (XA YS))
  (Zd (MJ (XB aB rfl B.enumerate (Y4 (vo 0))) (YI (n:=2) rfl (Zv (Sm 2 sc_ties_of.nd) (Zv (Sm 3 sc_ties_of.nd) Yh))) (Zg (MJ (vr2 B.range (Yb (vo 2) Zh) (V9 B.len (vo 0))) (Sm 4 sc_ties_of.nd) (Zg (Ly (Y3 (WQ bT kG kH Ld (pv 1) (Z2 (TM (["nth"]:List bH) (["a","b"]:List bH) [2,4] rfl (GS B.range (Zj (vo 3) (vo 4))) (by kernel_rfl) (λ_ _ _ _ _=>(Sy 0)) (λ_ _ _ _ _=>Yq) (λ_ _ _ _ _=>(VE.pure (X2 (Uw (vo 1) (vo 2) (vo 0)))))) Y0))))))))
  (Zg (TN (pv 1)))))
abbrev X8:cB:=XU 41
theorem sc_tie_to_look_at:Zq ["ties","looked","fire","tie","ends"] ["ties","looked","fire"] (Zf X8):=Wm
theorem RQ(b:Def K mg "tie_to_look_at" X8)(B:XQ mg):X6 P w K mg base:=
 LV [] b sc_tie_to_look_at λa=>
  (Zd (MJ (XB aC rfl B.enumerate (Y4 (vo 0))) (YI (n:=2) rfl (Zv (Sm 3 sc_tie_to_look_at.nd) (Zv (Sm 4 sc_tie_to_look_at.nd) Yh))) (Zg (Xu (VW.vt (Kq (O8 a.units (vo 3) (vo 1)) (P8 (VJ a.units (Au a.units (Zj (vo 4) Zh) (vo 2)) (Au a.units (Zj (vo 4) Zh) (vo 2)))))) (Zg (Zz (VE.pure (vo 3)))) Yi)))
  (Zg (Zz (VE.pure UZ))))
abbrev NX:cB:=XU 40
theorem sc_walked:Zq ["web","base","burns","ties","fire","looked","burning","tie","house","seen"] ["web","base","burns"] (Zf NX):=Wm
theorem CG(d:Def K mg "walked" NX)(B:XQ mg)(b:WM P w K mg base)(a:X6 P w K mg base):RP P w K mg base:=
 LV [4,5,6] d sc_walked λc=>
  (Zd (Yg 3 sc_walked.nd (Vc b c (Y4 (vo 0))))
  (Zd (Yg 4 sc_walked.nd (XA (Wj (VE.pure (vo 1)) YS)))
  (Zd (Yg 5 sc_walked.nd (XA YS))
  (Zd (Yg 6 sc_walked.nd (XA YS))
  (Zd (Yg 7 sc_walked.nd (Vc a c (Uw (vo 3) (vo 5) (vo 4))))
  (Zd (VG eZ (P9 (vo 7)) (Zd (Xc (Y3 (WQ bT cE cF Xa (pv 5) (Z2 (VE.pure (vo 7)) Y0))))
  (Zd (Yg 8 sc_walked.nd (VE.pure (Sw (Av c.units (Zj (Zj (vo 3) (vo 7)) Zh) (vo 4)) (Zj (Zj (vo 3) (vo 7)) Zh) (Zj (Zj (vo 3) (vo 7)) Zh))))
  (Zd (Yg 9 sc_walked.nd (VE.pure (V9 B.len (vcq "other" ["house","ties"] [8,3] (Yp (vo 5)) (Rt (Av c.units (vo 1) (Ql (Zj (vo 2) (vo 0)) Vh (Wg Zh)))) (vo 0)))))
  (Zd (Xu (Ae (VM.ve (Zjh 2 rfl (j5 rfl) (Ze8 B) (c.mono (by decide)) (Uw (vo 7) (vo 8) (vo 9))))) (Zd (Xc (Y3 (WQ bT cE cF Xa (pv 4) (Z2 (VE.pure (vo 8)) Y0))))
  (Zg (Xc (Y3 (WQ bT cE cF Xa (pv 6) (Z2 (VE.pure (X2 (Uw (vo 7) (vo 8) (vo 9)))) Y0)))))) Yi)
  (Zg (Yg 7 sc_walked.nd (Vc a c (Uw (vo 3) (vo 5) (vo 4))))))))))
  (Zg (TN (pv 6)))))))))
abbrev SW:cB:=XU 43
theorem sc_still_by:Zq ["web","base","tree","coins","burning","number","end","looked_at"] ["web","base","tree"] (Zf SW):=Wm
theorem IP(b:Def K mg "still_by" SW)(B:XQ mg)(a:RP P w K mg base):SR P w K mg base:=
 LV [3] b sc_still_by λc=>
  (Zd (Yg 3 sc_still_by.nd (Gv (OT (Y4 Zh)) (V9 B.len (vo 0))))
  (Zd (Yg 4 sc_still_by.nd (NF (q:="still_by") (L:=Yn) (i:=2) rfl rfl rfl a (c.mono (by decide)) rfl rfl rfl rfl (vo 0) (vo 1) (jN _) rfl (by decide) rfl rfl ⟨_,rfl,rfl⟩ rfl rfl rfl rfl))
  (Zd (MJ (Yp (vo 4)) (YI (n:=3) rfl (Zv (Sm 5 sc_still_by.nd) (Zv (Sm 6 sc_still_by.nd) (Zv (Sm 7 sc_still_by.nd) Yh)))) (Zg (O5 (UW (Y1 (vo 7) Zh) (Sz (pv 3) (vo 6) WO)))))
  (Zg (Zz (VE.pure (ZK Zu ZW rfl B.tuple (by decide +kernel) (Y4 (vo 3)))))))))
abbrev Tn:cB:=XU 35
theorem sc_pieces_of:Zq ["web","ties","grove","pieces","tie","ends","kept","gone"] ["web","ties","grove"] (Zf Tn):=Wm
theorem K9(a:Def K mg "pieces_of" Tn)(B:XQ mg):Ti P w K mg base:=
 LV [3] a sc_pieces_of λb=>
  (Zd (Yg 3 sc_pieces_of.nd (Uq rfl rfl B.list rfl B.range (V9 B.len (vo 0))))
  (Zd (MJ (Qi (vo 2)) (Sm 4 sc_pieces_of.nd) (Zd (Yg 5 sc_pieces_of.nd (VE.pure (Zj (vo 1) (vo 4))))
  (Zd (Yg 6 sc_pieces_of.nd (VE.pure (Zj (vo 3) (Zj (vo 5) Zh))))
  (Zd (Yg 7 sc_pieces_of.nd (VE.pure (Zj (vo 3) (Zj (vo 5) Zh))))
  (Zg (Ui (["piece"]:List bH) (["kept","gone"]:List bH) [6,7] (i:=3) sc_pieces_of.nd rfl rfl rfl (Yp (vo 3)) (by kernel_rfl) (λ_ _ _ _ _=>(Sy 0)) (λ_ _ _ _ _=>Yq) (λ_ _ _ _ _=>(VE.pure (Sw (Rv b.units (vo 0) (vo 2)) (vo 1) (vo 0))))))))))
  (Zg (TN (pv 3)))))
abbrev QI:cB:=XU 36
theorem sc_is_tree:Zq ["web","numbers","ties"] ["web","numbers"] (Zf QI):=Wm
theorem G1(d:Def K mg "is_tree" QI)(B:XQ mg)(b:WM P w K mg base)(a:Ti P w K mg base):QA P w K mg base:=
 K2 [] d sc_is_tree λc=>
  (Zd (Yg 2 sc_is_tree.nd (Vc b c (Y4 (vo 0))))
  (Zd (Xu (VW.vt (Rh (VJ c.units (V9 B.len (vo 1)) (Y1 (V9 B.len (vo 0)) Zh)) (U1 (SG (U0 (vb (Lo rfl) Ak B.all (Y4 (CB "number" ["ties"] [2] (Qi (vo 1)) (Ay Zk3 BJ (Gg _) (Gg _) Zh (vo 0) (V9 B.len (vo 1))))))))))) (Zg (Zz (VE.pure Ei))) Yi)
  (Zg (Zz (VE.pure (OQ (Im c.units (VM.ve (Qh Ub OU rfl B.list (by decide +kernel) (Y4 (vo 1)))) (VM.ve (VW.vm_sortedSetN rfl rfl B.sorted rfl B.set (vo 1)))) (Ks (Im c.units (VM.ve (VW.ve_lenSet rfl rfl B.len rfl B.set (V8 a c (Uw (vo 0) (vo 2) (vo 1))))) Zh))))))))
abbrev SX:cB:=XU 42
theorem IQ:Zq ["web","base","tree"] ["web","base","tree"] (Zf SX):=Wm
theorem IS(d:Def K mg "still_of" SX)(B:XQ mg)(b:QA P w K mg base)(a:SR P w K mg base):SS P w K mg base:=
 LV [] d IQ λc=>
  (Zd (Xu (SG (U0 (V8 b c (Wk (vo 0) (vo 2))))) (Zg (Nk (W:=[]))) Yi)
  (Zg (Zz (Vc a c (Uw (vo 0) (vo 1) (vo 2))))))
abbrev Ja:cB:=XU 16
theorem Zar:Zq ["purse"] ["purse"] (Zf Ja):=Wm
theorem Zas(a:Def K mg "total" Ja)(B:XQ mg):K5 P w K mg base:=
 dk1 [] a Zar λb=>
  (Zg (Zz (VE.pure (vb (X0 rfl) SH B.sum (Y4 (vo 0))))))
abbrev Jb:cB:=XU 14
theorem Zat:Zq ["web"] ["web"] (Zf Jb):=Wm
theorem Zau(b:Def K mg "loops" Jb)(B:XQ mg)(a:WM P w K mg base):K6 P w K mg base:=
 dk1 [] b Zat λc=>
  (Zg (Zz (VE.pure (Yb (Y1 (V9 B.len (V8 a c (Y4 (vo 0)))) (V9 B.len (vo 0))) Zh))))
abbrev W0:cB:=XU 46
theorem PR:Zq ["web","purse"] ["web","purse"] (Zf W0):=Wm
theorem PU(d:Def K mg "refuse_total" W0)(B:XQ mg)(a:K5 P w K mg base)(b:K6 P w K mg base):WY P w K mg base:=
 K2 [] d PR λc=>
  (Zg (Xu (VJ c.units (V8 a c (Y4 (vo 1))) (V8 b c (Y4 (vo 0)))) (Zg (Nk (W:=[]))) Yi))
abbrev QJ:cB:=XU 26
theorem G3:Zq ["row","by","place","divisor"] ["row","by","place","divisor"] (Zf QJ):=Wm
theorem G4(a:Def K mg "reduced" QJ)(B:XQ mg):QB P w K mg base:=
 dk4 [] a G3 λb=>
  (Zg (Zz (VE.pure (ZK Zu ZW rfl B.tuple (by decide +kernel) (Y4 (Wf (["number","other"]:List bH) (["divisor","by","place","row"]:List bH) [3,1,2,0] rfl (Ky aB aB rfl B.zip (Wk (vo 0) (vo 1))) (by kernel_rfl) (λ_ _ _ _ _=>(YI (n:=2) rfl (Zv (Sy 0) (Zv (Sy 1) Yh)))) (λ_ _ _ _ _=>Yq) (λ_ _ _ _ _=>(Iv (Y1 (EM (Zj (vo 3) (vo 4)) (vo 0)) (EM (Zj (vo 5) (vo 4)) (vo 1))) (vo 2)))))))))
abbrev NY:cB:=XU 25
theorem sc_evened:Zq ["rows","left","divisor","place","by"] ["rows"] (Zf NY):=Wm
theorem CH(c:Def K mg "evened" NY)(B:XQ mg)(a:QB P w K mg base):NM P w K mg base:=
 dk1 [1] c sc_evened λb=>
  (Zd (Yg 1 sc_evened.nd (Qh Ub OU rfl B.list (by decide +kernel) (Y4 (vo 0))))
  (Zd (Yg 2 sc_evened.nd (VE.pure Zh))
  (Zd (MJ (GS B.range (V9 B.len (vo 0))) (Sm 3 sc_evened.nd) (Zd (Yg 4 sc_evened.nd (VE.pure (Zj (vo 1) (vo 3))))
  (Zd (Ui (["at","row"]:List bH) (["place","by","divisor"]:List bH) [3,4,2] (i:=1) sc_evened.nd rfl rfl rfl (XB aC rfl B.enumerate (Y4 (vo 1))) (by kernel_rfl) (λ_ _ _ _ _=>(YI (n:=2) rfl (Zv (Sy 0) (Zv (Sy 1) Yh)))) (λ_ _ _ _ _=>Yq) (λ_ _ _ _ _=>(VE.pure (Sw (Rv b.units (vo 0) (vo 2)) (vo 1) (V8 a b (va4 (vo 1) (vo 3) (vo 2) (vo 4)))))))
  (Zg (Yg 2 sc_evened.nd (VE.pure (Zj (vo 4) (vo 3))))))))
  (Zg (A1 (H9 (Z2 (vo 2) (Z2 (pv 1) Y0))))))))
abbrev W3:cB:=XU 24
theorem sc_solved_below:Zq ["square","column","told"] ["square","column"] (Zf W3):=Wm
theorem PX(b:Def K mg "solved_below" W3)(B:XQ mg)(a:NM P w K mg base):WZ P w K mg base:=
 K2 [] b sc_solved_below λc=>
  (Zd (Yg 2 sc_solved_below.nd (Vc a c (Y4 (Wf (["row","number"]:List bH) ([]:List bH) [] rfl (Ky aB aB rfl B.zip (Wk (vo 0) (vo 1))) (by kernel_rfl) (λ_ _ _ _ _=>(YI (n:=2) rfl (Zv (Sy 0) (Zv (Sy 1) Yh)))) (λ_ _ _ _ _=>Yq) (λ_ _ _ _ _=>(UJ KH KI (vo 0) (X2 (Y4 (vo 1)))))))))
  (Zg (Zz (TM (["row"]:List bH) (["told"]:List bH) [2] rfl (Yp (Zj (vo 2) Zh)) (by kernel_rfl) (λ_ _ _ _ _=>(Sy 0)) (λ_ _ _ _ _=>Yq) (λ_ _ _ _ _=>(VE.pure (Iv (Zj (vo 0) (Ku Zh)) (Zj (vo 1) Zh))))))))
abbrev QK:cB:=XU 12
theorem G5:Zq ["web","house"] ["web","house"] (Zf QK):=Wm
theorem G6(a:Def K mg "ties_at" QK)(B:XQ mg):T8 P w K mg base:=
 K2 [] a G5 λb=>
  (Zg (Zz (VE.pure (vb (X0 rfl) SH B.sum (Y4 (Zj (vo 0) (vo 1)))))))
abbrev NZ:cB:=XU 29
theorem CI:Zq ["web","house","others"] ["web","house","others"] (Zf NZ):=Wm
theorem CJ(c:Def K mg "row_of" NZ)(B:XQ mg)(a:T8 P w K mg base):NN P w K mg base:=
 LV [] c CI λb=>
  (Zg (Zz (VE.pure (ZK Zu ZW rfl B.tuple (by decide +kernel) (Y4 (CB "other" ["house","web"] [1,0] (Yp (vo 2)) (Sw (Rv b.units (vo 0) (vo 1)) (V8 a b (Wk (vo 2) (vo 1))) (Ku (Zj (Zj (vo 2) (vo 1)) (vo 0))))))))))
abbrev X9:cB:=XU 28
theorem sc_square_without:Zq ["web","base","others"] ["web","base"] (Zf X9):=Wm
theorem RS(c:Def K mg "square_without" X9)(B:XQ mg)(a:NN P w K mg base):X7 P w K mg base:=
 K2 [] c sc_square_without λb=>
  (Zd (Yg 2 sc_square_without.nd (TM (["house"]:List bH) (["base"]:List bH) [1] rfl (GS B.range (V9 B.len (vo 0))) (by kernel_rfl) (λ_ _ _ _ _=>(Sy 0)) (λ_ _ _ _ _=>(Rt (VJ b.units (vo 0) (vo 1)))) (λ_ _ _ _ _=>(VE.pure (vo 0)))))
  (Zg (Zz (VE.pure (ZK Zu ZW rfl B.tuple (by decide +kernel) (Y4 (CB "house" ["web","others"] [0,2] (Yp (vo 2)) (V8 a b (Uw (vo 1) (vo 0) (vo 2))))))))))
abbrev QL:cB:=XU 32
theorem sc_nearing:Zq ["web","purse","base","column","script"] ["web","purse","base"] (Zf QL):=Wm
theorem G7(d:Def K mg "nearing" QL)(B:XQ mg)(b:WZ P w K mg base)(a:X7 P w K mg base):T9 P w K mg base:=
 LV [4] d sc_nearing λc=>
  (Zd (Yg 3 sc_nearing.nd (VE.pure (UJ KH KI (Ql (vo 1) Vh (Wg (vo 2))) (Ql (vo 1) (Wg (Yb (vo 2) Zh)) Vh))))
  (Zd (Yg 4 sc_nearing.nd (Vc b c (Wk (V8 a c (Wk (vo 0) (vo 2))) (vo 3))))
  (Zd (Lz (Y3 (WQ bT kE kF Lp (pv 4) (Z2 (vo 2) (Z2 Zh Y0)))))
  (Zg (Zz (VE.pure (ZK Zu ZW rfl B.tuple (by decide +kernel) (Y4 (vo 4)))))))))
abbrev G8:cB:=XU 19
theorem Zfb:Zq ["web","script","house"] ["web","script","house"] (Zf G8):=Wm
theorem Zfc(a:Def K mg "gain" G8)(B:XQ mg):GU P w K mg base:=
 LV [] a Zfb λb=>
  (Zg (Zz (VE.pure (vb (X0 rfl) SH B.sum (Y4 (Wf (["other","times"]:List bH) (["script","house"]:List bH) [1,2] rfl (XB aB rfl B.enumerate (Y4 (Zj (vo 0) (vo 2)))) (by kernel_rfl) (λ_ _ _ _ _=>(YI (n:=2) rfl (Zv (Sy 0) (Zv (Sy 1) Yh)))) (λ_ _ _ _ _=>Yq) (λ_ _ _ _ _=>(SE (vo 1) (Y1 (Zj (vo 2) (vo 0)) (Zj (vo 2) (vo 3)))))))))))
abbrev Zav:cB:=XU 18
theorem Zjk:Zq ["web","purse","script"] ["web","purse","script"] (Zf Zav):=Wm
theorem Zjl(b:Def K mg "run" Zav)(B:XQ mg)(a:GU P w K mg base):EV P w K mg base:=
 LV [] b Zjk λc=>
  (Zg (Zz (VE.pure (ZK Zu ZW rfl B.tuple (by decide +kernel) (Y4 (Wf (["house","coins"]:List bH) (["web","script"]:List bH) [0,2] rfl (XB aB rfl B.enumerate (Y4 (vo 1))) (by kernel_rfl) (λ_ _ _ _ _=>(YI (n:=2) rfl (Zv (Sy 0) (Zv (Sy 1) Yh)))) (λ_ _ _ _ _=>Yq) (λ_ _ _ _ _=>(Yb (vo 1) (V8 a c (Uw (vo 2) (vo 3) (vo 0)))))))))))
abbrev QM:cB:=XU 8
theorem G9:Zq ["web","house","others"] ["web","house","others"] (Zf QM):=Wm
theorem Fb(a:Def K mg "ties_to" QM)(B:XQ mg):Sa P w K mg base:=
 LV [] a G9 λb=>
  (Zg (Zz (VE.pure (vb (X0 rfl) SH B.sum (Y4 (CB "other" ["web","house"] [0,1] (Zl3 (vo 2)) (Zj (Zj (vo 1) (vo 2)) (vo 0))))))))
abbrev Wr:cB:=XU 47
theorem sc_lacking_among:Zq ["web","purse","groups","house","coins","lacks"] ["web","purse"] (Zf Wr):=Wm
theorem QN(b:Def K mg "lacking_among" Wr)(B:XQ mg)(a:Sa P w K mg base):Wo P w K mg base:=
 K2 [] b sc_lacking_among λc=>
  (Zd (Yg 2 sc_lacking_among.nd (XA (Wj (VE.pure (X2 (Wk (X2 Qg) (Ku Zh)))) YS)))
  (Zd (MJ (XB aB rfl B.enumerate (Y4 (vo 1))) (YI (n:=2) rfl (Zv (Sm 3 sc_lacking_among.nd) (Zv (Sm 4 sc_lacking_among.nd) Yh))) (Zg (Yg 2 sc_lacking_among.nd (KC (vo 2) (Wf (["group","over"]:List bH) (["house","web","coins"]:List bH) [3,0,4] rfl (Yp (vo 2)) (by kernel_rfl) (λ_ _ _ _ _=>(YI (n:=2) rfl (Zv (Sy 0) (Zv (Sy 1) Yh)))) (λ_ _ _ _ _=>Yq) (λ_ _ _ _ _=>(X2 (Wk (UJ KH KI (vo 0) (X2 (Y4 (vo 2)))) (Y1 (Yb (Yb (vo 1) (vo 4)) Zh) (V8 a c (Uw (vo 3) (vo 2) (vo 0))))))))))))
  (Zd (Ui (["group","over"]:List bH) ([]:List bH) [] (i:=5) sc_lacking_among.nd rfl rfl rfl (Yp (WK (vo 2) (Wg Zh) Vh)) (by kernel_rfl) (λ_ _ _ _ _=>(YI (n:=2) rfl (Zv (Sy 0) (Zv (Sy 1) Yh)))) (λ_ _ _ _ _=>(Rt (ON (vo 1) Zh))) (λ_ _ _ _ _=>(VE.pure (vo 0))))
  (Zg (Zz (VE.pure (Sw (Ad (V9 B.len (vo 5)) Zh) (Zj (vo 5) Zh) UZ)))))))
abbrev Jc:cB:=XU 22
theorem Zaw:Zq ["one","other"] ["one","other"] (Zf Jc):=Wm
theorem Zax(a:Def K mg "minus" Jc)(B:XQ mg):Og P w K mg base:=
 K2 [] a Zaw λb=>
  (Zg (Zz (VE.pure (ZK Zu ZW rfl B.tuple (by decide +kernel) (Y4 (Wf (["first","second"]:List bH) ([]:List bH) [] rfl (Ky aB aB rfl B.zip (Wk (vo 0) (vo 1))) (by kernel_rfl) (λ_ _ _ _ _=>(YI (n:=2) rfl (Zv (Sy 0) (Zv (Sy 1) Yh)))) (λ_ _ _ _ _=>Yq) (λ_ _ _ _ _=>(Y1 (vo 0) (vo 1)))))))))
abbrev SY:cB:=XU 52
theorem sc_overfull:Zq ["heads","wanted","house","many"] ["heads","wanted"] (Zf SY):=Wm
theorem IT(a:Def K mg "overfull" SY)(B:XQ mg):SU P w K mg base:=
 K2 [] a sc_overfull λb=>
  (Zd (MJ (XB aB rfl B.enumerate (Y4 (vo 1))) (YI (n:=2) rfl (Zv (Sm 2 sc_overfull.nd) (Zv (Sm 3 sc_overfull.nd) Yh))) (Zg (Xu (Ad (LQ (vo 0) (vo 2)) (vo 3)) (Zg (Zz (VE.pure (vo 2)))) Yi)))
  (Zg (Zz (VE.pure UZ))))
abbrev To:cB:=XU 54
theorem Jd:Zq ["tie","end"] ["tie","end"] (Zf To):=Wm
theorem Je(a:Def K mg "other_end" To)(B:XQ mg):Vn P w K mg base:=
 K2 [] a Jd λb=>
  (Zg (Zz (VE.pure (Sw (Rv b.units (vo 1) (Zj (vo 0) Zh)) (Zj (vo 0) Zh) (Zj (vo 0) Zh)))))
abbrev QO:cB:=XU 53
theorem sc_way_out:Zq ["ties","heads","wanted","house","ways","found","looked","here","tie","head","there"] ["ties","heads","wanted","house"] (Zf QO):=Wm
theorem Fc(c:Def K mg "way_out" QO)(B:XQ mg)(a:Vn P w K mg base):QC P w K mg base:=
 dk4 [4,5] c sc_way_out λb=>
  (Zd (Yg 4 sc_way_out.nd (Zag (vo 3) (GJ (XA YS))))
  (Zd (Yg 5 sc_way_out.nd (XA (Wj (VE.pure (vo 3)) YS)))
  (Zd (Yg 6 sc_way_out.nd (VE.pure Zh))
  (Zd (VG eZ (Zlt (LQ (vo 1) (Zj (vo 5) (vo 6))) (Zj (vo 2) (Zj (vo 5) (vo 6)))) (Zd (Yg 7 sc_way_out.nd (VE.pure (Zj (vo 5) (vo 6))))
  (Zd (MJ (XB aC rfl B.enumerate (Y4 (vo 1))) (YI (n:=2) rfl (Zv (Sm 8 sc_way_out.nd) (Zv (Sm 9 sc_way_out.nd) Yh))) (Zd (Yg 10 sc_way_out.nd (Vc a b (Wk (Zj (vo 0) (vo 8)) (vo 9))))
  (Zg (Xu (VW.vt (Kq (Rv b.units (vo 9) (vo 7)) (P8 (D3 (Lk b) (vo 10) (vo 4))))) (Zd (EA (Ee (Lk b) (pv 4) (vo 10) (GJ (Ze1 (Ez (Lk b) (vo 4) (vo 7)) (XA (Wj (VE.pure (vo 8)) YS)))) rfl))
  (Zg (Xc (Y3 (WQ bT cE cF Xa (pv 5) (Z2 (VE.pure (vo 10)) Y0)))))) Yi))))
  (Zg (Zea (Zh3 (i:=6) sc_way_out.nd rfl (j5 rfl) Zh Zh4))))))
  (Zg (Zz (VE.pure (Ez (Lk b) (vo 4) (Zj (vo 5) (vo 6))))))))))
abbrev Tp:cB:=XU 51
theorem sc_heads_for:Zq ["web","wanted","ties","heads","full","way","tie"] ["web","wanted"] (Zf Tp):=Wm
theorem Jf(f:Def K mg "heads_for" Tp)(B:XQ mg)(c:WM P w K mg base)(a:SU P w K mg base)(d:QC P w K mg base)(b:Vn P w K mg base):Tj P w K mg base:=
 K2 [3] f sc_heads_for λe=>
  (Zd (Yg 2 sc_heads_for.nd (Vc c e (Y4 (vo 0))))
  (Zd (Ui (["tie"]:List bH) ([]:List bH) [] (i:=3) sc_heads_for.nd rfl rfl rfl (Yp (vo 2)) (by kernel_rfl) (λ_ _ _ _ _=>(Sy 0)) (λ_ _ _ _ _=>Yq) (λ_ _ _ _ _=>(VE.pure (Zj (vo 0) Zh))))
  (Zd (Yg 4 sc_heads_for.nd (Vc a e (Wk (vo 3) (vo 1))))
  (Zd (VG eZ (P9 (vo 4)) (Zd (Yg 5 sc_heads_for.nd (Vc d e (va4 (vo 2) (vo 3) (vo 1) (vo 4))))
  (Zd (MJ (Yp (vo 5)) (Sm 6 sc_heads_for.nd) (Zg (O5 (UW (V8 b e (Wk (Zj (vo 2) (vo 6)) (Zj (vo 3) (vo 6)))) (Sz (pv 3) (vo 6) WO)))))
  (Zg (Yg 4 sc_heads_for.nd (Vc a e (Wk (vo 3) (vo 1))))))))
  (Zg (TN (pv 3)))))))
abbrev QP:cB:=XU 39
theorem Fd:Zq ["web","base","burns"] ["web","base","burns"] (Zf QP):=Wm
theorem Fe(b:Def K mg "tree_by" QP)(B:XQ mg)(a:RP P w K mg base):Sb P w K mg base:=
 LV [] b Fd λc=>
  (Zg (Zz (VE.pure (ZK Zu ZW rfl B.tuple (by decide +kernel) (Y4 (VM.ve (vmb RI Nj B.sorted (Y4 (CB "burnt_by" [] [] (Yp (V8 a c (Uw (vo 0) (vo 1) (vo 2)))) (Zj (vo 0) Zh))))))))))
abbrev Ff:cB:=XU 21
theorem Zfd:Zq ["one","other"] ["one","other"] (Zf Ff):=Wm
theorem Zfe(a:Def K mg "plus" Ff)(B:XQ mg):NO P w K mg base:=
 K2 [] a Zfd λb=>
  (Zg (Zz (VE.pure (ZK Zu ZW rfl B.tuple (by decide +kernel) (Y4 (Wf (["first","second"]:List bH) ([]:List bH) [] rfl (Ky aB aB rfl B.zip (Wk (vo 0) (vo 1))) (by kernel_rfl) (λ_ _ _ _ _=>(YI (n:=2) rfl (Zv (Sy 0) (Zv (Sy 1) Yh)))) (λ_ _ _ _ _=>Yq) (λ_ _ _ _ _=>(Yb (vo 0) (vo 1)))))))))
abbrev N0:cB:=XU 17
theorem CK:Zq ["web","house"] ["web","house"] (Zf N0):=Wm
theorem CM(a:Def K mg "one_at" N0)(B:XQ mg):NP P w K mg base:=
 K2 [] a CK λb=>
  (Zg (Zz (VE.pure (ZK Zu ZW rfl B.tuple (by decide +kernel) (Y4 (CB "other" ["house"] [1] (GS B.range (V9 B.len (vo 0))) (Sw (Rv b.units (vo 0) (vo 1)) Zh Zh)))))))
abbrev QQ:cB:=XU 50
theorem sc_made_of:Zq ["web","purse","wanted","heads","tree"] ["web","purse"] (Zf QQ):=Wm
theorem Fg(h:Def K mg "made_of" QQ)(B:XQ mg)(c:Cst mg "BASE" 0)(e:Og P w K mg base)(d:NP P w K mg base)(f:NO P w K mg base)(a:Tj P w K mg base)(b:Sb P w K mg base):QD P w K mg base:=
 K2 [] h sc_made_of λg=>
  (Zd (Yg 2 sc_made_of.nd (Vc e g (Wk (V8 f g (Wk (vo 1) (UJ Zej Zek (X2 (Y4 Zh)) (V9 B.len (vo 0))))) (V8 d g (Wk (vo 0) (Gy rfl c))))))
  (Zd (Yg 3 sc_made_of.nd (VE.pure (GJ (Vc a g (Wk (vo 0) (vo 2))))))
  (Zd (Yg 4 sc_made_of.nd (NF (q:="made_of") (L:=YN) (i:=3) rfl rfl rfl b (g.mono (by decide)) rfl rfl rfl rfl (vo 0) (Gy rfl c) (jN _) rfl (by decide) rfl rfl ⟨_,rfl,rfl⟩ rfl rfl rfl rfl))
  (Zg (Zz (VE.pure (X2 (Wk (vo 4) (ZK Zu ZW rfl B.tuple (by decide +kernel) (Y4 (Wf (["tie","head"]:List bH) (["tree"]:List bH) [4] rfl (XB aC rfl B.enumerate (Y4 (vo 3))) (by kernel_rfl) (λ_ _ _ _ _=>(YI (n:=2) rfl (Zv (Sy 0) (Zv (Sy 1) Yh)))) (λ_ _ _ _ _=>(Rt (O8 g.units (vo 0) (vo 2)))) (λ_ _ _ _ _=>(vo 1)))))))))))))
abbrev Tq:cB:=XU 33
theorem Jg:Zq ["web","houses"] ["web","houses"] (Zf Tq):=Wm
theorem Jh(a:Def K mg "borrowing" Tq)(B:XQ mg):Vo P w K mg base:=
 K2 [] a Jg λb=>
  (Zg (Zz (VE.pure (ZK Zu ZW rfl B.tuple (by decide +kernel) (Y4 (CB "house" ["houses"] [1] (GS B.range (V9 B.len (vo 0))) (Sw (Av b.units (vo 0) (vo 1)) (Ku Zh) Zh)))))))
abbrev Ji:cB:=XU 20
theorem sc_least:Zq ["script","lowest"] ["script"] (Zf Ji):=Wm
theorem Zay(a:Def K mg "least" Ji)(B:XQ mg):Oh P w K mg base:=
 dk1 [] a sc_least λb=>
  (Zd (Yg 1 sc_least.nd (VE.pure (vb (LJ rfl) EJ B.min (Y4 (vo 0)))))
  (Zg (Zz (VE.pure (ZK Zu ZW rfl B.tuple (by decide +kernel) (Y4 (CB "often" ["lowest"] [1] (Qi (vo 0)) (Y1 (vo 0) (vo 1)))))))))
abbrev N1:cB:=XU 49
theorem CN:Zq ["web"] ["web"] (Zf N1):=Wm
theorem CO(b:Def K mg "middle" N1)(B:XQ mg)(a:T8 P w K mg base):NQ P w K mg base:=
 dk1 [] b CN λc=>
  (Zg (Zz (VE.pure (ZK Zu ZW rfl B.tuple (by decide +kernel) (Y4 (CB "house" ["web"] [0] (GS B.range (V9 B.len (vo 0))) (Y1 (Xo (V8 a c (Wk (vo 1) (vo 0))) Zh) Zh)))))))
abbrev N2:cB:=XU 48
theorem sc_broken:Zq ["web","purse","script","near","houses","step","made"] ["web","purse"] (Zf N2):=Wm
theorem CP(m:Def K mg "broken" N2)(B:XQ mg)(k:Cst mg "BASE" 0)(b:WY P w K mg base)(e:T9 P w K mg base)(i:Og P w K mg base)(f:NQ P w K mg base)(h:EV P w K mg base)(a:Wo P w K mg base)(c:Vo P w K mg base)(l:NO P w K mg base)(d:QD P w K mg base)(j:Oh P w K mg base):NR P w K mg base:=
 K2 [] m sc_broken λg=>
  (Zd (Zl2 (V8 b g (Wk (vo 0) (vo 1))))
  (Zd (Yg 2 sc_broken.nd (Vc e g (Uw (vo 0) (V8 i g (Wk (vo 1) (V8 f g (Y4 (vo 0))))) (Gy rfl k))))
  (Zd (Yg 3 sc_broken.nd (Vc h g (Uw (vo 0) (vo 1) (vo 2))))
  (Zd (Yg 4 sc_broken.nd (Vc a g (Wk (vo 0) (vo 3))))
  (Zd (VG eZ (P9 (vo 4)) (Zd (Yg 5 sc_broken.nd (Vc c g (Wk (vo 0) (vo 4))))
  (Zd (Yg 2 sc_broken.nd (Vc l g (Wk (vo 2) (vo 5))))
  (Zd (Yg 3 sc_broken.nd (Vc h g (Uw (vo 0) (vo 3) (vo 5))))
  (Zg (Yg 4 sc_broken.nd (Vc a g (Wk (vo 0) (vo 3)))))))))
  (Zd (Yg 6 sc_broken.nd (Vc d g (Wk (vo 0) (vo 3))))
  (Zg (Zz (VE.pure (X2 (va4 (V8 j g (Y4 (vo 2))) (vo 3) (Zj (vo 6) Zh) (Zj (vo 6) Zh))))))))))))
abbrev QR:cB:=XU 63
theorem Fh:Zq ["_law_web_here"] ["_law_web_here"] (Zf QR):=Wm
theorem Fi(a:Def K mg "_law_loops" QR)(B:XQ mg):QE P w K mg base:=
 dk1 [] a Fh λb=>
  (Zg (Zz (VE.pure (Yb (Y1 (Xo (vb (X0 rfl) SH B.sum (Y4 (CB "_law_row" [] [] (Qi (vo 0)) (vb (X0 rfl) SH B.sum (Y4 (vo 0)))))) Zh) (V9 B.len (vo 0))) Zh))))
abbrev QS:cB:=XU 10
theorem Fj:Zq ["purse","base"] ["purse","base"] (Zf QS):=Wm
theorem Fl(a:Def K mg "in_debt" QS)(B:XQ mg):Sd P w K mg base:=
 K2 [] a Fj λb=>
  (Zg (Zz (TM (["house","coins"]:List bH) (["base"]:List bH) [1] rfl (XB aB rfl B.enumerate (Y4 (vo 0))) (by kernel_rfl) (λ_ _ _ _ _=>(YI (n:=2) rfl (Zv (Sy 0) (Zv (Sy 1) Yh)))) (λ_ _ _ _ _=>(Rt (VW.vt (Kq (VJ b.units (vo 0) (vo 2)) (P8 (ON (vo 1) Zh)))))) (λ_ _ _ _ _=>(VE.pure (vo 0))))))
abbrev Ws:cB:=XU 7
theorem sc_house_to_burn:Zq ["web","purse","fire","house","coins"] ["web","purse","fire"] (Zf Ws):=Wm
theorem QT(c:Def K mg "house_to_burn" Ws)(B:XQ mg)(a:Sa P w K mg base):Wq P w K mg base:=
 LV [] c sc_house_to_burn λb=>
  (Zd (MJ (XB aB rfl B.enumerate (Y4 (vo 1))) (YI (n:=2) rfl (Zv (Sm 3 sc_house_to_burn.nd) (Zv (Sm 4 sc_house_to_burn.nd) Yh))) (Zg (Xu (VW.vt (Kq (O8 b.units (vo 3) (vo 2)) (P8 (ON (vo 4) (V8 a b (Uw (vo 0) (vo 3) (vo 2))))))) (Zg (Zz (VE.pure (vo 3)))) Yi)))
  (Zg (Zz (VE.pure UZ))))
abbrev Jj:cB:=XU 6
theorem sc_burnt:Zq ["web","purse","base","fire","house"] ["web","purse","base"] (Zf Jj):=Wm
theorem Zaz(c:Def K mg "burnt" Jj)(B:XQ mg)(a:Wq P w K mg base):Oi P w K mg base:=
 LV [3] c sc_burnt λb=>
  (Zd (Yg 3 sc_burnt.nd (XA (Wj (VE.pure (vo 2)) YS)))
  (Zd (Yg 4 sc_burnt.nd (Vc a b (Uw (vo 0) (vo 1) (vo 3))))
  (Zd (VG eZ (P9 (vo 4)) (Zd (Xc (Y3 (WQ bT cE cF Xa (pv 3) (Z2 (VE.pure (vo 4)) Y0))))
  (Zg (Yg 4 sc_burnt.nd (Vc a b (Uw (vo 0) (vo 1) (vo 3)))))))
  (Zg (TN (pv 3))))))
abbrev N3:cB:=XU 31
theorem sc_settle:Zq ["web","purse","base","script","near","indebted","step"] ["web","purse","base"] (Zf N3):=Wm
theorem CQ(i:Def K mg "settle" N3)(B:XQ mg)(c:T9 P w K mg base)(e:EV P w K mg base)(a:Sd P w K mg base)(b:Vo P w K mg base)(g:NO P w K mg base)(f:Oi P w K mg base)(d:Oh P w K mg base):NS P w K mg base:=
 LV [] i sc_settle λh=>
  (Zd (Yg 3 sc_settle.nd (Vc c h (Uw (vo 0) (vo 1) (vo 2))))
  (Zd (Yg 4 sc_settle.nd (Vc e h (Uw (vo 0) (vo 1) (vo 3))))
  (Zd (Yg 5 sc_settle.nd (Vc a h (Wk (vo 4) (vo 2))))
  (Zd (VG eZ (Ad (V9 B.len (vo 5)) Zh) (Zd (Yg 6 sc_settle.nd (Vc b h (Wk (vo 0) (vo 5))))
  (Zd (Yg 3 sc_settle.nd (Vc g h (Wk (vo 3) (vo 6))))
  (Zd (Yg 4 sc_settle.nd (Vc e h (Uw (vo 0) (vo 4) (vo 6))))
  (Zg (Yg 5 sc_settle.nd (Vc a h (Wk (vo 4) (vo 2)))))))))
  (Zg (Zz (Zi0 (Wj (Vc d h (Y4 (vo 3))) (Wj (VE.pure (vo 4)) (Wj (Vc f h (Uw (vo 0) (vo 4) (vo 2))) YS))))))))))
abbrev QU:cB:=XU 60
theorem Fm:Zq ["_law_found"] ["_law_found"] (Zf QU):=Wm
theorem Fo(a:Def K mg "_law_whole" QU)(B:XQ mg):QF P w K mg base:=
 dk1 [] a Fm λb=>
  (Zg (Zz (VE.pure (OQ (vb Vf Oa B.isinstance (Wk (vo 0) (Eo rfl B.int (by decide +kernel)))) (Ks (Ziy (vb Vf Oa B.isinstance (Wk (vo 0) (Eo rfl B.bool (by decide +kernel))))))))))
abbrev S1:cB:=XU 61
theorem IU:Zq ["_law_found","_law_many"] ["_law_found","_law_many"] (Zf S1):=Wm
theorem IV(c:Def K mg "_law_wholes" S1)(B:XQ mg)(a:QF P w K mg base):SV P w K mg base:=
 K2 [] c IU λb=>
  (Zd (Xu (VW.vt (Rh (SG (U0 (vb Vf Oa B.isinstance (Wk (vo 0) (Eo rfl B.tuple (by decide +kernel)))))) (U1 (VJ b.units (V9 B.len (vo 0)) (vo 1))))) (Zg (Zz (VE.pure Ei))) Yi)
  (Zg (Zz (VE.pure (vb (Lo rfl) Ak B.all (Y4 (CB "_law_one_here" [] [] (Qi (vo 0)) (V8 a b (Y4 (vo 0))))))))))
abbrev N4:cB:=XU 62
theorem sc_l_lend:Zq ["_law_web_here","_law_purse","_law_script","_law_found","_law_house","_law_coins_here","_law_other","_law_step"] ["_law_web_here","_law_purse","_law_script"] (Zf N4):=Wm
theorem CS(a:Def K mg "_law_lend" N4)(B:XQ mg):NT P w K mg base:=
 LV [3] a sc_l_lend λb=>
  (Zd (Yg 3 sc_l_lend.nd (XA YS))
  (Zd (MJ (GS B.range (V9 B.len (vo 0))) (Sm 4 sc_l_lend.nd) (Zd (Yg 5 sc_l_lend.nd (VE.pure (Zj (vo 1) (vo 4))))
  (Zd (MJ (GS B.range (V9 B.len (vo 0))) (Sm 6 sc_l_lend.nd) (Zd (Yg 7 sc_l_lend.nd (VE.pure (Y1 (Zj (vo 2) (vo 4)) (Zj (vo 2) (vo 6)))))
  (Zg (Yg 5 sc_l_lend.nd (VE.pure (Y1 (vo 5) (SE (Zj (Zj (vo 0) (vo 4)) (vo 6)) (vo 7))))))))
  (Zg (Xc (Y3 (WQ bT cE cF Xa (pv 3) (Z2 (VE.pure (vo 5)) Y0))))))))
  (Zg (Zz (VE.pure (ZK Zu ZW rfl B.tuple (by decide +kernel) (Y4 (vo 3))))))))
abbrev UA:cB:=XU 9
theorem MZ:Zq ["web","purse","base"] ["web","purse","base"] (Zf UA):=Wm
theorem M0(d:Def K mg "is_settled" UA)(B:XQ mg)(b:Oi P w K mg base)(a:Sd P w K mg base):Uy P w K mg base:=
 LV [] d MZ λc=>
  (Zg (Zz (VE.pure (OQ (Im c.units (V9 B.len (V8 a c (Wk (vo 1) (vo 2)))) Zh) (Ks (Im c.units (V9 B.len (V8 b c (Uw (vo 0) (vo 1) (vo 2)))) (V9 B.len (vo 0))))))))
abbrev QV:cB:=XU 38
theorem Fp:Zq ["web","base","purse"] ["web","base","purse"] (Zf QV):=Wm
theorem Fq(d:Def K mg "tree_of" QV)(B:XQ mg)(a:Uy P w K mg base)(b:Sb P w K mg base):QG P w K mg base:=
 LV [] d Fp λc=>
  (Zd (Xu (SG (U0 (V8 a c (Uw (vo 0) (vo 2) (vo 1))))) (Zg (Nk (W:=[]))) Yi)
  (Zg (Zz (NF (q:="tree_of") (L:=YO) (i:=2) rfl rfl rfl b (c.mono (by decide)) rfl rfl rfl rfl (vo 0) (vo 1) (jN _) rfl (by decide) rfl rfl ⟨_,rfl,rfl⟩ rfl rfl rfl rfl))))
abbrev Jk:cB:=XU 69
theorem sc_l_one:Zq ["_law_web_here","_law_base","_law_tree_here","_law_still","_law_coins_here","_law_found","_law_there"] ["_law_web_here","_law_base","_law_tree_here"] (Zf Jk):=Wm
theorem Za0(i:Def K mg "_law_one" Jk)(B:XQ mg)(b:SS P w K mg base)(a:SV P w K mg base)(d:QE P w K mg base)(g:NR P w K mg base)(f:NT P w K mg base)(e:NS P w K mg base)(c:QG P w K mg base):K7 P w K mg base:=
 LV [4] i sc_l_one λh=>
  (Zd (Yg 3 sc_l_one.nd (Vc b h (Uw (vo 0) (vo 1) (vo 2))))
  (Zd (Xu (VW.vt (Rh (SG (U0 (V8 a h (Wk (vo 3) (V9 B.len (vo 0)))))) (U1 (VJ h.units (Zj (vo 3) (vo 1)) Zh)))) (Zg (Zz (VE.pure UZ))) Yi)
  (Zd (Yg 4 sc_l_one.nd (Qh Ub OU rfl B.list (by decide +kernel) (Y4 (vo 3))))
  (Zd (O5 (UW (Y1 (V8 d h (Y4 (vo 0))) (vb (X0 rfl) SH B.sum (Y4 (vo 3)))) (Sz (pv 4) (vo 1) WO)))
  (Zd (Yg 5 sc_l_one.nd (Vc g h (Wk (vo 0) (ZK Zu ZW rfl B.tuple (by decide +kernel) (Y4 (vo 4))))))
  (Zd (Xu (VW.vt (Rh (SG (U0 (vb Vf Oa B.isinstance (Wk (vo 5) (Eo rfl B.tuple (by decide +kernel)))))) (Rh (VJ h.units (V9 B.len (vo 5)) Zh) (U1 (SG (U0 (V8 a h (Wk (Zj (vo 5) Zh) (V9 B.len (vo 0)))))))))) (Zg (Zz (VE.pure UZ))) Yi)
  (Zd (Xu (VW.vt (Rh (VJ h.units (V8 f h (Uw (vo 0) (vo 4) (Zj (vo 5) Zh))) (Zj (vo 5) Zh)) (U1 (ON (vb (LJ rfl) EJ B.min (Y4 (Zj (vo 5) Zh))) Zh)))) (Zg (Zz (VE.pure UZ))) Yi)
  (Zd (Yg 6 sc_l_one.nd (VE.pure (Zj (V8 e h (Uw (vo 0) (Zj (vo 5) Zh) (vo 1))) Zh)))
  (Zd (Xu (VW.vt (Rh (VJ h.units (vo 6) (ZK Zu ZW rfl B.tuple (by decide +kernel) (Y4 (vo 4)))) (U1 (VJ h.units (V8 c h (Uw (vo 0) (vo 1) (vo 6))) (vo 2))))) (Zg (Zz (VE.pure UZ))) Yi)
  (Zg (Zz (VE.pure (Zj (vo 5) Zh)))))))))))))
abbrev Za1:cB:=XU 70
theorem sc_law:Zq ["_law_script","_law_web_here","_law_base","_law_known","_law_cell","_law_tree_here","_law_purse"] ["_law_script"] (Zf Za1):=Wm
theorem Zjm{h:aL}{i:fL}(j:Fun K "law" "law" Za1 h i)(B:XQ mg)(d:K4 P w K mg base)(b:Th P w K mg base)(a:K3 P w K mg base)(c:NL P w K mg base)(e:K7 P w K mg base):Pq P w K mg base J6 7 h i (["_law_script"]:List bH) (Y5 K D_law 1):=
 Zi9 (O:=[3]) (k:=6) 7 Zhe j sc_law rfl rfl (by decide) (λm l A g s H E f=>
  (Zd (Yg 1 sc_law.nd (Vc d f (Uw (vo 0) (OT (Wx Zh (va4 Zh Zh Zh Zh))) Zh)))
  (Zd (Yg 2 sc_law.nd (Vc b f (Uw (V8 a f (Wk (vo 0) Zh)) Zh (V9 B.len (vo 1)))))
  (Zd (Yg 3 sc_law.nd Ai)
  (Zd (MJ (Yp (VM.ve (KC (OT (Y4 (V8 a f (Wk (vo 0) Zh)))) (WK (vo 0) (Wg Zh) (Wg Zh))))) (Sm 4 sc_law.nd) (Zd (Yg 5 sc_law.nd (Vc c f (Wk (vo 1) (vo 4))))
  (Zd (Yg 6 sc_law.nd (Vc e f (Uw (vo 1) (vo 2) (vo 5))))
  (Zd (Xu (VW.vt (Rh (Ziz (vo 6)) (U1 (VJ f.units (Ar (Lk f) (vo 3) (vo 6) (vo 5)) (vo 5))))) (Zg (Zz (VE.pure Ei))) Yi)
  (Zg (EA (Ee (Lk f) (pv 3) (vo 6) (vo 5) rfl)))))))
  (Zg (Zz (VE.pure Ei))))))))
end
end PW
namespace PW
open L2 VL
theorem N5{W:List (List Int)}{h:Nat}(a:h<W.length):VN [wP W,.int (h:Int)]=ax (.int (ZA W h).sum):=by simp[VN,LH,YF,ZP,TX a]
theorem Za2(l:List Int):Of [pP l]=ax (.int l.sum):=by simp[Of,EF,YF,ZP]
theorem Za3(i:Int):VQ [.int i]=ax (.bl aC):=by simp[VQ,LI,YF,ZP]
noncomputable def PY(a b:List Int):List Int:=(aD a.length).map λi=>Zl a i+Zl b i
noncomputable def PZ(a b:List Int):List Int:=(aD a.length).map λi=>Zl a i-Zl b i
theorem Jl{a b:List Int}(h:b.length=a.length)(f:a.length<=1000):Vt [pP a,pP b]=ax (pP (PY a b)):=by
 have d:Qj (iL a) (iL b)=(aD a.length).map λi=>.tup [.int (Zl a i),.int (Zl b i)]:=by rw[Uk _ _ (by simpa using h),aJ];apply au;intro i c;have c:=aY.mp c;rw[XH a i c,XH b i (by omega)]
 have e:Zw 2 [] (MQ aB aB [Za 0,Za 1]) (.many [0,1]) ZD (Zm YJ (Za 0) (Za 1)) [ax (pP a),ax (pP b)]=ax (.lst (iL (PY a b))):=by rw[ZL (aD a.length) (λi=>.tup [.int (Zl a i),.int (Zl b i)]) (λi=>.int (Zl a i+Zl b i)) (by simp[d]) (by simp;omega) (λi _=>⟨_,rfl,rfl,by simp[setAll,ZH]⟩)];simp[PY]
 simp[Vt,AS,YF,ZP,e]
theorem IW{a b:List Int}(h:b.length=a.length)(f:a.length<=1000):RH [pP a,pP b]=ax (pP (PZ a b)):=by
 have d:Qj (iL a) (iL b)=(aD a.length).map λi=>.tup [.int (Zl a i),.int (Zl b i)]:=by rw[Uk _ _ (by simpa using h),aJ];apply au;intro i c;have c:=aY.mp c;rw[XH a i c,XH b i (by omega)]
 have e:Zw 2 [] (MQ aB aB [Za 0,Za 1]) (.many [0,1]) ZD (Zm Wi (Za 0) (Za 1)) [ax (pP a),ax (pP b)]=ax (.lst (iL (PZ a b))):=by rw[ZL (aD a.length) (λi=>.tup [.int (Zl a i),.int (Zl b i)]) (λi=>.int (Zl a i-Zl b i)) (by simp[d]) (by simp;omega) (λi _=>⟨_,rfl,rfl,by simp[setAll,ZH]⟩)];simp[PZ]
 simp[RH,EG,YF,ZP,e]
theorem Oj(l:List Int):Xt (iL l)=(aD l.length).map λ(i:Nat)=>.tup [.int (i:Int),.int (Zl l i)]:=by rw[Y6,aJ];apply au;intro i a;rw[XH l i (aY.mp a)]
noncomputable def V1(W:List (List Int))(S:List Int)(h:Nat):Int:=((aD W.length).map λi=>ZM W h i*(Zl S i-Zl S h)).sum
theorem Zff{W:List (List Int)}{S:List Int}{h:Nat}(ok:Zt W)(b:h<W.length)(k:S.length=W.length):Nh [wP W,pP S,.int (h:Int)]=ax (.int (V1 W S h)):=by
 have f:=ok.sq h b;have l:=ok.few
 have e:Zw 2 [1,2] (Xf aB [Zm ZR (Za 0) (Za 2)]) (.many [0,1]) ZD (Zm Px (Za 1) (Zm Wi (Zm ZR (Za 2) (Za 0)) (Zm ZR (Za 2) (Za 3)))) [ax (wP W),ax (pP S),ax (.int (h:Int))]=ax (.lst (iL ((aD W.length).map λi=>ZM W h i*(Zl S i-Zl S h)))):=by
  rw[ZL (aD W.length) (λi=>.tup [.int (i:Int),.int (ZM W h i)]) (λi=>.int (ZM W h i*(Zl S i-Zl S h))) (by simp[TX b,Oj,f];intro a _;rfl) (by simp;omega) (λi c=>?_)]
  ·simp
  ·have c:=aY.mp c;refine⟨_,rfl,rfl,?_⟩;have b1:=ok.lo h i b c;have g:=ok.hi h i b c;have d:∀j,CMul (ZM W h i) j:=λj=>AO (by omega) (by omega);simp[setAll,ZH,YD (show i<S.length by omega),YD (show h<S.length by omega),d]
 simp[Nh,AR,YF,ZP,e,V1,-bZ]
noncomputable def ZT(W:List (List Int))(D S:List Int):List Int:=(aD D.length).map λh=>Zl D h+V1 W S h
theorem Jm{W:List (List Int)}{D S:List Int}(ok:Zt W)(hd:D.length=W.length)(b:S.length=W.length):VP [wP W,pP D,pP S]=ax (pP (ZT W D S)):=by
 have d:=ok.few
 have c:Zw 2 [0,2] (Xf aB [Za 1]) (.many [0,1]) ZD (Zm YJ (Za 1) (Ze Nh [Za 2,Za 3,Za 0])) [ax (wP W),ax (pP D),ax (pP S)]=ax (.lst (iL (ZT W D S))):=by
  rw[ZL (aD D.length) (λi=>.tup [.int (i:Int),.int (Zl D i)]) (λh=>.int (Zl D h+V1 W S h)) (by simp[Oj]) (by simp;omega) (λi a=>?_)]
  ·simp[ZT]
  ·have a:=aY.mp a;refine⟨_,rfl,rfl,?_⟩;simp[setAll,ZH,Zff ok (show i<W.length by omega) b]
 simp[VP,Zhc,YF,ZP,c]
noncomputable def XJ(W:List (List Int))(a b:Nat):List (List Int):=(aD (ZM W a b).toNat).map λ(t:Nat)=>[(a:Int),(b:Int),(t:Int)]
noncomputable def UO(W:List (List Int))(a:Nat):List (List Int):=(aD (W.length-(a+1))).flatMap λj=>XJ W a (a+1+j)
noncomputable def Z8(W:List (List Int)):List (List Int):=(aD W.length).flatMap (UO W)
theorem Xw{a:Type}(f:Nat->List a)(i:Nat):(aD (i+1)).flatMap f=(aD i).flatMap f++f i:=by rw[eY];simp
theorem Fs{W:List (List Int)}(ok:Zt W){a b:Nat}(d:a<W.length)(c:b<W.length):(XJ W a b).length<=9:=by have:=ok.hi a b d c;unfold XJ;simp;omega
theorem CT{W:List (List Int)}(ok:Zt W){a b:Nat}(c:a<W.length)(d:b<W.length)(t:Option PV):Zw 1 [2,4] (Yk [Zm ZR (Za 3) (Za 4)]) (.one 0) ZD (eP (Wy [Za 1,Za 2,Za 0])) [ax (wP W),t,ax (.int (a:Int)),ax (pP (ZA W a)),ax (.int (b:Int))]=ax (.lst ((XJ W a b).map pP)):=by
 have g:=ok.sq a c;have b1:=ok.lo a b c d;have e:=ok.hi a b c d;rw[ZL (aD (ZM W a b).toNat) (λi=>.int (i:Int)) (λt=>pP [(a:Int),(b:Int),(t:Int)]) ?_ (by simp;omega) (λi f=>⟨_,rfl,rfl,by simp[ZH]⟩)]
 ·simp[XJ]
 ·exact Xd (by simp[YD (show b<(ZA W a).length by omega)];show ZM W a b=max (ZM W a b) 0;omega) (by omega)
theorem Ft{W:List (List Int)}(ok:Zt W){a:Nat}(e:a<W.length)(acc:List (List Int))(f:acc.length<=1000)(c:Option PV) :
  ∃b,VF (.one 4) (WB 1 (Zw 1 [2,4] (Yk [Zm ZR (Za 3) (Za 4)]) (.one 0) ZD (eP (Wy [Za 1,Za 2,Za 0])))) (SI ((a:Int)+1) (W.length-(a+1))) [ax (wP W),ax (.lst (acc.map pP)),ax (.int (a:Int)),ax (pP (ZA W a)),c]
   = ax (.nx [ax (wP W),ax (.lst ((acc++UO W a).map pP)),ax (.int (a:Int)),ax (pP (ZA W a)),b])/\(UO W a).length<=63:=by
 have v:=ok.few
 obtain⟨t,o,b,g,q⟩:=U9 (T:=.one 4) (fb:=WB 1 (Zw 1 [2,4] (Yk [Zm ZR (Za 3) (Za 4)]) (.one 0) ZD (eP (Wy [Za 1,Za 2,Za 0])))) (ls:=SI ((a:Int)+1) (W.length-(a+1))) (s:=[ax (wP W),ax (.lst (acc.map pP)),ax (.int (a:Int)),ax (pP (ZA W a)),c])
  (λj st=>∃b,st=[ax (wP W),ax (.lst ((acc++(aD j).flatMap λj=>XJ W a (a+1+j)).map pP)),ax (.int (a:Int)),ax (pP (ZA W a)),b]/\((aD j).flatMap λj=>XJ W a (a+1+j)).length<=9*j)
  ⟨c,by simp,by simp⟩ (λj l st p i=>by
   obtain⟨u,rfl⟩:=Ir p;obtain⟨b,rfl,d⟩:=i;have h:a+1+j<W.length:=by omega
   have m:=CT ok e h (ax (.lst ((acc++(aD j).flatMap λj=>XJ W a (a+1+j)).map pP)));have k:=Fs ok e h;have n:(acc.length+((aD j).flatMap λj=>XJ W a (a+1+j)).length)+(XJ W a (a+1+j)).length<=10000:=by omega
   refine⟨_,_,rfl,?_,ax (.int ((a+1+j:Nat):Int)),rfl,?_⟩
   ·refine(Nc m rfl (by rw[aJ,aJ,aT];exact n)).trans ?_;simp[Xw]
   ·rw[Xw,aT];omega)
 rw[Iu] at g q;refine⟨b,?_,?_⟩
 ·rw[o,g];rfl
 ·have:UO W a=(aD (W.length-(a+1))).flatMap λj=>XJ W a (a+1+j):=rfl;rw[this];omega
theorem Wa{W:List (List Int)}(ok:Zt W):Xv [wP W]=ax (.lst ((Z8 W).map pP))/\(Z8 W).length<=441:=by
 have q:=ok.few;have a:Xt (W.map pP)=(aD W.length).map λi=>.tup [.int (i:Int),pP (ZA W i)]:=by rw[Y6,aJ];apply au;intro i b;rw[AM W i (aY.mp b)]
 obtain⟨p,h,x,y,z,e,n⟩:=U9 (T:=.many [2,3]) (fb:=YU [1] (VD [Zm YJ (Za 2) (eC (.int 1)),Ze ZN [Za 0]]) (.one 4) (WB 1 (Zw 1 [2,4] (Yk [Zm ZR (Za 3) (Za 4)]) (.one 0) ZD (eP (Wy [Za 1,Za 2,Za 0]))))) (s:=[ax (wP W),ax (.lst []),aA,aA,aA])
  (λi st=>∃x y z,st=[ax (wP W),ax (.lst (((aD i).flatMap (UO W)).map pP)),x,y,z]/\((aD i).flatMap (UO W)).length<=63*i)
  ⟨aA,aA,aA,by simp,by simp⟩ (λi l st c f=>by
   obtain⟨x,y,z,rfl,d⟩:=f;have b:i<W.length:=by have:=(aR.mp c).1;rw[WI,aJ] at this;exact this
   rw[a,aX,cC b] at c;cases c;obtain⟨g,o,t⟩:=Ft ok b ((aD i).flatMap (UO W)) (by omega) z;refine⟨_,_,rfl,?_,ax (.int (i:Int)),ax (pP (ZA W i)),g,rfl,?_⟩
   ·have m:VD [Zm YJ (Za 2) (eC (.int 1)),Ze ZN [Za 0]] (Xr [1] [ax (wP W),ax (.lst (((aD i).flatMap (UO W)).map pP)),ax (.int (i:Int)),ax (pP (ZA W i)),z])=ax (SI ((i:Int)+1) (W.length-(i+1))):=by rw[LD (i:=(i:Int)+1) (j:=(W.length:Int)) rfl (by simp[Xr]) ⟨by omega,by omega⟩ ⟨by omega,by omega⟩];congr 2;omega
    show YU _ _ _ _ [ax (wP W),_,ax (.int (i:Int)),ax (pP (ZA W i)),z]=_;rw[AN,m];simp only[aQ];rw[o,Xw]
   ·rw[Xw,aT];omega)
 rw[WI,aJ] at e n;refine⟨?_,by have:Z8 W=(aD W.length).flatMap (UO W):=rfl;rw[this];omega⟩;have k:YF 5 Qo [wP W]=ax (.lst ((Z8 W).map pP)):=by unfold Qo;simp only[YF,O9,Yf,AB,Od,bz,aQ];show((VF _ _ (Xt (W.map pP)) [ax (wP W),ax (.lst []),aA,aA,aA]).bind _).bind U5=_;rw[h,e];rfl
 exact k
theorem Za4{W:List (List Int)}(ok:Zt W):RG [wP W]=ax (.int (((Z8 W).length:Int)-(W.length:Int)+1)):=by simp[RG,EE,YF,ZP,(Wa ok).1]
noncomputable def tk(e:Tie):List Y8:=[.inl (e.1:Int),.inl (e.2.1:Int)]
theorem IX{i:Nat}{a fv:XE}{s:ZG}{d k v b:PV}(c:fv s=ax v)(e:a s=ax k)(hd:(s[i]?).join=ax d)(f:As d k v=ax b):VL.sDPut i a fv s=ax (.nx (s.set i (ax b))):=by unfold VL.sDPut;rw[c,e];simp only[aQ,hd,f,bz]
noncomputable def V2(W:List (List Int)):Prop:=∀P:Nat->Prop,(∀a b,a<W.length->b<W.length->0<ZM W a b->(P a↔P b))->∀i j,i<W.length->j<W.length->(P i↔P j)
theorem V3:∀{l m:List Int},l.Nodup->(∀x∈l,x∈m)->l.length<=m.length
 | [],m,_,_=>dq _
 | x::r,m,nd,h=>by have b:x∈m:=h x (by simp);have a:=aq.mp nd;have:=V3 (l:=r) (m:=m.erase x) a.2 λy c=>(e8 (show y≠x from λz=>a.1 (by rw[<-z];exact c))).mpr (h y (by simp[c]));rw[fI b] at this;have d:=iT b;rw[az];omega
theorem M1{n:Nat}{l:List Int}(b:l.Nodup)(h:∀x∈l,∃k:Nat,k<n/\x=(k:Int))(e:l.length=n){j:Nat}(d:j<n):(j:Int)∈l:=by
 by_cases q:(j:Int)∈l
 ·exact q
 ·have:=V3 (aq.mpr ⟨q,b⟩) (λx a=>by
   rcases aa.mp a with rfl | a
   ·exact ar.mpr ⟨j,aY.mpr d,rfl⟩
   ·obtain⟨k,c,rfl⟩:=h x a;exact ar.mpr ⟨k,aY.mpr c,rfl⟩)
  rw[az,aJ,bt] at this;omega
noncomputable def rL(M:List (List Int)):List PV:=M.map λr=>.lst (iL r)
theorem Fu{M:List (List Int)}{a:Nat}(h:a<M.length):(rL M)[a]?=ax (.lst (iL (ZA M a))):=by unfold rL;rw[aX,OL h];rfl
theorem Za5{M:List (List Int)}{a b:Nat}{t:Int}:(rL M).set a (.lst ((iL (ZA M a)).set b (.int t)))=rL (Qf M a b t):=by unfold rL Qf;rw[ky];show _=(List.map (λr=>PV.lst (iL r)) M).set a (PV.lst (((ZA M a).set b t).map PV.int));rw[ky]
theorem Zjn(l:List Int)(k:Nat)(x:Int):(iL l).take k++PV.int x::(iL l).drop k=iL (l.take k++x::l.drop k):=by simp
theorem Zhf(b:Bool)(a:Int)(l:List Int):PF b (.int a) (.lst (iL l))=ax (.bl (if b then !decide (a∈l) else decide (a∈l))):=by
 have c:((iL l).all λz=>UQ 8 z (.int a))=aC:=by rw[jT,bK];intro x _;rfl
 show(ax (iL l)).bind _=_;simp only[aQ,p9 c]
 have:decide (PV.int a∈iL l)=decide (a∈l):=decide_eq_decide.mpr (by
  rw[ar];constructor
  ·rintro⟨x,d,e⟩;cases e;exact d
  ·intro h;exact⟨a,h,rfl⟩)
 rw[this]
theorem W4{f g:XS}{s s1:ZG}(a:f s=ax (.nx s1)):Zn f g s=g s1:=by simp only[O9,a,aQ]
theorem V4(a b:List Int):(PY a b).length=a.length:=by simp[PY]
theorem IY(a b:List Int):(PZ a b).length=a.length:=by simp[PZ]
theorem Z9(W:List (List Int))(D S:List Int):(ZT W D S).length=D.length:=by simp[ZT]
theorem RT{a b:List Int}{i:Nat}(h:i<a.length):Zl (PY a b) i=Zl a i+Zl b i:=ZF h
theorem IZ{a b:List Int}{i:Nat}(h:i<a.length):Zl (PZ a b) i=Zl a i-Zl b i:=ZF h
theorem RU{W:List (List Int)}{a b:List Int}{i:Nat}(h:i<a.length):Zl (ZT W a b) i=Zl a i+V1 W b i:=ZF h
theorem WE{a b:List Int}(c:a.length=b.length)(h:∀i,i<a.length->Zl a i=Zl b i):a=b:=by rw[<-Qe a,<-Qe b,c];apply au;intro i d;exact h i (by rw[c];exact aY.mp d)
theorem Ol{W:List (List Int)}(ok:Zt W){i:Nat}(a:i<W.length):(ZA W i).sum=((aD W.length).map λj=>ZM W i j).sum:=by rw[<-Ko (ZA W i),ok.sq i a];rfl
theorem Fv{W:List (List Int)}(ok:Zt W):((Z8 W).length:Int)=((aD W.length).map λa=>((aD (W.length-(a+1))).map λj=>ZM W a (a+1+j)).sum).sum:=by
 have b:∀(f:Nat->List (List Int))(n:Nat),(((aD n).flatMap f).length:Int)=((aD n).map λi=>((f i).length:Int)).sum:=by
  intro f n
  induction n with
  | zero=>rfl
  | succ n ih=>rw[Xw,aT,Z7];omega
 unfold Z8;rw[b];apply Yt;intro a c;unfold UO;rw[b];apply Yt;intro j d;have:=ok.lo a (a+1+j) c (by omega);unfold XJ;rw[aJ,bt];omega
theorem Hb{W:List (List Int)}(ok:Zt W):((aD W.length).map λi=>(ZA W i).sum).sum=2*((Z8 W).length:Int):=by rw[Fv ok,<-B7 (λi j=>ZM W i j) W.length (λi j a b=>ok.sym i j a b) (λi a=>ok.dia i a)];apply Yt;intro i a;exact Ol ok a
theorem Se{n m:Nat}{c:List Nat}{d:XL}{e:XT}{b:XE}{s:ZG}(g:Nat->Int)(a:d s=ax (Kw m))(j:m<=1000)(h:∀i:Nat,i<m->∃s1,Xg (.one 0) (.int (i:Int)) (ZH n c s)=ax s1/\e s1=ax aC/\b s1=ax (.int (g i))) :
  Zw n c d (.one 0) e b s=ax (.lst (iL ((aD m).map g))):=by
 rw[ZL (aD m) (λi=>.int (i:Int)) (λi=>.int (g i)) a (by simp;omega) (λi f=>h i (aY.mp f))];simp
theorem N6(f g:Nat->Int)(n:Nat):((aD n).map λi=>f i+g i).sum=((aD n).map f).sum+((aD n).map g).sum:=by
 induction n with
 | zero=>rfl
 | succ n ih=>rw[Z7,Z7,Z7,ih];omega
theorem Za6(f:Nat->Nat->Int)(n m:Nat):((aD n).map λi=>((aD m).map λj=>f i j).sum).sum=((aD m).map λj=>((aD n).map λi=>f i j).sum).sum:=by
 induction n with
 | zero=>
  have:((aD m).map λj=>((aD 0).map λi=>f i j).sum).sum=0:=by have:=DS 0 m;simpa using this
  rw[this];rfl
 | succ n ih=>
  rw[Z7,ih,<-N6];apply Yt;intro j _;rw[Z7]
theorem CU{W:List (List Int)}{S U T:List Int}{h:Nat}(e:∀i,i<W.length->Zl T i=Zl S i+Zl U i)(a:h<W.length):V1 W T h=V1 W S h+V1 W U h:=by unfold V1;rw[<-N6];apply Yt;intro i b;rw[e i b,e h a,<-jB];congr 1;omega
theorem Zfg{W:List (List Int)}{D S U T:List Int}(hd:D.length=W.length)(e:∀i,i<W.length->Zl T i=Zl S i+Zl U i):ZT W (ZT W D S) U=ZT W D T:=WE (by simp[Z9]) λi a=>by rw[Z9,Z9] at a;rw[RU (by rw[Z9];exact a),RU a,RU a,CU e (by omega)];omega
theorem Za7{W:List (List Int)}(ok:Zt W)(S:List Int):((aD W.length).map λh=>V1 W S h).sum=0:=by
 have c:((aD W.length).map λh=>V1 W S h).sum=((aD W.length).map λi=>((aD W.length).map λj=>ZM W i j*Zl S j).sum).sum-((aD W.length).map λi=>((aD W.length).map λj=>ZM W i j*Zl S i).sum).sum:=by rw[<-Eh];apply Yt;intro i _;rw[<-Eh];apply Yt;intro j _;rw[fC]
 have a:((aD W.length).map λi=>((aD W.length).map λj=>ZM W i j*Zl S i).sum).sum=((aD W.length).map λi=>((aD W.length).map λj=>ZM W i j*Zl S j).sum).sum:=by rw[Za6];apply Yt;intro i b;apply Yt;intro j d;rw[ok.sym j i d b]
 rw[c,a];omega
theorem RV{W:List (List Int)}{D S:List Int}(ok:Zt W)(hd:D.length=W.length):(ZT W D S).sum=D.sum:=by unfold ZT;rw[N6,Ko,hd,Za7 ok,jV]
theorem nth_set{l:List Int}{h i:Nat}{v:Int}(a:i<l.length):Zl (l.set h v) i=if i=h then v else Zl l i:=by
 unfold Zl;rw[aF,aF,bW];by_cases e:h=i
 ·subst e;rw[p9 rfl,p9 rfl,p9 a];rfl
 ·rw[pW e,pW (bX e)]
theorem Za8(l:List Int)(k:Nat):WA (iL l) aA (ax (k:Int))=iL (l.take k):=by
 unfold WA;rw[HT.sIx_none,HT.sIx_nat,aJ,oz,Nat.sub_zero,<-gu];congr 1;by_cases h:k<=l.length
 ·rw[eV h]
 ·rw[kS (by omega),bY (aZ _),bY (by omega)]
theorem Za9(l:List Int)(k:Nat):WA (iL l) (ax (k:Int)) aA=iL (l.drop k):=by
 unfold WA;rw[HT.sIx_none,HT.sIx_nat,aJ,<-gH];congr 1;by_cases h:k<=l.length
 ·rw[eV h,bY (by simp)]
 ·rw[kS (by omega),iQ (aZ _),iQ (by omega)];simp
theorem EW{l:List Int}{i:Nat}(h:i<l.length):Zl l i∈l:=by unfold Zl;rw[aF,aE h];exact bQ h
theorem Jn{l:List Int}{x:Int}(h:x∈l):∃i,i<l.length/\Zl l i=x:=by obtain⟨i,a,e⟩:=bp h;refine⟨i,a,?_⟩;unfold Zl;rw[aF,aE a,e];rfl
theorem CV{l d:List Int}(c:Int)(n:d.length=l.length)(m:0<l.length)(e:∀i,i<l.length->Zl d i=Zl l i+c):XI d=XI l+c:=by
 obtain⟨a,b⟩:=VR (l:=l) (fK.mp m);obtain⟨i,k,f⟩:=Jn a;refine EH ?_ λx g=>?_
 ·have:=EW (l:=d) (i:=i) (by omega);rw[e i k,f] at this;exact this
 ·obtain⟨j,p,h⟩:=Jn g;have o:=b _ (EW (l:=l) (i:=j) (by omega));rw[e j (by omega)] at h;omega
noncomputable def Y2(l:List Int):List Int:=(aD l.length).map λi=>Zl l i-XI l
theorem UB(l:List Int):(Y2 l).length=l.length:=by simp[Y2]
theorem S2{l:List Int}{i:Nat}(h:i<l.length):Zl (Y2 l) i=Zl l i-XI l:=ZF h
theorem Hd{l a:List Int}(c:Int)(b:a.length=l.length)(f:0<l.length)(e:∀i,i<l.length->Zl a i=Zl l i+c):Y2 a=Y2 l:=WE (by rw[UB,UB,b]) λi d=>by rw[UB] at d;rw[S2 d,S2 (by omega),CV c b f e,e i (by omega)];omega
end PW
namespace PW
noncomputable def sN:Nat->(Nat->Int)->Int
 | 0,_=>0
 | n+1,f=>sN n f+f n
theorem Zi{f g:Nat->Int}:∀{n:Nat},(∀i,i<n->f i=g i)->sN n f=sN n g
 | 0,_=>rfl
 | n+1,h=>by show sN n f+f n=sN n g+g n;rw[Zi λi a=>h i (by omega),h n (by omega)]
theorem YH{f:Nat->Int}{n:Nat}(h:∀i,i<n->f i=0):sN n f=0:=by
 rw[Zi h];clear h
 induction n with
 | zero=>rfl
 | succ n ih=>show sN n _+0=0;rw[ih];rfl
theorem ZS(f g:Nat->Int):∀n,sN n (λi=>f i+g i)=sN n f+sN n g
 | 0=>rfl
 | n+1=>by show sN n _+(f n+g n)=(sN n f+f n)+(sN n g+g n);rw[ZS f g n];omega
theorem ZJ(c:Int)(f:Nat->Int):∀n,sN n (λi=>c*f i)=c*sN n f
 | 0=>by show(0:Int)=c*0;simp
 | n+1=>by show sN n _+c*f n=c*(sN n f+f n);rw[ZJ c f n,jB]
theorem UC(f:Nat->Nat->Int)(m:Nat):∀n,sN n (λi=>sN m (f i))=sN m (λj=>sN n λi=>f i j)
 | 0=>by show(0:Int)=sN m λ_=>0;rw[YH (λ_ _=>rfl)]
 | n+1=>by show sN n (λi=>sN m (f i))+sN m (f n)=sN m (λj=>(sN n λi=>f i j)+f n j);rw[ZS,UC f m n]
theorem Z3{f:Nat->Int}{k:Nat}:∀{n:Nat},k<n->(∀i,i<n->i≠k->f i=0)->sN n f=f k
 | 0,h,_=>by omega
 | n+1,h,z=>by
  show sN n f+f n=f k;by_cases q:k=n
  ·subst q;rw[YH λi a=>z i (by omega) (by omega)];omega
  ·rw[Z3 (n:=n) (by omega) λi a=>z i (by omega),z n (by omega) (by omega)];omega
theorem Zba{f:Nat->Int}{k:Nat}:∀{n:Nat},k+1<n->(∀i,i<n->i≠k->i≠k+1->f i=0)->sN n f=f k+f (k+1)
 | 0,h,_=>by omega
 | n+1,h,z=>by
  show sN n f+f n=_;by_cases q:k+1=n
  ·subst q;rw[Z3 (k:=k) (by omega) λi a b=>z i (by omega) b (by omega)]
  ·rw[Zba (n:=n) (by omega) λi a=>z i (by omega),z n (by omega) (by omega) (by omega)];omega
theorem WG(f:Nat->Int)(n:Nat):((aD n).map f).sum=sN n f:=by
 induction n with
 | zero=>rfl
 | succ n ih=>rw[eY,ay,gE,ih];simp[sN]
abbrev Mt:=Nat->Nat->Int
noncomputable def P0(i:Nat)(A:Mt):Mt:=λr c=>A (if r<i then r else r+1) (c+1)
noncomputable def sg:Nat->Int
 | 0=>1
 | n+1=>- sg n
noncomputable def W5:Nat->Mt->Int
 | 0,_=>1
 | n+1,A=>sN (n+1) λi=>sg i*A i 0*W5 n (P0 i A)
theorem Wl(n:Nat)(A:Mt):W5 (n+1) A=sN (n+1) λi=>sg i*A i 0*W5 n (P0 i A):=rfl
theorem WN:∀{n:Nat}{A B:Mt},(∀r c,r<n->c<n->A r c=B r c)->W5 n A=W5 n B
 | 0,_,_,_=>rfl
 | n+1,A,B,h=>by rw[Wl,Wl];refine Zi λi a=>?_;rw[h i 0 a (by omega),WN (n:=n) (A:=P0 i A) (B:=P0 i B) λr c d b=>?_];unfold P0;exact h _ _ (by split<;>omega) (by omega)
theorem EX:∀{n:Nat}{A B C:Mt}{k:Nat}{x y:Int},k<n->(∀r c,r<n->c<n->r≠k->A r c=C r c/\B r c=C r c)->(∀c,c<n->C k c=x*A k c+y*B k c)->W5 n C=x*W5 n A+y*W5 n B
 | 0,_,_,_,k,_,_,h,_,_=>by omega
 | n+1,A,B,C,k,x,y,hk,h1,h2=>by
  rw[Wl,Wl,Wl,<-ZJ,<-ZJ,<-ZS];refine Zi λi l=>?_;by_cases q:i=k
  ·subst q;have m:W5 n (P0 i A)=W5 n (P0 i C):=WN λr c d b=>by unfold P0;exact(h1 _ _ (by split<;>omega) (by omega) (by split<;>omega)).1
   have g:W5 n (P0 i B)=W5 n (P0 i C):=WN λr c d b=>by unfold P0;exact(h1 _ _ (by split<;>omega) (by omega) (by split<;>omega)).2
   rw[m,g,h2 0 (by omega),jB,mD];simp only[cg,gR]
  ·obtain⟨j,f⟩:=h1 i 0 l (by omega) q
   have e:W5 n (P0 i C)=x*W5 n (P0 i A)+y*W5 n (P0 i B):=EX (k:=if k<i then k else k-1) (by split<;>omega) (λr c d b a=>by
    unfold P0
    exact h1 _ _ (by split<;>omega) (by omega) (by split at a<;>split<;>omega)) (λc b=>by
    have e:(if(if k<i then k else k-1)<i then(if k<i then k else k-1) else(if k<i then k else k-1)+1)=k:=by split<;>(try split)<;>omega
    unfold P0;rw[e];exact h2 (c+1) (by omega))
   rw[j,f,e,jB];simp only[cg,gR]
theorem Om:∀{n:Nat}{A:Mt}{k:Nat},k+1<n->(∀c,c<n->A k c=A (k+1) c)->W5 n A=0
 | 0,_,k,h,_=>by omega
 | n+1,A,k,hk,he=>by
  rw[Wl,Zba hk]
  ·have e:W5 n (P0 k A)=W5 n (P0 (k+1) A):=WN λr c m b=>by
    unfold P0;by_cases q:r<k
    ·rw[p9 q,p9 (by omega)]
    ·rw[pW q];by_cases f:r=k
     ·subst f;rw[p9 (by omega)];exact(he (c+1) (by omega)).symm
     ·rw[pW (by omega)]
   rw[e,he 0 (by omega)];show sg k*_*_ + - sg k*_*_=0;rw[dJ,dJ];omega
  ·intro i l j g;rw[Om (n:=n) (A:=P0 i A) (k:=if k+1<i then k else k-1) (by split<;>omega) λc b=>?_,fD];have d:(if(if k+1<i then k else k-1)<i then(if k+1<i then k else k-1) else(if k+1<i then k else k-1)+1)=k:=by split<;>(try split)<;>omega
   have a:(if(if k+1<i then k else k-1)+1<i then(if k+1<i then k else k-1)+1 else(if k+1<i then k else k-1)+1+1)=k+1:=by split<;>(try split)<;>omega
   unfold P0;rw[d,a];exact he (c+1) (by omega)
noncomputable def put(k:Nat)(v:Nat->Int)(A:Mt):Mt:=λr=>if r=k then v else A r
theorem YW(k:Nat)(v:Nat->Int)(A:Mt):put k v A k=v:=by unfold put;rw[p9 rfl]
theorem Vv{k r:Nat}(v:Nat->Int)(A:Mt)(h:r≠k):put k v A r=A r:=by unfold put;rw[pW h]
theorem RW{n k:Nat}{A:Mt}{u v:Nat->Int}{x y:Int}(a:k<n):W5 n (put k (λc=>x*u c+y*v c) A)=x*W5 n (put k u A)+y*W5 n (put k v A):=
 EX a (λr c _ _ h=>by rw[Vv _ _ h,Vv _ _ h,Vv _ _ h];exact⟨rfl,rfl⟩) (λc _=>by rw[YW,YW,YW])
noncomputable def swp(k:Nat)(A:Mt):Mt:=put k (A (k+1)) (put (k+1) (A k) A)
theorem Zfh{n k:Nat}{A:Mt}(d:k+1<n):W5 n (swp k A) = - W5 n A:=by
 have two:∀u v:Nat->Int,W5 n (put k (λc=>1*u c+1*v c) (put (k+1) (λc=>1*u c+1*v c) A))=0:=λu v=>Om d λc _=>by rw[YW,Vv _ _ (by omega),YW]
 have same:∀u:Nat->Int,W5 n (put k u (put (k+1) u A))=0:=λu=>Om d λc _=>by rw[YW,Vv _ _ (by omega),YW]
 have a:∀u v:Nat->Int,put k u (put (k+1) v A)=put (k+1) v (put k u A):=λu v=>by
  funext r;unfold put;by_cases q:r=k
  ·rw[p9 q,pW (by omega),p9 q]
  ·rw[pW q];by_cases b:r=k+1
   ·rw[p9 b,p9 b]
   ·rw[pW b,pW b,pW q]
 have h:=two (A k) (A (k+1));rw[RW (by omega),a,RW d,a,RW d,<-a,<-a,<-a,<-a,same,same] at h
 have e:put k (A k) (put (k+1) (A (k+1)) A)=A:=by
  funext r;unfold put;by_cases q:r=k
  ·rw[p9 q,q]
  ·rw[pW q];by_cases b:r=k+1
   ·rw[p9 b,b]
   ·rw[pW b]
 rw[e] at h;unfold swp;omega
theorem Tr:∀(d:Nat){n i:Nat}{A:Mt},i+1+d<n->(∀c,c<n->A i c=A (i+1+d) c)->W5 n A=0
 | 0,n,i,A,h,e=>Om h e
 | d+1,n,i,A,h,e=>by
  have b:W5 n (swp (i+1+d) A)=0:=Tr d (n:=n) (i:=i) (by omega) λc a=>by unfold swp;rw[Vv _ _ (by omega),Vv _ _ (by omega),YW];exact e c a
  rw[Zfh (by omega)] at b;omega
theorem He{n i j:Nat}{A:Mt}(d:i<n)(f:j<n)(b:i≠j)(e:∀c,c<n->A i c=A j c):W5 n A=0:=by
 rcases Nat.lt_or_gt_of_ne b with h | h
 ·exact Tr (j-i-1) (i:=i) (by omega) λc a=>by rw[show i+1+(j-i-1)=j by omega];exact e c a
 ·exact Tr (i-j-1) (i:=j) (by omega) λc a=>by rw[show j+1+(i-j-1)=i by omega];exact(e c a).symm
theorem Hf:∀{n:Nat}{A:Mt},(∀c,c<n->A n c=0)->W5 (n+1) A=A n n*W5 n A
 | 0,A,_=>by show 0+1*A 0 0*1=A 0 0*1;omega
 | n+1,A,h=>by
  rw[Wl (n+1)];show sN (n+1) _+sg (n+1)*A (n+1) 0*_=_;rw[h 0 (by omega),fD,fE,jV,Wl n,<-ZJ];refine Zi λi b=>?_;rw[Hf (n:=n) (A:=P0 i A) λc a=>?_]
  ·have e:P0 i A n n=A (n+1) (n+1):=by unfold P0;rw[pW (by omega)]
   rw[e];simp only[cg,gR]
  ·unfold P0;rw[pW (by omega)];exact h (c+1) (by omega)
theorem N7{n j:Nat}{A:Mt}{a:Nat->Int}{v:Nat->Nat->Int}(b:j<n):∀m,W5 n (put j (λc=>sN m λk=>a k*v k c) A)=sN m λk=>a k*W5 n (put j (v k) A)
 | 0=>by have:W5 n (put j (λc=>0*(0:Int)+0*(0:Int)) A)=0*W5 n (put j (λ_=>0) A)+0*W5 n (put j (λ_=>0) A):=RW (u:=λ_=>0) (v:=λ_=>0) b;simp only[fE,jV] at this;exact this
 | m+1=>by have:=RW (n:=n) (A:=A) (u:=λc=>sN m λk=>a k*v k c) (v:=v m) (x:=1) (y:=a m) b;simp only[jr] at this;show W5 n (put j (λc=>(sN m λk=>a k*v k c)+a m*v m c) A)=_;rw[this,N7 b m];rfl
theorem Zfi{n j:Nat}{A:Mt}{a:Nat->Int}(d:j<n):W5 n (put j (λc=>sN n λk=>a k*A k c) A)=a j*W5 n A:=by
 rw[N7 d n,Z3 d]
 ·have:put j (A j) A=A:=by funext r;unfold put;split<;>simp_all
  rw[this]
 ·intro i e b;rw[He e d b λc _=>by rw[Vv _ _ b,YW],fD]
noncomputable def Fw(n:Nat)(A:Mt)(i j:Nat):Int:=W5 n (put j (λc=>if c=i then 1 else 0) A)
theorem Zfj{n:Nat}{A:Mt}{j:Nat}(d:j<n)(v:Nat->Int):sN n (λi=>v i*Fw n A i j)=W5 n (put j v A):=by
 unfold Fw;rw[<-N7 d n];refine WN λr c f b=>?_;unfold put;split
 ·show sN n (λk=>v k*if c=k then 1 else 0)=v c;rw[Z3 b]
  ·simp
  ·intro i e a;rw[pW (λz=>a z.symm),fD]
 ·rfl
theorem EY{n:Nat}{A:Mt}{k j:Nat}(b:k<n)(a:j<n):sN n (λi=>A k i*Fw n A i j)=if k=j then W5 n A else 0:=by
 rw[Zfj a];split
 ·rename_i h;subst h;have:put k (A k) A=A:=by funext r;unfold put;split<;>simp_all
  rw[this]
 ·rename_i h;exact He b a h λc _=>by rw[Vv _ _ h,YW]
abbrev ZE:=Nat×Nat
noncomputable def ind(a b:Nat):Int:=if a=b then 1 else 0
noncomputable def mrg(P:Nat->Nat)(a b:Nat):Nat->Nat:=λx=>if P x=P b then P a else P x
noncomputable def tau:List ZE->(Nat->Nat)->Nat->Nat
 | [],_,0=>1
 | [],_,_+1=>0
 | e::E,P,0=>tau E P 0
 | e::E,P,s+1=>(if P e.1=P e.2 then 0 else tau E (mrg P e.1 e.2) s)+tau E P (s+1)
theorem Zbb{f g:Nat->Int}{q:Nat}:∀{n:Nat},q<n->(∀x,x<n->x≠q->f x=g x)->sN n f=sN n g+(f q-g q):=by
 intro n b h;have e:=ZS (λx=>g x) (λx=>f x-g x) n;have c:sN n f=sN n λx=>g x+(f x-g x):=Zi λx _=>by omega
 rw[c,e,Z3 (f:=λx=>f x-g x) b (λx d a=>by rw[h x d a];omega)]
theorem Zbc{f:Nat->Int}:∀{n:Nat},(∀x,x<n->0<=f x)->0<=sN n f
 | 0,_=>dY 0
 | n+1,h=>by have c:=Zbc (n:=n) λx b=>h x (by omega);have a:=h n (by omega);show 0<=sN n f+f n;omega
noncomputable def prs(n:Nat):List ZE:=(aD n).flatMap λa=>(aD (n-(a+1))).map λj=>(a,a+1+j)
theorem mem_prs{n a b:Nat}:(a,b)∈prs n↔a<b/\b<n:=by
 unfold prs;simp only[g7,aY,ar,pK];constructor
 ·rintro⟨x,d,j,f,rfl,rfl⟩;omega
 ·rintro⟨e,c⟩;exact⟨a,by omega,b-(a+1),by omega,rfl,by omega⟩
structure Wt(n:Nat)(w:Nat->Nat->Int):Prop where
 nn:∀a b,a<n->b<n->0<=w a b
 sy:∀a b,a<n->b<n->w a b=w b a
 dg:∀a,a<n->w a a=0
noncomputable def Pd(n:Nat)(w:Nat->Nat->Int):List ZE:=(prs n).flatMap λp=>aS (w p.1 p.2).toNat p
theorem Zfl(f:ZE->Int):∀n,((prs n).map f).sum=sN n λa=>sN n λb=>if a<b then f (a,b) else 0:=by
 intro n;unfold prs
 have d:∀(l:List Nat)(g:Nat->List ZE),((l.flatMap g).map f).sum=(l.map λa=>((g a).map f).sum).sum:=by
  intro l g
  induction l with
  | nil=>rfl
  | cons a l ih=>rw[js,ay,gE,ih,af,bR]
 rw[d,WG];refine Zi λa h=>?_;rw[bZ,WG]
 -- the c of the row
 have c:∀k,sN (a+1+k) (λb=>if a<b then f (a,b) else 0)=sN k λj=>f (a,a+1+j):=by
  intro k
  induction k with
  | zero=>exact YH λi e=>pW (by omega)
  | succ k ih=>
   show sN (a+1+k) _+(if a<a+1+k then f (a,a+1+k) else 0)=sN k _+f (a,a+1+k);rw[ih,p9 (by omega)]
 have:=c (n-(a+1));rw[show a+1+(n-(a+1))=n by omega] at this;rw[this];rfl
theorem EZ(f:ZE->Int)(p:ZE):∀k:Nat,((aS k p).map f).sum=(k:Int)*f p
 | 0=>by simp
 | k+1=>by rw[dU,af,bR,EZ f p k,Int.natCast_succ,mD];omega
theorem CW{n:Nat}{w:Nat->Nat->Int}(ok:Wt n w)(f:ZE->Int):((Pd n w).map f).sum=sN n λa=>sN n λb=>if a<b then w a b*f (a,b) else 0:=by
 unfold Pd
 have c:∀(l:List ZE)(g:ZE->List ZE),((l.flatMap g).map f).sum=(l.map λa=>((g a).map f).sum).sum:=by
  intro l g
  induction l with
  | nil=>rfl
  | cons a l ih=>rw[js,ay,gE,ih,af,bR]
 rw[c,Zfl (λp=>((aS (w p.1 p.2).toNat p).map f).sum)];refine Zi λa d=>Zi λb e=>?_;split
 ·rw[EZ];rw[g9 (ok.nn a b d e)]
 ·rfl
theorem N8{b:Type}(p:ZE)(g:b->List ZE):∀l:List b,(l.flatMap g).count p=(l.map λa=>(g a).count p).sum
 | []=>rfl
 | a::l=>by rw[js,List.count_append,N8 p g l,af,bR]
theorem Zjo:∀n,n<=7->(prs n).Nodup:=by decide +kernel
theorem LW{f:ZE->Nat}{p:ZE}:∀{l:List ZE},l.Nodup->(∀q∈l,q≠p->f q=0)->(l.map f).sum=if p∈l then f p else 0
 | [],_,_=>by simp
 | q::l,nd,h=>by
  have a:=aq.mp nd;rw[af,bR,LW a.2 λr b=>h r (by simp[b])];by_cases e:q=p
  ·subst e;rw[pW a.1,p9 (by simp)];omega
  ·rw[h q (by simp) e,Nat.zero_add];by_cases z:p∈l
   ·rw[p9 z,p9 (by simp[z])]
   ·rw[pW z,pW (by simp[z];exact λy=>e y.symm)]
theorem Hg{n:Nat}(a:n<=7)(w:Nat->Nat->Int)(p:ZE):(Pd n w).count p=if p∈prs n then(w p.1 p.2).toNat else 0:=by
 unfold Pd;rw[N8,LW (p:=p) (Zjo n a) λq _ b=>?_]
 ·split
  ·rw[List.count_replicate_self]
  ·rfl
 ·rw[List.count_replicate,pW (by simpa using b)]
end PW
namespace PK
open PW
theorem Zbd{f:Nat->Int}{n p q:Nat}(g:p<n)(d:q<n)(ne:p≠q)(h:∀i,i<n->i≠p->i≠q->f i=0):sN n f=f p+f q:=by
 have e:sN n f=sN n (λi=>(if i=p then f p else 0)+(if i=q then f q else 0)):=Zi λi c=>by
  by_cases a:i=p
  ·subst a;simp[ne]
  ·by_cases b:i=q
   ·subst b;simp[a]
   ·simp[a,b,h i c a b]
 rw[e,ZS,Z3 g (λi _ c=>pW c),Z3 d (λi _ c=>pW c),p9 rfl,p9 rfl]
theorem Zbe(f g:Nat->Int)(n:Nat):sN n (λi=>f i-g i)=sN n f-sN n g:=by
 have:sN n (λi=>f i-g i)=sN n (λi=>f i+(-1)*g i):=Zi λi _=>by omega
 rw[this,ZS,ZJ];omega
noncomputable def Xk(m:Nat->Nat)(G:List Nat)(v:Nat):Bool:=G.any λg=>m g==v
theorem hasM_iff{m:Nat->Nat}{G:List Nat}{v:Nat}:Xk m G v=aC↔∃g,g∈G/\m g=v:=by unfold Xk;simp[g6]
noncomputable def b1(b:Bool):Int:=if b=aC then 1 else 0
noncomputable def Bx(n:Nat)(m:Nat->Nat)(G:List Nat):Int:=sN n λv=>b1 (Xk m G v)
noncomputable def ZX(m:Nat->Nat)(a b:Nat):Nat->Nat:=λx=>if m x=m a then m b else m x
theorem Zl7{m:Nat->Nat}{a b:Nat}{G:List Nat}(ne:m a≠m b):Xk (ZX m a b) G (m a)=aB:=by
 cases q:Xk (ZX m a b) G (m a) with
 | false=>rfl
 | true=>
  obtain⟨g,_,e⟩:=hasM_iff.mp q;unfold ZX at e;split at e
  ·exact absurd e.symm ne
  ·rename_i z;exact absurd e z
theorem Zl8{m:Nat->Nat}{a b:Nat}{G:List Nat}:Xk (ZX m a b) G (m b)=(Xk m G (m a) || Xk m G (m b)):=by
 rw[jG,jH,hasM_iff,hasM_iff,hasM_iff];constructor
 ·rintro⟨g,c,e⟩;unfold ZX at e;split at e
  ·rename_i z;exact .inl ⟨g,c,z⟩
  ·exact .inr ⟨g,c,e⟩
 ·rintro(⟨g,c,e⟩ | ⟨g,c,e⟩)
  ·exact⟨g,c,by unfold ZX;rw[p9 e]⟩
  ·exact⟨g,c,by unfold ZX;split<;>first | rfl | exact e⟩
theorem Zl9{m:Nat->Nat}{a b v:Nat}{G:List Nat}(f:v≠m a)(d:v≠m b):Xk (ZX m a b) G v=Xk m G v:=by
 rw[jG,hasM_iff,hasM_iff];constructor
 ·rintro⟨g,c,e⟩;unfold ZX at e;split at e
  ·exact absurd e.symm d
  ·exact⟨g,c,e⟩
 ·rintro⟨g,c,e⟩;exact⟨g,c,by unfold ZX;rw[pW (by rw[e];exact f)];exact e⟩
theorem Hh{n:Nat}{m:Nat->Nat}{a b:Nat}{G:List Nat}(g:m a<n)(d:m b<n)(ne:m a≠m b):Bx n (ZX m a b) G=Bx n m G-b1 (Xk m G (m a)&&Xk m G (m b)):=by
 have e:Bx n (ZX m a b) G-Bx n m G=sN n (λv=>b1 (Xk (ZX m a b) G v)-b1 (Xk m G v)):=(Zbe _ _ n).symm;rw[Zbd g d ne (λi _ f c=>by rw[Zl9 f c];omega),Zl7 ne,Zl8] at e;have:b1 aB-b1 (Xk m G (m a))+(b1 (Xk m G (m a) || Xk m G (m b))-b1 (Xk m G (m b))) = - b1 (Xk m G (m a)&&Xk m G (m b)):=by cases Xk m G (m a)<;>cases Xk m G (m b)<;>decide
 omega
theorem Hi(b:Bool):0<=b1 b:=by cases b<;>decide
theorem Zma(b:Bool):b1 b<=1:=by cases b<;>decide
noncomputable def Jo(G:List Nat)(e:ZE):Bool:=decide (e.1∈G)&&decide (e.2∈G)
noncomputable def Wb(G:List Nat)(E:List ZE):Int:=(E.map λe=>b1 (Jo G e)).sum
theorem LX(G:List Nat)(E:List ZE)(e:ZE):Wb G (E++[e])=Wb G E+b1 (Jo G e):=by unfold Wb;simp
structure MkOk(n:Nat)(m:Nat->Nat)(T:List ZE):Prop where
 lt:∀x,x<n->m x<n
 le:∀G:List Nat,G.Nodup->(∀g∈G,g<n)->Wb G T+Bx n m G<=G.length
 eq:Wb (aD n) T+Bx n m (aD n)=n
 inn:∀e∈T,e.1<n/\e.2<n
theorem Oo:∀{l m:List Nat},l.Nodup->(∀x∈l,x∈m)->l.length<=m.length
 | [],m,_,_=>dq _
 | x::l,m,nd,sub=>by have a:=aq.mp nd;have b:=sub x (by simp);have:=Oo (l:=l) (m:=m.erase x) a.2 λy c=>(e8 (λz:y=x=>a.1 (by rw[<-z];exact c))).mpr (sub y (by simp[c]));rw[fI b] at this;have:0<m.length:=iT b;simp only[az];omega
theorem QW(p:Nat->Bool):∀n,sN n (λv=>b1 (p v))=(((aD n).filter p).length:Int)
 | 0=>rfl
 | n+1=>by
  show sN n _+b1 (p n)=_;rw[QW p n,eY,gA,aT];cases h:p n<;>simp[jA,h,b1]
theorem MkOk.start(n:Nat):MkOk n (λx=>x) []:=by
 have b:∀(G:List Nat)(v:Nat),Xk (λx=>x) G v=decide (v∈G):=λG v=>by rw[jG,hasM_iff,decide_eq_true_eq];exact⟨λ⟨g,h,e⟩=>e▸h,λh=>⟨v,h,rfl⟩⟩
 refine⟨λx h=>h,λG f j=>?_,?_,by simp⟩
 ·unfold Bx;rw[Zi λi _=>by rw[b],QW]
  have:=Oo (l:=(aD n).filter λv=>decide (v∈G)) (cq.filter _) (λx c=>by
   have:=(bj.mp c).2;simpa using this)
  show(0:Int)+_<=_;omega
 ·unfold Bx;rw[Zi λi _=>by rw[b],QW];rw[jO.mpr λa d=>by simpa using d];show(0:Int)+_=_;simp
theorem MkOk.step{n:Nat}{m:Nat->Nat}{T:List ZE}{a b:Nat}(h:MkOk n m T)(c:a<n)(d:b<n)(ne:m a≠m b):MkOk n (ZX m a b) (T++[(a,b)]):=by
 have i:=h.lt a c;have f:=h.lt b d;have has:∀{G:List Nat}{x:Nat},x∈G->Xk m G (m x)=aC:=λ{G x} g=>hasM_iff.mpr ⟨x,g,rfl⟩;refine⟨λx g=>?_,λG j l=>?_,?_,λe k=>?_⟩
 ·unfold ZX;split
  ·exact f
  ·exact h.lt x g
 ·have:=h.le G j l;rw[LX,Hh i f ne]
  cases q:Jo G (a,b) with
  | true=>
   unfold Jo at q;simp only[aw,decide_eq_true_eq] at q;rw[has q.1,has q.2];show _+b1 aC+(_-b1 aC)<=_;omega
  | false=>
   have:=Hi (Xk m G (m a)&&Xk m G (m b));show _+(0:Int)+_<=_;omega
 ·have:=h.eq;rw[LX,Hh i f ne];have q:Jo (aD n) (a,b)=aC:=by unfold Jo;simp[c,d]
  rw[q,has (aY.mpr c),has (aY.mpr d)];show _+b1 aC+(_-b1 aC)=_;omega
 ·rcases aV.mp k with z | z
  ·exact h.inn e z
  ·rw[aM.mp z];exact⟨c,d⟩
theorem MkOk.few{n:Nat}{m:Nat->Nat}{T:List ZE}(h:MkOk n m T){G:List Nat}(d:G.Nodup)(b:∀g∈G,g<n)(ne:G≠[]):Wb G T<=(G.length:Int)-1:=by
 have j:=h.le G d b;obtain⟨g,a⟩:=g8 G ne
 have l:(1:Int)<=Bx n m G:=by
  have f:=h.lt g (b g a)
  have le:sN n (λv=>if v=m g then(1:Int) else 0)<=sN n λv=>b1 (Xk m G v):=by
   have:0<=sN n (λv=>b1 (Xk m G v)-(if v=m g then(1:Int) else 0)):=by
    have c:∀k,0<=sN k (λv=>b1 (Xk m G v)-(if v=m g then(1:Int) else 0)):=by
     intro k
     induction k with
     | zero=>exact dY _
     | succ k ih=>
      show 0<=sN k _+(b1 (Xk m G k)-(if k=m g then(1:Int) else 0));by_cases z:k=m g
      ·rw[z,hasM_iff.mpr ⟨g,a,rfl⟩,p9 rfl];show 0<=sN (m g) _+((1:Int)-1);rw[z] at ih;omega
      ·rw[pW z];have:=Hi (Xk m G k);omega
    exact c n
   rw[Zbe] at this;omega
  rw[Z3 f λi _ e=>pW e,p9 rfl] at le;exact le
 omega
theorem MkOk.all{n:Nat}{m:Nat->Nat}{T:List ZE}(h:MkOk n m T)(c:0<n)(one:∀x,x<n->m x=m 0):(T.length:Int)=n-1:=by
 have e:=h.eq
 have o:Wb (aD n) T=T.length:=by
  have:∀T:List ZE,(∀e∈T,e.1<n/\e.2<n)->Wb (aD n) T=T.length:=by
   intro T
   induction T with
   | nil=>intro _;rfl
   | cons e T ih=>
    intro b;have q:Jo (aD n) e=aC:=by have:=b e (by simp);unfold Jo;simp[this.1,this.2]
    have:=ih λx j=>b x (by simp[j]);unfold Wb at this ⊢;rw[af,bR,q,az];show(1:Int)+_=_;omega
  exact this T h.inn
 have l:Bx n m (aD n)=1:=by
  unfold Bx;rw[Z3 (h.lt 0 c) λi k d=>?_]
  ·rw[hasM_iff.mpr ⟨0,aY.mpr c,rfl⟩];rfl
  ·cases q:Xk m (aD n) i with
   | false=>rfl
   | true=>
    obtain⟨g,f,a⟩:=hasM_iff.mp q;rw[one g (aY.mp f)] at a;exact absurd a.symm d
 omega
theorem N9{b:Type}:∀{l:List b}{p:Nat}(h:p<l.length),(l[p]::l.eraseIdx p).Perm l
 | a::l,0,h=>iR _
 | a::l,p+1,h=>by have:=N9 (l:=l) (p:=p) (by simpa using h);simp only[ko,kW];exact(oq _ _ _).trans (this.cons a)
noncomputable def Zx(E:List ZE)(i:Nat):ZE:=E.getD i (0,0)
structure TrOk(n:Nat)(E:List ZE)(m:Nat->Nat)(F L:List Nat):Prop where
 mark:MkOk n m (F.map (Zx E))
 nd:(F++L).Nodup
 inn:∀i∈F++L,i<E.length
 done:∀i,i<E.length->i∉L->m (Zx E i).1=m (Zx E i).2
theorem TrOk.start(n:Nat)(E:List ZE):TrOk n E (λx=>x) [] (aD E.length):=
 ⟨MkOk.start n,by simpa using cq,λi a=>by simpa using a,λi a b=>absurd (aY.mpr a) b⟩
theorem Ma{m:Nat->Nat}{a b x y:Nat}(h:m x=m y):ZX m a b x=ZX m a b y:=by unfold ZX;rw[h]
theorem TrOk.step{n:Nat}{E:List ZE}{m:Nat->Nat}{F L:List Nat}{p:Nat}(h:TrOk n E m F L)(j:∀e∈E,e.1<n/\e.2<n)(l:p<L.length) :
  (m (Zx E L[p]).1≠m (Zx E L[p]).2->TrOk n E (ZX m (Zx E L[p]).1 (Zx E L[p]).2) (F++[L[p]]) (L.eraseIdx p))/\
  (m (Zx E L[p]).1=m (Zx E L[p]).2->TrOk n E m F (L.eraseIdx p)):=by
 have g:(L[p]::L.eraseIdx p).Perm L:=N9 l;have f:L[p]<E.length:=h.inn _ (ah _ (bQ l));have k:Zx E L[p]∈E:=by unfold Zx;rw[aF,aE f];exact bQ f
 have sub:∀i∈L.eraseIdx p,i∈L:=λi c=>List.mem_of_mem_eraseIdx c;constructor
 ·intro ne;refine⟨?_,?_,λi c=>?_,λi c d=>?_⟩
  ·rw[ay];exact h.mark.step (j _ k).1 (j _ k).2 ne
  ·have:(F++[L[p]]++L.eraseIdx p).Perm (F++L):=by rw[dj];exact List.Perm.append_left F g
   exact(this.nodup_iff).mpr h.nd
  ·rw[dj] at c;rcases aV.mp c with z | z
   ·exact h.inn i (ao _ z)
   ·rcases aV.mp z with z | z
    ·rw[aM.mp z];exact f
    ·exact h.inn i (ah _ (sub i z))
  ·by_cases e:i=L[p]
   ·subst e;unfold ZX;rw[p9 rfl];split
    ·rfl
    ·rfl
   ·refine Ma (h.done i c λz=>?_);rcases aa.mp (g.mem_iff.mpr z) with y | y
    ·exact e y
    ·exact d y
 ·intro o;refine⟨h.mark,?_,λi c=>?_,λi c d=>?_⟩
  ·have:=h.nd;rw[cN] at this ⊢;exact⟨this.1,this.2.1.sublist (List.eraseIdx_sublist _ _),λa q b s=>this.2.2 a q b (sub b s)⟩
  ·rcases aV.mp c with z | z
   ·exact h.inn i (ao _ z)
   ·exact h.inn i (ah _ (sub i z))
  ·by_cases e:i=L[p]
   ·subst e;exact o
   ·refine h.done i c λz=>?_;rcases aa.mp (g.mem_iff.mpr z) with y | y
    ·exact e y
    ·exact d y
theorem CY(p:Nat->Bool)(f:Nat->Int):∀l:List Nat,(l.map f).sum=((l.filter p).map f).sum+((l.filter λk=>!p k).map f).sum
 | []=>rfl
 | a::l=>by
  have:=CY p f l;cases h:p a<;>simp[jA,h]<;>omega
theorem Mc{a:Type}(l:List a)(d:a):(aD l.length).map (λi=>l.getD i d)=l:=by
 apply fS
 ·simp
 ·intro i b c;simp at b;simp[b]
theorem Zbf{x:Nat}:∀{G:List Nat},G.Nodup->(G.map λg=>b1 (x==g)).sum=b1 (decide (x∈G))
 | [],_=>rfl
 | g::G,nd=>by
  have a:=aq.mp nd;rw[af,bR,Zbf a.2];by_cases e:x=g
  ·subst e;have:decide (x∈G)=aB:=by simp[a.1]
   rw[this];simp[b1]
  ·have b:(x==g)=aB:=by simp[e]
   rw[b];by_cases z:x∈G<;>simp[e,z,b1]
theorem Ts(f g:Nat->Int):∀l:List Nat,(l.map λi=>f i+g i).sum=(l.map f).sum+(l.map g).sum
 | []=>rfl
 | a::l=>by simp only[af,bR,Ts f g l];omega
theorem Hj{G:List Nat}(b:G.Nodup):∀X:List Nat,(G.map λg=>((X.count g:Nat):Int)).sum=(X.map λx=>b1 (decide (x∈G))).sum
 | []=>by
  have:∀G:List Nat,(G.map λg=>(((([]:List Nat)).count g:Nat):Int)).sum=0:=by
   intro G
   induction G with
   | nil=>rfl
   | cons a G ih=>simpa using ih
  rw[this];rfl
 | x::X=>by
  rw[af,bR,<-Hj b X,<-Zbf b,<-Ts];congr 1;refine au λg _=>?_;rw[jJ];by_cases e:x=g
  ·subst e;simp[b1];omega
  ·have:(x==g)=aB:=by simp[e]
   simp[this,b1]
noncomputable def ZV:Nat->List (List Nat)
 | 0=>[[]]
 | n+1=>ZV n++(ZV n).map (·++[n])
theorem Sf:∀{n:Nat}{G:List Nat},G∈ZV n->G.Pairwise (· < ·)/\(∀g∈G,g<n)/\G.length<=n/\(G.length=n->G=aD n)
 | 0,G,h=>by rw[ZV,aM] at h;subst h;simp
 | n+1,G,h=>by
  rw[ZV] at h;rcases aV.mp h with h | h
  ·obtain⟨a,b,c,d⟩:=Sf h;exact⟨a,λg f=>cz (b g f),by omega,λe=>by omega⟩
  ·obtain⟨k,h',rfl⟩:=ar.mp h;obtain⟨a,b,c,d⟩:=Sf h';refine⟨?_,λg f=>?_,by simp;omega,λe=>?_⟩
   ·rw[ip];exact⟨a,by simp,λx i y j=>by rw[aM.mp j];exact b x i⟩
   ·rcases aV.mp f with z | z
    ·exact cz (b g z)
    ·rw[aM.mp z];exact dt _
   ·rw[aT] at e;simp only[bu] at e;rw[d (by omega),eY]
theorem Sg:∀n,∃r,ZV n=[]::r/\∀G∈r,G≠[]
 | 0=>⟨[],rfl,by simp⟩
 | n+1=>by
  obtain⟨r,e,h⟩:=Sg n;refine⟨r++(ZV n).map (·++[n]),by rw[ZV,e];rfl,λG a=>?_⟩;rcases aV.mp a with z | z
  ·exact h G z
  ·obtain⟨b,_,rfl⟩:=ar.mp z;simp
theorem Vp(p:Nat->Bool):∀n,(aD n).filter p∈ZV n
 | 0=>by simp[ZV]
 | n+1=>by
  rw[eY,gA,ZV];have:=Vp p n;cases h:p n
  ·simp only[jA,h];rw[dX];exact ao _ this
  ·simp only[jA,h];exact ah _ (gj this)
theorem Md:∀n,(ZV n).length=2^n
 | 0=>rfl
 | n+1=>by rw[ZV,aT,aJ,Md n,Nat.pow_succ];omega
section
variable (w:Nat->Nat->Int)
noncomputable def Fx(h:Nat)(G:List Nat):Int:=(G.map (w h)).sum
noncomputable def tw(G:List Nat):Int:=(G.map λi=>Fx w i G).sum
theorem Zfm{n:Nat}(f:∀a b,a<n->b<n->w a b=w b a)(e:∀a,a<n->w a a=0){G:List Nat}(j:∀g∈G,g<n){h:Nat}(c:h<n):tw w (G++[h])=tw w G+2*Fx w h G:=by
 unfold tw Fx;simp only[af,fX,bR,List.sum_nil,ay,gE];rw[Ts (λi=>(G.map (w i)).sum) (λi=>w i h+0) G,e h c];have:(G.map λi=>w i h+0).sum=(G.map (w h)).sum:=by congr 1;refine au λg d=>?_;rw[f g h (j g d) c];omega
 rw[this];omega
noncomputable def Hk(D:Nat->Int)(G:List Nat):Int:=(G.map D).sum+G.length-1-tw w G/2
theorem Zbg{n:Nat}(e:∀a b,a<n->b<n->w a b=w b a)(d:∀a,a<n->w a a=0)(D:Nat->Int){G:List Nat}(f:∀g∈G,g<n){h:Nat}(c:h<n):Hk w D (G++[h])=Hk w D G+D h+1-Fx w h G:=by unfold Hk;rw[Zfm w e d f c,ay,gE,aT];simp only[af,fX,bR,List.sum_nil,bu];omega
end
theorem Sh{n:Nat}(f:Nat->Int):∀{G:List Nat},G.Nodup->(∀g∈G,g<n)->(G.map f).sum=sN n λi=>b1 (decide (i∈G))*f i
 | [],_,_=>by rw[YH λi _=>by simp[b1]];rfl
 | g::G,nd,hG=>by
  have a:=aq.mp nd;rw[af,bR,Sh f a.2 λx c=>hG x (by simp[c])]
  have:sN n (λi=>b1 (decide (i∈g::G))*f i)=sN n (λi=>(if i=g then f g else 0)+b1 (decide (i∈G))*f i):=Zi λi b=>by
   by_cases e:i=g
   ·subst e;simp[a.1,b1]
   ·simp[e]
  rw[this,ZS,Z3 (k:=g) (hG g (by simp)) λi _ b=>pW b,p9 rfl]
theorem Zfn{n:Nat}{u:Nat->Nat->Int}(h:∀a b,a<n->b<n->u a b=u b a)(g:∀a,a<n->u a a=0):sN n (λa=>sN n (u a))=2*sN n (λa=>sN n λb=>if a<b then u a b else 0):=by
 have e:sN n (λa=>sN n (u a))=sN n (λa=>sN n (λb=>if a<b then u a b else 0)+sN n (λb=>if b<a then u b a else 0)):=Zi λa c=>by
  rw[<-ZS];refine Zi λb d=>?_;by_cases f:a<b
  ·rw[p9 f];omega
  ·by_cases i:b<a
   ·rw[h a b c d];omega
   ·have:a=b:=by omega
    subst this;rw[g a c];simp
 rw[e,ZS,UC (λa b=>if b<a then u b a else 0) n n];omega
end PK
namespace PW
open PK
structure WS where
 L:List Nat
 F:List Nat
 B:List (Nat×Nat×Nat)
noncomputable def Vw(E:List ZE)(L F:List Nat):Option Nat:=(aD E.length).find? λk=>!decide (k∈L)&&(decide ((Zx E k).1∈F) != decide ((Zx E k).2∈F))
noncomputable def YG(E:List ZE)(F:List Nat)(k:Nat):Nat:=if(Zx E k).1∈F then(Zx E k).2 else(Zx E k).1
noncomputable def Fy(E:List ZE)(h j:Nat):Bool:=decide (h=(Zx E j).1) || decide (h=(Zx E j).2)
noncomputable def YR(E:List ZE)(L:List Nat)(h:Nat):Nat:=(L.filter (Fy E h)).length
noncomputable def Yr(E:List ZE)(φ:Nat->Nat->Nat->Bool)(s:WS)(k:Nat):WS:=
 if φ k (YG E s.F k) (YR E (s.L++[k]) (YG E s.F k))=aC then⟨s.L++[k],s.F++[YG E s.F k],s.B++[(k,YG E s.F k,YR E (s.L++[k]) (YG E s.F k))]⟩ else⟨s.L++[k],s.F,s.B⟩
noncomputable def ZZ(E:List ZE)(φ:Nat->Nat->Nat->Bool):Nat->WS->WS
 | 0,s=>s
 | n+1,s=>match Vw E s.L s.F with
  | some k=>ZZ E φ n (Yr E φ s k)
  | none=>s
noncomputable def Sn(b:Nat):WS:=⟨[],[b],[]⟩
theorem Wc{E:List ZE}{L F:List Nat}{k:Nat}(h:Vw E L F=ax k):k<E.length/\k∉L/\(decide ((Zx E k).1∈F) != decide ((Zx E k).2∈F))=aC:=by have a:=jK h;have b:=dZ h;simp only[aw,ju,decide_eq_false_iff_not] at a;exact⟨aY.mp b,a⟩
theorem LY{E:List ZE}{L F:List Nat}(h:Vw E L F=aA){k:Nat}(d:k<E.length)(c:k∉L):(Zx E k).1∈F↔(Zx E k).2∈F:=by
 have:=eM.mp h k (aY.mpr d);simp only[c] at this;by_cases a:(Zx E k).1∈F
 ·by_cases b:(Zx E k).2∈F
  ·exact⟨λ_=>b,λ_=>a⟩
  ·simp[a,b] at this
 ·by_cases b:(Zx E k).2∈F
  ·simp[a,b] at this
  ·exact⟨λz=>absurd z a,λz=>absurd z b⟩
theorem Tt{E:List ZE}{L F:List Nat}{k:Nat}(h:Vw E L F=ax k):YG E F k∉F/\Fy E (YG E F k) k=aC/\∃o∈F,(Zx E k=(o,YG E F k)\/Zx E k=(YG E F k,o)):=by
 obtain⟨_,_,c⟩:=Wc h;unfold YG Fy;by_cases a:(Zx E k).1∈F
 ·by_cases b:(Zx E k).2∈F
  ·simp[a,b] at c
  ·rw[p9 a];exact⟨b,by simp,_,a,.inl rfl⟩
 ·by_cases b:(Zx E k).2∈F
  ·rw[pW a];exact⟨a,by simp,_,b,.inr rfl⟩
  ·simp[a,b] at c
theorem Hl{E:List ZE}{L:List Nat}{k h:Nat}(a:Fy E h k=aC):YR E (L++[k]) h=YR E L h+1:=by unfold YR;rw[gA,aT];simp[a]
theorem Hm{E:List ZE}{L:List Nat}{k h:Nat}(a:Fy E h k=aB):YR E (L++[k]) h=YR E L h:=by unfold YR;rw[gA,aT];simp[a]
structure WInv(E:List ZE)(n b:Nat)(s:WS):Prop where
 ndL:s.L.Nodup
 ltL:∀k∈s.L,k<E.length
 ndF:s.F.Nodup
 ltF:∀h∈s.F,h<n
 hB:s.F=b::s.B.map (·.2.1)
 bl:∀x∈s.B,x.1∈s.L
 ndB:(s.B.map (·.1)).Nodup
 cn:∀q:Nat->Nat,(∀x∈s.B,q (Zx E x.1).1=q (Zx E x.1).2)->∀h∈s.F,q h=q b
theorem WInv.start{E:List ZE}{n b:Nat}(e:b<n):WInv E n b (Sn b):=
 ⟨cH,λk d=>by simp[Sn] at d,by simp[Sn],λh a=>by simp[Sn] at a;omega,rfl,λx c=>by simp[Sn] at c,by simp[Sn],λq _ h a=>by simp[Sn] at a;rw[a]⟩
theorem Si{b:Type}{l:List b}{a:b}(h:l.Nodup)(n:a∉l):(l++[a]).Nodup:=by grind
theorem WInv.step{E:List ZE}{n b k:Nat}{s:WS}{φ:Nat->Nat->Nat->Bool}(B:∀e∈E,e.1<n/\e.2<n)(i:WInv E n b s)(t:Vw E s.L s.F=ax k):WInv E n b (Yr E φ s k):=by
 obtain⟨l,m,_⟩:=Wc t;obtain⟨F,G,o,w,v⟩:=Tt t;have d:=Si i.ndL m
 have c:∀j∈s.L++[k],j<E.length:=λj A=>by
  rcases aV.mp A with z | z
  ·exact i.ltL j z
  ·rw[aM.mp z];exact l
 have D:Zx E k∈E:=by unfold Zx;rw[aF,aE l];exact bQ l
 have lt:YG E s.F k<n:=by
  have:=B _ D;rcases v with z | z<;>rw[z] at this
  ·exact this.2
  ·exact this.1
 unfold Yr;split
 ·refine⟨d,c,Si i.ndF F,λh g=>?_,?_,λx a=>?_,?_,λq u h g=>?_⟩
  ·rcases aV.mp g with z | z
   ·exact i.ltF h z
   ·rw[aM.mp z];exact lt
  ·show s.F++[_]=b::(s.B++[_]).map _;rw[ay,<-oE,<-i.hB];rfl
  ·rcases aV.mp a with z | z
   ·exact ao _ (i.bl x z)
   ·rw[aM.mp z];exact ah _ (by simp)
  ·show((s.B++[_]).map _).Nodup;rw[ay];refine Si i.ndB λz=>?_;obtain⟨x,a,C⟩:=ar.mp z;have:=i.bl x a;rw[C] at this;exact m this
  ·have f:=i.cn q λx a=>u x (ao _ a);rcases aV.mp g with z | z
   ·exact f h z
   ·rw[aM.mp z];have:=u (k,YG E s.F k,YR E (s.L++[k]) (YG E s.F k)) (ah _ (by simp));have p:=f o w;rcases v with y | y
    ·rw[y] at this;exact this.symm.trans p
    ·rw[y] at this;exact this.trans p
 ·exact⟨d,c,i.ndF,i.ltF,i.hB,λx a=>ao _ (i.bl x a),i.ndB,i.cn⟩
theorem WInv.walk{E:List ZE}{n b:Nat}{φ:Nat->Nat->Nat->Bool}(a:∀e∈E,e.1<n/\e.2<n):∀{m:Nat}{s:WS},WInv E n b s->WInv E n b (ZZ E φ m s)
 | 0,s,i=>i
 | m+1,s,i=>by
  unfold ZZ;split
  ·rename_i k c;exact WInv.walk a (i.step a c)
  ·exact i
theorem RX{n:Nat}:∀{l:List Nat},l.Nodup->(∀x∈l,x<n)->l.length<=n:=by
 induction n with
 | zero=>
  intro l _ h
  cases l with
  | nil=>simp
  | cons a r=>exact absurd (h a (by simp)) (by omega)
 | succ n ih=>
  intro l c h
  have i:=ih (l:=l.filter (· != n)) (c.filter _) λx b=>by
   have:=bj.mp b;have f:=h x this.1;have j:x≠n:=by simpa using this.2
   omega
  have f:l.length<=(l.filter (· != n)).length+1:=by
   clear h i ih
   induction l with
   | nil=>simp
   | cons a r ih2=>
    have d:=aq.mp c;rw[List.filter_cons];by_cases e:a=n
    ·subst e;have:r.filter (· != a)=r:=jO.mpr λx b=>by have:x≠a:=λz=>d.1 (z▸b);simpa using this
     simp[this]
    ·have g:(a != n)=aC:=by simpa using e
     rw[g];simp only[if_true,az];have:=ih2 d.2;omega
  omega
theorem RY{E:List ZE}{n b:Nat}{φ:Nat->Nat->Nat->Bool}(a:∀e∈E,e.1<n/\e.2<n):∀{m:Nat}{s:WS},WInv E n b s->E.length<=m+s.L.length->Vw E (ZZ E φ m s).L (ZZ E φ m s).F=aA
 | 0,s,i,h=>by
  unfold ZZ
  cases z:Vw E s.L s.F with
  | none=>rfl
  | some k=>
   obtain⟨c,d,_⟩:=Wc z
   have:=RX (n:=E.length) (Si i.ndL d) λx f=>by
    rcases aV.mp f with y | y
    ·exact i.ltL x y
    ·rw[aM.mp y];exact c
   rw[aT,bu] at this;omega
 | m+1,s,i,h=>by
  unfold ZZ
  cases z:Vw E s.L s.F with
  | none=>exact z
  | some k=>
   refine RY a (i.step a z) ?_
   have:(Yr E φ s k).L.length=s.L.length+1:=by
    unfold Yr;split<;>simp
   omega
theorem Fz(E:List ZE)(φ:Nat->Nat->Nat->Bool)(s:WS)(k:Nat):(Yr E φ s k).L=s.L++[k]:=by unfold Yr;split<;>rfl
theorem LZ{E:List ZE}{φ:Nat->Nat->Nat->Bool}:∀{m:Nat}{s:WS}{x:Nat×Nat×Nat},x∈s.B->x∈(ZZ E φ m s).B
 | 0,s,x,h=>h
 | m+1,s,x,h=>by
  unfold ZZ;split
  ·refine LZ ?_;unfold Yr;split
   ·exact ao _ h
   ·exact h
  ·exact h
theorem Me{E:List ZE}{φ a:Nat->Nat->Nat->Bool}{b:Nat}(h:∀k g c,g≠b->φ k g c=a k g c):∀{m:Nat}{s:WS},b∈s.F->ZZ E φ m s=ZZ E a m s
 | 0,s,_=>rfl
 | m+1,s,hb=>by
  unfold ZZ
  cases z:Vw E s.L s.F with
  | none=>rfl
  | some k=>
   obtain⟨d,_⟩:=Tt z;have ne:YG E s.F k≠b:=λy=>d (y▸hb);have same:Yr E φ s k=Yr E a s k:=by unfold Yr;rw[h _ _ _ ne]
   simp only;rw[same];refine Me h ?_;unfold Yr;split
   ·exact ao _ hb
   ·exact hb
noncomputable def By(D:Nat->Int):Nat->Nat->Nat->Bool:=λ_ h c=>decide (D h<(c:Int))
structure PInv(E:List ZE)(n:Nat)(D:Nat->Int)(s:WS):Prop where
 out:∀h,h<n->h∉s.F->(YR E s.L h:Int)<=D h
 bur:∀x∈s.B,(x.2.2:Int)=D x.2.1+1
theorem PInv.step{E:List ZE}{n b k:Nat}{D:Nat->Int}{s:WS}(w:∀e∈E,e.1<n/\e.2<n)(p:PInv E n D s)(m:Vw E s.L s.F=ax k):PInv E n D (Yr E (By D) s k):=by
 obtain⟨j,G,_⟩:=Wc m;obtain⟨C,A,o,t,q⟩:=Tt m;have B:Zx E k∈E:=by unfold Zx;rw[aF,aE j];exact bQ j
 have lt:YG E s.F k<n:=by
  have:=w _ B;rcases q with z | z<;>rw[z] at this
  ·exact this.2
  ·exact this.1
 have W6:∀g,g∉s.F->g≠YG E s.F k->Fy E g k=aB:=λg u i=>by
  unfold Fy;have v:g≠o:=λz=>u (z▸t);rcases q with z | z<;>rw[z]<;>simp[v,i]
 have H:=p.out _ lt C;have F:=Hl (L:=s.L) A;unfold Yr By;split
 ·rename_i c;have c:=of_decide_eq_true c;refine⟨λh f a=>?_,λx y=>?_⟩
  ·have l:=λz=>a (ao _ z);have d:h≠YG E s.F k:=λz=>a (ah _ (by simp[z]));rw[Hm (W6 h l d)];exact p.out h f l
  ·rcases aV.mp y with z | z
   ·exact p.bur x z
   ·rw[aM.mp z];show((YR E (s.L++[k]) (YG E s.F k):Nat):Int)=D (YG E s.F k)+1;omega
 ·rename_i c;have c:¬D (YG E s.F k)<(YR E (s.L++[k]) (YG E s.F k):Int):=λz=>c (decide_eq_true z);refine⟨λh f a=>?_,p.bur⟩;by_cases d:h=YG E s.F k
  ·rw[d];show(YR E (s.L++[k]) (YG E s.F k):Int)<=_;omega
  ·rw[Hm (W6 h a d)];exact p.out h f a
theorem PInv.walk{E:List ZE}{n:Nat}{D:Nat->Int}(a:∀e∈E,e.1<n/\e.2<n):∀{m:Nat}{s:WS},PInv E n D s->PInv E n D (ZZ E (By D) m s)
 | 0,s,i=>i
 | m+1,s,i=>by
  unfold ZZ;split
  ·rename_i k c;exact PInv.walk a (i.step (b:=0) a c)
  ·exact i
theorem PInv.start{E:List ZE}{n b:Nat}{D:Nat->Int}(h:∀g,g<n->g≠b->0<=D g):PInv E n D (Sn b):=
 ⟨λg a c=>by
  have:g≠b:=λz=>c (by simp[Sn,z]);have:=h g a this;simp only[Sn,YR,List.filter_nil];omega,λx d=>by simp[Sn] at d⟩
end PW
namespace PK
open PW
noncomputable def Jp(m:Nat->Nat):List ZE->Nat->Nat
 | []=>m
 | e::T=>Jp (ZX m e.1 e.2) T
noncomputable def swE(e:ZE):ZE:=(e.2,e.1)
theorem Hn:∀{T:List ZE}{m:Nat->Nat}{x y:Nat},m x=m y->Jp m T x=Jp m T y
 | [],m,x,y,h=>h
 | e::T,m,x,y,h=>Hn (T:=T) (Ma h)
theorem FA(m:Nat->Nat)(a b:Nat):ZX m a b a=ZX m a b b:=by
 unfold ZX;rw[p9 rfl];split<;>rfl
theorem Ho:∀{T:List ZE}{m:Nat->Nat},∀e∈T,Jp m T e.1=Jp m T e.2
 | [],m,e,h=>by simp at h
 | f::T,m,e,h=>by
  rcases aa.mp h with rfl | h
  ·exact Hn (T:=T) (FA m _ _)
  ·exact Ho (T:=T) e h
theorem E1:∀(A B:List ZE)(m:Nat->Nat),Jp m (A++B)=Jp (Jp m A) B
 | [],B,m=>rfl
 | e::A,B,m=>E1 A B (ZX m e.1 e.2)
theorem CZ{n:Nat}{m:Nat->Nat}{T:List ZE}(h:MkOk n m T)(u:0<n)(len:(T.length:Int)=n-1){q:Nat->Nat}(A:∀e∈T,q e.1=q e.2):∀x,x<n->q x=q 0:=λx B=>by
 refine cA λne=>?_;let G:=(aD n).filter λy=>decide (q y=q 0);let d:=(aD n).filter λy=>!decide (q y=q 0);have i:∀y,y∈G↔y<n/\q y=q 0:=λy=>by show y∈(aD n).filter (λy=>decide (q y=q 0))↔_;rw[bj,aY,decide_eq_true_eq]
 have b:∀y,y∈d↔y<n/\¬q y=q 0:=λy=>by show y∈(aD n).filter (λy=>!decide (q y=q 0))↔_;rw[bj,aY];simp
 have f1:=h.few (G:=G) (cq.filter _) (λg o=>((i g).mp o).1) (iB ((i 0).mpr ⟨u,rfl⟩));have C:=h.few (G:=d) (cq.filter _) (λg o=>((b g).mp o).1) (iB ((b x).mpr ⟨B,ne⟩))
 have s:∀l:List ZE,(∀e∈l,q e.1=q e.2/\e.1<n/\e.2<n)->Wb G l+Wb d l=l.length:=by
  intro l
  induction l with
  | nil=>intro _;rfl
  | cons e l ih=>
   intro t;have c:=t e (by simp);have:=ih λf v=>t f (by simp[v]);unfold Wb at this ⊢;rw[af,af,bR,bR,az]
   have one:b1 (Jo G e)+b1 (Jo d e)=1:=by
    unfold Jo;by_cases z:q e.1=q 0
    ·have j:e.1∈G:=(i _).mpr ⟨c.2.1,z⟩;have p:e.2∈G:=(i _).mpr ⟨c.2.2,by rw[<-c.1];exact z⟩;have k:e.1∉d:=λw=>((b _).mp w).2 z;simp[j,p,k,b1]
    ·have j:e.1∈d:=(b _).mpr ⟨c.2.1,z⟩;have p:e.2∈d:=(b _).mpr ⟨c.2.2,by rw[<-c.1];exact z⟩;have k:e.1∉G:=λw=>z ((i _).mp w).2;simp[j,p,k,b1]
   omega
 have s1:=s T λe c=>⟨A e c,h.inn e c⟩
 have D:G.length+d.length=n:=by
  have:∀l:List Nat,(l.filter λy=>decide (q y=q 0)).length+(l.filter λy=>!decide (q y=q 0)).length=l.length:=by
   intro l
   induction l with
   | nil=>rfl
   | cons a l ih=>
    by_cases z:q a=q 0<;>simp[jA,z]<;>omega
  have:=this (aD n);rw[bt] at this;exact this
 omega
theorem Mf{a:Int}:∀{l:List Int},(∀x∈l,x=a)->l.foldl (λ(c:List Int) k=>if c.any (·==k) then c else c++[k]) [a]=[a]
 | [],_=>rfl
 | b::l,h=>by
  have d:=h b (by simp);subst d;rw[gy];have:([b].any (·==b))=aC:=by simp
  rw[p9 this];exact Mf λx e=>h x (by simp[e])
end PK
namespace PW
open L2 VL
theorem Zbh{f g:XS}{s:ZG}{v:PV}(a:f s=ax (.rt v)):Zn f g s=ax (.rt v):=by rw[O9,a];rfl
section
variable {s:ZG} {f g:XE} {a b:Int} {C:Int->Int->Prop} [∀i j,Decidable (C i j)] {op:Int->Int->Int}
theorem vC(e:f s=ax (.int a))(d:g s=ax (.int b))(c:C a b):Zm (gIC C op) f g s=ax (.int (op a b)):=by rw[XD,e,d];simp only[aQ,Zja,p9 c]
theorem vI(d:f s=ax (.int a))(c:g s=ax (.int b)):Zm (gI op) f g s=ax (.int (op a b)):=by rw[XD,d,c];rfl
theorem vP(b:f s=ax (.int a)):eP f s=ax (.int a):=by rw[U6,b];rfl
theorem M3{v:PV}(a:f s=ax v):ZQ f s=ax (.rt v):=by rw[AF,a];rfl
end
noncomputable def C0(M:List (List Int))(a b:Nat)(t:Int):List (List Int):=Qf (Qf M a b t) b a t
theorem Oq{n:Nat}{M:List (List Int)}{a b:Nat}{t:Int}(ok:MatOk n M)(c:a<n)(d:b<n)(i j:Nat):ZM (C0 M a b t) i j=if b=i/\a=j then t else if a=i/\b=j then t else ZM M i j:=by obtain⟨e,f⟩:=WR ok.len ok.row c;unfold C0;rw[OM e f d c,OM ok.len ok.row c d]
theorem Zjp{n:Nat}{M:List (List Int)}{a b:Nat}{t:Int}(ok:MatOk n M)(f:a<n)(g:b<n)(e:a≠b)(o:0<=t)(q:t<=9):MatOk n (C0 M a b t):=by
 obtain⟨h,l⟩:=WR ok.len ok.row f;obtain⟨k,m⟩:=WR h l g;have E:=Oq (t:=t) ok f g;refine⟨k,m,λi j c d=>?_,λi j c d=>?_,λi j c d=>?_,λi c=>?_⟩
 ·have:=ok.lo i j c d;rw[E];split<;>(try split)<;>omega
 ·have:=ok.hi i j c d;rw[E];split<;>(try split)<;>omega
 ·have:=ok.sym i j c d;rw[E,E];by_cases p:b=i/\a=j
  ·rw[p9 p];by_cases p2:b=j/\a=i
   ·rw[p9 p2]
   ·rw[pW p2,p9 ⟨p.2,p.1⟩]
  ·rw[pW p];by_cases p2:a=i/\b=j
   ·rw[p9 p2,p9 ⟨p2.2,p2.1⟩]
   ·rw[pW p2,pW (λz=>p2 ⟨z.2,z.1⟩),pW (λz=>p ⟨z.2,z.1⟩)];exact this
 ·rw[E,pW (λz=>e (by omega)),pW (λz=>e (by omega))];exact ok.dia i c
theorem L0{s:ZG}{n:Nat}(h:s[3]?=ax (ax (.int (n:Int))))(a:n<=7):Zw 1 [3] (Yk [Za 3]) (.one 0) ZD (Zm Gu (Wz [eC (.int 0)]) (Za 1)) s=ax (.lst (rL (aS n (aS n 0)))):=by
 rw[ZL (aD n) (λi=>.int (i:Int)) (λ_=>.lst (iL (aS n 0))) (Xd (by simp[h]) (by omega)) (by simp;omega) (λi _=>⟨_,rfl,rfl,?_⟩)]
 ·unfold rL;rw[List.map_const',bt,nE]
 ·have e:Gu (.lst [.int 0]) (.int (n:Int))=ax (.lst (iL (aS n 0))):=by show(if ZC [PV.int 0]=aC/\(-1000000:Int)<=(n:Int)/\(n:Int)<=1000000/\[PV.int 0].length*((n:Int)).toNat<=10000 then ax (PV.lst (aS ((n:Int)).toNat [PV.int 0]).flatten) else aA)=_;rw[p9 ⟨rfl,by omega,by omega,by simp;omega⟩];simp
  simp[ZH,h,e]
noncomputable def Grown(M:List (List Int))(l:List Int)(k:Nat):Prop:=∀j,1<=j->j<k->∃j',j'<j/\0<ZM M (Zl l j).toNat (Zl l j').toNat
theorem Grown.mono{M c:List (List Int)}{l:List Int}{k:Nat}(h:Grown M l k)(g:∀i j,0<ZM M i j->0<ZM c i j):Grown c l k:=λj f d=>by obtain⟨e,a,b⟩:=h j f d;exact⟨e,a,g _ _ b⟩
theorem Grown.conn{M:List (List Int)}{l:List Int}{n:Nat}(h:Grown M l n)(t:M.length=n)(d:NamesOk n l):V2 M:=by
 intro P s i j g o;rw[t] at g o;have lt:∀x,x<n->(Zl l x).toNat<M.length:=λx c=>by have:=d.at c;omega
 have all:∀k,k<n->(P (Zl l k).toNat↔P (Zl l 0).toNat):=by
  intro k
  induction k using lM with
  | ind k ih=>
   intro p;by_cases q:k=0
   ·subst q;exact Iff.rfl
   ·obtain⟨m,a,b⟩:=h k (by omega) p;exact(s _ _ (lt k p) (lt m (by omega)) b).trans (ih m a (by omega))
 have f:∀i,i<n->∃x,x<n/\(Zl l x).toNat=i:=λi g=>by have:=M1 d.nd (λx c=>⟨x.toNat,by have:=d.hi x c;omega,by have:=d.lo x c;omega⟩) d.len g;obtain⟨x,c,e⟩:=Jn this;exact⟨x,by rw[<-d.len];exact c,by rw[e];rfl⟩
 obtain⟨x,c,rfl⟩:=f i g;obtain⟨y,u,rfl⟩:=f j o;exact(all x c).trans (all y u).symm
theorem Zfo{n:Nat}{M:List (List Int)}{a b:Nat}{t:Int}(ok:MatOk n M)(e:a<n)(d:b<n)(c:0<t):(∀i j,0<ZM M i j->0<ZM (C0 M a b t) i j)/\0<ZM (C0 M a b t) a b:=by
 refine⟨λi j h=>?_,?_⟩
 ·rw[Oq ok e d];split
  ·exact c
  ·split
   ·exact c
   ·exact h
 ·rw[Oq ok e d];split
  ·exact c
  ·rw[p9 ⟨rfl,rfl⟩];exact c
noncomputable def nL(l:List Nat):List Int:=l.map λ(i:Nat)=>(i:Int)
theorem Mg{y:Nat}{l:List Nat}:(y:Int)∈nL l↔y∈l:=by unfold nL;rw[ar];exact⟨λ⟨a,h,e⟩=>by rw[show y=a by omega];exact h,λh=>⟨y,h,rfl⟩⟩
noncomputable def Z6(W:List (List Int))(h:Nat)(F:List Nat):Int:=(F.map λo=>ZM W h o).sum
theorem ties_comp2{W:List (List Int)}{h i j k:Nat}{F:List Nat}{s:ZG}(ok:Zt W)(a:h<W.length)(b:∀x∈F,x<W.length)(n:F.length<=100)(g:s[i]?=ax (ax (wP W)))(m:s[j]?=ax (ax (.int (h:Int))))(c:s[k]?=ax (ax (.lst (iL (nL F))))) :
  Ze Rq [Zw 1 [i,j] (YL (Za k)) (.one 0) ZD (Zm ZR (Zm ZR (Za 1) (Za 2)) (Za 0))] s=ax (.int (Z6 W h F)):=by
 have d:Zw 1 [i,j] (YL (Za k)) (.one 0) ZD (Zm ZR (Zm ZR (Za 1) (Za 2)) (Za 0)) s=ax (.lst (iL (F.map λo=>ZM W h o))):=by
  rw[ZL F (λ(o:Nat)=>.int (o:Int)) (λo=>.int (ZM W h o)) (by simp[c,nL]) (by omega) (λo e=>⟨_,rfl,rfl,?_⟩)]
  ·simp
  ·have f:=ok.sq h a;have:=YD (l:=ZA W h) (k:=o) (by rw[f];exact b o e);simp[ZH,g,m,TX a,this];rfl
 simp only[Yl,Zy,Od,d,aQ,bz];exact Gw _
theorem Pe{W:List (List Int)}{h:Nat}{F:List Nat}{X:PV}(ok:Zt W)(b:h<W.length)(c:∀x∈F,x<W.length)(g:F.length<=100)(f:xSq (Za 2) [ax (wP W),ax (.int (h:Int)),ax X]=ax (iL (nL F))):X3 [wP W,.int (h:Int),X]=ax (.int (Z6 W h F)):=by
 have d:Zw 1 [0,1] (xSq (Za 2)) (.one 0) ZD (Zm ZR (Zm ZR (Za 1) (Za 2)) (Za 0)) [ax (wP W),ax (.int (h:Int)),ax X]=ax (.lst (iL (F.map λo=>ZM W h o))):=by
  rw[ZL F (λ(o:Nat)=>.int (o:Int)) (λo=>.int (ZM W h o)) (by rw[f];simp[nL]) (by omega) (λo e=>⟨_,rfl,rfl,?_⟩)]
  ·simp
  ·have:=YD (l:=ZA W h) (k:=o) (by rw[ok.sq h b];exact c o e);simp[ZH,TX b,this];rfl
 show YF 3 Qp _=_;unfold Qp;show(ZQ _ [ax (wP W),ax (.int (h:Int)),ax X]).bind U5=_
 rw[M3 (vP (a:=Z6 W h F) (by
  simp only[Yl,Zy,Od,d,aQ,bz];exact Gw _))]
 rfl
theorem FC{W:List (List Int)}{h:Nat}{F:List Nat}(ok:Zt W)(c:h<W.length)(a:∀x∈F,x<W.length)(b:F.length<=100):X3 [wP W,.int (h:Int),.lst (iL (nL F))]=ax (.int (Z6 W h F)):=Pe ok c a b (Zly rfl)
theorem QX{d:Type}{T:Tgt}{fb:XS}{q g:d->PV}{c:d->Bool}(S:ZG->Prop):∀{ls:List d}{s:ZG},(∀a∈ls,∀s,S s->∃s1,Xg T (q a) s=ax s1/\((c a=aC->fb s1=ax (.rt (g a)))/\(c a=aB->∃s2,fb s1=ax (.nx s2)/\S s2)))->S s->
  match ls.find? c with | some a=>VF T fb (ls.map q) s=ax (.rt (g a)) | none=>∃s',VF T fb (ls.map q) s=ax (.nx s')/\S s'
 | [],s,_,h0=>⟨s,rfl,h0⟩
 | a::r,s,h,h0=>by
  obtain⟨s1,f,m,n⟩:=h a ag s h0;rw[c9]
  cases ca:c a with
  | true=>
   show VF T fb (q a::r.map q) s=_;unfold VF;rw[f];simp only[aQ,m ca]
  | false=>
   obtain⟨s2,k,i⟩:=n ca;have l:=QX S (ls:=r) (s:=s2) (λb j=>h b (aN _ j)) i
   have e:VF T fb ((a::r).map q) s=VF T fb (r.map q) s2:=by
    show VF T fb (q a::r.map q) s=_;unfold VF;rw[f];simp only[aQ,k];cases r.map q<;>rfl
   rw[e];exact l
noncomputable def YX(W:List (List Int))(D:List Int)(F:List Nat):Option Nat:=(aD W.length).find? λh=>!decide (h∈F)&&decide (Zl D h<Z6 W h F)
noncomputable def UT:Option Nat->PV
 | none=>.non
 | some h=>.int (h:Int)
theorem Jq(y:Nat)(l:List Nat):PF aC (.int (y:Int)) (.lst (iL (nL l)))=ax (.bl (!decide (y∈l))):=by rw[Zhf];have:=Mg (y:=y) (l:=l);simp[this]
theorem RZ(y:Nat)(l:List Nat):PF aB (.int (y:Int)) (.lst (iL (nL l)))=ax (.bl (decide (y∈l))):=by rw[Zhf];have:=Mg (y:=y) (l:=l);simp[this]
theorem QY{W:List (List Int)}{D:List Int}{F:List Nat}(ok:Zt W)(hd:D.length=W.length)(j:∀x∈F,x<W.length)(l:F.length<=100):Z5 [wP W,pP D,.lst (iL (nL F))]=ax (UT (YX W D F)):=by
 have n:=ok.few
 have a:=QX (T:=.many [3,4]) (fb:=Ru (OO (xB (Zm (PF aC) (Za 3) (Za 2))) (xB (Zm MO (Za 4) (Ze X3 [Za 0,Za 3,Za 2])))) (ZQ (eP (Za 3))) YE) (q:=λ(i:Nat)=>.tup [.int (i:Int),.int (Zl D i)]) (g:=λ(i:Nat)=>.int (i:Int)) (c:=λh=>!decide (h∈F)&&decide (Zl D h<Z6 W h F))
  (λst=>∃x y,st=[ax (wP W),ax (pP D),ax (.lst (iL (nL F))),x,y]) (ls:=aD W.length) (s:=[ax (wP W),ax (pP D),ax (.lst (iL (nL F))),aA,aA]) (by
   rintro h d st ⟨x,y,rfl⟩;have d:=aY.mp d;have f:=FC ok d j l;refine⟨_,rfl,λb=>?_,λb=>?_⟩
   ·simp only[aw,ju,decide_eq_false_iff_not,decide_eq_true_eq] at b;simp[setAll,Jq,b.1,f,b.2]
   ·refine⟨[ax (wP W),ax (pP D),ax (.lst (iL (nL F))),ax (.int (h:Int)),ax (.int (Zl D h))],?_,_,_,rfl⟩;by_cases q:h∈F
    ·simp[setAll,Jq,q]
    ·have:¬Zl D h<Z6 W h F:=λz=>by simp[q,z] at b
     simp[setAll,Jq,q,f,this]) ⟨_,_,rfl⟩
 have e:Xf aB [Za 1] [ax (wP W),ax (pP D),ax (.lst (iL (nL F))),aA,aA]=ax ((aD W.length).map λ(i:Nat)=>.tup [.int (i:Int),.int (Zl D i)]):=by have:=Oj D;rw[hd] at this;simp[this]
 show YF 5 Wn _=_;unfold Wn;show(Zn (YU [] _ _ _) _ [ax (wP W),ax (pP D),ax (.lst (iL (nL F))),aA,aA]).bind U5=_;unfold YX
 cases q:(aD W.length).find? λh=>!decide (h∈F)&&decide (Zl D h<Z6 W h F) with
 | some h=>
  rw[q] at a;rw[Zbh (v:=.int (h:Int))]
  ·rfl
  ·show(Xf aB [Za 1] [ax (wP W),ax (pP D),ax (.lst (iL (nL F))),aA,aA]).bind _=_;rw[e];exact a
 | none=>
  rw[q] at a;obtain⟨m,k,x,y,rfl⟩:=a;rw[W4 (s1:=[ax (wP W),ax (pP D),ax (.lst (iL (nL F))),x,y])]
  ·rfl
  ·show(Xf aB [Za 1] [ax (wP W),ax (pP D),ax (.lst (iL (nL F))),aA,aA]).bind _=_;rw[e];exact k
theorem Zjq{c:XT}{fb:XS}(g:ZG->Prop)(j:ZG->Nat)(step:∀st,g st->c st=ax aB\/(c st=ax aC/\∃s2,fb st=ax (.nx s2)/\g s2/\j s2<j st)){s:ZG}(o:g s) :
  ∃f,XC c fb s=ax (.nx f)/\g f/\c f=ax aB:=by
 have m:∀(k:Nat)(st:ZG),j st<k->g st->∃f,YT c fb k st=ax (.nx f)/\g f/\c f=ax aB:=by
  intro k
  induction k with
  | zero=>intro st h;omega
  | succ k ih=>
   intro st p n;rcases step st n with i | ⟨i,s2,e,l,q⟩
   ·exact⟨st,by unfold YT;rw[i];rfl,n,i⟩
   ·obtain⟨f,a,b,d⟩:=ih s2 (by omega) l;refine⟨f,?_,b,d⟩;unfold YT;rw[i];simp only[aQ,if_true,e];exact a
 obtain⟨f,a,b,d⟩:=m (j s+1) s (by omega) o;exact⟨f,Lx a,b,d⟩
structure Burn(W:List (List Int))(D:List Int)(b:Nat)(F:List Nat):Prop where
 nd:F.Nodup
 lt:∀x∈F,x<W.length
 hd:F[0]?=ax b
 st:∀k,1<=k->k<F.length->YX W D (F.take k)=F[k]?
theorem Burn.len{W:List (List Int)}{D:List Int}{b:Nat}{F:List Nat}(h:Burn W D b F):F.length<=W.length:=by
 have c:(nL F).Nodup:=List.Pairwise.map _ (λa b z=>by omega) h.nd;have:=V3 c λy e=>by obtain⟨a,d,rfl⟩:=ar.mp e;exact ar.mpr ⟨a,aY.mpr (h.lt a d),rfl⟩
 simpa [nL] using this
theorem Burn.pos{W:List (List Int)}{D:List Int}{b:Nat}{F:List Nat}(h:Burn W D b F):1<=F.length:=(aR.mp h.hd).1
theorem Burn.one{W:List (List Int)}{D:List Int}{b:Nat}(c:b<W.length):Burn W D b [b]:=⟨by simp,λx d=>by rw[aM.mp d];exact c,rfl,λk e a=>by simp at a;omega⟩
theorem UD{W:List (List Int)}{D:List Int}{F:List Nat}{h:Nat}(e:YX W D F=ax h):h<W.length/\h∉F/\Zl D h<Z6 W h F:=by have a:=jK e;have b:=dZ e;simp only[aw,ju,decide_eq_false_iff_not,decide_eq_true_eq] at a;exact⟨aY.mp b,a⟩
theorem Mh{W:List (List Int)}{D:List Int}{F:List Nat}(e:YX W D F=aA){h:Nat}(b:h<W.length)(a:h∉F):Z6 W h F<=Zl D h:=by have:=eM.mp e h (aY.mpr b);simp[a] at this;exact this
theorem Burn.add{W:List (List Int)}{D:List Int}{b h:Nat}{F:List Nat}(B:Burn W D b F)(e:YX W D F=ax h):Burn W D b (F++[h]):=by
 obtain⟨j,m,_⟩:=UD e;have n:=B.pos;refine⟨?_,λx d=>?_,?_,λk g i=>?_⟩
 ·rw[cN];exact⟨B.nd,by simp,λa l c f z=>by rw[aM.mp f] at z;exact m (z▸l)⟩
 ·rcases aV.mp d with d | d
  ·exact B.lt x d
  ·rw[aM.mp d];exact j
 ·rw[aj (by omega)];exact B.hd
 ·rw[aT,bu] at i;by_cases q:k<F.length
  ·rw[fU (by omega),aj q];exact B.st k g q
  ·have:k=F.length:=by omega
   subst this;rw[oQ,e]
   ·simp
   ·rfl
theorem Mi{W:List (List Int)}{D:List Int}{b:Nat}(ok:Zt W)(hd:D.length=W.length)(j:b<W.length):∃F,Vk [wP W,pP D,.int (b:Int)]=ax (.lst (iL (nL F)))/\Burn W D b F/\YX W D F=aA:=by
 have t:=ok.few;have g:∀F:List Nat,Burn W D b F->Z5 [wP W,pP D,.lst (iL (nL F))]=ax (UT (YX W D F)):=λF B=>QY ok hd B.lt (by have:=B.len;omega)
 obtain⟨q,p,⟨F,rfl,B⟩,i⟩:=Zjq (c:=xB (Rj aC (Za 4))) (fb:=Zn (Yz 3 (eP (Za 4))) (Zs 4 (Ze Z5 [Za 0,Za 1,Za 3])))
  (λst=>∃F,st=[ax (wP W),ax (pP D),ax (.int (b:Int)),ax (.lst (iL (nL F))),ax (UT (YX W D F))]/\Burn W D b F)
  (λst=>match st[3]? with | some (ax (PV.lst l))=>8-l.length | _=>0) (by
   rintro st ⟨F,rfl,B⟩
   cases e:YX W D F with
   | none=>exact .inl (by simp[Af,UT])
   | some h=>
    have a:=B.add e;have n:=a.len;rw[aT,bu] at n;refine .inr ⟨by simp[Af,UT],[ax (wP W),ax (pP D),ax (.int (b:Int)),ax (.lst (iL (nL (F++[h])))),ax (UT (YX W D (F++[h])))],?_,⟨F++[h],rfl,a⟩,?_⟩
    ·have f:Yz 3 (eP (Za 4)) [ax (wP W),ax (pP D),ax (.int (b:Int)),ax (.lst (iL (nL F))),ax (UT (ax h))]=ax (.nx [ax (wP W),ax (pP D),ax (.int (b:Int)),ax (.lst (iL (nL (F++[h])))),ax (UT (ax h))]):=by rw[Ul (m:=iL (nL F)) (l:=.int (h:Int)) rfl rfl (by simp[nL];omega)];simp[nL]
     have d:Zs 4 (Ze Z5 [Za 0,Za 1,Za 3]) [ax (wP W),ax (pP D),ax (.int (b:Int)),ax (.lst (iL (nL (F++[h])))),ax (UT (ax h))]=ax (.nx [ax (wP W),ax (pP D),ax (.int (b:Int)),ax (.lst (iL (nL (F++[h])))),ax (UT (YX W D (F++[h])))]):=by have:=g _ a;generalize k:iL (nL (F++[h]))=z at this ⊢;simp[this]
     rw[W4 f,d]
    ·show 8-(iL (nL (F++[h]))).length<8-(iL (nL F)).length;simp[nL];omega) (s:=[ax (wP W),ax (pP D),ax (.int (b:Int)),ax (.lst (iL (nL [b]))),ax (UT (YX W D [b]))]) ⟨[b],rfl,Burn.one j⟩
 have o:YX W D F=aA:=by
  cases e:YX W D F with
  | none=>rfl
  | some h=>rw[e] at i;simp[Af,UT] at i
 refine⟨F,?_,B,o⟩;have f:Zs 3 (Wz [eP (Za 2)]) [ax (wP W),ax (pP D),ax (.int (b:Int)),aA,aA]=ax (.nx [ax (wP W),ax (pP D),ax (.int (b:Int)),ax (.lst (iL (nL [b]))),aA]):=by simp[nL]
 have d:Zs 4 (Ze Z5 [Za 0,Za 1,Za 3]) [ax (wP W),ax (pP D),ax (.int (b:Int)),ax (.lst (iL (nL [b]))),aA]=ax (.nx [ax (wP W),ax (pP D),ax (.int (b:Int)),ax (.lst (iL (nL [b]))),ax (UT (YX W D [b]))]):=by have:=g _ (Burn.one j);generalize k:iL (nL [b])=z at this ⊢;simp[this]
 show YF 5 KQ _=_;unfold KQ;show(Zn _ _ [ax (wP W),ax (pP D),ax (.int (b:Int)),aA,aA]).bind U5=_;rw[W4 f,W4 d,W4 p];rfl
noncomputable def Hq(W:List (List Int))(D:List Int)(b:Nat):List Nat:=open Classical in if h:∃F,Vk [wP W,pP D,.int (b:Int)]=ax (.lst (iL (nL F)))/\Burn W D b F/\YX W D F=aA then h.choose else []
theorem C1{W:List (List Int)}{D:List Int}{b:Nat}(ok:Zt W)(hd:D.length=W.length)(a:b<W.length):Vk [wP W,pP D,.int (b:Int)]=ax (.lst (iL (nL (Hq W D b))))/\Burn W D b (Hq W D b)/\YX W D (Hq W D b)=aA:=by have:=Mi ok hd a;unfold Hq;rw[dif_pos this];exact this.choose_spec
theorem Burn.uniq{W:List (List Int)}{D:List Int}{b:Nat}{F G:List Nat}(d:Burn W D b F)(f:Burn W D b G)(i:YX W D F=aA)(g:YX W D G=aA):F=G:=by
 have j:=d.pos;have l:=f.pos
 have a:∀k,k<=F.length->k<=G.length->F.take k=G.take k:=by
  intro k
  induction k with
  | zero=>intros;simp
  | succ k ih=>
   intro m n;have e:=ih (by omega) (by omega);rw[gY,gY,e];congr 1;by_cases q:k=0
   ·subst q;rw[d.hd,f.hd]
   ·rw[<-d.st k (by omega) (by omega),<-f.st k (by omega) (by omega),e]
 rcases Nat.lt_trichotomy F.length G.length with h | h | h
 ·have:=a F.length (by omega) (by omega);rw[ck] at this;have c:=f.st F.length (by omega) h;rw[<-this,i,aE h] at c;cases c
 ·have:=a F.length (by omega) (by omega);rw[ck,h,ck] at this;exact this
 ·have:=a G.length (by omega) (by omega);rw[ck] at this;have c:=d.st G.length (by omega) h;rw[this,g,aE h] at c;cases c
noncomputable def Xl(D:List Int)(b:Nat):List Nat:=(aD D.length).filter λh=>!decide (h=b)&&decide (Zl D h<0)
theorem S3{D:List Int}{b:Nat}(e:D.length<=1000):YZ [pP D,.int (b:Int)]=ax (.lst (iL (nL (Xl D b)))):=by
 have c:Xf aB [Za 0] [ax (pP D),ax (.int (b:Int))]=ax ((aD D.length).map λ(i:Nat)=>.tup [.int (i:Int),.int (Zl D i)]):=by have:=Oj D;simp[this]
 have d:Zw 2 [1] (Xf aB [Za 0]) (.many [0,1]) (OO (xB (Zm (Xz aC) (Za 0) (Za 2))) (xB (Zm MO (Za 1) (eC (.int 0))))) (eP (Za 0)) [ax (pP D),ax (.int (b:Int))]=ax (.lst (iL (nL (Xl D b)))):=by
  rw[XG (aD D.length) (λ(i:Nat)=>.tup [.int (i:Int),.int (Zl D i)]) (λ(i:Nat)=>.int (i:Int)) (λh=>!decide (h=b)&&decide (Zl D h<0)) c (by simp;omega) λy f=>⟨[ax (.int (y:Int)),ax (.int (Zl D y)),ax (.int (b:Int))],by simp[ZH,D5],?_,λ_=>by simp⟩]
  ·unfold nL Xl iL;rw[bZ];rfl
  ·by_cases q:y=b
   ·subst q;simp
   ·have a:¬(y:Int)=(b:Int):=by omega
    simp[q,a]
 show YF 2 Qq _=_;unfold Qq;show(ZQ _ [ax (pP D),ax (.int (b:Int))]).bind U5=_;rw[M3 d];rfl
theorem debt_nil{D:List Int}{b:Nat}:Xl D b=[]↔∀h,h<D.length->h≠b->0<=Zl D h:=by
 unfold Xl;rw[kz];constructor
 ·intro h x a c;have:=h x (aY.mpr a);simp[c] at this;exact this
 ·intro h x a;by_cases q:x=b
  ·simp[q]
  ·have:=h x (aY.mp a) q;simp[q];omega
theorem Zbi{D:List Int}{b h:Nat}:h∈Xl D b↔h<D.length/\h≠b/\Zl D h<0:=by unfold Xl;rw[bj,aY];simp
theorem Mj:∀{l:List Int},(∀x∈l,0<=x)->0<=l.sum
 | [],_=>by simp
 | x::r,h=>by rw[bR];have:=h x ag;have:=Mj (l:=r) λy a=>h y (aN _ a);omega
end PW
set_option maxHeartbeats 2000000
namespace PW
open PySem L2 VL VX
section
variable {f g h k l:XE} {s s1:ZG} {a b c d e v r:PV} {i m:Nat} {F G:XS} {x y:XT} {o:Option Out} {p:Bool} {D:List PV->Option PV} {R:Option PV} {ls:List PV}
theorem XX(q:F (ZP m ls)=ax (.rt v)):YF m F ls=ax v:=by show(F (ZP m ls)).bind U5=_;rw[q];rfl
theorem Zmb(q:F (ZP m ls)=ax (.nx s)):YF m F ls=ax .non:=by show(F (ZP m ls)).bind U5=_;rw[q];rfl
theorem sq(q:F s=ax (.nx s1))(w:G s1=o):Zn F G s=o:=(W4 q).trans w
theorem Zp(q:f s=ax v):Zs i f s=ax (.nx (s.set i (ax v))):=by rw[Yf,q];rfl
theorem ep(q:f s=ax v)(w:ZO v=aC:=by rfl):eP f s=ax v:=by rw[U6,q,aQ,p9 w]
theorem HS{l:List Int}(q:f s=ax (pP l)):eP f s=ax (pP l):=ep q (ZY _)
theorem c1(q:f s=ax a)(w:D [a]=R):Ze D [f] s=R:=by show((f s).bind λx=>ax [x]).bind D=_;rw[q];exact w
theorem c2(q:f s=ax a)(c:g s=ax b)(w:D [a,b]=R):Ze D [f,g] s=R:=by rw[Yl,Zy,q,Zy,c];exact w
theorem c3(q:f s=ax a)(d:g s=ax b)(e:h s=ax c)(w:D [a,b,c]=R):Ze D [f,g,h] s=R:=by rw[Yl,Zy,q,Zy,d,Zy,e];exact w
theorem c4(q:f s=ax a)(i:g s=ax b)(e:h s=ax c)(j:k s=ax d)(w:D [a,b,c,d]=R):Ze D [f,g,h,k] s=R:=by rw[Yl,Zy,q,Zy,i,Zy,e,Zy,j];exact w
theorem c5(q:f s=ax a)(m:g s=ax b)(i:h s=ax c)(n:k s=ax d)(j:l s=ax e)(w:D [a,b,c,d,e]=R):Ze D [f,g,h,k,l] s=R:=by rw[Yl,Zy,q,Zy,m,Zy,i,Zy,n,Zy,j];exact w
theorem o2{op:PV->PV->Option PV}(q:f s=ax a)(c:g s=ax b)(w:op a b=R):Zm op f g s=R:=by rw[XD,q,c];exact w
theorem xb(q:f s=ax (.bl p)):xB f s=ax p:=by rw[U7,q];rfl
theorem xn(q:x s=ax p):Py x s=ax !p:=by rw[Ry,q];rfl
theorem xo{p2:Bool}(q:x s=ax p)(a:y s=ax p2):Gj x y s=ax (p || p2):=by
 rw[Rx,q];cases p
 ·exact a
 ·rfl
theorem ea{p2:Bool}(q:f s=ax (.bl p))(a:g s=ax (.bl p2)):Kr f g s=ax (.bl (p&&p2)):=by
 rw[Io,xb q];cases p
 ·rfl
 ·exact a
theorem gof(q:x s=ax aB):Ru x F YE s=ax (.nx s):=by rw[Vj,q];rfl
theorem ret(q:f s=ax v):ZQ f s=ax (.rt v):=M3 q
theorem neq{l:List Int}(q:f s=ax (pP l))(a:g s=ax (pP l)):xB (Zm (Xz aC) f g) s=ax aB:=xb (o2 q a (by simp))
theorem Zmc{w:PV}(q:f s=ax w):sEx f s=ax (.nx s):=by show(f s).map _=_;rw[q];rfl
end
theorem Zfp{f g:XE}{s:ZG}{l:List Int}{k:Nat}(b:f s=ax (pP l))(a:g s=ax (.int (k:Int)))(h:k<l.length):O0 PH f MR (Qk g) s=ax (pP (l.take k)):=by rw[Oe,b];simp only[aQ,EC];unfold Qk;rw[a];simp only[aQ];unfold PH;simp only[];rw[pW,Za8];rw[HT.sIx_none,HT.sIx_nat,aJ];omega
theorem Zfq{f g:XE}{s:ZG}{l:List Int}{k:Nat}(b:f s=ax (pP l))(a:g s=ax (.int (k:Int)))(h:k<l.length):O0 PH f (Qk (Zm YJ g (eC (.int 1)))) MR s=ax (pP (l.drop (k+1))):=by
 have a:Zm YJ g (eC (.int 1)) s=ax (.int ((k+1:Nat):Int)):=by rw[XD,a];rfl
 rw[Oe,b];simp only[aQ,EC];unfold Qk;rw[a];simp only[aQ];unfold PH;simp only[];rw[pW,Za9];rw[HT.sIx_none,HT.sIx_nat,aJ];omega
theorem E2{a b:List Int}(h:a.length+b.length<=1000):LF (pP a) (pP b)=ax (pP (a++b)):=by unfold LF;simp only[];rw[p9 (by rw[aJ,aJ];omega),<-ay]
noncomputable def Y9(F:XS)(s:ZG)(Q:PV->Prop):Prop:=∃v,F s=ax (.rt v)/\Q v
noncomputable def WH(F:XS)(s:ZG)(R:ZG->Prop):Prop:=∃s1,F s=ax (.nx s1)/\R s1
section
variable {F G:XS} {s s1:ZG} {Q:PV->Prop} {R:ZG->Prop} {v:PV} {f g:XE} {x:XT} {p:Bool} {m i k n:Nat} {ls:List PV} {O:List Nat} {fi:XL} {T:Tgt} {fb:XS} {a b:Int}
theorem Pf(h:Y9 F (ZP m ls) Q):∃v,YF m F ls=ax v/\Q v:=by obtain⟨v,e,q⟩:=h;exact⟨v,XX e,q⟩
theorem Pg(h:Y9 F (ZP m ls) λw=>w=v):YF m F ls=ax v:=by obtain⟨_,e,rfl⟩:=Pf h;exact e
theorem ZU(q:F s=ax (.nx s1))(h:Y9 G s1 Q):Y9 (Zn F G) s Q:=by obtain⟨v,e,a⟩:=h;exact⟨v,sq q e,a⟩
theorem Wu(h:WH F s R)(a:∀s1,R s1->Y9 G s1 Q):Y9 (Zn F G) s Q:=by obtain⟨s1,e,r⟩:=h;exact ZU e (a s1 r)
theorem Vx(q:f s=ax v)(h:Q v):Y9 (ZQ f) s Q:=⟨v,ret q,h⟩
theorem Zmd(q:x s=ax aC)(h:Y9 F s Q):Y9 (Zn (Ru x F YE) G) s Q:=by obtain⟨v,e,a⟩:=h;exact⟨v,Zbh (by rw[Vj,q];exact e),a⟩
theorem R0(q:F s=ax (.nx s1))(h:R s1):WH F s R:=⟨s1,q,h⟩
theorem Z4(q:F s=ax (.nx s1))(h:WH G s1 R):WH (Zn F G) s R:=by obtain⟨s2,e,r⟩:=h;exact⟨s2,sq q e,r⟩
theorem L3{R2:ZG->Prop}(h:WH F s R)(a:∀s1,R s1->WH G s1 R2):WH (Zn F G) s R2:=by obtain⟨s1,e,r⟩:=h;exact Z4 e (a s1 r)
theorem Zfr{R2:ZG->Prop}(h:WH F s R)(a:∀s1,R s1->R2 s1):WH F s R2:=by obtain⟨s1,e,r⟩:=h;exact⟨s1,e,a s1 r⟩
theorem L4(q:x s=ax p)(a:p=aC->WH F s R)(b:p=aB->WH G s R):WH (Ru x F G) s R:=by
 unfold WH;rw[Vj,q];cases p
 ·exact b rfl
 ·exact a rfl
theorem Tu(I:Nat->ZG->Prop)(f:fi (Xr O s)=ax ls)(j:I 0 s)(st:∀i l s,ls[i]?=ax l->I i s->∃s1,Xg T l s=ax s1/\WH fb s1 (I (i+1))):WH (YU O fi T fb) s (I ls.length):=by
 obtain⟨a,e,q⟩:=U9 I j λi l s b h=>by obtain⟨s1,g,s2,d,c⟩:=st i l s b h;exact⟨s1,s2,g,d,c⟩
 refine⟨a,?_,q⟩;unfold YU;rw[f];exact e
theorem Mk(I:Nat->ZG->Prop)(b:f (Xr O s)=ax (.int (n:Int)))(e:I 0 s)(st:∀i s,i<n->I i s->WH fb (s.set k (ax (.int (i:Int)))) (I (i+1)))(c:n<=10000:=by omega):WH (YU O (Yk [f]) (.one k) fb) s (I n):=by
 have:=Tu (T:=.one k) (fb:=fb) I (Xd b c) e λi l s a h=>by obtain⟨d,rfl⟩:=AK a;exact⟨_,rfl,st i s d h⟩
 rwa [AL] at this
theorem Zbj(I:Nat->ZG->Prop)(j:f (Xr O s)=ax (.int (m:Int)))(b:g (Xr O s)=ax (.int (n:Int)))(d:I m s)(st:∀i s,m<=i->i<n->I i s->WH fb (s.set k (ax (.int (i:Int)))) (I (i+1)))(c:m<=n:=by omega)(o:n<=10000:=by omega):WH (YU O (VD [f,g]) (.one k) fb) s (I n):=by
 have e:((n:Int)-(m:Int)).toNat=n-m:=by omega
 have:=Tu (T:=.one k) (fb:=fb) (λi=>I (m+i)) (LD j b (by omega) (by omega)) d λi l s a h=>by obtain⟨p,rfl⟩:=Ir a;exact⟨_,rfl,st (m+i) s (by omega) (by omega) h⟩
 rwa [Iu,e,show m+(n-m)=n by omega] at this
theorem Zfs{d:Type}{L:List d}{q g:d->PV}(c:d->Bool)(I:ZG->Prop)(l:fi (Xr O s)=ax (L.map q))(m:I s)(st:∀a∈L,∀s,I s->∃s1,Xg T (q a) s=ax s1/\(c a=aC->fb s1=ax (.rt (g a)))/\(c a=aB->WH fb s1 I))(j:∀a,L.find? c=ax a->Q (g a))(f:L.find? c=aA->∀s1,I s1->Y9 G s1 Q):Y9 (Zn (YU O fi T fb) G) s Q:=by
 have b:=QX (T:=T) (fb:=fb) (g:=g) I st m;have e:∀o,VF T fb (L.map q) s=o->YU O fi T fb s=o:=λo h=>by unfold YU;rw[l];exact h
 cases z:L.find? c with
 | some a=>rw[z] at b;exact⟨_,Zbh (e _ b),j a z⟩
 | none=>
  rw[z] at b;obtain⟨s1,k,i⟩:=b;exact ZU (e _ k) (f z s1 i)
theorem goT{o:Option Out}(q:x s=ax aC)(w:F s=o):Ru x F G s=o:=by rw[Vj,q];exact w
theorem Zhg{b:Type}{L:List b}{q g:b->PV}{H:XS}(c:b->Bool)(I:ZG->Prop)(l:fi (Xr O s)=ax (L.map q))(m:I s)(st:∀a∈L,∀s,I s->∃s1,Xg T (q a) s=ax s1/\x s1=ax (c a)/\H s1=ax (.rt (g a))/\I s1)(j:∀a,L.find? c=ax a->Q (g a))(f:L.find? c=aA->∀s1,I s1->Y9 G s1 Q):Y9 (Zn (YU O fi T (Ru x H YE)) G) s Q:=
 Zfs (g:=g) c I l m (λa k s i=>by
  obtain⟨s1,e,d,n,o⟩:=st a k s i;exact⟨s1,e,λh=>goT (by rw[d,h]) n,λh=>R0 (gof (by rw[d,h])) o⟩) j f
theorem Zme{X:List Nat}(I:Nat->ZG->Prop)(a:fi (Xr O s)=ax (iL (nL X)))(c:I 0 s)(st:∀i s (h:i<X.length),I i s->WH fb (s.set k (ax (.int ((X[i]:Nat):Int)))) (I (i+1))):WH (YU O fi (.one k) fb) s (I X.length):=by
 have:=Tu (T:=.one k) (fb:=fb) I a c λi l s b h=>by
  have a:i<X.length:=by have:=(aR.mp b).1;simpa [nL] using this
  have e:l = .int ((X[i]:Nat):Int):=by rw[Qm (by simpa [nL] using a)] at b;rw[<-bC b];simp[nL,Zl,a]
  subst e;exact⟨_,rfl,st i s a h⟩
 rwa [show(iL (nL X)).length=X.length by simp[nL]] at this
theorem vmd(q:f s=ax (.int a))(c:g s=ax (.int b))(h:0<b:=by omega):Zm Vd f g s=ax (.int (a%b)):=vC q c h
theorem vdv(q:f s=ax (.int a))(d:g s=ax (.int b))(h:0<b:=by omega)(c:b<=10000:=by omega):Zm SD f g s=ax (.int (a/b)):=vC q d (Zjc h c)
theorem FD(q:f s=ax (.int a))(c:g s=ax (.int b)):Zm YJ f g s=ax (.int (a+b)):=vI q c
theorem Bz(q:f s=ax (.int a))(c:g s=ax (.int b)):Zm Wi f g s=ax (.int (a-b)):=vI q c
theorem vlt{a b:Nat}(q:f s=ax (.int (a:Int)))(c:g s=ax (.int (b:Int))):Zm MO f g s=ax (.bl (decide (a<b))):=o2 q c (by
 show ax (PV.bl (decide ((a:Int)<(b:Int))))=_;rw[decide_eq_decide.mpr Int.ofNat_lt])
theorem vgt{a b:Nat}(q:f s=ax (.int (a:Int)))(c:g s=ax (.int (b:Int))):Zm El f g s=ax (.bl (decide (b<a))):=o2 q c (by
 show ax (PV.bl (decide ((a:Int)>(b:Int))))=_;rw[decide_eq_decide.mpr Int.ofNat_lt])
theorem vge(q:f s=ax (.int a))(c:g s=ax (.int b)):Zm oGe f g s=ax (.bl (decide (b<=a))):=o2 q c rfl
theorem C2(q:f s=ax (.int a))(c:g s=ax (.int b)):Zm (Xz aB) f g s=ax (.bl (decide (a=b))):=o2 q c (by rw[Uj];rfl)
theorem xa{y:XT}{p2:Bool}(q:x s=ax p)(a:y s=ax p2):OO x y s=ax (p&&p2):=by
 rw[AE,q];cases p
 ·rfl
 ·exact a
theorem un1{op:PV->Option PV}{S:Option PV}(q:f s=ax v)(w:op v=S):Pz op f s=S:=by unfold Pz;rw[q];exact w
theorem Zmf{u w:PV}(q:f s=ax u)(a:g s=ax w):Wy [f,g] s=ax (.tup [u,w]):=by rw[Rw,Zy,q,Zy,a];rfl
theorem Ml{S:Option PV}(q:x s=ax aC)(w:f s=S):OP x f g s=S:=by rw[Rz,q];exact w
theorem Mm{S:Option PV}(q:x s=ax aB)(w:g s=S):OP x f g s=S:=by rw[Rz,q,aQ,pW (by decide)];exact w
theorem Jr{a:Type}(h:a->PV){L:List a}{y:a}(q:f s=ax (h y))(b:MI s i=ax (L.map h))(c:L.length<=9000):Yz i f s=ax (.nx (s.set i (ax (.lst ((L++[y]).map h))))):=by rw[Ul q b (by rw[aJ];omega),ay];rfl
theorem Zft{a:Type}(h:a->PV){L M:List a}(q:f s=ax (.lst (M.map h)))(b:MI s i=ax (L.map h))(c:L.length+M.length<=10000):WB i f s=ax (.nx (s.set i (ax (.lst ((L++M).map h))))):=by rw[Nc q b (by rw[aJ,aJ];omega),ay]
theorem Js{L:List Nat}(q:f s=ax (.int (k:Int)))(a:MI s i=ax (iL (nL L)))(b:L.length<=9000):Yz i f s=ax (.nx (s.set i (ax (.lst (iL (nL (L++[k]))))))):=by rw[Ul q a (by simp[nL];omega)];simp[nL]
theorem Zjr{l:List Int}(q:f s=ax (.int (Zl l k)))(c:MI s i=ax (iL (l.take k)))(a:k<l.length)(d:l.length<=9000):Yz i f s=ax (.nx (s.set i (ax (.lst (iL (l.take (k+1))))))):=by
 have e:l.take (k+1)=l.take k++[Zl l k]:=by rw[dQ a];simp[Zl,aF,aE a]
 rw[Ul q c (by simp;omega),e];have b:iL (l.take k++[Zl l k])=iL (l.take k)++[PV.int (Zl l k)]:=ay;rw[b]
theorem Zjs(Q:List Int):Xt (iL Q)=(aD Q.length).map λ(i:Nat)=>.tup [.int (i:Int),.int (Zl Q i)]:=by
 rw[Y6,aJ];exact au λi a=>by rw[XH Q i (aY.mp a)]
theorem Vq{W:List (List Int)}:ZN [wP W]=ax (.int (W.length:Int)):=by show ax (PV.int ((W.map pP).length:Int))=_;rw[aJ]
theorem Zmg{W:List (List Int)}{a b:Nat}{h:XE}(c:a<W.length)(d:b<(ZA W a).length)(q:f s=ax (wP W))(i:g s=ax (.int (a:Int)))(e:h s=ax (.int (b:Int))):Zm ZR (Zm ZR f g) h s=ax (.int (ZM W a b)):=o2 (o2 q i (TX c)) e (YD d)
theorem FE{l:List Int}(q:f s=ax (.int (k:Int)))(c:g s=ax (.int a))(d:MI s i=ax (iL l))(b:k<l.length):SM i f g s=ax (.nx (s.set i (ax (.lst (iL (l.set k a)))))):=by rw[D6 c q d (ZY _) rfl (RF (by rw[aJ];exact b)),<-ky]
theorem Zbk{o:List Int}(q:f s=ax (.int (n:Int)))(b:g s=ax (.int a))(c:MI s i=ax (iL o))(e:n<=1000)(d:o.length<=1000):TR i f g s=ax (.nx (s.set i (ax (.lst (iL (o.take n++a::o.drop n)))))):=by rw[Gx q b c (ZY o) rfl (by omega) (by omega) (by rw[aJ];omega),bV,Zjn]
end
end PW
namespace PW
theorem QZ{f:Nat->Int}{q:Nat}:∀{m:Nat},q<=m->(∀k,q<=k->k<m->f k=0)->sN m f=sN q f
 | 0,h,_=>by rw[show q=0 by omega]
 | m+1,h,z=>by
  by_cases e:q=m+1
  ·rw[e]
  ·show sN m f+f m=_;rw[QZ (m:=m) (by omega) (λk a b=>z k a (by omega)),z m (by omega) (by omega)];omega
theorem E3{f:Nat->Int}{q i:Nat}:∀{m:Nat},q<=i->i<m->(∀k,q<=k->k<m->k≠i->f k=0)->sN m f=sN q f+f i
 | 0,_,h,_=>by omega
 | m+1,hq,hi,z=>by
  show sN m f+f m=_;by_cases e:i=m
  ·subst e;rw[QZ (q:=q) (by omega) λk a b=>z k a (by omega) (by omega)]
  ·rw[E3 (m:=m) hq (by omega) (λk a b=>z k a (by omega)),z m (by omega) (by omega) (λq=>e q.symm)];omega
noncomputable def Wv(m:Nat)(X:Mt):Nat->Mt×Int
 | 0=>(X,1)
 | p+1=>(λi j=>if i=p then(Wv m X p).1 i j else((Wv m X p).1 p p*(Wv m X p).1 i j-(Wv m X p).1 i p*(Wv m X p).1 p j).fdiv (Wv m X p).2,(Wv m X p).1 p p)
structure BOk(m:Nat)(A X:Mt):Prop where
 sym:∀i j,i<m->j<m->A i j=A j i
 inj:∀p,p<=m->∀z:Nat->Int,(∀j,j<p->sN p (λk=>z k*A k j)=0)->∀k,k<p->z k=0
 ext:∀i j,i<m->j<m->X i j=A i j
structure Zn7(m p:Nat)(X:Mt)(E:Mt)(d:Int)(i:Nat)(a:Nat->Int):Prop where
 off:∀k,k<m->p<=k->k≠i->a k=0
 on:p<=i->a i=d
 val:∀j,j<=m->E i j=sN m (λk=>a k*X k j)
 uni:∀j,j<p->E i j=if i=j then d else 0
structure Zju(m:Nat)(A X:Mt)(p:Nat)(E:Mt)(d:Int):Prop where
 de:d=W5 p A
 nz:d≠0
 row:∀i,i<m->∃a,Zn7 m p X E d i a
theorem Mn{m:Nat}{A X:Mt}{p:Nat}{E:Mt}{d:Int}(ok:BOk m A X)(Z:p<m)(I:Zju m A X p E d) :
  Zju m A X (p+1) (λi j=>if i=p then E i j else(E p p*E i j-E i p*E p j).fdiv d) (E p p)/\∀i j,i<m->j<=m->i≠p->∃q,E p p*E i j-E i p*E p j=d*q:=by
 obtain⟨u,t⟩:=I.row p Z;have hd:=I.nz
 -- the pivot's row
 have x:∀j,j<m->E p j=sN (p+1) (λk=>u k*A k j):=λj g=>by
  rw[t.val j (by omega),QZ (q:=p+1) (by omega) λk v w=>by rw[t.off k w (by omega) (by omega),fE]];exact Zi λk f=>by rw[ok.ext k j (by omega) g]
 have R:E p p=W5 (p+1) A:=by
  have v:=Zfi (n:=p+1) (j:=p) (A:=A) (a:=u) (by omega);have w:=Hf (A:=put p (λc=>sN (p+1) λk=>u k*A k c) A) λc T=>by rw[YW];rw[<-x c (by omega),t.uni c T,pW (by omega)]
  have N:W5 p (put p (λc=>sN (p+1) λk=>u k*A k c) A)=W5 p A:=WN λr c hr T=>by rw[Vv _ _ (by omega)]
  rw[YW,N,v,t.on (aZ p),<-I.de] at w;have h4:d*W5 (p+1) A=E p p*d:=by rw[w];rw[<-x p Z]
  have h5:d*(W5 (p+1) A)=d*E p p:=by rw[h4,cQ]
  exact(ji hd h5).symm
 have pz:E p p≠0:=λz=>by
  have:=ok.inj (p+1) (by omega) u (λj g=>by
   rw[<-x j (by omega)];by_cases q:j=p
   ·rw[q];exact z
   ·rw[t.uni j (by omega),pW (by omega)]) p (by omega)
  rw[t.on (aZ p)] at this;exact hd this
 -- the s rows
 have s:∀i,i<m->i≠p->∃b:Nat->Int,(∀k,k<m->p+1<=k->k≠i->b k=0)/\(p+1<=i->b i=E p p)/\(∀l,l<p+1->sN m (λk=>b k*A k l)=if i=l then E p p else 0)/\∀j,j<=m->E p p*E i j-E i p*E p j=d*sN m (λk=>b k*X k j):=by
  intro i C o
  obtain⟨b,b1,J,L⟩:∃b:Nat->Int,(∀k,k<m->p+1<=k->k≠i->b k=0)/\(p+1<=i->b i=E p p)/\(∀l,l<p+1->sN m (λk=>b k*A k l)=if i=l then E p p else 0):=by
   have W:∀j l,j<p+1->l<p+1->sN (p+1) (λk=>Fw (p+1) A k j*A k l)=if l=j then E p p else 0:=λj l g y=>by
    rw[R,<-EY y g];exact Zi λk f=>by rw[ok.sym l k (by omega) (by omega),cQ]
   by_cases q:i<p
   ·obtain⟨b,B⟩:∃b:Nat->Int,∀k,b k=if k<p+1 then Fw (p+1) A k i else 0:=⟨_,λ_=>rfl⟩
    refine⟨b,λk f v _=>by rw[B,pW (by omega)],λh=>by omega,λl y=>?_⟩;rw[QZ (q:=p+1) (by omega) λk v w=>by rw[B,pW (by omega),fE]];rw[Zi λk f=>by rw[B,p9 f],W i l (by omega) y];by_cases e:i=l
    ·rw[p9 e,p9 e.symm]
    ·rw[pW e,pW (λz=>e z.symm)]
   ·obtain⟨b,B⟩:∃b:Nat->Int,∀k,b k=if k<p+1 then-sN (p+1) (λj=>A i j*Fw (p+1) A k j) else if k=i then E p p else 0:=⟨_,λ_=>rfl⟩
    have H:b i=E p p:=by rw[B,pW (by omega),p9 rfl]
    refine⟨b,λk f v w=>by rw[B,pW (by omega),pW w],λh=>H,λl y=>?_⟩;rw[E3 (q:=p+1) (by omega) C λk v w N=>by rw[B,pW (by omega),pW N,fE]];rw[H]
    have Q:sN (p+1) (λk=>b k*A k l)=sN (p+1) (λk=>(-1)*sN (p+1) (λj=>A i j*(Fw (p+1) A k j*A k l))):=Zi λk f=>by
     rw[B,p9 f,dJ,cQ _ (A k l),<-ZJ,dJ,jr];congr 1;exact Zi λj _=>by rw[cQ (A k l),cg]
    rw[Q,ZJ,UC];have e2:(sN (p+1) λj=>sN (p+1) λk=>A i j*(Fw (p+1) A k j*A k l))=A i l*E p p:=by rw[Zi λj g=>by rw[ZJ,W j l g y]];rw[Z3 y λj _ O=>by rw[pW (λz=>O z.symm),fD],p9 rfl]
    rw[e2,cQ (E p p)];omega
  refine⟨b,b1,J,L,?_⟩;obtain⟨D,F⟩:=I.row i C
  have hw:∀k,k<m->E p p*D k-E i p*u k-d*b k=0:=by
   have G:∀k,k<m->p+1<=k->E p p*D k-E i p*u k-d*b k=0:=λk f v=>by
    have Y:=t.off k f (by omega) (by omega);by_cases q:k=i
    ·subst q;rw[F.on (by omega),Y,J v,cQ d];omega
    ·rw[F.off k f (by omega) q,Y,b1 k f v q];omega
   intro k f;by_cases q:k<p+1
   ·refine ok.inj (p+1) (by omega) (λk=>E p p*D k-E i p*u k-d*b k) (λl y=>?_) k q;rw[<-QZ (m:=m) (by omega) λk v w=>by rw[G k w v,fE]]
    have Q:sN m (λk=>(E p p*D k-E i p*u k-d*b k)*A k l)=E p p*sN m (λk=>D k*A k l)+((- E i p)*sN m (λk=>u k*A k l)+(- d)*sN m (λk=>b k*A k l)):=by
     rw[<-ZJ,<-ZJ,<-ZJ,<-ZS,<-ZS];exact Zi λk _=>by rw[Int.sub_mul,Int.sub_mul];simp only[cg,dJ];omega
    have U:∀a:Nat->Int,sN m (λk=>a k*X k l)=sN m (λk=>a k*A k l):=λa=>Zi λk f=>by rw[ok.ext k l f (by omega)]
    rw[Q,L l y,<-U,<-U,<-F.val l (by omega),<-t.val l (by omega)];by_cases q2:l=p
    ·subst q2;rw[pW o,cQ (E l l),dJ];omega
    ·rw[F.uni l (by omega),t.uni l (by omega),pW (show ¬p=l by omega)];by_cases M:i=l
     ·rw[p9 M,p9 M,dJ d,cQ d];omega
     ·rw[pW M,pW M];omega
   ·exact G k f (by omega)
  intro j g;rw[F.val j g,t.val j g,<-ZJ,<-ZJ,<-ZJ];have:sN m (λk=>E p p*(D k*X k j))=sN m (λk=>d*(b k*X k j))+sN m (λk=>E i p*(u k*X k j)):=by rw[<-ZS];refine Zi λk f=>?_;have:=hw k f;rw[<-cg,<-cg,<-cg,<-mD];congr 1;omega
  omega
 refine⟨⟨R,pz,λi C=>?_⟩,λi j C g o=>?_⟩
 ·by_cases o:i=p
  ·subst o;refine⟨u,λk f v w=>t.off k f (by omega) w,λh=>by omega,λj g=>by rw[p9 rfl];exact t.val j g,λj g=>?_⟩;rw[p9 rfl];by_cases q:i=j
   ·subst q;rw[p9 rfl]
   ·rw[pW q,t.uni j (by omega),pW q]
  ·obtain⟨b,b1,J,L,P⟩:=s i C o;have S:∀j,j<=m->(E p p*E i j-E i p*E p j).fdiv d=sN m (λk=>b k*X k j):=λj g=>by rw[P j g,kJ _ hd]
   refine⟨b,b1,J,λj g=>by rw[pW o];exact S j g,λj g=>?_⟩;rw[pW o,S j (by omega),<-L j g];exact Zi λk f=>by rw[ok.ext k j f (by omega)]
 ·obtain⟨b,b1,J,L,P⟩:=s i C o;exact⟨_,P j g⟩
theorem Xx{m:Nat}{A X:Mt}(ok:BOk m A X):∀{p:Nat},p<=m->Zju m A X p (Wv m X p).1 (Wv m X p).2
 | 0,_=>⟨rfl,(show(1:Int)≠0 by decide),λi a=>⟨λk=>if k=i then 1 else 0,λk _ _ h=>pW h,λ_=>p9 rfl,λj c=>by rw[Z3 (k:=i) a λk _ b=>by rw[pW b,fE],p9 rfl,jr];rfl,λj c=>by omega⟩⟩
 | p+1,h=>(Mn ok (by omega) (Xx ok (p:=p) (by omega))).1
theorem C3{m:Nat}{A X:Mt}(ok:BOk m A X){k:Nat}(b:k<m):sN m (λi=>A k i*(Wv m X m).1 i m)=(Wv m X m).2*X k m:=by
 have I:=Xx ok (aZ m);generalize s:(Wv m X m).1=E at I ⊢;generalize hd:(Wv m X m).2=d at I ⊢;have o:=I.nz
 have e:∀k,k<m->sN m (λi=>A k i*sN m (λj=>Fw m A i j*X j m))=d*X k m:=λk b=>by
  rw[Zi (g:=λi=>sN m (λj=>A k i*(Fw m A i j*X j m))) λi _=>by rw[ZJ]]
  rw[UC,Zi (g:=λj=>(if k=j then d else 0)*X j m) λj n=>by
   rw[I.de,<-EY b n,cQ _ (X j m),<-ZJ];exact Zi λi _=>by rw[cQ (X j m),cg]]
  rw[Z3 b λj _ h=>by rw[pW (λz=>h z.symm),fE],p9 rfl]
 have p:∀i,i<m->E i m=sN m (λj=>Fw m A i j*X j m):=λi c=>by
  obtain⟨a,R⟩:=I.row i c;refine ji o ?_;rw[R.val m (aZ m),<-ZJ];have q:sN m (λk=>d*(a k*X k m))=sN m (λk=>a k*sN m (λl=>A k l*sN m (λj=>Fw m A l j*X j m))):=Zi λk b=>by rw[e k b,gR]
  rw[q,Zi (g:=λk=>sN m (λl=>a k*A k l*sN m (λj=>Fw m A l j*X j m))) λk _=>by rw[<-ZJ];exact Zi λl _=>by rw[cg]]
  rw[UC,Zi (g:=λl=>(if i=l then d else 0)*sN m (λj=>Fw m A l j*X j m)) λl f=>by
   rw[<-R.uni l f,R.val l (by omega),cQ _ (sN m λj=>Fw m A l j*X j m),<-ZJ];exact Zi λk b=>by rw[ok.ext k l b f,cQ]]
  rw[Z3 c λl _ h=>by rw[pW (λz=>h z.symm),fE],p9 rfl]
 rw[Zi λi c=>by rw[p i c]];exact e k b
open L2 VL
theorem Zbl{z:Int}(h:z.natAbs<2^1000):z.natAbs.log2<1000:=by
 by_cases a:z.natAbs=0
 ·rw[a];decide +kernel
 ·exact(Nat.log2_lt a).mpr h
theorem E4{a b:Int}(h:a.natAbs<2^1000)(h':b.natAbs<2^1000):CMulW a b:=⟨by have:=Zbl h;omega,by have:=Zbl h';omega⟩
theorem E5{a b:Int}(c:b≠0)(h:b.natAbs<2^1000):Nm a b:=⟨c,by have:=Zbl h;omega⟩
noncomputable def Mb:Nat->Nat
 | 0=>2^7
 | p+1=>2*Mb p*Mb p
noncomputable def Nb:Nat->Nat
 | 0=>2^208
 | p+1=>2*Mb p*Nb p
theorem Zmh{p:Nat}(h:p<=6):Mb p<2^1000:=by
 have:p=0\/p=1\/p=2\/p=3\/p=4\/p=5\/p=6:=by omega
 rcases this with rfl | rfl | rfl | rfl | rfl | rfl | rfl<;>decide +kernel
theorem Zn8{p:Nat}(h:p<=6):Nb p<2^1000:=by
 have:p=0\/p=1\/p=2\/p=3\/p=4\/p=5\/p=6:=by omega
 rcases this with rfl | rfl | rfl | rfl | rfl | rfl | rfl<;>decide +kernel
theorem E6{a b c d:Int}{M N:Nat}(g:a.natAbs<=M)(e:b.natAbs<=N)(f:c.natAbs<=M)(hd:d.natAbs<=N):(a*b-c*d).natAbs<=2*M*N:=by
 have k:(a*b).natAbs<=M*N:=by rw[mK];exact j9 g e
 have h:(c*d).natAbs<=M*N:=by rw[mK];exact j9 f hd
 have i:(a*b-c*d).natAbs<=(a*b).natAbs+(c*d).natAbs:=by omega
 have j:2*M*N=M*N+M*N:=by rw[Nat.mul_assoc];omega
 omega
theorem Hr{x d q:Int}(hd:d≠0)(e:x=d*q):(x.fdiv d).natAbs<=x.natAbs:=by
 rw[e,kJ _ hd,mK];have:1<=d.natAbs:=by omega
 calc q.natAbs=1*q.natAbs:=by omega
  _<=d.natAbs*q.natAbs:=jC _ this
theorem Zfu(p:Nat):Mb p<=Mb (p+1):=by
 have h:∀p,1<=Mb p:=λp=>by
  induction p with
  | zero=>decide
  | succ p ih=>show 1<=2*Mb p*Mb p;exact j9 (show 1<=2*Mb p by omega) ih
 show Mb p<=2*Mb p*Mb p
 calc Mb p=1*Mb p:=by omega
  _<=2*Mb p*Mb p:=jC _ (by have:=h p;omega)
theorem Zfv(p:Nat):Nb p<=Nb (p+1):=by
 have h:∀p,1<=Mb p:=λp=>by
  induction p with
  | zero=>decide
  | succ p ih=>show 1<=2*Mb p*Mb p;exact j9 (show 1<=2*Mb p by omega) ih
 show Nb p<=2*Mb p*Nb p
 calc Nb p=1*Nb p:=by omega
  _<=2*Mb p*Nb p:=jC _ (by have:=h p;omega)
theorem Q0{m:Nat}{A X:Mt}(ok:BOk m A X)(h:∀i j,i<m->j<m->(X i j).natAbs<=2^7)(f:∀i,i<m->(X i m).natAbs<=2^208):∀{p:Nat},p<=m->(∀i j,i<m->j<m->((Wv m X p).1 i j).natAbs<=Mb p)/\∀i,i<m->((Wv m X p).1 i m).natAbs<=Nb p
 | 0,_=>⟨h,f⟩
 | p+1,hp=>by
  obtain⟨b1,c⟩:=Q0 ok h f (p:=p) (by omega);have I:=Xx ok (p:=p) (by omega);have g:=(Mn ok (by omega) I).2;refine⟨λi j a d=>?_,λi a=>?_⟩
  ·show(if i=p then(Wv m X p).1 i j else _).natAbs<=_;split
   ·exact cD (b1 i j a d) (Zfu p)
   ·rename_i b;obtain⟨q,e⟩:=g i j a (by omega) b;exact cD (Hr I.nz e) (E6 (b1 p p (by omega) (by omega)) (b1 i j a d) (b1 i p a (by omega)) (b1 p j (by omega) d))
  ·show(if i=p then(Wv m X p).1 i m else _).natAbs<=_;split
   ·exact cD (c i a) (Zfv p)
   ·rename_i b;obtain⟨q,e⟩:=g i m a (by omega) b;exact cD (Hr I.nz e) (E6 (b1 p p (by omega) (by omega)) (c i a) (b1 i p a (by omega)) (c p (by omega)))
noncomputable def Xp(w:Nat)(f:Nat->Int):List Int:=(aD w).map f
theorem Xs(w:Nat)(f:Nat->Int):(Xp w f).length=w:=by simp[Xp]
theorem S4{w:Nat}{f:Nat->Int}{j:Nat}(h:j<w):Zl (Xp w f) j=f j:=ZF h
theorem Zn9{l:List Int}:(oM ((oM (ax (PV.lst (iL l))) λx=>(PB [] s).map (x::·)).bind Z1) λl=>if ZO l=aC then ax l else aA)=ax (pP l):=by show(if ZO (pP l)=aC then ax (pP l) else aA)=_;rw[p9 (by simp)]
theorem Jt{n:Nat}{d:List Nat}{e:XL}{T:Tgt}{c:XE}{s:ZG}{w:Nat}{q:Nat->PV}(g:Nat->Int)(f:e s=ax ((aD w).map q))(k:w<=100)(h:∀j,j<w->∃s1,Xg T (q j) (ZH n d s)=ax s1/\c s1=ax (.int (g j))):Zw n d e T ZD c s=ax (.lst (iL (Xp w g))):=by
 rw[ZL (aD w) q (λj=>.int (g j)) f (by rw[bt];omega) λj i=>by
  obtain⟨s1,a,b⟩:=h j (aY.mp i);exact⟨s1,a,rfl,b⟩]
 simp[Xp]
theorem FF{w:Nat}{f:Nat->Int}{j:Nat}(h:j<w):R9 (iL (Xp w f)) (j:Int)=ax (.int (f j)):=by rw[YD (by rw[Xs];exact h),S4 h]
theorem FG{w p:Nat}{f g:Nat->Int}{d:Int}(n:w<=100)(e:p<w)(m:∀j,j<w->(f j).natAbs<2^1000)(k:∀j,j<w->(g j).natAbs<2^1000)(hd:d≠0)(h:d.natAbs<2^1000) :
  Qr [pP (Xp w f),pP (Xp w g),.int (p:Int),.int d]=ax (pP (Xp w λj=>(g p*f j-f p*g j).fdiv d)):=by
 refine XX (ret (HS (c1 (Jt (q:=λj=>.tup [.int (f j),.int (g j)]) (λj=>(g p*f j-f p*g j).fdiv d) ?_ n λj l=>⟨_,rfl,?_⟩) rfl)))
 ·show ax (Qj (iL (Xp w f)) (iL (Xp w g)))=_;rw[Uk _ _ (by simp[Xs]),aJ,Xs];congr 1;refine au λi c=>?_;have c:=aY.mp c;rw[XH _ i (by rw[Xs];exact c),XH _ i (by rw[Xs];exact c),S4 c,S4 c]
 ·exact vC (C:=Nm) (op:=pV) (vI (vC (C:=CMulW) (op:=(· * ·)) (a:=g p) (b:=f j) (o2 rfl rfl (FF e)) rfl (E4 (k p e) (m j l))) (vC (C:=CMulW) (op:=(· * ·)) (a:=f p) (b:=g j) (o2 rfl rfl (FF e)) rfl (E4 (m p e) (k j l)))) rfl (E5 hd h)
noncomputable def L5(m w:Nat)(E:Mt):List (List Int):=(aD m).map λi=>Xp w (E i)
theorem Zfw(m w:Nat)(E:Mt):(L5 m w E).length=m:=by simp[L5]
noncomputable def tL(M:List (List Int)):List PV:=M.map pP
theorem FH(m w:Nat)(E:Mt):tL (L5 m w E)=(aD m).map λi=>pP (Xp w (E i)):=by unfold tL L5;rw[bZ];rfl
theorem Mo(m w:Nat)(E:Mt):(tL (L5 m w E)).length=m:=by simp[tL,Zfw]
theorem FI{m w:Nat}{E:Mt}{i:Nat}(h:i<m):(tL (L5 m w E))[i]?=ax (pP (Xp w (E i))):=by rw[FH,aX,cC h];rfl
theorem E7(M:List (List Int)):ZC (tL M)=aC:=Ip M
theorem Ju{n:Nat}{d:List Nat}{e:XL}{T:Tgt}{c:XE}{s:ZG}{m w:Nat}{q:Nat->PV}(E:Mt)(f:e s=ax ((aD m).map q))(i:m<=100)(h:∀j,j<m->∃s1,Xg T (q j) (ZH n d s)=ax s1/\c s1=ax (pP (Xp w (E j)))):Zw n d e T ZD c s=ax (.lst (tL (L5 m w E))):=by
 rw[ZL (aD m) q (λj=>pP (Xp w (E j))) f (by rw[bt];omega) λj g=>by
  obtain⟨s1,a,b⟩:=h j (aY.mp g);exact⟨s1,a,rfl,b⟩,FH]
theorem C4{m w:Nat}{A X:Mt}(B:m<=6)(C:m<=w)(u:w<=m+1)(ok:BOk m A X)(y:∀i j,i<m->j<m->(X i j).natAbs<=2^7)(t:∀i,i<m->(X i m).natAbs<=2^208){R:PV}(o:R = .lst (tL (L5 m w X))\/R = .tup (tL (L5 m w X))) :
  Np [R]=ax (.tup [.int (Wv m X m).2,.lst (tL (L5 m w (Wv m X m).1))]):=by
 have k:∀{p:Nat},p<=m->∀i j,i<m->j<m+1->((Wv m X p).1 i j).natAbs<2^1000:=λ{p} d i j a f=>by
  obtain⟨b1,z⟩:=Q0 ok y t d;by_cases q:j<m
  ·exact fZ (b1 i j a q) (Zmh (by omega))
  ·rw[show j=m by omega];exact fZ (z i a) (Zn8 (by omega))
 have x:∀{p:Nat},p<=m->(Wv m X p).2.natAbs<2^1000:=λ{p} d=>by
  cases p with
  | zero=>show(1:Int).natAbs<_;decide +kernel
  | succ p=>exact k (p:=p) (by omega) p p (by omega) (by omega)
 let st:Nat->Option PV->Option PV->ZG:=λp c b=>[ax R,ax (.lst (tL (L5 m w (Wv m X p).1))),ax (.int (Wv m X p).2),c,b]
 have g:Vr [R]=ax (.lst (tL (L5 m w X)))/\ZN [R]=ax (.int (m:Int)):=by
  rcases o with rfl | rfl
  ·exact⟨by rw[AI,p9 (E7 _)],by show ax (PV.int ((tL (L5 m w X)).length:Int))=_;rw[Mo]⟩
  ·exact⟨by rw[Iq,p9 (E7 _)],by show ax (PV.int ((tL (L5 m w X)).length:Int))=_;rw[Mo]⟩
 suffices h:Y9 Iw (ZP 5 [R]) λv=>v = .tup [.int (Wv m X m).2,.lst (tL (L5 m w (Wv m X m).1))] by obtain⟨v,e,rfl⟩:=Pf h;exact e
 refine ZU (Zp (c1 rfl g.1)) (ZU (Zp (vP rfl)) (Wu (Mk (n:=m) (λp s=>∃c b,s=st p c b) (c1 rfl g.2) ⟨aA,aA,rfl⟩ ?_) ?_))
 ·rintro p s d ⟨c,b,rfl⟩;have I:=Xx ok (p:=p) (by omega);have l:=λi j a f=>k (p:=p) (by omega) i j a f;refine Z4 (Zp (HS (o2 rfl rfl (TJ (FI d))))) (Z4 (Zp (Ju (w:=w) (Wv m X (p+1)).1 (q:=λi=>.tup [.int (i:Int),pP (Xp w ((Wv m X p).1 i))]) ?_ (by omega) λi a=>⟨_,rfl,HS ?_⟩)) (R0 (Zp (vP (o2 rfl rfl (FF (by omega))))) ⟨_,_,rfl⟩))
  ·show ax (Xt (tL (L5 m w (Wv m X p).1)))=_;rw[Y6,Mo];congr 1;refine au λi a=>?_;rw[aF,FI (aY.mp a)];rfl
  ·by_cases q:i=p
   ·exact Ml (xb ((C2 rfl rfl).trans (by rw[decide_eq_true (by omega)]))) (by rw[show(Wv m X (p+1)).1 i=(Wv m X p).1 i from funext λj=>p9 q];rfl)
   ·refine Mm (xb ((C2 rfl rfl).trans (by rw[decide_eq_false (by omega)]))) ?_;rw[show(Wv m X (p+1)).1 i=_ from funext λj=>pW q];exact c4 rfl rfl rfl rfl (FG (by omega) (by omega) (λj f=>l i j a (by omega)) (λj f=>l p j d (by omega)) I.nz (x (by omega)))
 ·rintro s ⟨c,b,rfl⟩;exact⟨_,rfl,rfl⟩
theorem C5{m:Nat}{A X:Mt}(g:m<=6)(ok:BOk m A X)(c:∀i j,i<m->j<m->(X i j).natAbs<=2^7)(b:∀i,i<m->(X i m).natAbs<=2^208) :
  WT [wP (L5 m m A),pP (Xp m λi=>X i m)]=ax (.lst (iL (Xp m λi=>((Wv m X m).1 i m).fdiv (Wv m X m).2))):=by
 have I:=Xx ok (aZ m)
 have f:(Wv m X m).2.natAbs<2^1000:=by
  cases m with
  | zero=>show(1:Int).natAbs<_;decide +kernel
  | succ k=>exact fZ ((Q0 ok c b (p:=k) (by omega)).1 k k (by omega) (by omega)) (Zmh (by omega))
 refine XX (sq (Zp (c1 (Ju (w:=m+1) X (q:=λi=>.tup [pP (Xp m (A i)),.int (X i m)]) ?_ (by omega) λi a=>⟨_,rfl,?_⟩) (C4 g (by omega) (by omega) ok c b (.inl rfl)))) (ret (Jt (q:=λi=>pP (Xp (m+1) ((Wv m X m).1 i))) _ ?_ (by omega) λi a=>⟨_,rfl,vP (vC (C:=Nm) (op:=pV) (o2 rfl rfl ?_) rfl (E5 I.nz f))⟩)))
 ·show ax (Qj (tL (L5 m m A)) (iL (Xp m λi=>X i m)))=_;rw[Uk _ _ (by rw[Mo,aJ,Xs]),Mo];congr 1;refine au λi a=>?_;have a:=aY.mp a;rw[XH _ i (by rw[Xs];exact a),S4 a,aF,FI a];rfl
 ·have d:iL (Xp m (A i))++[PV.int (X i m)]=iL (Xp (m+1) (X i)):=by unfold Xp;rw[eY,ay];simp;exact λj e=>(ok.ext i j a e).symm
  show(if(iL (Xp m (A i))).length+[PV.int (X i m)].length<=10000 then ax (PV.tup (iL (Xp m (A i))++[PV.int (X i m)])) else aA)=_;rw[p9 (by simp[Xs];omega),d]
 ·show ax (tL (L5 m (m+1) (Wv m X m).1))=_;rw[FH]
 ·show R9 (iL (Xp (m+1) ((Wv m X m).1 i))) (-1)=_;unfold R9 J0;rw[aJ,Xs,pW (by omega),p9 (by omega),show(-1+((m+1:Nat):Int)).toNat=m by omega];show(iL (Xp (m+1) ((Wv m X m).1 i)))[m]?=_;rw[Qm (by rw[Xs];omega),S4 (by omega)]
noncomputable def W6(b i:Nat):Nat:=if i<b then i else i+1
noncomputable def E8(b h:Nat):Nat:=if h<b then h else h-1
theorem Zbm(b i:Nat):W6 b i≠b:=by unfold W6;split<;>omega
theorem UE{b i m:Nat}(h:i<m):W6 b i<m+1:=by unfold W6;split<;>omega
theorem E9(b i:Nat):E8 b (W6 b i)=i:=by unfold E8 W6;split<;>(try split)<;>omega
theorem Ot{b h:Nat}(q:h≠b):W6 b (E8 b h)=h:=by unfold E8 W6;split<;>(try split)<;>omega
theorem Zbn{b h m:Nat}(c:b<m+1)(a:h<m+1)(q:h≠b):E8 b h<m:=by unfold E8;split<;>omega
theorem Hs{n b:Nat}(c:n<=7)(a:b<n):(aD n).filter (λh=>!decide (h=b))=(aD (n-1)).map (W6 b):=by
 have:∀n,n<8->∀b,b<8->b<n->(aD n).filter (λh=>!decide (h=b))=(aD (n-1)).map (W6 b):=by decide
 exact this n (by omega) b (by omega) a
theorem Zbo{f:Nat->Int}{b:Nat}(a:f b=0):∀{m:Nat},b<m+1->sN (m+1) f=sN m (λi=>f (W6 b i))
 | 0,h=>by
  have:b=0:=by omega
  subst this;show 0+f 0=0;rw[a];rfl
 | m+1,h=>by
  by_cases q:b=m+1
  ·subst q;show sN (m+1) f+f (m+1)=_;rw[a,jV];exact Zi λi c=>by unfold W6;rw[p9 c]
  ·show sN (m+1) f+f (m+1)=sN m (λi=>f (W6 b i))+f (W6 b m);rw[Zbo a (m:=m) (by omega),show W6 b m=m+1 by unfold W6;rw[pW (by omega)]]
theorem Tv{f:Nat->Int}:∀{n:Nat},(∀i,i<n->0<=f i)->sN n f<=0->∀i,i<n->f i=0
 | 0,_,_,i,h=>by omega
 | n+1,h,s,i,a=>by
  have s:sN n f+f n<=0:=s
  have c:0<=sN n f:=by
   have:∀k,k<=n->0<=sN k f:=by
    intro k
    induction k with
    | zero=>intro _;exact dY 0
    | succ k ih=>intro d;have:=ih (by omega);have:=h k (by omega);show 0<=sN k f+f k;omega
   exact this n (aZ n)
  have b:=h n (by omega);by_cases q:i=n
  ·subst q;omega
  ·exact Tv (n:=n) (λi a=>h i (by omega)) (by omega) i (by omega)
theorem Ym{f:Nat->Int}:∀{n:Nat},(∀i,i<n->0<=f i)->0<=sN n f
 | 0,_=>dY 0
 | n+1,h=>by have:=Ym (n:=n) λi a=>h i (by omega);have:=h n (by omega);show 0<=sN n f+f n;omega
theorem Mp(Y:Nat->Int):∀{n:Nat},0<n->∃h,h<n/\∀g,g<n->Y h<=Y g
 | 0,h=>by omega
 | 1,_=>⟨0,by omega,λg a=>by rw[show g=0 by omega];exact dY _⟩
 | n+2,_=>by
  obtain⟨h,c,b⟩:=Mp Y (n:=n+1) (by omega);by_cases q:Y h<=Y (n+1)
  ·exact⟨h,by omega,λg a=>by
    by_cases e:g=n+1
    ·rw[e];exact q
    ·exact b g (by omega)⟩
  ·exact⟨n+1,by omega,λg a=>by
    by_cases e:g=n+1
    ·rw[e];exact dY _
    ·have:=b g (by omega);omega⟩
noncomputable def gN(W:List (List Int))(Y:Nat->Int)(h:Nat):Int:=sN W.length (λg=>ZM W h g*(Y g-Y h))
theorem Zfx{W:List (List Int)}(ok:Zt W)(u:V2 W){Y:Nat->Int}{b:Nat}(w:b<W.length)(j:∀h,h<W.length->h≠b->Y h<Y b->gN W Y h<=0):∀h,h<W.length->Y b<=Y h:=by
 intro h q;refine pA.mp λv=>?_;obtain⟨i,p,m⟩:=Mp Y (n:=W.length) (by omega);have o:Y i<Y b:=by have:=m h q;omega
 have step:∀a c,a<W.length->c<W.length->0<ZM W a c->Y a=Y i->Y c=Y i:=λa c d e k ea=>by
  have s:=j a d (λz=>by rw[z] at ea;omega) (by omega);have t:=Tv (f:=λg=>ZM W a g*(Y g-Y a)) (λg l=>dR (ok.lo a g d l) (by have:=m g l;omega)) s c e
  have:Y c-Y a=0:=by
   rcases Int.mul_eq_zero.mp t with z | z
   ·omega
   ·exact z
  omega
 have:=(u (λx=>Y x=Y i) (λa c d e k=>⟨step a c d e k,step c a e d (by rw[ok.sym c a e d];exact k)⟩) i b p w).mp rfl;omega
theorem Vy{W:List (List Int)}(Y Z:Nat->Int)(h:Nat):gN W (λx=>Y x+Z x) h=gN W Y h+gN W Z h:=by
 unfold gN;rw[<-ZS];exact Zi λg _=>by show ZM W h g*(Y g+Z g-(Y h+Z h))=_;rw[<-jB];congr 1;omega
theorem Wd{W:List (List Int)}(c:Int)(Y:Nat->Int)(h:Nat):gN W (λx=>c*Y x) h=c*gN W Y h:=by
 unfold gN;rw[<-ZJ];exact Zi λg _=>by show ZM W h g*(c*Y g-c*Y h)=_;rw[<-fC,gR]
theorem V5{W:List (List Int)}{Y Z:Nat->Int}{h:Nat}(b:h<W.length)(e:∀g,g<W.length->Y g=Z g):gN W Y h=gN W Z h:=Zi λg a=>by rw[e g a,e h b]
theorem Zfy(W:List (List Int))(S:List Int)(h:Nat):V1 W S h=gN W (Zl S) h:=by unfold V1 gN;rw[WG]
noncomputable def Q1(W:List (List Int))(b:Nat):Mt:=λi j=>if W6 b j=W6 b i then(ZA W (W6 b i)).sum else-ZM W (W6 b i) (W6 b j)
noncomputable def Vz(W:List (List Int))(b:Nat)(c:Nat->Int):Mt:=λi j=>if j<W.length-1 then Q1 W b i j else c (W6 b i)
theorem Zbp{W:List (List Int)}(ok:Zt W){b:Nat}(v:b<W.length){Y:Nat->Int}(o:Y b=0){k:Nat}(j:k<W.length-1):gN W Y (W6 b k) = - sN (W.length-1) (λi=>Q1 W b k i*Y (W6 b i)):=by
 have w:=ok.pos;obtain⟨m,d⟩:∃m,W.length=m+1:=⟨W.length-1,by omega⟩;have c:W.length-1=m:=by omega
 rw[c] at j ⊢;generalize e:W6 b k=h;have a:h<W.length:=by rw[d,<-e];exact UE j
 have t:sN m (λi=>Q1 W b k i*Y (W6 b i))=sN (m+1) (λg=>(if g=h then(ZA W h).sum else-ZM W h g)*Y g):=by
  rw[Zbo (b:=b) (f:=λg=>(if g=h then(ZA W h).sum else-ZM W h g)*Y g) (by rw[o,fD]) (by omega)];exact Zi λi _=>by unfold Q1;rw[e]
 have p:sN (m+1) (λg=>(if g=h then(ZA W h).sum else-ZM W h g)*Y g)=(-1)*sN (m+1) (λg=>ZM W h g*Y g)+(ZA W h).sum*Y h:=by
  have:sN (m+1) (λg=>if g=h then(ZA W h).sum*Y h else 0)=(ZA W h).sum*Y h:=by rw[Z3 (k:=h) (by omega) λi _ n=>pW n,p9 rfl]
  rw[<-this,<-ZJ,<-ZS];refine Zi λg u=>?_;by_cases q:g=h
  ·subst q;rw[p9 rfl,p9 rfl,ok.dia g a];omega
  ·rw[pW q,pW q,dJ,dJ,jr];omega
 have s:(ZA W h).sum=sN (m+1) (λg=>ZM W h g):=by rw[Ol ok a,WG,d]
 have l:gN W Y h=sN (m+1) (λg=>ZM W h g*Y g)+(- Y h)*sN (m+1) (λg=>ZM W h g):=by
  unfold gN;rw[d,<-ZJ,<-ZS];exact Zi λg _=>by rw[fC,cQ (- Y h),Int.mul_neg];omega
 rw[l,t,p,s,cQ (sN (m+1) λg=>ZM W h g) (Y h),dJ];omega
theorem Mq{W:List (List Int)}(ok:Zt W)(C:V2 W){b:Nat}(B:b<W.length)(c:Nat->Int):BOk (W.length-1) (Q1 W b) (Vz W b c):=by
 have H:=ok.pos;obtain⟨m,u⟩:∃m,W.length=m+1:=⟨W.length-1,by omega⟩;have a:W.length-1=m:=by omega
 have o:∀i j,i<m->j<m->Q1 W b i j=Q1 W b j i:=λi j t g=>by
  unfold Q1;by_cases q:W6 b j=W6 b i
  ·rw[p9 q,p9 q.symm,q]
  ·rw[pW q,pW (λz=>q z.symm),ok.sym _ _ (by rw[u];exact UE t) (by rw[u];exact UE g)]
 rw[a];refine⟨o,λp v z G k A=>?_,λi j t g=>by unfold Vz;rw[a,p9 g]⟩;obtain⟨Z,y⟩:∃Z:Nat->Int,∀h,Z h=if h=b then 0 else if E8 b h<p then z (E8 b h) else 0:=⟨_,λ_=>rfl⟩
 have l:Z b=0:=by rw[y,p9 rfl]
 have w:∀i,Z (W6 b i)=if i<p then z i else 0:=λi=>by rw[y,pW (Zbm b i),E9]
 have f:∀j,j<p->gN W Z (W6 b j)=0:=λj g=>by
  rw[Zbp ok B l (by omega),a]
  have e:sN m (λi=>Q1 W b j i*Z (W6 b i))=sN p (λk=>z k*Q1 W b k j):=by
   rw[QZ (q:=p) v λk D E=>by rw[w,pW (by omega),fD]];exact Zi λk A=>by rw[w,p9 A,o j k (by omega) (by omega),cQ]
  rw[e,G j g];rfl
 have off:∀h,h<W.length->Z h≠0->gN W Z h=0:=λh s ne=>by
  have n:h≠b:=λz=>ne (by rw[z];exact l);have t:E8 b h<p:=by refine Nat.not_le.mp λq=>ne ?_;rw[y,pW n,pW (by omega)]
  have:=f _ t;rw[Ot n] at this;exact this
 have up:=Zfx ok C (Y:=Z) B (λh s _ d=>by rw[off h s (by rw[l] at d;omega)];exact dY _)
 have F:=Zfx ok C (Y:=λx=>(-1)*Z x) B (λh s _ d=>by
  simp only[l] at d;rw[Wd,off h s (by omega)];decide)
 have D:=up (W6 b k) (by rw[u];exact UE (by omega));have E:=F (W6 b k) (by rw[u];exact UE (by omega));simp only[l,w,p9 A] at D E;omega
theorem Q2{W:List (List Int)}(ok:Zt W)(l:V2 W){b:Nat}(k:b<W.length)(c:Nat->Int) :
  ∃R:Nat->Int,R b=0/\(∀i,i<W.length-1->R (W6 b i)=(Wv (W.length-1) (Vz W b c) (W.length-1)).1 i (W.length-1))/\∀h,h<W.length->h≠b->gN W R h = - ((Wv (W.length-1) (Vz W b c) (W.length-1)).2*c h):=by
 have o:=ok.pos;have bk:=Mq ok l k c;obtain⟨R,d⟩:∃R:Nat->Int,∀h,R h=if h=b then 0 else(Wv (W.length-1) (Vz W b c) (W.length-1)).1 (E8 b h) (W.length-1):=⟨_,λ_=>rfl⟩
 have j:R b=0:=by rw[d,p9 rfl]
 have f:∀i,R (W6 b i)=(Wv (W.length-1) (Vz W b c) (W.length-1)).1 i (W.length-1):=λi=>by rw[d,pW (Zbm b i),E9]
 refine⟨R,j,λi _=>f i,λh n a=>?_⟩;have g:E8 b h<W.length-1:=Zbn (m:=W.length-1) (by omega) (by omega) a;have e:=Zbp ok k j g;rw[Ot a] at e;have s:=C3 bk g;have x:Vz W b c (E8 b h) (W.length-1)=c h:=by unfold Vz;rw[pW (by omega),Ot a]
 rw[x] at s;rw[e,<-s];congr 1;exact Zi λi _=>by rw[f]
theorem Zbq(l:List Int)(g:Int->Int):l.map g=(aD l.length).map λi=>g (Zl l i):=by refine WE (by simp) λi a=>?_;rw[aJ] at a;rw[ZF (by omega)];simp[Zl,aF,aE a]
theorem FJ{n:Nat}{c:List Nat}{d:XL}{e:XT}{b:XE}{s:ZG}{l:List Int}(g:Int->Int)(a:d s=ax (iL l))(i:l.length<=1000)(h:∀x∈l,∃s1,Xg (.one 0) (.int x) (ZH n c s)=ax s1/\e s1=ax aC/\b s1=ax (.int (g x))) :
  Zw n c d (.one 0) e b s=ax (.lst (iL (l.map g))):=by
 rw[ZL l (λ(x:Int)=>.int x) (λx=>.int (g x)) a (by omega) (λx f=>h x f)];simp
theorem Mr{l:List Int}(c:0<l.length)(a:l.length<=1000):T1 [pP l]=ax (pP (Y2 l)):=by
 have b:Zw 1 [1] (U2 (Za 0)) (.one 0) ZD (Zm Wi (Za 0) (Za 1)) [ax (pP l),ax (.int (XI l))]=ax (.lst (iL (Y2 l))):=by rw[show Y2 l=l.map λx=>x-XI l from(Zbq l λx=>x-XI l).symm];exact FJ (λx=>x-XI l) (RE rfl) a λx e=>⟨_,rfl,rfl,by simp[ZH]⟩
 have d:=EK XI (l:=l) (fK.mp c);simp[T1,EN,YF,ZP,d,b]
theorem C6{W:List (List Int)}{h m:Nat}{f:Nat->Nat}(ok:Zt W)(a:h<W.length)(d:m<=6)(c:∀i,i<m->f i<W.length) :
  Nr [wP W,.int (h:Int),.lst (iL (nL ((aD m).map f)))]=ax (pP (Xp m λj=>if f j=h then(ZA W h).sum else-ZM W h (f j))):=by
 refine XX (ret (HS (c1 (Jt (q:=λj=>.int ((f j:Nat):Int)) _ (by show ax (iL (nL ((aD m).map f)))=_;simp[nL]) (by omega) λj b=>⟨_,rfl,?_⟩) rfl)));by_cases q:f j=h
 ·rw[p9 q];exact Ml (xb ((C2 rfl rfl).trans (by rw[decide_eq_true (by omega)]))) (c2 rfl rfl (N5 a))
 ·rw[pW q];exact Mm (xb ((C2 rfl rfl).trans (by rw[decide_eq_false (by omega)]))) (un1 (o2 (o2 rfl rfl (TX a)) rfl (YD (by rw[ok.sq h a];exact c j b))) rfl)
theorem R1{W:List (List Int)}{b:Nat}(ok:Zt W)(l:b<W.length) :
  X4 [wP W,.int (b:Int)]=ax (wP (L5 (W.length-1) (W.length-1) (Q1 W b))):=by
 have p:=ok.pos;have j:=ok.few;obtain⟨m,k⟩:∃m,W.length=m+1:=⟨W.length-1,by omega⟩;have a:W.length-1=m:=by omega
 rw[a];have d:∀i,i<m->W6 b i<W.length:=λi c=>by rw[k];exact UE c
 have g:Zw 1 [1] (Yk [Ze ZN [Za 0]]) (.one 0) (xB (Zm (Xz aC) (Za 0) (Za 1))) (eP (Za 0)) [ax (wP W),ax (.int (b:Int)),aA]=ax (.lst (iL (nL ((aD m).map (W6 b))))):=by
  rw[XG (aD W.length) (λ(i:Nat)=>.int (i:Int)) (λ(i:Nat)=>.int (i:Int)) (λh=>!decide (h=b)) (Xd (n:=W.length) (by simp) (by omega)) (by simp;omega) λy o=>⟨[ax (.int (y:Int)),ax (.int (b:Int))],rfl,?_,λ_=>by simp⟩]
  ·rw[Hs j l,a];simp[nL]
  ·by_cases q:y=b
   ·simp[q]
   ·have e:¬(y:Int)=(b:Int):=by omega
    simp[q,e]
 exact XX (sq (Zp g) (ret (ep (c1 (Ju (w:=m) (Q1 W b) (q:=λi=>.int ((W6 b i:Nat):Int)) (by show ax (iL (nL ((aD m).map (W6 b))))=_;simp[nL]) (by omega) λi c=>⟨_,rfl,c3 rfl rfl rfl (C6 (f:=W6 b) ok (d i c) (by omega) d)⟩) rfl) (Ip _))))
theorem Zfz{l:List Int}{b h:Nat}{x:Int}(c:b<=l.length)(d:h<l.length+1):Zl (l.take b++x::l.drop b) h=if h=b then x else Zl l (E8 b h):=by
 unfold Zl E8;rw[aF,aF];by_cases q:h<b
 ·rw[pW (by omega),p9 q,aj (by rw[bG];omega),dA q]
 ·rw[bA (by rw[bG];omega),bG,eV c];by_cases a:h=b
  ·rw[p9 a,a,Nat.sub_self];rfl
  ·rw[pW a,pW q,show h-b=(h-b-1)+1 by omega,kX,fg,show b+(h-b-1)=h-1 by omega]
theorem Jw{f:Nat->Int}:∀{n:Nat},(∀i,i<n->0<=f i/\f i<=9)->0<=sN n f/\sN n f<=9*n
 | 0,_=>⟨dY _,by show(0:Int)<=_;omega⟩
 | n+1,h=>by
  obtain⟨a,b⟩:=Jw (n:=n) λi c=>h i (by omega);have:=h n (by omega);refine⟨?_,?_⟩
  ·show 0<=sN n f+f n;omega
  ·show sN n f+f n<=_;omega
theorem C7{W:List (List Int)}(ok:Zt W){b:Nat}{c:Nat->Int}{i j:Nat}(h:i<W.length-1)(e:j<W.length-1):(Vz W b c i j).natAbs<=2^7:=by
 have k:=ok.pos;have l:=ok.few;have d:W6 b i<W.length:=by have:=UE (b:=b) h;omega
 have g:W6 b j<W.length:=by have:=UE (b:=b) e;omega
 unfold Vz Q1;rw[p9 e];split
 ·rw[Ol ok d,WG];obtain⟨a,b⟩:=Jw (f:=λj=>ZM W (W6 b i) j) (n:=W.length) λj e=>⟨ok.lo _ j d e,ok.hi _ j d e⟩;omega
 ·have:=ok.lo _ _ d g;have:=ok.hi _ _ d g;omega
noncomputable def Ms(W:List (List Int))(D:List Int)(b:Nat):List Int:=
 (Xp (W.length-1) λi=>((Wv (W.length-1) (Vz W b (Zl D)) (W.length-1)).1 i (W.length-1)).fdiv (Wv (W.length-1) (Vz W b (Zl D)) (W.length-1)).2).take b++0::(Xp (W.length-1) λi=>((Wv (W.length-1) (Vz W b (Zl D)) (W.length-1)).1 i (W.length-1)).fdiv (Wv (W.length-1) (Vz W b (Zl D)) (W.length-1)).2).drop b
theorem Ht{W:List (List Int)}{D:List Int}{b:Nat}(a:b<W.length):(Ms W D b).length=W.length:=by unfold Ms;rw[aT,bG,az,bU,Xs];omega
theorem Hu{W:List (List Int)}{D:List Int}{b:Nat}(ok:Zt W)(e:V2 W)(hd:D.length=W.length)(c:b<W.length)(f:∀h,h<W.length->(Zl D h).natAbs<=2^208):X5 [wP W,pP D,.int (b:Int)]=ax (pP (Ms W D b)):=by
 have l:=ok.few
 have k:D.take b++D.drop (b+1)=Xp (W.length-1) λi=>Vz W b (Zl D) i (W.length-1):=by
  refine WE (by rw[aT,bG,bU,Xs];omega) λi a=>?_;have a:i<W.length-1:=by rw[aT,bG,bU] at a;omega
  rw[S4 a];unfold Vz W6 Zl;rw[pW (by omega),aF,aF];by_cases q:i<b
  ·rw[p9 q,aj (by rw[bG];omega),dA q]
  ·rw[pW q,bA (by rw[bG];omega),bG,eV (by omega),fg];congr 2;omega
 have d:=C5 (by omega) (Mq ok e c (Zl D)) (λi j a g=>C7 ok a g) (λi a=>by
  unfold Vz;rw[pW (by omega)];exact f _ (by have:=UE (b:=b) a;omega))
 rw[<-k] at d;exact XX (sq (Zp (HS (o2 (Zfp rfl rfl (by omega)) (Zfq rfl rfl (by omega)) (E2 (by rw[bG,bU];omega))))) (sq (Zp (c2 (c2 rfl rfl (R1 ok c)) rfl d)) (sq (Zbk (n:=b) rfl rfl rfl (by omega) (by rw[Xs];omega)) (ret (HS (c1 rfl rfl))))))
theorem FK{W:List (List Int)}{D:List Int}{b:Nat}(ok:Zt W)(k:V2 W)(hd:D.length=W.length)(f:b<W.length)(v:∀h,h<W.length->(Zl D h).natAbs<=2^208) :
  ∃(S0:List Int) (d:Int) (R:Nat->Int),X5 [wP W,pP D,.int (b:Int)]=ax (pP S0)/\S0.length=W.length/\0<d/\R b=0/\Zl S0 b=0/\(∀h,h<W.length->d*Zl S0 h<=R h/\R h<d*Zl S0 h+d)/\∀h,h<W.length->h≠b->gN W R h = - (d*Zl D h):=by
 have w:=ok.few;obtain⟨R,o,u,p⟩:=Q2 ok k f (Zl D);have t:=(Xx (Mq ok k f (Zl D)) (aZ _)).nz;have run:=Hu ok k hd f v;have len:=Ht (W:=W) (D:=D) f
 have a:∀h,h<W.length->Zl (Ms W D b) h=if h=b then 0 else(R h).fdiv (Wv (W.length-1) (Vz W b (Zl D)) (W.length-1)).2:=λh c=>by
  unfold Ms;rw[Zfz (by rw[Xs];omega) (by rw[Xs];omega)];by_cases q:h=b
  ·rw[p9 q,p9 q]
  ·have i:=Zbn (m:=W.length-1) (by omega) (by omega) q;rw[pW q,pW q,S4 i,<-u _ i,Ot q]
 generalize (Wv (W.length-1) (Vz W b (Zl D)) (W.length-1)).2=d at *;generalize Ms W D b=l at *;have j:Zl l b=0:=by rw[a b f,p9 rfl]
 have a:∀h,h<W.length->Zl l h=(R h).fdiv d:=λh c=>by
  rw[a h c];split
  ·rename_i q;rw[q,o];simp
  ·rfl
 rcases ja t with s | pos
 ·refine⟨_,- d,λh=>- R h,run,len,by omega,by show-R b=0;rw[o];rfl,j,λh c=>?_,λh c n=>?_⟩
  ·have e:(R h).fdiv d=(- R h)/(- d):=by rw[<-Int.neg_fdiv_neg,gS _ (by omega)]
   rw[a h c,e];exact⟨mL (by omega),kK (by omega)⟩
  ·have:=Wd (W:=W) (-1) R h;rw[p h c n] at this;rw[V5 (Z:=λx=>(-1)*R x) c (λg _=>by show-R g=(-1)*R g;omega),this,dJ d];omega
 ·refine⟨_,d,R,run,len,pos,o,j,λh c=>?_,p⟩;rw[a h c,gS _ (by omega)];exact⟨mL (by omega),kK pos⟩
theorem Zbr{c:XT}{fb:XS}(g:Nat->ZG->Prop)(step:∀k st,g k st->c st=ax aB\/(c st=ax aC/\∃s2 k',fb st=ax (.nx s2)/\k'<k/\g k' s2)){k:Nat}{s:ZG}(p:g k s) :
  ∃f k',XC c fb s=ax (.nx f)/\g k' f/\c f=ax aB:=by
 have l:∀(n k:Nat)(st:ZG),k<n->g k st->∃f k',YT c fb n st=ax (.nx f)/\g k' f/\c f=ax aB:=by
  intro n
  induction n with
  | zero=>intro k st h;omega
  | succ n ih=>
   intro k st q m;rcases step k st m with i | ⟨i,s2,k',e,t,j⟩
   ·exact⟨st,k,by unfold YT;rw[i];rfl,m,i⟩
   ·obtain⟨f,o,a,b,d⟩:=ih k' s2 (by omega) j;refine⟨f,o,?_,b,d⟩;unfold YT;rw[i];simp only[e];exact a
 obtain⟨f,k',a,b,d⟩:=l (k+1) k s (by omega) p;exact⟨f,k',Lx a,b,d⟩
noncomputable def XM(n:Nat)(L:List Nat):List Int:=(aD n).map λh=>if h∈L then -1 else 0
theorem Jx{W:List (List Int)}{L:List Nat}(c:W.length<=7):YB [wP W,.lst (iL (nL L))]=ax (pP (XM W.length L)):=by
 have a:Zw 1 [1] (Yk [Ze ZN [Za 0]]) (.one 0) ZD (OP (xB (Zm (PF aB) (Za 0) (Za 1))) (Pz Ie (eC (.int 1))) (eC (.int 0))) [ax (wP W),ax (.lst (iL (nL L)))]=ax (.lst (iL (XM W.length L))):=by
  rw[Se (λh=>if h∈L then -1 else 0) (Xd (n:=W.length) (by simp) (by omega)) (by omega) λi b=>⟨[ax (.int (i:Int)),ax (.lst (iL (nL L)))],rfl,rfl,?_⟩]
  ·rfl
  ·have g:=RZ i L;have t:xB (Zm (PF aB) (Za 0) (Za 1)) [ax (.int (i:Int)),ax (.lst (iL (nL L)))]=ax (decide (i∈L)):=by rw[U7];show(PF aB (.int (i:Int)) (.lst (iL (nL L)))).bind blO=_;rw[g];rfl
   rw[Rz,t];by_cases q:i∈L
   ·rw[p9 q,decide_eq_true q];rfl
   ·rw[pW q,decide_eq_false q];rfl
 show YF 2 Ta _=_;unfold Ta;show(ZQ _ [ax (wP W),ax (.lst (iL (nL L)))]).bind U5=_;have:Ze Z1 [Zw 1 [1] (Yk [Ze ZN [Za 0]]) (.one 0) ZD (OP (xB (Zm (PF aB) (Za 0) (Za 1))) (Pz Ie (eC (.int 1))) (eC (.int 0)))] [ax (wP W),ax (.lst (iL (nL L)))]=ax (pP (XM W.length L)):=by simp only[Yl,Zy,Od,a,aQ,bz,RA]
 rw[M3 (v:=pP (XM W.length L)) (by rw[U6,this];simp)];rfl
theorem Jy{n:Nat}{L:List Nat}{h:Nat}(a:h<n):Zl (XM n L) h=if h∈L then -1 else 0:=ZF a
theorem W7{W:List (List Int)}{D S:List Int}{h:Nat}(a:h<D.length):Zl (ZT W D S) h=Zl D h+gN W (Zl S) h:=by rw[RU a,Zfy]
structure Hv(W:List (List Int))(b:Nat)(n0:Nat->Int)(B:Nat->Int):Prop where
 pos:∀h,h<W.length->0<=B h
 base:B b=0
 free:∀h,h<W.length->h≠b->0<=n0 h-gN W B h
theorem Zf0{W:List (List Int)}(ok:Zt W)(j:V2 W){b:Nat}(l:b<W.length)(n0:Nat->Int):∃B,Hv W b n0 B:=by
 obtain⟨z,o,_,g⟩:=Q2 ok j l (λ_=>1);have m:=(Xx (Mq ok j l (λ_=>1)) (aZ _)).nz;generalize (Wv (W.length-1) (Vz W b λ_=>1) (W.length-1)).2=d at g m
 obtain⟨y,s,p⟩:∃y:Nat->Int,y b=0/\∀h,h<W.length->h≠b->gN W y h<=-1:=by
  rcases ja m with w | pos
  ·exact⟨λx=>(-1)*z x,by show(-1)*z b=0;rw[o];rfl,λh c a=>by rw[Wd,g h c a];omega⟩
  ·exact⟨z,o,λh c a=>by rw[g h c a];omega⟩
 have u:=Zfx ok j (Y:=y) l (λh c a _=>by have:=p h c a;omega);rw[s] at u;obtain⟨K,v⟩:∃K:Int,K=sN W.length (λh=>((n0 h).natAbs:Int)):=⟨_,rfl⟩;have t:0<=K:=by rw[v];exact Ym λi _=>by omega
 have k:∀h,h<W.length->- n0 h<=K:=λh c=>by
  have:∀n,h<n->- n0 h<=sN n (λh=>((n0 h).natAbs:Int)):=by
   intro n
   induction n with
   | zero=>intro q;omega
   | succ n ih=>
    intro q;show _<=sN n (λh=>((n0 h).natAbs:Int))+((n0 n).natAbs:Int);by_cases e:h=n
    ·subst e;have:=Ym (f:=λh=>((n0 h).natAbs:Int)) (n:=h) λi _=>by omega
     omega
    ·have:=ih (by omega);omega
  rw[v];exact this _ c
 refine⟨λx=>K*y x,λh c=>dR t (u h c),by show K*y b=0;rw[s,fD],λh c a=>?_⟩;rw[Wd];have A:=p h c a;have D:K*gN W y h<=K*(-1):=fV A t;have C:=k h c;omega
theorem C8{W:List (List Int)}(ok:Zt W){b:Nat}{n0 B a:Nat->Int}(f:Hv W b n0 a)(le:∀h,h<W.length->B h<=a h){h:Nat}(c:h<W.length)(d:h≠b)(j:n0 h-gN W B h<0):B h<a h:=by
 refine Int.lt_iff_le_and_ne.mpr ⟨le h c,λe=>?_⟩;have m:=f.free h c d
 have l:gN W B h<=gN W a h:=by
  have:0<=sN W.length (λg=>ZM W h g*(a g-a h)+(-1)*(ZM W h g*(B g-B h))):=Ym λg i=>by
   have k:ZM W h g*(a g-a h)+(-1)*(ZM W h g*(B g-B h))=ZM W h g*(a g-B g):=by rw[e,dJ,jr,<-Int.sub_eq_add_neg,<-fC];congr 1;omega
   rw[k];exact dR (ok.lo h g c i) (by have:=le g i;omega)
  rw[ZS,ZJ] at this;unfold gN;omega
 omega
structure Settled(W:List (List Int))(b:Nat)(N:List Int)(F:List Nat):Prop where
 free:∀h,h<W.length->h≠b->0<=Zl N h
 burn:Burn W N b F
 stop:YX W N F=aA
 all:∀h,h<W.length->h∈F
theorem Zbs{W:List (List Int)}{N:List Int}(ok:Zt W)(L:V2 W){b:Nat}(hb:b<W.length){n0 B R:Nat->Int}{d:Int}(O:0<d)(U:R b=0)(J:∀h,h<W.length->0<=R h/\R h<d)(X:∀h,h<W.length->h≠b->gN W R h = - (d*n0 h))
  (Q:∀h,h<W.length->Zl N h=n0 h-gN W B h) (f:Hv W b n0 B) (j:∀B',Hv W b n0 B'->∀h,h<W.length->B h<=B' h) {F:List Nat} (v:Burn W N b F) (st:YX W N F=aA):∀h,h<W.length->h∈F:=by
 intro x E;refine cA λu=>?_;have I:b∈F:=av v.hd;obtain⟨T,m⟩:∃T:Nat->Int,∀h,T h=if h∈F then 0 else 1:=⟨_,λ_=>rfl⟩
 have H:T b=0:=by rw[m,p9 I]
 have D:∀h,0<=T h/\T h<=1:=λh=>by rw[m];split<;>omega
 -- what the houses outside lend to those that burn
 have C:∀h,h<W.length->h∉F->gN W T h = - Z6 W h F:=λh c w=>by
  have e1:gN W T h=(-1)*sN W.length (λg=>if g∈F then ZM W h g else 0):=by
   unfold gN;rw[<-ZJ];refine Zi λg y=>?_;rw[m,m,pW w];split
   ·rw[Int.zero_sub,Int.mul_neg,oH];omega
   ·simp
  have e2:sN W.length (λg=>if g∈F then ZM W h g else 0)=Z6 W h F:=by
   have G:∀l:List Nat,l.Nodup->(∀x∈l,x<W.length)->sN W.length (λg=>if g∈l then ZM W h g else 0)=(l.map λo=>ZM W h o).sum:=by
    intro l
    induction l with
    | nil=>intro _ _;rw[YH λi _=>by simp];rfl
    | cons a r ih=>
     intro A lt;rw[aq] at A;rw[af,bR,<-ih A.2 λx E=>lt x (aN _ E)];have:ZM W h a=sN W.length (λg=>if g=a then ZM W h a else 0):=by rw[Z3 (k:=a) (lt a ag) λi _ S=>pW S,p9 rfl]
     rw[this,<-ZS];refine Zi λg y=>?_;by_cases q:g=a
     ·subst q;rw[p9 ag,p9 rfl,pW A.1];omega
     ·by_cases s:g∈r
      ·rw[p9 (aN _ s),pW q,p9 s];omega
      ·rw[pW (λz=>(aa.mp z).elim q s),pW q,pW s];rfl
   exact G F v.nd v.lt
  rw[e1,e2];omega
 have p:∀h,h<W.length->h∈F->0<=gN W T h:=λh c w=>Ym λg y=>by rw[show T h=0 by rw[m,p9 w]];exact dR (ok.lo h g c y) (by have:=(D g).1;omega)
 have sub:∀h,gN W (λx=>B x+(-1)*T x) h=gN W B h-gN W T h:=λh=>by rw[Vy,Wd];omega
 have free:∀h,h<W.length->h≠b->0<=n0 h-gN W (λx=>B x+(-1)*T x) h:=λh c e=>by
  rw[sub];by_cases q:h∈F
  ·have:=p h c q;have:=f.free h c e;omega
  ·have t:=C h c q;have Z:=Mh st c q;rw[Q h c] at Z;omega
 have f2:Hv W b n0 (λx=>B x+(-1)*T x):=by
  refine⟨λh c=>?_,by show B b+(-1)*T b=0;rw[f.base,H];rfl,free⟩
  have up:=Zfx ok L (Y:=λx=>R x+d*(B x+(-1)*T x)) hb (λh c e _=>by
   rw[Vy R (λx=>d*(B x+(-1)*T x)),Wd,X h c e];have:=free h c e;have P:0<=d*(n0 h-gN W (λx=>B x+(-1)*T x) h):=dR (by omega) this;rw[fC] at P;omega) h c
  have up:R b+d*(B b+(-1)*T b)<=R h+d*(B h+(-1)*T h):=up;rw[U,f.base,H] at up;have:=(J h c).2;refine pA.mp λn=>?_;have M:B h+(-1)*T h<=-1:=by have n:B h+(-1)*T h<0:=n;omega
  have h5:d*(B h+(-1)*T h)<=d*(-1):=fV M (by omega);omega
 have t:=j _ f2 x E;have t:B x<=B x+(-1)*T x:=t;rw[show T x=1 by rw[m,pW u]] at t;omega
theorem C9{W:List (List Int)}{D:List Int}{b:Nat}(ok:Zt W)(T:V2 W)(hd:D.length=W.length)(P:b<W.length)(hD:∀h,h<W.length->(Zl D h).natAbs<=2^208) :
  ∃(S N:List Int) (F:List Nat),Tc [wP W,pP D,.int (b:Int)]=ax (.tup [pP (Y2 S),pP N,.lst (iL (nL F))])/\S.length=W.length/\N=ZT W D S/\Settled W b N F:=by
 have hp:=ok.pos;have hf:=ok.few;obtain⟨a,d,R,en,l0,d0,Rb,S0b,Rs,Rg⟩:=FK ok T hd P hD;obtain⟨n0,G⟩:∃n0:Nat->Int,∀h,n0 h=Zl D h+gN W (Zl a) h:=⟨_,λ_=>rfl⟩;obtain⟨y,fs⟩:=Zf0 ok T P n0;have A:∀S:List Int,(ZT W D S).length=W.length:=λS=>by rw[Z9,hd]
 let st:List Int->Option PV->ZG:=λS n=>[ax (wP W),ax (pP D),ax (.int (b:Int)),ax (pP S),ax (pP (ZT W D S)),ax (.lst (iL (nL (Xl (ZT W D S) b)))),n];have u:∀(S:List Int)(B:Nat->Int),(∀h,h<W.length->Zl S h=Zl a h-B h)->∀h,h<W.length->Zl (ZT W D S) h=n0 h-gN W B h:=λS B e h j=>by rw[W7 (by omega),G,V5 (Z:=λx=>Zl a x+(-1)*B x) j (λg Q=>by rw[e g Q];omega),Vy,Wd];omega
 let J:Nat->ZG->Prop:=λk s=>∃(S:List Int) (B:Nat->Int) (n:Option PV),s=st S n/\S.length=W.length/\(∀h,h<W.length->Zl S h=Zl a h-B h)/\(∀h,h<W.length->0<=B h)/\B b=0/\(∀t,Hv W b n0 t->∀h,h<W.length->B h<=t h)/\k=(sN W.length (λh=>y h-B h)).toNat;have j0:J (sN W.length (λh=>y h-0)).toNat (st a aA):=⟨a,λ_=>0,aA,rfl,l0,λh _=>by(show Zl a h=Zl a h-0);omega,λh _=>dY 0,rfl,λt f h j=>f.pos h j,rfl⟩
 obtain⟨s',k',w1,⟨S,B,n,rfl,lS,O,B0,Bb,I,_⟩,w3⟩:=Zbr (c:=xB (Zm El (Ze ZN [Za 5]) (eC (.int 0)))) (fb:=(Zn (Zs 6 (Ze YB [Za 0,Za 5]))
  (Zn (Zs 3 (Ze Vt [Za 3,Za 6]))
  (Zn (Zs 4 (Ze VP [Za 0,Za 4,Za 6]))
  (Zs 5 (Ze YZ [Za 4,Za 2])))))) J (by
   rintro k s ⟨S,B,n,rfl,lS,O,B0,Bb,I,rfl⟩;have M:xB (Zm El (Ze ZN [Za 5]) (eC (.int 0))) (st S n)=ax (decide ((0:Int)<((Xl (ZT W D S) b).length:Int))):=by show ax (decide ((0:Int)<((iL (nL (Xl (ZT W D S) b))).length:Int)))=_;simp[nL]
   by_cases q:Xl (ZT W D S) b=[]
   ·left;rw[M,q];rfl
   ·right;have ql:0<(Xl (ZT W D S) b).length:=fK.mpr q;refine⟨by rw[M,decide_eq_true (by omega)],?_⟩;generalize hL:Xl (ZT W D S) b=L at *;have p:∀h,h∈L↔h<W.length/\h≠b/\Zl (ZT W D S) h<0:=λh=>by rw[<-hL,Zbi,A]
    let m:=PY S (XM W.length L);have lb:(XM W.length L).length=W.length:=by simp[XM]
    have lS':m.length=W.length:=by rw[V4];exact lS
    have X:Zs 6 (Ze YB [Za 0,Za 5]) [ax (wP W),ax (pP D),ax (.int (b:Int)),ax (pP S),ax (pP (ZT W D S)),ax (.lst (iL (nL L))),n]=ax (.nx [ax (wP W),ax (pP D),ax (.int (b:Int)),ax (pP S),ax (pP (ZT W D S)),ax (.lst (iL (nL L))),ax (pP (XM W.length L))]):=by have:Ze YB [Za 0,Za 5] [ax (wP W),ax (pP D),ax (.int (b:Int)),ax (pP S),ax (pP (ZT W D S)),ax (.lst (iL (nL L))),n]=ax (pP (XM W.length L)):=Jx hf;rw[Yf,this];rfl
    have Y:Zs 3 (Ze Vt [Za 3,Za 6]) [ax (wP W),ax (pP D),ax (.int (b:Int)),ax (pP S),ax (pP (ZT W D S)),ax (.lst (iL (nL L))),ax (pP (XM W.length L))]=ax (.nx [ax (wP W),ax (pP D),ax (.int (b:Int)),ax (pP m),ax (pP (ZT W D S)),ax (.lst (iL (nL L))),ax (pP (XM W.length L))]):=by have:Ze Vt [Za 3,Za 6] [ax (wP W),ax (pP D),ax (.int (b:Int)),ax (pP S),ax (pP (ZT W D S)),ax (.lst (iL (nL L))),ax (pP (XM W.length L))]=ax (pP m):=Jl (by omega) (by omega);rw[Yf,this];rfl
    have rr:ZT W (ZT W D S) (XM W.length L)=ZT W D m:=Zfg hd λi hi=>RT (by omega)
    have U:Zs 4 (Ze VP [Za 0,Za 4,Za 6]) [ax (wP W),ax (pP D),ax (.int (b:Int)),ax (pP m),ax (pP (ZT W D S)),ax (.lst (iL (nL L))),ax (pP (XM W.length L))]=ax (.nx [ax (wP W),ax (pP D),ax (.int (b:Int)),ax (pP m),ax (pP (ZT W D m)),ax (.lst (iL (nL L))),ax (pP (XM W.length L))]):=by
     have:Ze VP [Za 0,Za 4,Za 6] [ax (wP W),ax (pP D),ax (.int (b:Int)),ax (pP m),ax (pP (ZT W D S)),ax (.lst (iL (nL L))),ax (pP (XM W.length L))]=ax (pP (ZT W D m)):=by rw[<-rr];exact Jm ok (A S) lb
     rw[Yf,this];rfl
    have e4:Zs 5 (Ze YZ [Za 4,Za 2]) [ax (wP W),ax (pP D),ax (.int (b:Int)),ax (pP m),ax (pP (ZT W D m)),ax (.lst (iL (nL L))),ax (pP (XM W.length L))]=ax (.nx (st m (ax (pP (XM W.length L))))):=by have:Ze YZ [Za 4,Za 2] [ax (wP W),ax (pP D),ax (.int (b:Int)),ax (pP m),ax (pP (ZT W D m)),ax (.lst (iL (nL L))),ax (pP (XM W.length L))]=ax (.lst (iL (nL (Xl (ZT W D m) b)))):=S3 (by rw[A];omega);rw[Yf,this];rfl
    obtain⟨t,o⟩:∃t:Nat->Int,∀h,t h=B h+(if h∈L then 1 else 0):=⟨_,λ_=>rfl⟩
    have less:∀C,Hv W b n0 C->∀h,h<W.length->t h<=C h:=λC fc h j=>by
     rw[o];by_cases z:h∈L
     ·rw[p9 z];obtain⟨_,z2,z3⟩:=(p h).mp z;rw[u S B O h j] at z3;have:=C8 ok fc (λg Q=>I C fc g Q) j z2 z3;omega
     ·rw[pW z];have:=I C fc h j;omega
    refine⟨st m (ax (pP (XM W.length L))),(sN W.length (λh=>y h-t h)).toNat,?_,?_,m,t,_,rfl,lS',λh j=>?_,λh j=>?_,?_,less,rfl⟩
    ·show Zn _ _ [ax (wP W),ax (pP D),ax (.int (b:Int)),ax (pP S),ax (pP (ZT W D S)),ax (.lst (iL (nL (Xl (ZT W D S) b)))),n]=_;rw[hL,W4 X,W4 Y,W4 U,e4]
    ·have p1:0<=sN W.length (λh=>y h-t h):=Ym λh j=>by have:=less y fs h j;omega
     have p2:sN W.length (λh=>y h-B h)=sN W.length (λh=>y h-t h)+sN W.length (λh=>if h∈L then 1 else 0):=by
      rw[<-ZS];exact Zi λh _=>by rw[o];omega
     have p3:0<sN W.length (λh=>if h∈L then(1:Int) else 0):=by refine Int.not_le.mp λz=>?_;obtain⟨x,hx⟩:=List.exists_mem_of_length_pos ql;have:=Tv (f:=λh=>if h∈L then(1:Int) else 0) (λi _=>by split<;>omega) z x ((p x).mp hx).1;rw[p9 hx] at this;omega
     omega
    ·rw[RT (by omega),Jy j,O h j,o];split<;>omega
    ·have:=B0 h j;rw[o];split<;>omega
    ·rw[o,pW (λz=>((p b).mp z).2.1 rfl),Bb];rfl) j0
 have E:Xl (ZT W D S) b=[]:=by
  refine cA λq=>?_;have ql:0<(Xl (ZT W D S) b).length:=fK.mpr q;have M:xB (Zm El (Ze ZN [Za 5]) (eC (.int 0))) (st S n)=ax (decide ((0:Int)<((Xl (ZT W D S) b).length:Int))):=by show ax (decide ((0:Int)<((iL (nL (Xl (ZT W D S) b))).length:Int)))=_;simp[nL]
  rw[M,decide_eq_true (by omega)] at w3;cases w3
 have free:=debt_nil.mp E;rw[A] at free;have nr:=u S B O;have fB:Hv W b n0 B:=⟨B0,Bb,λh j w=>by rw[<-nr h j];exact free h j w⟩;obtain⟨F,eF,Bu,H⟩:=Mi (D:=ZT W D S) ok (A S) P
 -- what the rounding left
 have all:=Zbs (N:=ZT W D S) ok T P (n0:=n0) (B:=B) (R:=λh=>R h+(- d)*Zl a h) d0 (by show R b+(- d)*Zl a b=0;rw[Rb,S0b,fD];rfl)
  (λh j=>by
   have:=Rs h j;show 0<=R h+(- d)*Zl a h/\R h+(- d)*Zl a h<d;rw[dJ];omega)
  (λh j w=>by rw[Vy R (λx=>(- d)*Zl a x),Wd,Rg h j w,G,jB,dJ];omega) nr fB I Bu H
 refine⟨S,ZT W D S,F,?_,lS,rfl,free,Bu,H,all⟩;have X:Zs 3 (Ze X5 [Za 0,Za 1,Za 2]) [ax (wP W),ax (pP D),ax (.int (b:Int)),aA,aA,aA,aA]=ax (.nx [ax (wP W),ax (pP D),ax (.int (b:Int)),ax (pP a),aA,aA,aA]):=by have:Ze X5 [Za 0,Za 1,Za 2] [ax (wP W),ax (pP D),ax (.int (b:Int)),aA,aA,aA,aA]=ax (pP a):=en;rw[Yf,this];rfl
 have Y:Zs 4 (Ze VP [Za 0,Za 1,Za 3]) [ax (wP W),ax (pP D),ax (.int (b:Int)),ax (pP a),aA,aA,aA]=ax (.nx [ax (wP W),ax (pP D),ax (.int (b:Int)),ax (pP a),ax (pP (ZT W D a)),aA,aA]):=by have:Ze VP [Za 0,Za 1,Za 3] [ax (wP W),ax (pP D),ax (.int (b:Int)),ax (pP a),aA,aA,aA]=ax (pP (ZT W D a)):=Jm ok hd l0;rw[Yf,this];rfl
 have U:Zs 5 (Ze YZ [Za 4,Za 2]) [ax (wP W),ax (pP D),ax (.int (b:Int)),ax (pP a),ax (pP (ZT W D a)),aA,aA]=ax (.nx (st a aA)):=by have:Ze YZ [Za 4,Za 2] [ax (wP W),ax (pP D),ax (.int (b:Int)),ax (pP a),ax (pP (ZT W D a)),aA,aA]=ax (.lst (iL (nL (Xl (ZT W D a) b)))):=S3 (by rw[A];omega);rw[Yf,this];rfl
 show YF 7 Nt _=_;unfold Nt;show(Zn _ _ [ax (wP W),ax (pP D),ax (.int (b:Int)),aA,aA,aA,aA]).bind U5=_;rw[W4 X,W4 Y,W4 U,W4 w1];have g1:Ze T1 [Za 3] (st S n)=ax (pP (Y2 S)):=Mr (by omega) (by omega);have g2:eP (Za 4) (st S n)=ax (pP (ZT W D S)):=by show(ax (pP (ZT W D S))).bind (λl=>if ZO l=aC then ax l else aA)=_;simp
 have g3:Ze Vk [Za 0,Za 4,Za 2] (st S n)=ax (.lst (iL (nL F))):=eF;rw[M3 (v:=.tup [pP (Y2 S),pP (ZT W D S),.lst (iL (nL F))]) (by rw[Rw,Zy,Zy,Zy,g1,g2,g3];rfl)];rfl
theorem gIx_p{n:Nat}{l:List Int}(h:l.length=n):∀k:Nat,k<n->ZR (pP l) (.int (k:Int))=ax (.int (Zl l k)):=λk a=>YD (by omega)
theorem Zhh{n:Nat}{l:List Int}(h:l.length=n):∀k:Nat,k<n->ZR (.lst (iL l)) (.int (k:Int))=ax (.int (Zl l k)):=λk a=>YD (by omega)
theorem Zf1(Y:Nat->Int){n:Nat}(h:0<n):∃h,h<n/\∀g,g<n->Y g<=Y h:=by obtain⟨x,c,b⟩:=Mp (λi=>- Y i) h;exact⟨x,c,λg a=>by have:=b g a;have : - Y x<=- Y g:=this;omega⟩
theorem Dc{W:List (List Int)}(ok:Zt W){h:Nat}(m:h<W.length){P:Nat->Prop}[DecidablePred P]:∀{l:List Nat},l.Nodup->(∀x∈l,x<W.length/\¬P x)->Z6 W h l<=sN W.length (λg=>if P g then 0 else ZM W h g):=by
 intro l b j
 have e:∀l:List Nat,l.Nodup->(∀x∈l,x<W.length)->sN W.length (λg=>if g∈l then ZM W h g else 0)=(l.map λo=>ZM W h o).sum:=by
  intro l
  induction l with
  | nil=>intro _ _;rw[YH λi _=>by simp];rfl
  | cons a r ih=>
   intro b lt;rw[aq] at b;rw[af,bR,<-ih b.2 λx d=>lt x (aN _ d)];have:ZM W h a=sN W.length (λg=>if g=a then ZM W h a else 0):=by rw[Z3 (k:=a) (lt a ag) λi _ n=>pW n,p9 rfl]
   rw[this,<-ZS];refine Zi λg f=>?_;by_cases q:g=a
   ·subst q;rw[p9 ag,p9 rfl,pW b.1];omega
   ·by_cases c:g∈r
    ·rw[p9 (aN _ c),pW q,p9 c];omega
    ·rw[pW (λz=>(aa.mp z).elim q c),pW q,pW c];rfl
 unfold Z6;rw[<-e l b λx d=>(j x d).1]
 have:0<=sN W.length (λg=>(if P g then 0 else ZM W h g)+(-1)*(if g∈l then ZM W h g else 0)):=Ym λg f=>by
  have:=ok.lo h g m f;by_cases q:g∈l
  ·rw[p9 q,pW (j g q).2];omega
  ·rw[pW q];split<;>omega
 rw[ZS,ZJ] at this;omega
theorem Dd{W:List (List Int)}{N M:List Int}{b:Nat}{F:List Nat}(ok:Zt W)(S:b<W.length){T:Nat->Int}(B:Burn W N b F)(all:∀h,h<W.length->h∈F)(A:∀h,h<W.length->Zl M h=Zl N h+gN W T h)(fr:∀h,h<W.length->h≠b->0<=Zl M h):∀h,h<W.length->T h<=T b:=by
 intro x L;refine pA.mp λJ=>?_;obtain⟨m,H,v⟩:=Zf1 T (n:=W.length) (by omega);have C:T b<T m:=by have:=v x L;omega
 -- the first of the greatest that burns
 have I:∀k:Nat,(∃j,j<k/\∃h,F[j]?=ax h/\T h=T m)\/∀j,j<k->∀h,F[j]?=ax h->T h≠T m:=by
  intro k;by_cases q:∃j,j<k/\∃h,F[j]?=ax h/\T h=T m
  ·exact .inl q
  ·exact .inr λj a h c e=>q ⟨j,a,h,c,e⟩
 have first:∀k:Nat,(∃h,F[k]?=ax h/\T h=T m)->∃k h:Nat,F[k]?=ax h/\T h=T m/\∀j,j<k->∀h,F[j]?=ax h->T h≠T m:=by
  intro k
  induction k using lM with
  | ind k ih=>
   rintro⟨h,e,t⟩;rcases I k with⟨j,a,q⟩ | q
   ·exact ih j a q
   ·exact⟨k,h,e,t,q⟩
 obtain⟨O,l,w⟩:=bp (all m H);obtain⟨k,h,i,u,d⟩:=first O ⟨m,by rw[aE l,w],rfl⟩
 have D:1<=k:=by
  refine Nat.not_lt.mp λq=>?_;have:k=0:=by omega
  subst this;rw[B.hd] at i;cases i;omega
 have E:=(aR.mp i).1;have c:h<W.length:=B.lt h (av i);have st:=B.st k D E;rw[i] at st;obtain⟨_,_,lt⟩:=UD st;have o:h≠b:=λz=>by rw[z] at u;omega
 have G:(F.take k).Nodup:=B.nd.sublist (e7 _ _);have Q:=Dc (h:=h) ok c (P:=λg=>T g=T m) G λy s=>by refine⟨B.lt y (cW s),λz=>?_⟩;obtain⟨j,a,e⟩:=bp s;rw[bG] at a;exact d j (by omega) y (by rw[<-dA (show j<k by omega),aE (by rw[bG];exact a),e]) z
 have R:gN W T h<=- sN W.length (λg=>if T g=T m then 0 else ZM W h g):=by
  have:0<=sN W.length (λg=>(-1)*(if T g=T m then 0 else ZM W h g)+(-1)*(ZM W h g*(T g-T h))):=Ym λg p=>by
   have lo:=ok.lo h g c p;have mg:=v g p;rw[u];by_cases q:T g=T m
   ·rw[p9 q,q];simp
   ·rw[pW q];have:0<=ZM W h g*(T m-T g-1):=dR lo (by omega);have e:ZM W h g*(T m-T g-1)=(-1)*ZM W h g+(-1)*(ZM W h g*(T g-T m)):=by rw[fC,fC,oH,fC];omega
    omega
  rw[ZS,ZJ,ZJ] at this;unfold gN;omega
 have f:=fr h c o;rw[A h c] at f;omega
theorem Hw{W:List (List Int)}{N M:List Int}{b:Nat}{F G:List Nat}(ok:Zt W)(c:b<W.length){T:Nat->Int}(s1:Settled W b N F)(s2:Settled W b M G)(e:∀h,h<W.length->Zl M h=Zl N h+gN W T h):∀h,h<W.length->T h=T b:=by intro h d;have g:=Dd ok c s1.burn s1.all e s2.free h d;have a:=Dd (T:=λx=>(-1)*T x) ok c s2.burn s2.all (λx f=>by rw[e x f,Wd];omega) s1.free h d;have a:(-1)*T h<=(-1)*T b:=a;omega
theorem R3{W:List (List Int)}{T:Nat->Int}{c:Int}(e:∀h,h<W.length->T h=c){h:Nat}(b:h<W.length):gN W T h=0:=YH λg a=>by rw[e g a,e h b];simp
theorem Ba{W:List (List Int)}{D S N:List Int}{b:Nat}{F:List Nat}(ok:Zt W)(t:V2 W)(hd:D.length=W.length)(p:b<W.length)(z:∀h,h<W.length->(Zl D h).natAbs<=2^208)
  (B:S.length=W.length) (m:N=ZT W D S) (st:Settled W b N F):Tc [wP W,pP D,.int (b:Int)]=ax (.tup [pP (Y2 S),pP N,.lst (iL (nL F))]):=by
 have C:=ok.pos;obtain⟨d,k,s,e,A,f,a⟩:=C9 ok t hd p z;have E:N.length=W.length:=by rw[m,Z9,hd]
 have v:k.length=W.length:=by rw[f,Z9,hd]
 have g:∀h,h<W.length->Zl N h=Zl k h+gN W (λx=>Zl S x+(-1)*Zl d x) h:=λh l=>by rw[m,f,W7 (by omega),W7 (by omega),Vy (Zl S) (λx=>(-1)*Zl d x),Wd];omega
 have j:=Hw ok p a st g;obtain⟨c,q⟩:∃c,c=Zl S b+(-1)*Zl d b:=⟨_,rfl⟩;have j:∀h,h<W.length->Zl S h+(-1)*Zl d h=c:=λh l=>by rw[q];exact j h l
 have o:N=k:=WE (by omega) λi y=>by rw[g i (by omega),R3 (c:=c) j (by omega)];omega
 have u:Y2 S=Y2 d:=Hd c (by omega) (by omega) λi y=>by have:=j i (by omega);omega
 have w:F=s:=by have b1:=st.burn;have n:=st.stop;rw[o] at b1 n;exact Burn.uniq b1 a.burn n a.stop
 rw[e,u,o,w]
theorem FL{f:Nat->Int}{M:Nat}:∀{n:Nat},(∀i,i<n->(f i).natAbs<=M)->(sN n f).natAbs<=n*M
 | 0,_=>by show(0:Int).natAbs<=_;simp
 | n+1,h=>by have b:=FL (n:=n) λi c=>h i (by omega);have a:=h n (by omega);show(sN n f+f n).natAbs<=_;rw[Nat.add_mul,Nat.one_mul];omega
theorem Hx{W:List (List Int)}{N:List Int}{b:Nat}{F:List Nat}(ok:Zt W)(st:Settled W b N F){h:Nat}(a:h<W.length)(j:h≠b):0<=Zl N h/\Zl N h<=63:=by
 have p:=ok.few;refine⟨st.free h a j,?_⟩;obtain⟨k,i,e⟩:=bp (st.all h a);have c:F[k]?=ax h:=by rw[aE i,e]
 have m:1<=k:=by
  refine Nat.not_lt.mp λq=>?_;have:k=0:=by omega
  subst this;rw[st.burn.hd] at c;cases c;exact j rfl
 have s:=st.burn.st k m i;rw[c] at s;obtain⟨_,_,lt⟩:=UD s;have u:=Dc (h:=h) ok a (P:=λ_=>False) (l:=F.take k) (st.burn.nd.sublist (e7 _ _)) λy o=>⟨st.burn.lt y (cW o),λz=>z⟩;have t:=Jw (f:=λg=>if False then 0 else ZM W h g) (n:=W.length) λg d=>by rw[pW (λz=>z)];exact⟨ok.lo h g a d,ok.hi h g a d⟩
 omega
theorem Tw(l:List Int):l.sum=sN l.length (Zl l):=by rw[<-WG,Ko]
theorem Mu{b:Type}{p q:b->Bool}:∀{l:List b},(∀x∈l,p x=q x)->l.find? p=l.find? q
 | [],_=>rfl
 | a::r,h=>by rw[c9,c9,h a ag,Mu (l:=r) λx c=>h x (aN _ c)]
theorem Sj{f:Nat->Int}:∀{n:Nat},(∀i,i<n->0<=f i)->∀{k:Nat},k<n->f k<=sN n f
 | 0,_,k,h=>by omega
 | n+1,z,k,h=>by
  show f k<=sN n f+f n;have b:=z n (by omega);by_cases q:k=n
  ·subst q;have:=Ym (n:=k) λi a=>z i (by omega);omega
  ·have:=Sj (n:=n) (λi a=>z i (by omega)) (k:=k) (by omega);omega
noncomputable def kI(N:List Int):List Y8:=N.map nJ
theorem FN(N:List Int):MT (pP N)=ax (kI N):=by
 show LA (iL N)=_
 induction N with
 | nil=>rfl
 | cons x r ih=>
  show(MS (.int x)).bind (λk=>(LA (iL r)).map (k::·))=_;rw[ih];rfl
theorem FO{N M:List Int}(h:kI N=kI M):N=M:=by
 have:∀{N M:List Int},kI N=kI M->N=M:=by
  intro N
  induction N with
  | nil=>intro M h;cases M with
   | nil=>rfl
   | cons y s=>simp[kI] at h
  | cons x r ih=>intro M h;cases M with
   | nil=>simp[kI] at h
   | cons y s=>
    simp[kI] at h;obtain⟨b,a⟩:=h;rw[b,ih (by unfold kI;exact(by simpa using a))]
 exact this h
noncomputable def Zbt(n h:Nat):List Int:=(aD n).map λg=>if g=h then 1 else 0
theorem Bc{W:List (List Int)}{h:Nat}(d:W.length<=7):Nv [wP W,.int (h:Int)]=ax (pP (Zbt W.length h)):=by
 have b:Zw 1 [1] (Yk [Ze ZN [Za 0]]) (.one 0) ZD (OP (xB (Zm (Xz aB) (Za 0) (Za 1))) (eC (.int 1)) (eC (.int 0))) [ax (wP W),ax (.int (h:Int))]=ax (.lst (iL (Zbt W.length h))):=
  Se (λg=>if g=h then 1 else 0) (Xd (by simp) (by omega)) (by omega) λg c=>⟨[ax (.int (g:Int)),ax (.int (h:Int))],rfl,rfl,by
   by_cases q:g=h
   ·subst q;simp
   ·have a:¬(g:Int)=(h:Int):=by omega
    simp[q,a]⟩
 show(ZQ _ [ax (wP W),ax (.int (h:Int))]).bind U5=_;rw[M3 (by rw[U6,Yl,Zy,b];exact Zn9)];rfl
theorem R4{ns:List Int}(h:ns.length<=63)(k:Nat):Vu [.cst (iL ns),.int (k:Int)]=ax (.int (Zl ns k)):=by
 have c:xB (Zm MO (Za 1) (Ze ZN [Za 0])) [ax (.cst (iL ns)),ax (.int (k:Int))]=ax (decide (k<ns.length)):=by
  show ax (decide ((k:Int)<((iL ns).length:Int)))=_;congr 1;rw[aJ];by_cases q:k<ns.length
  ·rw[decide_eq_true q,decide_eq_true (by omega)]
  ·rw[decide_eq_false q,decide_eq_false (by omega)]
 have v:OP (xB (Zm MO (Za 1) (Ze ZN [Za 0]))) (Zm ZR (Za 0) (Za 1)) (eC (.int 0)) [ax (.cst (iL ns)),ax (.int (k:Int))]=ax (.int (Zl ns k)):=by
  rw[Rz,c];by_cases q:k<ns.length
  ·rw[decide_eq_true q];exact YD q
  ·rw[decide_eq_false q];have:Zl ns k=0:=by unfold Zl;rw[aF,bw (by omega)];rfl
   rw[this];rfl
 show(ZQ _ [ax (.cst (iL ns)),ax (.int (k:Int))]).bind U5=_;rw[M3 (vP v)];rfl
theorem Xy(c:Int){t m:Nat}(n:t<=1000)(q:0<m):∃v:Nat,v<m/\Xj [.int c,.int (t:Int),.int (m:Int)]=ax (.int (v:Int)):=by
 have b:(0:Int)<(m:Int):=by omega
 have d:∀x:Int,∃v:Nat,v<m/\x%(m:Int)=(v:Int):=λx=>by have p:=oR x (show(m:Int)≠0 by omega);have o:=nF x b;exact⟨(x%(m:Int)).toNat,by omega,by omega⟩
 generalize e:(c%999983+(t:Int))*((t:Int)+389)%999983=x1;have b1:0<=x1/\x1<2000000:=by omega
 generalize g:(x1*x1+c/999983+(t:Int))%999979=x2;obtain⟨v,i,j⟩:=d (x2/3);refine⟨v,i,?_⟩;have f:CMul (c%999983+(t:Int)) ((t:Int)+389):=.inl (by omega);have h:CMul x1 x1:=.inl (by omega)
 have l:Zs 3 (eP (Zm Vd (Zm Px (Zm YJ (Zm Vd (Za 0) (eC (.int 999983))) (Za 1)) (Zm YJ (Za 1) (eC (.int 389)))) (eC (.int 999983)))) [ax (.int c),ax (.int (t:Int)),ax (.int (m:Int)),aA]=ax (.nx [ax (.int c),ax (.int (t:Int)),ax (.int (m:Int)),ax (.int x1)]):=by
  rw[Yf,vP (a:=x1) (by
   rw[<-e];exact vC (vC (vI (vC rfl rfl (by decide)) rfl) (vI rfl rfl) f) rfl (by decide))]
  rfl
 have k:Zs 3 (eP (Zm Vd (Zm YJ (Zm YJ (Zm Px (Za 3) (Za 3)) (Zm SD (Za 0) (eC (.int 999983)))) (Za 1)) (eC (.int 999979)))) [ax (.int c),ax (.int (t:Int)),ax (.int (m:Int)),ax (.int x1)]=ax (.nx [ax (.int c),ax (.int (t:Int)),ax (.int (m:Int)),ax (.int x2)]):=by
  rw[Yf,vP (a:=x2) (by
   rw[<-g];exact vC (vI (vI (vC rfl rfl h) (vC rfl rfl ⟨by decide,by decide⟩)) rfl) rfl (by decide))]
  rfl
 show(Zn _ _ [ax (.int c),ax (.int (t:Int)),ax (.int (m:Int)),aA]).bind U5=_
 rw[W4 l,W4 k,M3 (v:=.int (v:Int)) (vP (by
  rw[<-j];exact vC (vC rfl rfl ⟨by decide,by decide⟩) rfl b))]
 rfl
theorem Ph{a:Type}(l:List a)(f:a->Int):iL (l.map f)=l.map λg=>.int (f g):=bZ
noncomputable def Mv(n:Nat)(M:List (List Int)):Int:=sN n (λi=>sN n (λj=>ZM M i j))
structure Tied(n:Nat)(M:List (List Int))(t:Nat):Prop where
 mat:MatOk n M
 few:∀i j,i<n->j<n->ZM M i j<=(t:Int)
 sum:Mv n M=2*(t:Int)
noncomputable def upM(M:List (List Int))(a b:Nat):List (List Int):=C0 M a b (ZM M a b+1)
theorem Zbu{n:Nat}{M:List (List Int)}{a b:Nat}(ok:MatOk n M)(f:a<n)(e:b<n)(ne:a≠b)(i j:Nat):ZM (upM M a b) i j=ZM M i j+((if i=a then(if j=b then 1 else 0) else 0)+(if i=b then(if j=a then 1 else 0) else 0)):=by
 unfold upM;rw[Oq ok f e];by_cases c:b=i/\a=j
 ·obtain⟨rfl,rfl⟩:=c;rw[ok.sym a b f e];omega
 ·rw[pW c];by_cases d:a=i/\b=j
  ·obtain⟨rfl,rfl⟩:=d;rw[pW ne];omega
  ·rw[pW d]
   have h:(if i=a then(if j=b then(1:Int) else 0) else 0)=0:=by
    by_cases z:i=a
    ·rw[p9 z,pW (λy=>d ⟨z.symm,y.symm⟩)]
    ·rw[pW z]
   have g:(if i=b then(if j=a then(1:Int) else 0) else 0)=0:=by
    by_cases z:i=b
    ·rw[p9 z,pW (λy=>c ⟨z.symm,y.symm⟩)]
    ·rw[pW z]
   rw[h,g];omega
theorem De{n a b:Nat}(f:a<n)(c:b<n):sN n (λi=>sN n (λj=>if i=a then(if j=b then(1:Int) else 0) else 0))=1:=by rw[Z3 f λi _ d=>YH λj _=>pW d];rw[Z3 c λj _ e=>by rw[p9 rfl,pW e],p9 rfl,p9 rfl]
theorem Tied.up{n t:Nat}{M:List (List Int)}{a b:Nat}(h:Tied n M t)(o:t<=8)(c:a<n)(d:b<n)(ne:a≠b):Tied n (upM M a b) (t+1):=by
 have f:=h.few a b c d;have lo:=h.mat.lo a b c d;refine⟨Zjp h.mat c d ne (by omega) (by omega),λi j m l=>?_,?_⟩
 ·rw[Zbu h.mat c d ne];have g:=h.few i j m l;by_cases k:i=a
  ·have:=λz=>ne (k.symm.trans z);split<;>omega
  ·rw[pW k];by_cases e:i=b
   ·rw[p9 e];split<;>omega
   ·rw[pW e];omega
 ·unfold Mv
  have:sN n (λi=>sN n (λj=>ZM (upM M a b) i j))=sN n (λi=>sN n (λj=>ZM M i j)+(sN n (λj=>if i=a then(if j=b then(1:Int) else 0) else 0)+sN n (λj=>if i=b then(if j=a then(1:Int) else 0) else 0))):=
   Zi λi _=>by rw[<-ZS,<-ZS];exact Zi λj _=>Zbu h.mat c d ne i j
  rw[this,ZS,ZS,De c d,De d c];have:=h.sum;unfold Mv at this;omega
theorem Tied.zero(n:Nat):Tied n (aS n (aS n 0)) 0:=by
 have z:∀i j,i<n->j<n->ZM (aS n (aS n (0:Int))) i j=0:=λi j b c=>by
  have a:=(MatOk.zero n).lo i j b c;have:ZA (aS n (aS n (0:Int))) i=aS n 0:=by unfold ZA;rw[aF,b7,p9 b];rfl
  unfold ZM;rw[this];unfold Zl;rw[aF,b7,p9 c];rfl
 refine⟨MatOk.zero n,λi j b c=>by rw[z i j b c];omega,?_⟩;unfold Mv;exact YH λi b=>YH λj c=>z i j b c
theorem Tied.grow{n t:Nat}{M:List (List Int)}{a b:Nat}(h:Tied n M t)(d:a<n)(c:b<n):(∀i j,0<ZM M i j->0<ZM (upM M a b) i j)/\0<ZM (upM M a b) a b:=by have lo:=h.mat.lo a b d c;exact Zfo h.mat d c (by omega)
theorem Hy{i:Nat}{e fb f:XE}{s:ZG}{n:Nat}{M:List (List Int)}{a b:Nat}(ok:MatOk n M)(d:a<n)(g:b<n)(j:MI s i=ax (rL M))(t:Int)(l:e s=ax (.int (a:Int)))(h:fb s=ax (.int (b:Int)))(k:f s=ax (.int t)) :
  WC i e fb f s=ax (.nx (s.set i (ax (.lst (rL (Qf M a b t)))))):=by
 have c:(rL M).length=n:=by unfold rL;rw[aJ];exact ok.len
 rw[Nd k l h j (RF (by rw[c];exact d)) (Fu (by rw[ok.len];exact d)) (ZY _) rfl (RF (by rw[aJ,ok.row a d];exact g)),Za5]
theorem L6{i:Nat}{h fb f:XE}{s:ZG}{n:Nat}{M:List (List Int)}{a b:Nat}{u:Int}(ok:MatOk n M)(g:a<n)(e:b<n)(j:MI s i=ax (rL (Qf M a b u)))(t:Int)(m:h s=ax (.int (b:Int)))(k:fb s=ax (.int (a:Int)))(l:f s=ax (.int t)) :
  WC i h fb f s=ax (.nx (s.set i (ax (.lst (rL (Qf (Qf M a b u) b a t)))))):=by
 have d:=WR (t:=u) (b:=b) ok.len ok.row g;have c:(rL (Qf M a b u)).length=n:=by unfold rL;rw[aJ];exact d.1
 rw[Nd l m k j (RF (by rw[c];exact e)) (Fu (by rw[d.1];exact e)) (ZY _) rfl (RF (by rw[aJ,d.2 b e];exact g)),Za5]
theorem Jz{s:ZG}{d c fb:XE}{n:Nat}{M:List (List Int)}{a b:Nat}(f:M.length=n)(p:∀i,i<n->(ZA M i).length=n)(e:a<n)(g:b<n)(m:d s=ax (.lst (rL M)))(o:c s=ax (.int (a:Int)))(j:fb s=ax (.int (b:Int))):Zm ZR (Zm ZR d c) fb s=ax (.int (ZM M a b)):=by
 have h:=TJ (Fu (by rw[f];exact e));have l:=YD (by rw[p a e];exact g);have k:Zm ZR d c s=ax (.lst (iL (ZA M a))):=by rw[XD,m,o];exact h
 rw[XD,k,j];exact l
theorem Dg{M:List (List Int)}{n k:Nat}{s:ZG}(c:M.length<=7)(h:s[k]?=ax (ax (.lst (rL M)))):eP (Ze Z1 [Zw 1 [] (YL (Za k)) (.one 0) ZD (Ze Z1 [Za 0])]) s=ax (wP M):=by
 have a:Za k s=ax (.lst (rL M)):=by show s[k]?.bind id=_;rw[h];rfl
 have b:Zw 1 [] (YL (Za k)) (.one 0) ZD (Ze Z1 [Za 0]) s=ax (.lst (tL M)):=by refine ZL M (λr=>.lst (iL r)) pP (by unfold YL;rw[a];rfl) (by omega) (λr _=>⟨[ax (.lst (iL r))],rfl,rfl,rfl⟩)
 rw[U6,Yl,Zy,b];show(if ZO (wP M)=aC then ax (wP M) else aA)=_;rw[p9 (by simp)]
structure SzOk(Z:List Int)(mo:Nat):Prop where
 ne:0<Z.length
 le:Z.length<=100
 m8:mo<=8
 rg:∀v,v<Z.length->1<=Zl Z v/\Zl Z v<=5/\Zl Z v<=(mo:Int)+1
variable {Z:List Int} {mo:Nat}
theorem SzOk.at(z:SzOk Z mo){v:Nat}(h:v<Z.length):∃n:Nat,1<=n/\n<=5/\n<=mo+1/\ZR (.lst (iL Z)) (.int (v:Int))=ax (.int (n:Int)):=by have:=z.rg v h;exact⟨(Zl Z v).toNat,by omega,by omega,by omega,(YD h).trans (by rw[g9 (by omega)])⟩
theorem Zbv{l:List Int}:ZN [.lst (iL l)]=ax (.int (l.length:Int)):=by show ax (PV.int ((iL l).length:Int))=_;rw[aJ]
theorem XN(x:Int){m:Nat}(h:0<m):∃v:Nat,v<m/\x%(m:Int)=(v:Int):=by have b:=oR x (show(m:Int)≠0 by omega);have a:=nF x (show(0:Int)<(m:Int) by omega);exact⟨(x%(m:Int)).toNat,by omega,by omega⟩
theorem vmn{f g:XE}{s:ZG}{x:Int}{m v:Nat}(e:x%(m:Int)=(v:Int))(h:0<m)(q:f s=ax (.int x))(a:g s=ax (.int (m:Int))):Zm Vd f g s=ax (.int (v:Int)):=by rw[<-e];exact vmd q a
theorem vsc{f:XE}{s:ZG}{i:Nat}(q:f s=ax (.int (i:Int))):Zm YJ f (eC (.int 1)) s=ax (.int ((i+1:Nat):Int)):=FD (b:=1) q rfl
theorem Dh{a b c n:Nat}(g:a<n)(f:b<n-1)(e:((a:Int)+1+(b:Int))%(n:Int)=(c:Int)):a≠c:=λz=>by
 subst z;have d:(a+1+b)%n=a:=by rw[show((a:Int)+1+(b:Int))=((a+1+b:Nat):Int) by omega,<-Int.natCast_emod] at e;omega
 by_cases w:a+1+b<n
 ·rw[du w] at d;omega
 ·rw[nH (by omega),du (by omega)] at d;omega
noncomputable def Zjv(n:Nat)(p:Nat×Nat):Prop:=p.1<n/\p.2<n/\p.1≠p.2
noncomputable def JA(p:Nat×Nat):PV:=.tup [.int (p.1:Int),.int (p.2:Int)]
theorem Zhj{f g:XE}{s:ZG}{a b:Nat}(q:f s=ax (.int (a:Int)))(c:g s=ax (.int (b:Int))):eP (Wy [f,g]) s=ax (JA (a,b)):=ep (by rw[Rw,Zy,q,Zy,c];rfl)
theorem Hz(z:SzOk Z mo)(x:Int):∃(W:List (List Int)) (t:Nat),Us [.int x,.lst (iL Z),.int (mo:Int)]=ax (wP W)/\Zt W/\V2 W/\W.length<=5/\Mv W.length W=2*(t:Int)/\t<=mo:=by
 have m8:=z.m8;have zl:=z.le;have zn:=z.ne
 suffices h:Y9 Ur (ZP 12 [.int x,.lst (iL Z),.int (mo:Int)]) λv=>∃(W:List (List Int)) (t:Nat),v=wP W/\Zt W/\V2 W/\W.length<=5/\Mv W.length W=2*(t:Int)/\t<=mo by obtain⟨v,e,W,t,rfl,r⟩:=Pf h;exact⟨W,t,e,r⟩
 obtain⟨v,hv,ev⟩:=XN x zn;obtain⟨n,n1,n5,nm,en⟩:=z.at hv;let st:Int->List Int->List (Nat×Nat)->Option PV->Option PV->Option PV->ZG:=λx o d x6 x7 x8=>[ax (.int x),ax (.lst (iL Z)),ax (.int (mo:Int)),ax (.int (n:Int)),ax (.lst (iL o)),ax (.lst (d.map JA)),x6,x7,x8,aA,aA,aA];refine ZU (Zp (vP (o2 rfl (vmn ev zn rfl (c1 rfl Zbv)) en))) (ZU (Zp (vP (vdv rfl (c1 rfl Zbv)))) (ZU rfl (ZU rfl ?_)));refine Wu (Mk (n:=n) (λi s=>∃y o u,s=st y o [] u aA aA/\NamesOk i o) rfl ⟨_,[],aA,rfl,NamesOk.nil⟩ ?_) ?_
 ·rintro i s hi ⟨y,o,u,rfl,G⟩;obtain⟨r,hr,P⟩:=XN y (m:=i+1) (by omega);exact Z4 (Zbk (n:=r) (vmn P (by omega) rfl (vsc rfl)) rfl rfl (by omega) (by rw[G.len];omega)) (R0 (Zp (vP (vdv rfl (FD rfl rfl)))) ⟨_,_,_,rfl,G.ins r⟩)
 rintro s ⟨y1,o,u,rfl,G⟩;let Pre:List (Nat×Nat)->Prop:=λd=>∀j p,d[j]?=ax p->p.1=j+1/\p.2<j+1;refine Wu (Zbj (m:=1) (n:=n) (λi s=>∃y d u,s=st y o d u aA aA/\d.length+1=i/\Pre d) rfl rfl ⟨y1,[],u,rfl,rfl,λj p h=>by simp at h⟩ ?_) ?_
 ·rintro i s E hi ⟨y,d,u,rfl,lp,F⟩;obtain⟨r,hr,P⟩:=XN y (m:=i) (by omega);refine Z4 (Jr JA (y:=(i,r)) (Zhj rfl (vmn P (by omega) rfl rfl)) rfl (by omega)) (R0 (Zp (vP (vdv rfl rfl))) ⟨_,d++[(i,r)],_,rfl,by simp;omega,λj p h=>?_⟩);by_cases z:j<d.length
  ·rw[aj z] at h;exact F j p h
  ·have:j=d.length:=by have:=(aR.mp h).1;simp at this;omega
   subst this;simp at h;subst h;exact⟨lp.symm,by omega⟩
 rintro s ⟨y2,d,w6,rfl,lp,F⟩;obtain⟨r,hr,P⟩:=XN y2 (m:=mo+2-n) (by omega);have c7:(mo:Int)-(n:Int)+2=((mo+2-n:Nat):Int):=by omega
 obtain⟨I,hmo,m1,em⟩:∃I:Nat,I+n<=mo+1/\(1<=I->2<=n)/\Zm Px (Ze OV [Zm El (Za 3) (eC (.int 1))]) (Zm Vd (Za 0) (Zm YJ (Zm Wi (Za 2) (Za 3)) (eC (.int 2)))) (st y2 o d w6 aA aA)=ax (.int (I:Int)):=by
  have g:Ze OV [Zm El (Za 3) (eC (.int 1))] (st y2 o d w6 aA aA)=ax (.int (if 1<n then 1 else 0)):=c1 (vgt (b:=1) rfl rfl) (by
   by_cases q:1<n
   ·rw[decide_eq_true q,p9 q];rfl
   ·rw[decide_eq_false q,pW q];rfl)
  refine⟨if 1<n then r else 0,by split<;>omega,λh=>by revert h;split<;>omega,(vC (C:=CMul) (op:=(· * ·)) g (vmn P (by omega) rfl (by rw[<-c7];exact FD (Bz rfl rfl) rfl)) (.inl (by split<;>omega))).trans ?_⟩;split<;>simp
 refine ZU (Zp (vP em)) (ZU (Zp (vP (vdv rfl (FD (Bz rfl rfl) rfl)))) ?_);let Q:List (Nat×Nat)->Prop:=λk=>(∀j,j<n-1->k[j]?=d[j]?)/\∀p∈k,Zjv n p
 have R:Q d:=⟨λj _=>rfl,λp L=>by
  obtain⟨j,U,e⟩:=bp L;have:=F j p (by rw[aE U,e]);exact⟨by omega,by omega,by omega⟩⟩
 refine Wu (Mk (n:=I) (λi s=>∃y k u J,s=st y o k u (ax (.int (I:Int))) J/\k.length=n-1+i/\Q k) rfl ⟨_,d,w6,aA,rfl,by omega,R⟩ ?_) ?_
 ·rintro i s hi ⟨y,k,u,J,rfl,lq,all⟩;have n2:=m1 (by omega);obtain⟨a,H,ea⟩:=XN y (m:=n) (by omega);obtain⟨b,N,S⟩:=XN (y/(n:Int)) (m:=n-1) (by omega);obtain⟨c,hc,ec⟩:=XN ((a:Int)+1+(b:Int)) (m:=n) (by omega);have cn:(n:Int)-1=((n-1:Nat):Int):=by omega
  refine Z4 (Zp (vP (vmn ea (by omega) rfl rfl))) (Z4 (Zp (vP (vdv rfl rfl))) (Z4 (Jr JA (y:=(a,c)) (Zhj rfl (vmn ec (by omega) (FD (FD rfl rfl) (vmn S (by omega) rfl (by rw[<-cn];exact Bz rfl rfl))) rfl)) rfl (by omega)) (R0 (Zp (vP (vdv rfl (Bz rfl rfl)))) ⟨_,k++[(a,c)],_,_,rfl,by simp;omega,λj U=>?_,λp L=>?_⟩)))
  ·rw[aj (by omega)];exact all.1 j U
  ·rcases aV.mp L with h | h
   ·exact all.2 p h
   ·rw[aM.mp h];exact⟨H,hc,Dh H N ec⟩
 rintro s ⟨y3,k,v6,v8,rfl,lq,all⟩;let Y:List (List Int)->Option PV->Option PV->Option PV->ZG:=λM J B A=>[ax (.int y3),ax (.lst (iL Z)),ax (.int (mo:Int)),ax (.int (n:Int)),ax (.lst (iL o)),ax (.lst (k.map JA)),v6,ax (.int (I:Int)),J,ax (.lst (rL M)),B,A];refine ZU (Zp (L0 (n:=n) rfl (by omega))) (Wu (Tu (ls:=k.map JA) (λi s=>∃M J B A,s=Y M J B A/\Tied n M i/\Grown M o (min (i+1) n)) rfl ⟨_,v8,aA,aA,rfl,Tied.zero n,λj E O=>by omega⟩ ?_) ?_)
 ·rintro i l s hl ⟨M,J,B,A,rfl,f,T⟩;obtain⟨⟨D,p2⟩,L,rfl⟩:∃p,k[i]?=ax p/\JA p=l:=by simpa using hl
  have hi:i<k.length:=(aR.mp L).1;obtain⟨E,O,h3⟩:D<n/\p2<n/\D≠p2:=all.2 _ (av L);have na:=G.at (x:=D) E;have nb:=G.at (x:=p2) O;have nn:=G.ne (x:=D) (y:=p2) E O h3;obtain⟨a,ea⟩:∃a:Nat,Zl o D=(a:Int):=⟨(Zl o D).toNat,by omega⟩;obtain⟨b,S⟩:∃b:Nat,Zl o p2=(b:Int):=⟨(Zl o p2).toNat,by omega⟩;have H:a<n:=by omega
  have N:b<n:=by omega
  have ia:R9 (iL o) (D:Int)=ax (.int (a:Int)):=by rw[YD (by rw[G.len];exact E),ea]
  have ib:R9 (iL o) (p2:Int)=ax (.int (b:Int)):=by rw[YD (by rw[G.len];exact O),S]
  obtain⟨X,gr2⟩:=f.grow H N;refine⟨_,rfl,Z4 (Zp (vP (FD (Jz f.mat.len f.mat.row H N rfl (o2 rfl rfl ia) (o2 rfl rfl ib)) rfl))) (Z4 (Hy f.mat H N rfl _ (o2 rfl rfl ia) (o2 rfl rfl ib) rfl) (R0 (L6 f.mat H N rfl _ (o2 rfl rfl ib) (o2 rfl rfl ia) rfl) ⟨upM M a b,_,_,_,rfl,f.up (by omega) H N (by omega),λj E O=>?_⟩))⟩;by_cases w:j<min (i+1) n
  ·exact(T.mono X) j E w
  ·have pp:=F i (D,p2) (by rw[<-all.1 i (by omega)];exact L);refine⟨p2,by omega,?_⟩;rw[show j=D by have:=pp.1;simp at this;omega,ea,S];exact gr2
 rintro s ⟨M,t8,t10,t11,rfl,f,T⟩;rw[aJ,lq] at f T;exact Vx (Dg (n:=n) (by rw[f.mat.len];omega) rfl) ⟨M,n-1+I,rfl,f.mat.web (by omega) (by omega),Grown.conn (n:=n) (λj E O=>T j E (by omega)) f.mat.len G,by rw[f.mat.len];exact n5,by rw[f.mat.len];exact f.sum,by omega⟩
end PW
namespace PW
open L2 VL
variable {Z:List Int} {mo:Nat}
theorem HA{t:Nat}{W:List (List Int)}(ok:Zt W)(c:Mv W.length W=2*(t:Int)):(Z8 W).length=t:=by
 have b:=Hb ok;have a:sN W.length (λi=>(ZA W i).sum)=Mv W.length W:=Zi λi d=>by rw[Ol ok d,WG]
 rw[WG,a,c] at b;omega
theorem Zf3(l:List PV){k:Nat}(h:k<=l.length):WA l aA (ax (k:Int))=l.take k:=by unfold WA;rw[HT.sIx_nat,HT.sIx_none,eV h,oz,Nat.sub_zero]
theorem Di(l:List PV){k:Nat}(h:k<=l.length):WA l (ax (k:Int)) aA=l.drop k:=by unfold WA;rw[HT.sIx_nat,HT.sIx_none,eV h,bY (by rw[bU];omega)]
noncomputable def P4{α:Type}(k:Nat)(l:List α):List α:=l.drop k++l.take k
theorem JB{a:Type}{k:Nat}{l:List a}(h:k<=l.length):(P4 k l).length=l.length:=by unfold P4;rw[aT,bU,bG];omega
theorem JC{a:Type}{k i:Nat}{l:List a}(h:k<=l.length)(b:i<l.length):(P4 k l)[i]?=l[(i+k)%l.length]?:=by
 unfold P4;by_cases q:i<l.length-k
 ·rw[aj (by rw[bU];exact q),fg,du (by omega),Nat.add_comm]
 ·rw[bA (by rw[bU];omega),bU,nH (by omega),du (by omega),dA (by omega)];congr 1;omega
noncomputable def P5(k:Nat)(M:List (List Int)):List (List Int):=(P4 k M).map (P4 k)
theorem W8{n k:Nat}{M:List (List Int)}(ok:MatOk n M)(f:k<n){i j:Nat}(d:i<n)(e:j<n):ZM (P5 k M) i j=ZM M ((i+k)%n) ((j+k)%n):=by
 have b:(i+k)%n<n:=gW _ (by omega);have c:ZA (P5 k M) i=P4 k (ZA M ((i+k)%n)):=by unfold ZA P5;rw[aF,aX,JC (by rw[ok.len];omega) (by rw[ok.len];exact d),ok.len,aE (by rw[ok.len];exact b),aF,aE (by rw[ok.len];exact b)];rfl
 have a:=ok.row _ b;unfold ZM;rw[c];unfold Zl;rw[aF,aF,JC (by rw[a];omega) (by rw[a];exact e),a]
theorem Dj{n k:Nat}{M:List (List Int)}(ok:MatOk n M)(d:k<n):MatOk n (P5 k M):=by
 have b:∀i,(i+k)%n<n:=λi=>gW _ (by omega);refine⟨by unfold P5;rw[aJ,JB (by rw[ok.len];omega),ok.len],λi a=>?_,λi j a c=>?_,λi j a c=>?_,λi j a c=>?_,λi a=>?_⟩
 ·have:ZA (P5 k M) i=P4 k (ZA M ((i+k)%n)):=by unfold ZA P5;rw[aF,aX,JC (by rw[ok.len];omega) (by rw[ok.len];exact a),ok.len,aE (by rw[ok.len];exact b i),aF,aE (by rw[ok.len];exact b i)];rfl
  rw[this,JB (by rw[ok.row _ (b i)];omega),ok.row _ (b i)]
 ·rw[W8 ok d a c];exact ok.lo _ _ (b i) (b j)
 ·rw[W8 ok d a c];exact ok.hi _ _ (b i) (b j)
 ·rw[W8 ok d a c,W8 ok d c a];exact ok.sym _ _ (b i) (b j)
 ·rw[W8 ok d a a];exact ok.dia _ (b i)
theorem HB{n k:Nat}(a:n<=5)(b:k<n)(f:Nat->Int):sN n (λi=>f ((i+k)%n))=sN n f:=by
 have:n=1\/n=2\/n=3\/n=4\/n=5:=by omega
 have:k=0\/k=1\/k=2\/k=3\/k=4:=by omega
 rcases ‹n=1\/_› with rfl | rfl | rfl | rfl | rfl<;>rcases ‹k=0\/_› with rfl | rfl | rfl | rfl | rfl<;>first
  | (exfalso;omega)
  | (simp[sN];done)
  | (simp[sN];omega)
theorem Zf4{n k:Nat}{M:List (List Int)}(ok:MatOk n M)(b:n<=5)(a:k<n):Mv n (P5 k M)=Mv n M:=by unfold Mv;rw[Zi (g:=λi=>sN n (λj=>ZM M ((i+k)%n) ((j+k)%n))) λi c=>Zi λj d=>W8 ok a c d];rw[HB b a (λx=>sN n (λj=>ZM M x ((j+k)%n)))];exact Zi λx _=>HB b a (λy=>ZM M x y)
noncomputable def upL(n:Nat):List Int:=(aD n).map λ(i:Nat)=>(i:Int)
theorem JD{n i:Nat}(h:i<n):Zl (upL n) i=(i:Int):=ZF h
noncomputable def bkL(n k:Nat):List Int:=(aD n).map λ(i:Nat)=>(((i+n-k)%n:Nat):Int)
theorem Zbw{n k i:Nat}(h:i<n):Zl (bkL n k) i=(((i+n-k)%n:Nat):Int):=ZF h
theorem Dk{n k i:Nat}(b:k<n)(a:i<n):((i+n-k)%n+k)%n=i:=by rw[Nat.mod_add_mod,show i+n-k+k=i+n by omega,Nat.add_mod_right,du a]
theorem Zbx{n k:Nat}(b:n<=5)(c:k<n):NamesOk n (bkL n k):=by
 refine⟨by simp[bkL],?_,λx a=>?_,λx a=>?_⟩
 ·have:n=1\/n=2\/n=3\/n=4\/n=5:=by omega
  have:k=0\/k=1\/k=2\/k=3\/k=4:=by omega
  rcases ‹n=1\/_› with rfl | rfl | rfl | rfl | rfl<;>rcases ‹k=0\/_› with rfl | rfl | rfl | rfl | rfl<;>first
   | (exfalso;omega)
   | decide
 ·obtain⟨i,_,rfl⟩:=ar.mp a;omega
 ·obtain⟨i,_,rfl⟩:=ar.mp a;have:(i+n-k)%n<n:=gW _ (by omega);omega
theorem Zby{n k:Nat}{M:List (List Int)}(ok:MatOk n M)(f:n<=5)(a:k<n)(h:Grown M (upL n) n):V2 (P5 k M):=by refine Grown.conn (n:=n) (l:=bkL n k) (λj g b=>?_) (Dj ok a).len (Zbx f a);obtain⟨d,c,e⟩:=h j g b;refine⟨d,c,?_⟩;rw[Zbw b,Zbw (by omega),bV,bV,W8 ok a (gW _ (by omega)) (gW _ (by omega)),Dk a b,Dk a (by omega)];rw[JD b,JD (by omega),bV,bV] at e;exact e
theorem Zbz{n k:Nat}{M:List (List Int)}(ok:MatOk n M)(p:n<=5)(t:k<n){s:ZG}(g:Za 4 s=ax (.lst (rL M)))(c:Za 11 s=ax (.int (k:Int)))(l:ZH 1 [11] s=[aA,ax (.int (k:Int))]) :
  Zw 1 [11] (YL (Zm Az (O0 SK (Za 4) (Qk (Za 11)) MR) (O0 SK (Za 4) MR (Qk (Za 11))))) (.one 0) ZD (Zm LB (O0 SK (Za 0) (Qk (Za 1)) MR) (O0 SK (Za 0) MR (Qk (Za 1)))) s=ax (.lst (rL (P5 k M))):=by
 have d:(rL M).length=n:=by unfold rL;rw[aJ];exact ok.len
 have f:Qk (Za 11) s=ax (ax (k:Int)):=by unfold Qk;rw[c]
 have s1:O0 SK (Za 4) (Qk (Za 11)) MR s=ax (.lst ((rL M).drop k)):=by rw[Oe,g,f];show ax (PV.lst (WA (rL M) (ax (k:Int)) aA))=_;rw[Di _ (by omega)]
 have s2:O0 SK (Za 4) MR (Qk (Za 11)) s=ax (.lst ((rL M).take k)):=by rw[Oe,g,f];show ax (PV.lst (WA (rL M) aA (ax (k:Int))))=_;rw[Zf3 _ (by omega)]
 have m:YL (Zm Az (O0 SK (Za 4) (Qk (Za 11)) MR) (O0 SK (Za 4) MR (Qk (Za 11)))) s=ax ((P4 k M).map λr=>.lst (iL r)):=by unfold YL;rw[XD,s1,s2];show((if((rL M).drop k).length+((rL M).take k).length<=10000 then ax (PV.lst ((rL M).drop k++(rL M).take k)) else aA).bind _)=_;rw[p9 (by rw[bU,bG];omega)];unfold P4 rL;rw[ay,gH,gu];rfl
 rw[ZL (P4 k M) (λr=>.lst (iL r)) (λr=>.lst (iL (P4 k r))) m (by rw[JB (by rw[ok.len];omega),ok.len];omega) (λr o=>⟨[ax (.lst (iL r)),ax (.int (k:Int))],by rw[l];rfl,rfl,?_⟩)]
 ·unfold P5 rL;rw[bZ];rfl
 ·have q:r.length=n:=by
   have:r∈M:=by
    rcases aV.mp o with h | h
    ·exact dh h
    ·exact cW h
   obtain⟨i,j,e⟩:=bp this;have:=ok.row i (by rw[<-ok.len];exact j);unfold ZA at this;rw[aF,aE j] at this;rw[<-e];exact this
  refine o2 (a:=.lst (iL (r.drop k))) (b:=.lst (iL (r.take k))) ?_ ?_ ?_
  ·show ax (PV.lst (WA (iL r) (ax (k:Int)) aA))=_;rw[Za9]
  ·show ax (PV.lst (WA (iL r) aA (ax (k:Int))))=_;rw[Za8]
  ·show(if(iL (r.drop k)).length+(iL (r.take k)).length<=10000/\ZC (iL (r.drop k))=aC/\ZC (iL (r.take k))=aC then ax (PV.lst (iL (r.drop k)++iL (r.take k))) else aA)=_;rw[p9 ⟨by rw[aJ,aJ,bU,bG];omega,ZY _,ZY _⟩,<-ay];rfl
theorem Zoc:SzOk [1,2,3,4,5] 8:=⟨by decide,by decide,by decide,by decide⟩
theorem Zb0{ns:List Int}(x:ns.length<=63)(z:SzOk Z mo):∃W,KR [.cst (iL ns),.lst (iL Z),.int (mo:Int)]=ax (wP W)/\Zt W/\V2 W/\W.length<=5/\(Z8 W).length<=mo:=by
 have m8:=z.m8
 suffices h:Y9 EO (ZP 12 [.cst (iL ns),.lst (iL Z),.int (mo:Int)]) λv=>∃W,v=wP W/\Zt W/\V2 W/\W.length<=5/\(Z8 W).length<=mo by obtain⟨v,e,W,rfl,r⟩:=Pf h;exact⟨W,e,r⟩
 have at0:=R4 x 0;have Q:=λ{s:ZG} (h:Za 0 s=ax (.cst (iL ns)))=>xb (C2 (vmd (c2 (g:=eC (.int 0)) h rfl at0) (show eC (.int 2) s=ax (.int 2) from rfl) (by decide)) (show eC (.int 1) s=ax (.int 1) from rfl));by_cases q:Zl ns 0%2=1
 ·obtain⟨W,t,e,ok,Y,l5,sm,B⟩:=Hz z (Zl ns 1);exact Zmd ((Q rfl).trans (by rw[decide_eq_true q])) (Vx (c3 (c2 rfl rfl (R4 x 1)) rfl rfl e) ⟨W,rfl,ok,Y,l5,by rw[HA ok sm];exact B⟩)
 obtain⟨v,hv,ev⟩:=Xy (Zl ns 0) (t:=1) (m:=Z.length) (by omega) z.ne;obtain⟨n,n1,G,nm,en⟩:=z.at hv;let st:List (List Int)->Nat->Option PV->Option PV->Option PV->Option PV->Option PV->ZG:=λM t I H D C o=>[ax (.cst (iL ns)),ax (.lst (iL Z)),ax (.int (mo:Int)),ax (.int (n:Int)),ax (.lst (rL M)),ax (.int (t:Int)),I,H,D,C,o,aA];refine ZU (gof ((Q rfl).trans (by rw[decide_eq_false q]))) (ZU (Zp (vP (o2 rfl (c3 (c2 rfl rfl at0) rfl (c1 rfl Zbv) ev) en))) (ZU (Zp (L0 (n:=n) rfl (by omega))) (ZU (Zp (vP rfl)) (Wu (Zbj (m:=1) (n:=13) (λi s=>∃M t I H D C o,s=st M t I H D C o/\Tied n M t/\t<=mo/\(i<=n->t+1=i)/\Grown M (upL n) (min i n)) rfl rfl ⟨_,0,aA,aA,aA,aA,aA,rfl,Tied.zero n,by omega,λ_=>rfl,λj A O=>by omega⟩ ?_) ?_))))
 ·rintro i s A hi ⟨M,t,I,H,D,C,o,rfl,f,B,tl,F⟩;let c:=Zl ns i;obtain⟨a,l,N⟩:=Xy c (t:=13) (m:=n) (by omega) (by omega);obtain⟨b,hb,eb⟩:=Xy c (t:=17) (m:=max 1 (n-1)) (by omega) (by omega);obtain⟨d,hd,U⟩:=XN ((a:Int)+1+(b:Int)) (m:=n) (by omega);obtain⟨r,hr,er⟩:=Xy c (t:=3) (m:=3) (by omega) (by omega);obtain⟨u,S,eu⟩:=Xy c (t:=5) (m:=i) (by omega) (by omega)
  refine Z4 (Zp (c2 rfl rfl (R4 x i))) (Z4 (Zp (c3 rfl rfl rfl N)) (Z4 (Zp (vP (vmn U (by omega) (FD (FD rfl rfl) (c3 rfl rfl (c2 (b:=.int ((n:Int)-1)) rfl (Bz rfl rfl) (R:=ax (.int ((max 1 (n-1):Nat):Int))) (by
   show ax (PV.int (if(n:Int)-1>1 then(n:Int)-1 else 1))=_;congr 2;split<;>omega)) eb)) rfl))) (L3 (R:=λs=>∃a d:Nat,s=st M t (ax (.int (i:Int))) (ax (.int c)) (ax (.int (a:Int))) (ax (.int (d:Int))) o/\a<n/\d<n/\(1<n->a≠d)/\(i<n->a=i/\d<i)) (L4 (xb (vlt rfl rfl)) (λw=>Z4 (Zp (vP rfl)) (R0 (Zp (c3 rfl rfl rfl eu)) ⟨i,u,rfl,of_decide_eq_true w,nU S (of_decide_eq_true w),λ_=>by omega,λ_=>⟨rfl,S⟩⟩)) λw=>R0 rfl ⟨a,d,rfl,l,hd,λP=>Dh l (by omega) U,λw2=>absurd w2 (of_decide_eq_false w)⟩) ?_)))
  rintro s ⟨a,d,rfl,l,hd,ne,ia⟩;refine Z4 (Zp (ep (ea (vgt (b:=1) rfl rfl) (ea (vlt rfl rfl) (vgt (b:=0) (c3 rfl rfl rfl er) rfl))))) (L4 (xo (xb (vlt rfl rfl)) (xb rfl)) (λw=>?_) λw=>R0 rfl ⟨M,t,_,_,_,_,_,rfl,f,B,λh=>?_,λj A O=>?_⟩)
  ·have w:i<n\/1<n/\t<mo/\0<r:=by simpa using w
   have P:1<n:=by omega
   have T:=WR (t:=ZM M a d+1) (b:=d) f.mat.len f.mat.row l;obtain⟨J,L⟩:=f.grow l hd;refine Z4 (Hy f.mat l hd rfl _ rfl rfl (FD (Jz f.mat.len f.mat.row l hd rfl rfl rfl) rfl)) (Z4 (L6 f.mat l hd rfl (ZM M a d+1) rfl rfl ((Jz T.1 T.2 l hd rfl rfl rfl).trans (by rw[OM f.mat.len f.mat.row l hd,p9 ⟨rfl,rfl⟩]))) (R0 (Zp (vP (vsc rfl))) ⟨upM M a d,t+1,_,_,_,_,_,rfl,f.up (by omega) l hd (ne P),by omega,λh=>by omega,λj A O=>?_⟩));by_cases y:j<min i n
   ·exact(F.mono J) j A y
   ·obtain⟨rfl,hd'⟩:=ia (by omega);have X:j=a:=by omega
    refine⟨d,by omega,?_⟩;rw[X,JD l,JD hd,bV,bV];exact L
  ·have:¬i<n:=λy=>by rw[decide_eq_true y] at w;cases w
   omega
  ·have:¬i<n:=λy=>by rw[decide_eq_true y] at w;cases w
   exact F j A (by omega)
 rintro s ⟨M,t,y6,y7,y8,y9,y10,rfl,f,B,_,F⟩;obtain⟨k,E,ek⟩:=Xy (Zl ns 0) (t:=7) (m:=n) (by omega) (by omega);have p:=Dj f.mat E;have ok:Zt (P5 k M):=p.web (by omega) (by omega);exact ZU (Zp (c3 (c2 rfl rfl at0) rfl rfl ek)) (ZU (Zp (Zbz f.mat G E rfl rfl rfl)) (Vx (Dg (n:=n) (by rw[p.len];omega) rfl) ⟨_,rfl,ok,Zby f.mat G E λj A O=>F j A (by omega),by rw[p.len];exact G,by rw[HA (t:=t) ok (by rw[p.len,Zf4 f.mat G E];exact f.sum)];exact B⟩))
end PW
namespace PW
open L2 VL VX PK
noncomputable def eW(W:List (List Int)):List ZE:=Pd W.length (ZM W)
noncomputable def eAB(W:List (List Int))(a b:Nat):List ZE:=aS (ZM W a b).toNat (a,b)
noncomputable def eA(W:List (List Int))(a:Nat):List ZE:=(aD (W.length-(a+1))).flatMap λj=>eAB W a (a+1+j)
theorem JE(W:List (List Int)):eW W=(aD W.length).flatMap (eA W):=by unfold eW Pd prs;rw[List.flatMap_assoc];congr 1;funext a;rw[List.flatMap_map];rfl
theorem W9(W:List (List Int)):(eW W).length=(Z8 W).length:=by rw[JE];unfold Z8;rw[gk,gk];congr 1;refine au λa _=>?_;unfold eA UO;rw[gk,gk];congr 1;refine au λj _=>?_;unfold eAB XJ;simp
theorem Zod{W:List (List Int)}(ok:Zt W):Wt W.length (ZM W):=⟨λa b c d=>ok.lo a b c d,λa b c d=>ok.sym a b c d,λa c=>ok.dia a c⟩
theorem HC{W:List (List Int)}:∀e∈eW W,e.1<e.2/\e.2<W.length/\0<ZM W e.1 e.2:=λe b=>by unfold eW Pd at b;obtain⟨p,d,c⟩:=g7.mp b;have a:=nI.mp c;obtain⟨f,rfl⟩:=a;have:=mem_prs.mp (show(e.1,e.2)∈prs W.length from d);exact⟨by omega,by omega,by omega⟩
theorem Zjw{W:List (List Int)}{a b:Nat}(c:a<b)(d:b<W.length)(h:0<ZM W a b):(a,b)∈eW W:=by unfold eW Pd;refine g7.mpr ⟨(a,b),mem_prs.mpr ⟨by omega,by omega⟩,nI.mpr ⟨?_,rfl⟩⟩;show(ZM W a b).toNat≠0;omega
theorem Zb1{W:List (List Int)}(ok:Zt W)(l:V2 W){m:Nat->Nat}{F:List Nat}(h:TrOk W.length (eW W) m F []):∀x,x<W.length->m x=m 0:=λx o=>by
 have lt:∀a b,a<b->b<W.length->0<ZM W a b->m a=m b:=λa b f d c=>by
  obtain⟨i,j,e⟩:=bp (Zjw f d c);have:=h.done i j (by simp);have n:Zx (eW W) i=(a,b):=by unfold Zx;rw[aF,aE j,e];rfl
  rw[n] at this;exact this
 refine(l (λx=>m x=m 0) (λa b g d c=>?_) x 0 o ok.pos).mpr rfl
 have e:m a=m b:=by
  by_cases q:a<b
  ·exact lt a b q d c
  ·by_cases k:b<a
   ·exact(lt b a k g (by rw[ok.sym b a d g];exact c)).symm
   ·rw[show a=b by omega]
 rw[e]
theorem Ou{W:List (List Int)}(ok:Zt W){G:List Nat}(d:G.Nodup)(e:∀g∈G,g<W.length):tw (ZM W) G=2*Wb G (eW W):=by
 let u:Nat->Nat->Int:=λi j=>b1 (decide (i∈G))*(b1 (decide (j∈G))*ZM W i j);have k:tw (ZM W) G=sN W.length (λi=>sN W.length (u i)):=by unfold tw;rw[Sh _ d e];refine Zi λi l=>?_;unfold Fx;rw[Sh _ d e,<-ZJ]
 have f:Wb G (eW W)=sN W.length λa=>sN W.length λb=>if a<b then u a b else 0:=by
  unfold Wb eW;rw[CW (Zod ok)];refine Zi λa _=>Zi λb _=>?_;split
  ·show ZM W a b*b1 (decide (a∈G)&&decide (b∈G))=b1 (decide (a∈G))*(b1 (decide (b∈G))*ZM W a b);by_cases x:a∈G<;>by_cases y:b∈G<;>simp[x,y,b1]
  ·rfl
 rw[k,f];refine Zfn (λa b c h=>?_) λa c=>?_
 ·show b1 (decide (a∈G))*(b1 (decide (b∈G))*ZM W a b)=b1 (decide (b∈G))*(b1 (decide (a∈G))*ZM W b a);rw[ok.sym a b c h,<-cg,<-cg,cQ (b1 _) (b1 _)]
 ·show b1 (decide (a∈G))*(b1 (decide (a∈G))*ZM W a a)=0;rw[ok.dia a c];simp
theorem Zf6{W:List (List Int)}:Wb (aD W.length) (eW W)=((eW W).length:Int):=by
 have:∀T:List ZE,(∀e∈T,e.1<W.length/\e.2<W.length)->Wb (aD W.length) T=(T.length:Int):=by
  intro T
  induction T with
  | nil=>intro _;rfl
  | cons e T ih=>
   intro a;have q:Jo (aD W.length) e=aC:=by have:=a e (by simp);unfold Jo;simp[this.1,this.2]
   have:=ih λx b=>a x (by simp[b]);unfold Wb at this ⊢;rw[af,bR,this,q,az];show(1:Int)+_=_;omega
 exact this _ λe c=>by have:=HC e c;exact⟨by omega,by omega⟩
theorem Zf7{W:List (List Int)}(ok:Zt W){a b:Nat}(d:a<W.length)(c:b<W.length):(eAB W a b).length<=9:=by have:=ok.hi a b d c;unfold eAB;simp;omega
theorem Zjx{W:List (List Int)}(ok:Zt W){a b:Nat}(c:a<W.length)(d:b<W.length){s:ZG}(h:Za 0 s=ax (wP W))(e:Za 2 s=ax (.int (a:Int)))(f:Za 3 s=ax (.int (b:Int)))(g:ZH 1 [2,3] s=[aA,ax (.int (a:Int)),ax (.int (b:Int))]):Zw 1 [2,3] (Yk [Zm ZR (Zm ZR (Za 0) (Za 2)) (Za 3)]) (.one 0) ZD (eP (Wy [Za 1,Za 2])) s=ax (.lst ((eAB W a b).map JA)):=by have b1:=ok.lo a b c d;have j:=ok.hi a b c d;rw[ZL (aD (ZM W a b).toNat) (λ(i:Nat)=>.int (i:Int)) (λ_=>JA (a,b)) (Xd ((Zmg c (by rw[ok.sq a c];exact d) h e f).trans (by rw[g9 b1])) (by omega)) (by simp;omega) (λi k=>⟨_,by rw[g];rfl,rfl,rfl⟩)];unfold eAB;rw[nE];congr 2;exact fS (by simp) (by intros;simp)
theorem Bd{W:List (List Int)}(ok:Zt W):Nx [wP W]=ax (.lst ((eW W).map JA))/\(eW W).length<=441:=by
 have h:=ok.few;refine⟨Pg (ZU (s1:=[ax (wP W),ax (.lst []),aA,aA]) rfl (Wu (Mk (n:=W.length) (λi st=>∃y z,st=[ax (wP W),ax (.lst (((aD i).flatMap (eA W)).map JA)),y,z]/\((aD i).flatMap (eA W)).length<=63*i) (c1 rfl Vq) ⟨aA,aA,by simp,by simp⟩ ?_) ?_)),by rw[W9];exact(Wa ok).2⟩
 ·rintro i s b ⟨y,z,rfl,d⟩;let A:Nat->List ZE:=λj=>(aD (j-(i+1))).flatMap λj=>eAB W i (i+1+j);refine Zfr (Zbj (m:=i+1) (n:=W.length) (λj st=>∃z,st=[ax (wP W),ax (.lst (((aD i).flatMap (eA W)++A j).map JA)),ax (.int (i:Int)),z]/\(A j).length<=9*(j-(i+1))) (vsc rfl) (c1 rfl Vq) ⟨z,by simp[A],by simp[A]⟩ ?_) ?_
  ·rintro j s g c ⟨z,rfl,a⟩;have e:A (j+1)=A j++eAB W i j:=by show(aD (j+1-(i+1))).flatMap _=_;rw[show j+1-(i+1)=j-(i+1)+1 by omega,Xw,show i+1+(j-(i+1))=j by omega]
   have f:=Zf7 ok b c;refine R0 (Zft JA (Zjx ok b c rfl rfl rfl rfl) rfl (by rw[aT];omega)) ⟨_,by rw[e,<-dj];rfl,?_⟩;rw[e,aT];omega
  ·rintro s ⟨z,rfl,a⟩;refine⟨_,z,by rw[Xw];rfl,?_⟩;rw[Xw,aT];have:(eA W i).length<=9*(W.length-(i+1)):=a;omega
 ·rintro s ⟨y,z,rfl,_⟩;rw[<-JE];exact⟨_,rfl,rfl⟩
theorem Zb2{W:List (List Int)}(ok:Zt W):RG [wP W]=ax (.int (((eW W).length:Int)-(W.length:Int)+1)):=by rw[W9];exact Za4 ok
noncomputable def R5(n:Nat)(m:Nat->Nat):List Int:=(aD n).map λx=>((m x:Nat):Int)
theorem JF(n:Nat)(m:Nat->Nat):(R5 n m).length=n:=by simp[R5]
theorem Dl{n:Nat}{m:Nat->Nat}{x:Nat}(h:x<n):Zl (R5 n m) x=(m x:Int):=ZF h
theorem Mw{F:List Nat}(h:F.length<64):RJ [.lst (iL (nL F))]=ax (.lst (iL (sortI (nL F)))):=by show(Ys (iL (nL F))).bind (λns=>if ns.length<64 then ax (PV.lst (iL (sortI ns))) else aA)=_;rw[Yc];rw[aQ,p9 (by simpa [nL] using h)]
theorem HD{n:Nat}{E:List ZE}{m:Nat->Nat}{F L:List Nat}(h:TrOk n E m F L):F.length<=n:=by
 have e:=h.mark.eq
 have c:Wb (aD n) (F.map (Zx E))=((F.map (Zx E)).length:Int):=by
  have:∀T:List ZE,(∀e∈T,e.1<n/\e.2<n)->Wb (aD n) T=(T.length:Int):=by
   intro T
   induction T with
   | nil=>intro _;rfl
   | cons e T ih=>
    intro a;have q:Jo (aD n) e=aC:=by have:=a e (by simp);unfold Jo;simp[this.1,this.2]
    have:=ih λx b=>a x (by simp[b]);unfold Wb at this ⊢;rw[af,bR,this,q,az];show(1:Int)+_=_;omega
  exact this _ h.mark.inn
 have d:0<=Bx n m (aD n):=Ym λi _=>Hi _;rw[aJ] at c;omega
section
variable {W:List (List Int)} {c:Int}
abbrev Zmi(W:List (List Int))(c:Int)(m:Nat->Nat)(F L:List Nat)(num:Int)(x7 x8 x9 x10 x11:Option PV):ZG:=
 [ax (wP W),ax (.int c),ax (.lst ((eW W).map JA)),ax (.lst (iL (R5 W.length m))),ax (.lst (iL (nL F))),ax (.lst (iL (nL L))),ax (.int num),x7,x8,x9,x10,x11]
theorem Dm{n:Nat}{m:Nat->Nat}{z:Nat}(a:z<n):ZR (.lst (iL (R5 n m))) (.int (z:Int))=ax (.int (m z:Int)):=by rw[Zhh (JF n m) z a,Dl a]
theorem Dn{k:Nat}(a:k<=10000):Up (.int (k:Int))=ax (.lst (iL (nL (aD k)))):=by show(if 0<=(k:Int)/\(k:Int)<=10000 then ax (PV.lst (iL ((aD (k:Int).toNat).map λ(i:Nat)=>(i:Int)))) else aA)=_;rw[p9 ⟨by omega,by omega⟩,bV];rfl
theorem Zf8{W:List (List Int)}{i:Nat}(a:i<(eW W).length):ZR (.lst ((eW W).map JA)) (.int (i:Int))=ax (JA (Zx (eW W) i)):=by refine Na (l:=(eW W).map JA) (k:=i) ?_;unfold Zx;rw[aX,aF,aE a];rfl
theorem Zhk{W:List (List Int)}:ZN [.lst ((eW W).map JA)]=ax (.int ((eW W).length:Int)):=by show ax (PV.int (((eW W).map JA).length:Int))=_;rw[aJ]
theorem Mx{L:List Nat}:ZN [.lst (iL (nL L))]=ax (.int (L.length:Int)):=by show ax (PV.int ((iL (nL L)).length:Int))=_;simp[nL]
theorem Zmj{f:XE}{s:ZG}{v:PV}{i k:Nat}{a b:Int}(q:f s=ax v)(c:v = .tup [.int a,.int b]):Eu (.many [i,k]) f s=ax (.nx ((s.set i (ax (.int a))).set k (ax (.int b)))):=by subst c;unfold Eu;rw[q];rfl
theorem FP{n:Nat}{m:Nat->Nat}{a b:Nat}{s:ZG}(d:b<n)(f:n<=7)(c:Za 3 s=ax (.lst (iL (R5 n m))))(e:ZH 1 [11,3,10] s=[aA,ax (.int (m a:Int)),ax (.lst (iL (R5 n m))),ax (.int (b:Int))]) :
  Zw 1 [11,3,10] (YL (Za 3)) (.one 0) ZD (eP (OP (xB (Zm (Xz aB) (Za 0) (Za 1))) (Zm ZR (Za 2) (Za 3)) (Za 0))) s=ax (.lst (iL (R5 n (ZX m a b)))):=by
 rw[ZL (aD n) (λx=>.int (m x:Int)) (λx=>.int (ZX m a b x:Int)) (by unfold YL;rw[c,R5,Ph];rfl) (by simp;omega) (λx g=>⟨_,by rw[e];rfl,rfl,vP ?_⟩),R5,Ph];unfold ZX;by_cases q:m x=m a
 ·rw[p9 q];exact Ml (xb ((C2 rfl rfl).trans (by rw[decide_eq_true (by omega)]))) (o2 rfl rfl (Dm d))
 ·rw[pW q];exact Mm (xb ((C2 rfl rfl).trans (by rw[decide_eq_false (by omega)]))) rfl
theorem Zjy(L:List Nat)(p:Nat):(iL (nL L)).take p++(iL (nL L)).drop (p+1)=iL (nL (L.eraseIdx p)):=by rw[iU];unfold nL iL;rw[ay,ay,<-gu,<-gu,<-gH,<-gH]
theorem Zjz{L:List Nat}{s:ZG}{f:XE}{i j p:Nat}(a:p<L.length)(c:L.length<=1000)(q:f s=ax (.int (p:Int)))(b:MI s i=ax (iL (nL L))):Zer j i f s=ax (.nx ((s.set i (ax (.lst (iL (nL (L.eraseIdx p)))))).set j (ax (.int ((L[p]:Nat):Int))))):=by
 have g:(iL (nL L))[p]?=ax (.int ((L[p]:Nat):Int)):=by rw[Qm (by simpa [nL] using a)];simp[nL,Zl,a]
 unfold Zer;rw[q];simp only[aQ,TY,b]
 rw[TZ (by
  rw[aw];exact⟨ZY _,decide_eq_true ⟨by omega,by omega,by simp[nL];omega⟩⟩),aQ,bV,g,aQ,Zjy]
theorem Be(ok:Zt W)(c:Int):∃(m:Nat->Nat) (F:List Nat),Ny [wP W,.int c]=ax (pP (sortI (nL F)))/\TrOk W.length (eW W) m F []:=by
 have O:=ok.few;obtain⟨S,le⟩:=Bd ok;have D:∀e∈eW W,e.1<W.length/\e.2<W.length:=λe P=>by have:=HC e P;exact⟨by omega,by omega⟩
 suffices g:Y9 IC (ZP 12 [wP W,.int c]) λv=>∃(m:Nat->Nat) (F:List Nat),v=pP (sortI (nL F))/\TrOk W.length (eW W) m F [] by obtain⟨v,e,m,F,rfl,r⟩:=Pf g;exact⟨m,F,e,r⟩
 refine ZU (Zp (c1 rfl S)) (ZU (Zp (un1 (c1 rfl Vq) (Dn (by omega)))) (ZU rfl (ZU (Zp (un1 (c1 rfl Zhk) (Dn (by omega)))) (ZU (Zp (vP (vdv rfl rfl))) (Wu (Mk (n:=(eW W).length) (λi s=>∃m F L d z u l h f,s=Zmi W c m F L d z u l h f/\TrOk W.length (eW W) m F L/\L.length+i=(eW W).length) (c1 rfl Zhk) ⟨λx=>x,[],_,_,aA,aA,aA,aA,aA,rfl,TrOk.start _ _,by simp⟩ ?_) ?_)))))
 ·rintro i s U ⟨m,F,L,d,z,u,l,h,f,rfl,tr,J⟩;have M:=HD tr;obtain⟨v,H,Q⟩:=Xy (c+53*(i:Int)*(i:Int)) (t:=47+i) (m:=L.length) (by omega) (by omega);refine Z4 (Zp (c3 (FD rfl (vC (C:=CMul) (op:=(· * ·)) (vC (C:=CMul) (op:=(· * ·)) (a:=53) rfl rfl (AO (by omega) (by omega))) rfl (.inl (by omega)))) (b:=.int ((47+i:Nat):Int)) (by rw[Int.natCast_add];exact FD rfl rfl) (c1 rfl Mx) Q)) (L3 (R:=λs=>∃(p:Nat) (j:Int),p<L.length/\s=Zmi W c m F L j (ax (.int (i:Int))) (ax (.int (p:Int))) l h f) (L4 (xb (C2 (vmd rfl rfl (by decide)) rfl)) (λ_=>?_) λ_=>R0 rfl ⟨v,d,H,rfl⟩) ?_)
  ·obtain⟨r,N,I⟩:=XN d (m:=L.length) (by omega);exact Z4 (Zp (vP (vmn I (by omega) rfl (c1 rfl Mx)))) (R0 (Zp (vP (vdv rfl (c1 rfl Mx)))) ⟨r,_,N,rfl⟩)
  ·rintro s ⟨p,j,o,rfl⟩;have y:L[p]<(eW W).length:=tr.inn _ (ah _ (bQ o));have T:Zx (eW W) L[p]∈eW W:=by unfold Zx;rw[aF,aE y];exact bQ y
   obtain⟨B,E⟩:=D _ T;obtain⟨q,A⟩:=tr.step D o;have k:(L.eraseIdx p).length+(i+1)=(eW W).length:=by rw[j7 o];omega
   refine Z4 (Zjz o (by omega) rfl rfl) (Z4 (Zmj (o2 rfl rfl (Zf8 y)) rfl) (L4 (xb (o2 (o2 rfl rfl (Dm B)) (o2 rfl rfl (Dm E)) (Uj ..))) (λw=>?_) λw=>R0 rfl ⟨_,_,_,_,_,_,_,_,_,rfl,A (by simpa [gv] using w),k⟩));exact Z4 (Zp (vP (o2 rfl rfl (Dm B)))) (Z4 (Zp (FP E O rfl rfl)) (R0 (Js rfl rfl (by omega)) ⟨_,_,_,_,_,_,_,_,_,rfl,q (by simpa [gv] using w),k⟩))
 ·rintro s ⟨m,F,L,d,z,u,l,h,f,rfl,tr,J⟩;have G:L=[]:=dI.mp (by omega);subst G;have M:=HD tr;exact Vx (HS (c1 (c1 rfl (Mw (by omega))) rfl)) ⟨m,F,rfl,tr⟩
end
theorem Dp(b:Bool)(a:Int)(l:List Int):PF b (.int a) (pP l)=ax (.bl (if b then !decide (a∈l) else decide (a∈l))):=by
 unfold PF;have c:((iL l).all λz=>UQ 8 z (.int a))=aC:=by rw[jT,bK];intro x _;rfl
 show(ax (iL l)).bind _=_;simp only[aQ,p9 c]
 have:decide (PV.int a∈iL l)=decide (a∈l):=decide_eq_decide.mpr (by
  rw[ar];constructor
  ·rintro⟨x,d,e⟩;cases e;exact d
  ·intro h;exact⟨a,h,rfl⟩)
 rw[this]
theorem HE{W:List (List Int)}{i:Nat}(h:i<(eW W).length):∃t:Int,(Z8 W)[i]?=ax [((Zx (eW W) i).1:Int),((Zx (eW W) i).2:Int),t]:=by
 have k:(Z8 W).map (λr=>((Zl r 0).toNat,(Zl r 1).toNat))=eW W:=by rw[JE];unfold Z8;rw[oF];congr 1;funext a;unfold UO eA;rw[oF];congr 1;funext j;unfold XJ eAB;exact fS (by simp) (by intros;simp[Zl];omega)
 have c:∀r∈Z8 W,∃(a b:Nat) (t:Int),r=[(a:Int),(b:Int),t]:=λr d=>by obtain⟨a,_,d⟩:=g7.mp d;obtain⟨j,_,d⟩:=g7.mp d;obtain⟨t,_,rfl⟩:=ar.mp d;exact⟨a,a+1+j,t,rfl⟩
 have f:i<(Z8 W).length:=by rw[<-W9];exact h
 obtain⟨a,b,t,e⟩:=c _ (bQ f);refine⟨t,?_⟩;have m:Zx (eW W) i=(a,b):=by have g:=congrArg (λl=>l[i]?) k;simp only[aX] at g;rw[aE f,aE h,e] at g;unfold Zx;rw[aF,aE h];rw[<-g];rfl
 rw[aE f,e,m]
theorem Zf9{n:Nat}{m:Nat->Nat}{a b:Nat}{s:ZG}(h:n<=7)(c:s[3]?=ax (ax (.lst (iL (R5 n m)))))(f:s[6]?=ax (ax (.int (m a:Int))))(d:s[7]?=ax (ax (.int (m b:Int)))) :
  Zw 1 [6,7] (YL (Za 3)) (.one 0) ZD (eP (OP (xB (Zm (Xz aB) (Za 0) (Za 2))) (Za 1) (Za 0))) s=ax (.lst (iL (R5 n (ZX m b a)))):=by
 have e:Za 3 s=ax (.lst (iL (R5 n m))):=by show s[3]?.bind id=_;rw[c];rfl
 rw[ZL (aD n) (λx=>.int (m x:Int)) (λx=>.int (ZX m b a x:Int)) (by
  unfold YL;rw[e];show ax (iL (R5 n m))=_;rw[R5,Ph]) (by simp;omega) (λx g=>⟨[ax (.int (m x:Int)),ax (.int (m a:Int)),ax (.int (m b:Int))],by simp[ZH,f,d,Xg],rfl,?_⟩)]
 ·rw[R5,Ph]
 ·have t:xB (Zm (Xz aB) (Za 0) (Za 2)) [ax (.int (m x:Int)),ax (.int (m a:Int)),ax (.int (m b:Int))]=ax (decide (m x=m b)):=by show(Xz aB (.int (m x:Int)) (.int (m b:Int))).bind blO=_;rw[Uj];show ax (decide ((m x:Int)=(m b:Int)))=_;rw[decide_eq_decide.mpr (gv (m:=m x) (n:=m b))]
  refine vP ?_;rw[Rz,t,aQ];unfold ZX;by_cases q:m x=m b
  ·rw[decide_eq_true q,p9 rfl,p9 q];rfl
  ·rw[decide_eq_false q,pW (by decide),pW q];rfl
noncomputable def Dq(W:List (List Int))(K:List Nat):Nat->Nat:=Jp (λx=>x) ((K.map (Zx (eW W))).map swE)
theorem Zb3(W:List (List Int))(K:List Nat)(k:Nat):Dq W (K++[k])=ZX (Dq W K) (Zx (eW W) k).2 (Zx (eW W) k).1:=by unfold Dq;rw[ay,ay,E1];rfl
theorem Bf{W:List (List Int)}(ok:Zt W){K:List Nat}(J:∀k∈K,k<(eW W).length):Y7 [wP W,.lst ((Z8 W).map pP),pP (nL K)]=ax (.lst (iL (R5 W.length (Dq W K)))):=by
 have D:=ok.few;let st:List Nat->Option PV->Option PV->Option PV->Option PV->ZG:=λA h f d c=>[ax (wP W),ax (.lst ((Z8 W).map pP)),ax (pP (nL K)),ax (.lst (iL (R5 W.length (Dq W A)))),h,f,d,c]
 let fb:XS:=(Zn (Zs 5 (eP (Zm ZR (Za 1) (Za 4))))
  (Zn (Zs 6 (eP (Zm ZR (Za 3) (Zm ZR (Za 5) (eC (.int 0))))))
  (Zn (Zs 7 (eP (Zm ZR (Za 3) (Zm ZR (Za 5) (eC (.int 1))))))
  (Zs 3 (Zw 1 [6,7] (YL (Za 3)) (.one 0) ZD (eP (OP (xB (Zm (Xz aB) (Za 0) (Za 2))) (Za 1) (Za 0))))))))
 obtain⟨M,f1,h,f,d,c,B⟩:=U9 (T:=.one 4) (fb:=fb) (ls:=iL (nL K)) (s:=st [] aA aA aA aA) (λi s=>∃h f d c,s=st (K.take i) h f d c) ⟨aA,aA,aA,aA,by simp[st]⟩ (by
  rintro i l s p ⟨h,f,d,c,rfl⟩;have j:i<K.length:=by have:=(aR.mp p).1;simpa [nL] using this
  have E:l = .int ((K[i]:Nat):Int):=by rw[Qm (by simpa [nL] using j)] at p;rw[<-bC p];simp[nL,Zl,j]
  subst E;have q:K[i]<(eW W).length:=J _ (bQ j);obtain⟨t,u⟩:=HE q;have o:Zx (eW W) K[i]∈eW W:=by unfold Zx;rw[aF,aE q];exact bQ q
  have v:=HC _ o;generalize H:Zx (eW W) K[i]=e at u v;obtain⟨a,b⟩:=e;simp only at u v;let m:=Dq W (K.take i);let R:PV:=pP [(a:Int),(b:Int),t]
  have F:Zs 5 (eP (Zm ZR (Za 1) (Za 4))) (st (K.take i) (ax (.int ((K[i]:Nat):Int))) f d c)=ax (.nx (st (K.take i) (ax (.int ((K[i]:Nat):Int))) (ax R) d c)):=by
   have g:Zm ZR (Za 1) (Za 4) (st (K.take i) (ax (.int ((K[i]:Nat):Int))) f d c)=ax R:=by refine Na (l:=(Z8 W).map pP) (k:=K[i]) ?_;rw[aX,u];rfl
   rw[Yf,U6,g];rfl
  have x:∀z:Nat,z<W.length->ZR (.lst (iL (R5 W.length m))) (.int (z:Int))=ax (.int (m z:Int)):=λz w=>by rw[Zhh (JF W.length m) z w,Dl w]
  have y:Zs 6 (eP (Zm ZR (Za 3) (Zm ZR (Za 5) (eC (.int 0))))) (st (K.take i) (ax (.int ((K[i]:Nat):Int))) (ax R) d c)=ax (.nx (st (K.take i) (ax (.int ((K[i]:Nat):Int))) (ax R) (ax (.int (m a:Int))) c)):=by have g:Zm ZR (Za 3) (Zm ZR (Za 5) (eC (.int 0))) (st (K.take i) (ax (.int ((K[i]:Nat):Int))) (ax R) d c)=ax (.int (m a:Int)):=x a (by omega);rw[Yf,vP g];rfl
  have C:Zs 7 (eP (Zm ZR (Za 3) (Zm ZR (Za 5) (eC (.int 1))))) (st (K.take i) (ax (.int ((K[i]:Nat):Int))) (ax R) (ax (.int (m a:Int))) c)=ax (.nx (st (K.take i) (ax (.int ((K[i]:Nat):Int))) (ax R) (ax (.int (m a:Int))) (ax (.int (m b:Int))))):=by have g:Zm ZR (Za 3) (Zm ZR (Za 5) (eC (.int 1))) (st (K.take i) (ax (.int ((K[i]:Nat):Int))) (ax R) (ax (.int (m a:Int))) c)=ax (.int (m b:Int)):=x b (by omega);rw[Yf,vP g];rfl
  have G:Zs 3 (Zw 1 [6,7] (YL (Za 3)) (.one 0) ZD (eP (OP (xB (Zm (Xz aB) (Za 0) (Za 2))) (Za 1) (Za 0)))) (st (K.take i) (ax (.int ((K[i]:Nat):Int))) (ax R) (ax (.int (m a:Int))) (ax (.int (m b:Int))))=ax (.nx (st (K.take (i+1)) (ax (.int ((K[i]:Nat):Int))) (ax R) (ax (.int (m a:Int))) (ax (.int (m b:Int))))):=by
   rw[Yf,Zf9 (n:=W.length) (m:=m) (a:=a) (b:=b) D rfl rfl rfl];have:Dq W (K.take (i+1))=ZX m b a:=by rw[dQ j,Zb3,H]
   show ax (Out.nx [_,_,_,_,_,_,_,_])=ax (Out.nx [_,_,_,ax (.lst (iL (R5 W.length (Dq W (K.take (i+1)))))),_,_,_,_]);rw[this]
  exact⟨st (K.take i) (ax (.int ((K[i]:Nat):Int))) f d c,_,rfl,(by show Zn _ _ _=_;rw[W4 F,W4 y,W4 C,G]),_,_,_,_,rfl⟩)
 subst B;rw[show(iL (nL K)).length=K.length by simp[nL],ck] at f1
 have L:Zs 3 (Pz Up (Ze ZN [Za 0])) [ax (wP W),ax (.lst ((Z8 W).map pP)),ax (pP (nL K)),aA,aA,aA,aA,aA]=ax (.nx (st [] aA aA aA aA)):=by
  have l:Ze ZN [Za 0] [ax (wP W),ax (.lst ((Z8 W).map pP)),ax (pP (nL K)),aA,aA,aA,aA,aA]=ax (.int (W.length:Int)):=by show ax (PV.int ((W.map pP).length:Int))=_;rw[aJ]
  have g:Pz Up (Ze ZN [Za 0]) [ax (wP W),ax (.lst ((Z8 W).map pP)),ax (pP (nL K)),aA,aA,aA,aA,aA]=ax (.lst (iL (R5 W.length (Dq W [])))):=by show(Ze ZN [Za 0] _).bind Up=_;rw[l];show(if 0<=(W.length:Int)/\(W.length:Int)<=10000 then ax (PV.lst (iL ((aD (W.length:Int).toNat).map λ(i:Nat)=>(i:Int)))) else aA)=_;rw[p9 ⟨by omega,by omega⟩,bV];rfl
  rw[Yf,g];rfl
 have I:YU [3] (U2 (Za 2)) (.one 4) fb (st [] aA aA aA aA)=ax (.nx (st K h f d c)):=by show(U2 (Za 2) (Xr [3] (st [] aA aA aA aA))).bind _=_;exact f1
 show YF 8 Te _=_;unfold Te;show(Zn _ _ [ax (wP W),ax (.lst ((Z8 W).map pP)),ax (pP (nL K)),aA,aA,aA,aA,aA]).bind U5=_;rw[W4 L,W4 I];rfl
noncomputable def FQ(K:List Nat):List Int:=(nL K).foldl UR []
noncomputable def Bg(W:List (List Int))(K:List Nat):Bool:=K.all λk=>decide (k<(eW W).length)
noncomputable def ddW(W:List (List Int))(K:List Nat):Nat:=((R5 W.length (Dq W K)).foldl iI []).length
noncomputable def isT(W:List (List Int))(K:List Nat):Bool:=decide (K.length+1=W.length)&&Bg W K&&(decide (nL K=sortI (FQ K))&&decide (ddW W K=1))
theorem Zj0{K:List Nat}(a:∀k∈K,k<=31)(c:K.length<=17):VW.gSN (pP (nL K))=ax (.lst (iL (sortI (FQ K)))):=by
 show(Ys (iL (nL K))).bind (λns=>if VW.inS ns=aC then ax (PV.lst (iL (sortI (ns.foldl UR [])))) else aA)=_;rw[Yc,aQ,p9]
 ·rfl
 ·unfold VW.inS;simp only[aw,decide_eq_true_eq,bK];refine⟨λk b=>?_,by simpa [nL] using c⟩;unfold nL at b;obtain⟨j,d,rfl⟩:=ar.mp b;have:=a j d;omega
theorem Zb4{W:List (List Int)}{K:List Nat}{s:ZG}{m:Nat}{l:List PV}(h:K.length<=100)(g:l.length=(eW W).length)(c:s[1]?=ax (ax (pP (nL K))))(a:s[2]?=ax (ax (.lst l))) :
  Ze Kv [Zw 1 [2] (U2 (Za 1)) (.one 0) ZD (eCh oLe MO (eC (.int 0)) (Za 0) (Ze ZN [Za 1]))] s=ax (.bl (Bg W K)):=by
 have d:Za 1 s=ax (pP (nL K)):=by show s[1]?.bind id=_;rw[c];rfl
 have e:Zw 1 [2] (U2 (Za 1)) (.one 0) ZD (eCh oLe MO (eC (.int 0)) (Za 0) (Ze ZN [Za 1])) s=ax (.lst ((K.map λk=>decide (k<(eW W).length)).map PV.bl)):=by
  rw[ZL K (λ(k:Nat)=>.int (k:Int)) (λk=>.bl (decide (k<(eW W).length))) (by
   rw[RE d];unfold nL;rw[Ph]) (by omega) (λk i=>⟨[ax (.int (k:Int)),ax (.lst l)],by simp[ZH,a,Xg],rfl,?_⟩),bZ]
  ·rfl
  ·have f:oLe (.int 0) (.int (k:Int))=ax (.bl aC):=by show ax (PV.bl (decide ((0:Int)<=(k:Int))))=_;rw[decide_eq_true (by omega)]
   show((oLe (.int 0) (.int (k:Int))).bind blO).bind (λb=>if b=aC then(Ze ZN [Za 1] [ax (.int (k:Int)),ax (.lst l)]).bind λz=>MO (.int (k:Int)) z else ax (.bl aB))=_;rw[f];show(ax (PV.int (l.length:Int))).bind (λz=>MO (.int (k:Int)) z)=_;show ax (PV.bl (decide ((k:Int)<(l.length:Int))))=_;rw[g];congr 2;exact decide_eq_decide.mpr (by omega)
 rw[Yl,Zy,e];show Kv [.lst ((K.map λk=>decide (k<(eW W).length)).map PV.bl)]=_;rw[AH];unfold Bg;rw[jT];rfl
theorem Zb5{W:List (List Int)}{K:List Nat}{s:ZG}(h:1<=W.length)(g:s[0]?=ax (ax (wP W)))(e:s[1]?=ax (ax (pP (nL K)))) :
  xB (Zm (Xz aC) (Ze ZN [Za 1]) (Zm Wi (Ze ZN [Za 0]) (eC (.int 1)))) s=ax (!decide (K.length+1=W.length)):=by
 have c:Za 0 s=ax (wP W):=by show s[0]?.bind id=_;rw[g];rfl
 have f:Za 1 s=ax (pP (nL K)):=by show s[1]?.bind id=_;rw[e];rfl
 have a:Ze ZN [Za 1] s=ax (.int (K.length:Int)):=by rw[Yl,Zy,f];show ax (PV.int ((iL (nL K)).length:Int))=_;simp[nL]
 have b:Ze ZN [Za 0] s=ax (.int (W.length:Int)):=by rw[Yl,Zy,c];show ax (PV.int ((W.map pP).length:Int))=_;rw[aJ]
 have d:Zm Wi (Ze ZN [Za 0]) (eC (.int 1)) s=ax (.int ((W.length:Int)-1)):=vI (op:=(· - ·)) b rfl;rw[U7,XD,a,d];show(Xz aC (.int (K.length:Int)) (.int ((W.length:Int)-1))).bind blO=_;rw[Uj];show ax (!decide ((K.length:Int)=(W.length:Int)-1))=_;rw[decide_eq_decide.mpr (show((K.length:Int)=(W.length:Int)-1)↔K.length+1=W.length by omega)]
theorem HF{W:List (List Int)}(ok:Zt W){K:List Nat}(c:∀k∈K,k<=31)(f:K.length<=17):T2 [wP W,pP (nL K)]=ax (.bl (isT W K)):=by
 have o:=ok.few;let s:ZG:=[ax (wP W),ax (pP (nL K)),ax (.lst ((Z8 W).map pP))];have n:Zs 2 (Ze Xv [Za 0]) [ax (wP W),ax (pP (nL K)),aA]=ax (.nx s):=by have:Ze Xv [Za 0] [ax (wP W),ax (pP (nL K)),aA]=ax (.lst ((Z8 W).map pP)):=(Wa ok).1;rw[Yf,this];rfl
 have lt:=Zb5 (W:=W) (K:=K) (s:=s) ok.pos rfl rfl;have d:=Zb4 (W:=W) (K:=K) (s:=s) (m:=0) (l:=(Z8 W).map pP) (by omega) (by rw[aJ,W9]) rfl rfl;show YF 3 Qw _=_;unfold Qw;show(Zn _ _ [ax (wP W),ax (pP (nL K)),aA]).bind U5=_;rw[W4 n];by_cases c1:K.length+1=W.length
 ·by_cases c2:Bg W K=aC
  ·rw[W4 (s1:=s) (by
    rw[Vj,Rx,lt,decide_eq_true c1];simp only[aQ,m9,jc,if_false];rw[Ry,U7,d,c2];rfl)]
   have j:∀k∈K,k<(eW W).length:=λk h=>by unfold Bg at c2;exact of_decide_eq_true (bK.mp c2 k h)
   have e:Zm (Xz aB) (Ze Vr [Za 1]) (Pz VW.gSN (Za 1)) s=ax (.bl (decide (nL K=sortI (FQ K)))):=by
    have a:Ze Vr [Za 1] s=ax (.lst (iL (nL K))):=by show(if ZC (iL (nL K))=aC then ax (PV.lst (iL (nL K))) else aA)=_;rw[p9 (ZY _)]
    have b:Pz VW.gSN (Za 1) s=ax (.lst (iL (sortI (FQ K)))):=Zj0 c f;rw[XD,a,b];show Xz aB (.lst ((nL K).map PV.int)) (.lst ((sortI (FQ K)).map PV.int))=_;rw[Zjb];rfl
   have i:Zm (Xz aB) (Pz VW.gLS (Ze Y7 [Za 0,Za 2,Za 1])) (eC (.int 1)) s=ax (.bl (decide (ddW W K=1))):=by
    have p:Ze Y7 [Za 0,Za 2,Za 1] s=ax (.lst (iL (R5 W.length (Dq W K)))):=Bf ok j;have g:Pz VW.gLS (Ze Y7 [Za 0,Za 2,Za 1]) s=ax (.int (ddW W K:Int)):=by show(Ze Y7 [Za 0,Za 2,Za 1] s).bind VW.gLS=_;rw[p];show(Ys (iL (R5 W.length (Dq W K)))).bind (λns=>if ns.length<=1000 then ax (PV.int ((ns.foldl iI []).length:Int)) else aA)=_;rw[Yc,aQ,p9 (by rw[JF];omega)];rfl
    rw[XD,g];show Xz aB (.int (ddW W K:Int)) (.int 1)=_;rw[Uj];show ax (PV.bl (decide ((ddW W K:Int)=1)))=_;congr 2;exact decide_eq_decide.mpr (by omega)
   rw[M3 (v:=.bl (isT W K)) (by
    rw[U6,Io,U7,e];unfold isT;rw[decide_eq_true c1,c2];by_cases c3:nL K=sortI (FQ K)
    ·rw[decide_eq_true c3];simp only[aQ,AD,if_true];rw[i];simp
    ·rw[decide_eq_false c3];rfl)]
   rfl
  ·rw[Zbh (v:=.bl aB)]
   ·show ax (PV.bl aB)=_;unfold isT;rw[oG] at c2;rw[c2];simp
   ·rw[Vj,Rx,lt,decide_eq_true c1];simp only[aQ,m9,jc,if_false];rw[oG] at c2;rw[Ry,U7,d,c2];rfl
 ·rw[Zbh (v:=.bl aB)]
  ·show ax (PV.bl aB)=_;unfold isT;rw[decide_eq_false c1];rfl
  ·rw[Vj,Rx,lt,decide_eq_false c1];rfl
theorem Zj1{n:Nat}{m:Nat->Nat}(d:0<n)(h:∀x,x<n->m x=m 0):((R5 n m).foldl iI []).length=1:=by
 have e:R5 n m=(m 0:Int)::(R5 n m).tail:=by unfold R5;obtain⟨k,rfl⟩:∃k,n=k+1:=⟨n-1,by omega⟩;rw[fu,af,List.tail_cons]
 rw[e];have:=Mf λx b=>by have a:x∈R5 n m:=List.mem_of_mem_tail b;obtain⟨y,c,rfl⟩:=ar.mp a;rw[h y (aY.mp c)]
 exact congrArg df this
theorem HG:∀{l acc:List Int},(acc++l).Nodup->l.foldl UR acc=acc++l
 | [],acc,_=>by simp
 | k::l,acc,h=>by
  have a:k∉acc:=λz=>by rw[cN] at h;exact h.2.2 k z k (by simp) rfl
  have ea:UR acc k=acc++[k]:=by unfold UR;rw[pW a]
  rw[gy,ea];have:=HG (l:=l) (acc:=acc++[k]) (by simpa using h);rw[this];simp
noncomputable def Ve(F:List Nat):List Nat:=(sortI (nL F)).map iH
theorem Ov(F:List Nat):nL (Ve F)=sortI (nL F):=by
 show((sortI (nL F)).map iH).map (λ(i:Nat)=>(i:Int))=_;rw[bZ]
 conv=>rhs;rw[<-mI (sortI (nL F))]
 refine au λx a=>?_;have:=(sortI_perm _).mem_iff.mp a;obtain⟨j,_,rfl⟩:=ar.mp this;rfl
theorem JG{a b:Nat}:(λ(i:Nat)=>(i:Int)) a=(λ(i:Nat)=>(i:Int)) b->a=b:=by grind
theorem V6(F:List Nat):(Ve F).Perm F:=by
 have:=(sortI_perm (nL F)).map iH
 have e:(nL F).map iH=F:=by
  unfold nL;rw[bZ]
  conv=>rhs;rw[<-mI F]
  exact au λx _=>rfl
 rw[e] at this;exact this
theorem Dr{n b:Nat}{E:List ZE}{s:WS}(i:WInv E n b s)(all:∀h,h<n->h∈s.F):s.B.length+1=n:=by
 have f:=RX i.ndF i.ltF;have a:=V3 (fF.mpr (cq.imp λz e=>z (JG e))) λx c=>by obtain⟨k,d,rfl⟩:=ar.mp c;exact ar.mpr ⟨k,all k (aY.mp d),rfl⟩
 have e:s.F.length=s.B.length+1:=by rw[i.hB];simp
 simp only[nL,aJ,bt] at a;omega
theorem Zb6{W:List (List Int)}(ok:Zt W){b:Nat}{s:WS}(i:WInv (eW W) W.length b s)(all:∀h,h<W.length->h∈s.F):isT W (Ve (s.B.map (·.1)))=aC:=by
 have f:=V6 (s.B.map (·.1));have m:=Dr i all;have l:∀k∈Ve (s.B.map (·.1)),k<(eW W).length:=λk a=>by obtain⟨x,d,rfl⟩:=ar.mp (f.mem_iff.mp a);exact i.ltL _ (i.bl x d)
 have g:(nL (Ve (s.B.map (·.1)))).Nodup:=by exact fF.mpr ((f.nodup_iff.mpr i.ndB).imp λz e=>z (JG e))
 unfold isT;simp only[aw,decide_eq_true_eq];refine⟨⟨by rw[f.length_eq,aJ];exact m,?_⟩,?_,?_⟩
 ·unfold Bg;exact bK.mpr λk a=>decide_eq_true (l k a)
 ·unfold FQ;rw[HG (by simpa using g)];refine sortI_eq (iR _) ?_;rw[Ov];exact Um _
 ·have c:∀x,x<W.length->Dq W (Ve (s.B.map (·.1))) x=Dq W (Ve (s.B.map (·.1))) b:=λx d=>i.cn _ (λy j=>by
   have a:=f.mem_iff.mpr (ar.mpr ⟨y,j,rfl⟩);have:swE (Zx (eW W) y.1)∈((Ve (s.B.map (·.1))).map (Zx (eW W))).map swE:=gj (gj a);exact(Ho _ this).symm) x (all x d)
  exact Zj1 ok.pos λx d=>(c x d).trans (c 0 ok.pos).symm
theorem FR(E:List ZE):(aD E.length).map (Zx E)=E:=by
 apply fS
 ·simp
 ·intro i b a;rw[oA,nA];unfold Zx;rw[aF,aE a];rfl
theorem Zb7{b:Type}{p q:b->Bool}:∀{l:List b},(∀x∈l,¬(p x=aC/\q x=aC))->l.countP (λx=>p x || q x)=l.countP p+l.countP q
 | [],_=>rfl
 | a::r,h=>by
  have d:=Zb7 (l:=r) λx c=>h x (aN _ c);have e:=h a (by simp);rw[i6,i6,i6,d];cases e1:p a<;>cases e2:q a<;>simp[e1,e2] at e ⊢<;>omega
noncomputable def FT(h o:Nat):ZE:=if h<o then(h,o) else(o,h)
theorem Zga{h o a:Nat}(c:o≠h)(b:a≠h)(e:FT h o=FT h a):o=a:=by
 unfold FT at e;split at e<;>split at e<;>cases e<;>first | rfl | omega
noncomputable def Pj(E:List ZE)(h:Nat)(G:List Nat)(j:Nat):Bool:=G.any λo=>decide (Zx E j=FT h o)
theorem Zj2{W:List (List Int)}(ok:Zt W){h o:Nat}(a:h<W.length)(b:o<W.length)(ne:o≠h):((aD (eW W).length).countP (λj=>decide (Zx (eW W) j=FT h o)):Int)=ZM W h o:=by
 have c:(aD (eW W).length).countP (λj=>decide (Zx (eW W) j=FT h o))=(eW W).count (FT h o):=by
  conv=>rhs;rw[<-FR (eW W)]
  rw[List.count,List.countP_map];refine List.countP_congr λx _=>?_;simp
 rw[c];unfold eW;rw[Hg ok.few];unfold FT;have d:=ok.lo h o a b;split
 ·rw[p9 (mem_prs.mpr ⟨by omega,by omega⟩)];show((ZM W h o).toNat:Int)=_;omega
 ·rw[p9 (mem_prs.mpr ⟨by omega,by omega⟩)];show((ZM W o h).toNat:Int)=_;rw[ok.sym o h b a];omega
theorem My{W:List (List Int)}(ok:Zt W){h:Nat}(f:h<W.length):∀{G:List Nat},G.Nodup->(∀o∈G,o<W.length/\o≠h)->((aD (eW W).length).countP (Pj (eW W) h G):Int)=Z6 W h G
 | [],_,_=>by
  have:(aD (eW W).length).countP (Pj (eW W) h [])=0:=by rw[List.countP_eq_zero];intro a _;simp[Pj]
  rw[this];rfl
 | o::G,nd,hG=>by
  have g:=aq.mp nd;have l:=My ok f g.2 λx k=>hG x (aN _ k);have i:=Zj2 ok f (hG o (by simp)).1 (hG o (by simp)).2
  have e:(aD (eW W).length).countP (Pj (eW W) h (o::G))=(aD (eW W).length).countP (λj=>decide (Zx (eW W) j=FT h o))+(aD (eW W).length).countP (Pj (eW W) h G):=by
   rw[<-Zb7]
   ·rfl
   ·intro x _ ⟨a,c⟩;have a:Zx (eW W) x=FT h o:=of_decide_eq_true a;obtain⟨d,b,c⟩:=g6.mp c;have c:Zx (eW W) x=FT h d:=of_decide_eq_true c;have:=Zga (hG o (by simp)).2 (hG d (aN _ b)).2 (a.symm.trans c);exact g.1 (this▸b)
  rw[e]
  push_cast
  rw[l,i];unfold Z6;rw[af,bR]
theorem Zb8{W:List (List Int)}(ok:Zt W){b:Nat}{s:WS}(i:WInv (eW W) W.length b s)(q:Vw (eW W) s.L s.F=aA){h:Nat}(p:h<W.length)(f:h∉s.F):Z6 W h s.F<=(YR (eW W) s.L h:Int):=by
 rw[<-My ok p i.ndF λo d=>⟨i.ltF o d,λz=>f (z▸d)⟩]
 have sub:∀x∈(aD (eW W).length).filter (Pj (eW W) h s.F),x∈s.L.filter (Fy (eW W) h):=λx j=>by
  obtain⟨g,u⟩:=bj.mp j;have g:=aY.mp g;obtain⟨o,d,c⟩:=g6.mp u;have c:Zx (eW W) x=FT h o:=of_decide_eq_true c
  have n:Fy (eW W) h x=aC:=by
   unfold Fy;rw[c];unfold FT;split<;>simp
  refine bj.mpr ⟨?_,n⟩;by_cases z:x∈s.L
  ·exact z
  ·have a:=LY q g z;rw[c] at a;unfold FT at a;split at a
   ·exact absurd (a.mpr d) f
   ·exact absurd (a.mp d) f
 have:=V3 (l:=nL ((aD (eW W).length).filter (Pj (eW W) h s.F))) (m:=nL (s.L.filter (Fy (eW W) h))) (fF.mpr ((cq.filter _).imp λz e=>z (JG e))) λx j=>by obtain⟨k,t,rfl⟩:=ar.mp j;exact ar.mpr ⟨k,sub k t,rfl⟩
 simp only[nL,aJ] at this;rw[jL];unfold YR;omega
theorem Zb9{l m:List Int}(h:l.Perm m):l.sum=m.sum:=by
 induction h with
 | nil=>rfl
 | cons x _ ih=>rw[bR,bR,ih]
 | swap x y l=>simp only[bR];omega
 | trans _ _ a b=>exact a.trans b
theorem Mz{W:List (List Int)}(ok:Zt W){h:Nat}(b:h<W.length):∀{G F:List Nat},G.Nodup->(∀x∈G,x∈F)->(∀x∈F,x<W.length)->Z6 W h G<=Z6 W h F
 | [],F,_,_,hF=>by
  show(0:Int)<=_;unfold Z6;exact Mj λx a=>by obtain⟨o,i,rfl⟩:=ar.mp a;exact ok.lo h o b (hF o i)
 | g::G,F,nd,sub,hF=>by
  have c:=aq.mp nd;have f:=sub g (by simp)
  have k:=Mz ok b (G:=G) (F:=F.erase g) c.2 (λx a=>by
   have:x≠g:=λz=>c.1 (z▸a);exact(e8 this).mpr (sub x (aN _ a))) λx a=>hF x (List.mem_of_mem_erase a)
  have d:F.Perm (g::F.erase g):=mE f;have e:Z6 W h F=ZM W h g+Z6 W h (F.erase g):=by unfold Z6;rw[Zb9 (d.map _)];rw[af,bR]
  have j:Z6 W h (g::G)=ZM W h g+Z6 W h G:=by unfold Z6;rw[af,bR]
  omega
theorem HH{W:List (List Int)}(ok:Zt W){D:List Int}{b:Nat}{s:WS}{G:List Nat}(i:WInv (eW W) W.length b s)(p:PInv (eW W) W.length (Zl D) s)(e:Vw (eW W) s.L s.F=aA)(B:Burn W D b G):∀k,k<=G.length->∀x∈G.take k,x∈s.F
 | 0,_,x,hx=>by simp at hx
 | k+1,hk,x,hx=>by
  have f:=HH ok i p e B k (by omega);have a:k<G.length:=by omega
  rw[gY,aE a] at hx;rcases aV.mp hx with z | z
  ·exact f x z
  ·have g:x=G[k]:=by simpa using z
   by_cases h:k=0
   ·subst h;have:=B.hd;rw[aE a] at this;have:G[0]=b:=bC this;rw[g,this,i.hB];simp
   ·have st:=B.st k (by omega) a;rw[aE a] at st;obtain⟨d,o,m⟩:=UD st;by_cases c:x∈s.F
    ·exact c
    ·rw[g] at c;have j:=p.out _ d c;have n:=Zb8 ok i e d c;have l:=Mz ok d (B.nd.sublist (e7 _ _)) f i.ltF;omega
end PW
namespace PW
open PySem L2 VL VX
theorem Ds{F:XS}{x:XT}{s:ZG}{k:Nat}(J:Nat->ZG->Prop)(i:J k s)(st:∀k s,J k s->x s=ax aB\/(x s=ax aC/\WH F s λs2=>∃k',k'<k/\J k' s2)):WH (XC x F) s λd=>∃k,J k d/\x d=ax aB:=by
 obtain⟨d,k',a,b,c⟩:=Zbr (c:=x) (fb:=F) J (λk s h=>by
  rcases st k s h with z | ⟨z,s2,e,k',g,f⟩
  ·exact .inl z
  ·exact .inr ⟨z,s2,k',e,g,f⟩) i
 exact⟨d,a,k',b,c⟩
end PW
namespace PW
open PySem L2 VL VX PK
noncomputable def P6(W:List (List Int))(k:Nat):List Int:=(Z8 W).getD k []
theorem Zgb{W:List (List Int)}{k:Nat}(a:k<(eW W).length):∃t:Int,P6 W k=[((Zx (eW W) k).1:Int),((Zx (eW W) k).2:Int),t]:=by obtain⟨t,e⟩:=HE a;refine⟨t,?_⟩;unfold P6;rw[aF,e];rfl
noncomputable def Tx(W:List (List Int)):PV:=.lst ((Z8 W).map pP)
theorem Bh(W:List (List Int)):Xt ((Z8 W).map pP)=(aD (eW W).length).map λ(i:Nat)=>.tup [.int (i:Int),pP (P6 W i)]:=by rw[Y6,aJ,W9];refine au λi a=>?_;have a:=aY.mp a;rw[aF,aX,aE a];unfold P6;rw[aF,aE a];rfl
theorem JH{W:List (List Int)}{k:Nat}(b:k<(eW W).length):ZR (Tx W) (.int (k:Int))=ax (pP (P6 W k)):=by
 have a:k<(Z8 W).length:=by rw[<-W9];exact b
 refine TJ (xs:=(Z8 W).map pP) ?_;unfold P6;rw[aX,aF,aE a];rfl
theorem Tz{W:List (List Int)}{k:Nat}(b:k<(eW W).length):ZR (pP (P6 W k)) (.int 0)=ax (.int ((Zx (eW W) k).1:Int))/\ZR (pP (P6 W k)) (.int 1)=ax (.int ((Zx (eW W) k).2:Int))/\PH (pP (P6 W k)) aA (ax 2)=ax (pP [((Zx (eW W) k).1:Int),((Zx (eW W) k).2:Int)]):=by obtain⟨t,a⟩:=Zgb b;rw[a];exact⟨rfl,rfl,rfl⟩
theorem Pk{W:List (List Int)}{L F:List Nat}:Xe [Tx W,.lst (iL (nL L)),.lst (iL (nL F))]=ax (UT (Vw (eW W) L F)):=by
 refine Pg (Zhg (L:=aD (eW W).length) (q:=λ(i:Nat)=>.tup [.int (i:Int),pP (P6 W i)]) (g:=λ(i:Nat)=>.int (i:Int)) (λk=>!decide (k∈L)&&(decide ((Zx (eW W) k).1∈F) != decide ((Zx (eW W) k).2∈F))) (λst=>∃x y,st=[ax (Tx W),ax (.lst (iL (nL L))),ax (.lst (iL (nL F))),x,y]) (by rw[<-Bh];rfl) ⟨aA,aA,rfl⟩ ?_ (λa e=>by unfold Vw;rw[e];rfl) λe s=>?_)
 ·rintro k c s ⟨x,y,rfl⟩;obtain⟨f,b,_⟩:=Tz (aY.mp c)
  have d:∀p q:Bool,Xz aC (.bl p) (.bl q)=ax (.bl (p != q)):=λp q=>by
   unfold Xz;rw[p9 (by rfl)];cases p<;>cases q<;>simp
  exact⟨_,rfl,xa (xb (o2 rfl rfl (Jq k L))) (xb (o2 (o2 (o2 rfl rfl f) rfl (RZ _ F)) (o2 (o2 rfl rfl b) rfl (RZ _ F)) (d _ _))),rfl,_,_,rfl⟩
 ·rintro⟨x,y,rfl⟩;refine⟨.non,rfl,?_⟩;unfold Vw;rw[e];rfl
noncomputable def bI(x:Nat×Nat×Nat):List Int:=[(x.1:Int),(x.2.1:Int),(x.2.2:Int)]
abbrev Zml(W:List (List Int))(b:Nat)(C:PV)(s:WS)(x7 x8 x9:Option PV):ZG:=[ax (wP W),ax (.int (b:Int)),ax C,ax (Tx W),ax (.lst (iL (nL s.F))),ax (.lst (iL (nL s.L))),ax (.lst (s.B.map λx=>pP (bI x))),x7,x8,x9]
theorem Va{W:List (List Int)}:∀e∈eW W,e.1<W.length/\e.2<W.length:=λe a=>by have:=HC e a;omega
theorem Ox{E:List ZE}{k:Nat}(h:k<E.length):Zx E k∈E:=by unfold Zx;rw[aF,aE h];exact bQ h
theorem Zj3{s:ZG}{i:Nat}{fs:List XE}{ls:List PV}{Lm:Lam}{l:PV}{v:Bool}(g:s[i]?=ax (ax (.clo Lm l)))(a:PB fs s=ax ls)(c:YM l=aC)(b:Xh ls=aC)(d:VZ Lm l ls=ax (.bl v)):xV (Zak VZ i fs) s=ax v:=by unfold xV Zak;rw[g];simp only;rw[a];simp only[aQ];rw[p9 (by rw[c,b];rfl),d];rfl
theorem Bi{W:List (List Int)}{L:List Nat}{h:Nat}{s:ZG}(a:∀j∈L,j<(eW W).length)(g:L.length<=1000)(f:Za 5 s=ax (.lst (iL (nL L))))(e:ZH 1 [8,3] s=[aA,ax (.int (h:Int)),ax (Tx W)]) :
  Ze ZN [Zw 1 [8,3] (YL (Za 5)) (.one 0) (xB (Zm (PF aB) (Za 1) (O0 PH (Zm ZR (Za 2) (Za 0)) MR (Qk (eC (.int 2)))))) (Za 0)] s=ax (.int (YR (eW W) L h:Int)):=by
 refine c1 (XG L (λ(i:Nat)=>.int (i:Int)) (λ(i:Nat)=>.int (i:Int)) (Fy (eW W) h) (by unfold YL;rw[f];simp[nL]) (by omega) λy c=>⟨[ax (.int (y:Int)),ax (.int (h:Int)),ax (Tx W)],by rw[e];rfl,?_,λ_=>rfl⟩) (by simp[YR]);obtain⟨_,_,d⟩:=Tz (a y c);refine xb (o2 (b:=pP [((Zx (eW W) y).1:Int),((Zx (eW W) y).2:Int)]) rfl ?_ ?_)
 ·show((ZR (Tx W) (.int (y:Int))).bind λx=>PH x aA (ax 2))=_;rw[JH (a y c)];exact d
 ·rw[Dp];simp[Fy,gv]
theorem L7{W:List (List Int)}(ok:Zt W){b:Nat}(I:b<W.length){Lm:Lam}{l:PV}{φ:Nat->Nat->Nat->Bool}(D:YM l=aC)
  (J:∀k h c:Nat,k<(eW W).length->h<W.length->VZ Lm l [.int (k:Int),.int (h:Int),.int (c:Int)]=ax (.bl (φ k h c))) :
  V0 [wP W,.int (b:Int),.clo Lm l]=ax (.lst ((ZZ (eW W) φ (eW W).length (Sn b)).B.map λx=>pP (bI x))):=by
 have Q:=ok.few;have B:=Wa ok;have U:(eW W).length<=441:=by rw[W9];exact B.2
 refine Pg (ZU (Zp (c1 rfl B.1)) (ZU rfl (ZU rfl (ZU rfl (ZU (Zp (c3 rfl rfl rfl (Pk (L:=[]) (F:=[b])))) (Wu (Ds (k:=(eW W).length) (λk st=>∃s p u,st=Zml W b (.clo Lm l) s (ax (UT (Vw (eW W) s.L s.F))) p u/\WInv (eW W) W.length b s/\(eW W).length<=k+s.L.length/\ZZ (eW W) φ k s=ZZ (eW W) φ (eW W).length (Sn b)) ⟨Sn b,aA,aA,rfl,WInv.start I,by simp,rfl⟩ ?_) ?_))))))
 ·rintro k st ⟨s,p,u,rfl,d,G,A⟩
  cases e:Vw (eW W) s.L s.F with
  | none=>exact .inl rfl
  | some j=>
   cases k with
   | zero=>
    have:=RY (φ:=φ) Va d (m:=0) (by omega);unfold ZZ at this;rw[e] at this;cases this
   | succ k=>
    obtain⟨f,X,_⟩:=Wc e;obtain⟨P,S,o,N,E⟩:=Tt e
    have w:YG (eW W) s.F j<W.length:=by
     have:=Va _ (Ox f);rcases E with z | z<;>rw[z] at this
     ·exact this.2
     ·exact this.1
    have O:=RX d.ndL d.ltL;have T:=RX d.ndF d.ltF;have M:s.F.length=s.B.length+1:=by rw[d.hB];simp
    obtain⟨t,C,_⟩:=Tz f;have g:=JH f;let h:=YG (eW W) s.F j;let c:=YR (eW W) (s.L++[j]) h;refine .inr ⟨rfl,Z4 (Js rfl rfl (by omega)) (Z4 (Zp (vP (a:=(h:Int)) ?_)) (Z4 (Zp (vP (Bi (h:=h) (L:=s.L++[j]) (λi H=>?_) (by rw[aT,bu];omega) rfl rfl))) (L3 (R:=λst=>st=Zml W b (.clo Lm l) (Yr (eW W) φ s j) (ax (.int (j:Int))) (ax (.int (h:Int))) (ax (.int (c:Int)))) (L4 (Zj3 rfl rfl D rfl (J j h c f w)) (λv=>Z4 (Js (k:=h) rfl rfl (by omega)) (R0 (Jr (λx=>pP (bI x)) (y:=(j,h,c)) rfl rfl (by omega)) ?_)) λv=>R0 rfl ?_) ?_)))⟩
    ·show _=ax (PV.int (YG (eW W) s.F j:Int));unfold YG;by_cases q:(Zx (eW W) j).1∈s.F
     ·rw[p9 q];exact Ml (xb ((o2 (o2 (o2 rfl rfl g) rfl t) rfl (RZ _ _)).trans (by rw[decide_eq_true q]))) (o2 (o2 rfl rfl g) rfl C)
     ·rw[pW q];exact Mm (xb ((o2 (o2 (o2 rfl rfl g) rfl t) rfl (RZ _ _)).trans (by rw[decide_eq_false q]))) (o2 (o2 rfl rfl g) rfl t)
    ·rcases aV.mp H with z | z
     ·exact d.ltL i z
     ·rw[aM.mp z];exact f
    ·unfold Yr;rw[p9 v];rfl
    ·unfold Yr;rw[pW (by rw[v];decide)];rfl
    ·rintro st rfl;refine R0 (Zp (c3 rfl rfl rfl Pk)) ⟨k,by omega,Yr (eW W) φ s j,_,_,rfl,d.step Va e,by rw[Fz,aT,bu];omega,?_⟩;rw[<-A]
     conv=>rhs;unfold ZZ
     rw[e]
 ·rintro st ⟨k,⟨s,p,u,rfl,d,G,A⟩,q⟩;refine⟨_,rfl,?_⟩;rw[<-A]
  cases k with
  | zero=>rfl
  | succ n=>
   unfold ZZ
   cases e:Vw (eW W) s.L s.F with
   | none=>rfl
   | some h=>rw[e] at q;cases q
theorem HI(st:cB)(i:Nat)(q f:bH):(NG st i q f).free=f:=by
 unfold NG;split
 ·split<;>rfl
 ·rfl
theorem FU{s t:cB}{i j:Nat}{p q f g:bH}(h:f≠g):NG s i p f≠NG t j q g:=λz=>h (by
 have:=congrArg Lam.free z
 rwa [HI,HI] at this)
theorem FV{K:List Nat}{k h c:Nat}:VZ Yn (pP (nL K)) [.int (k:Int),.int (h:Int),.int (c:Int)]=ax (.bl (decide (k∈K))):=by unfold VZ;rw[p9 rfl];exact o2 rfl rfl (by rw[Dp];simp only[Mg];rfl)
theorem Bj{D:List Int}{k h c:Nat}(a:h<D.length):VZ YO (pP D) [.int (k:Int),.int (h:Int),.int (c:Int)]=ax (.bl (By (Zl D) k h c)):=by unfold VZ;rw[pW (show YO≠Yn from FU (by decide)),pW (show YO≠YN from FU (by decide)),p9 rfl];exact o2 (o2 rfl rfl (YD a)) rfl rfl
theorem We(D:List Int):YM (pP D)=aC:=by
 show Xh (iL D)=aC
 induction D with
 | nil=>rfl
 | cons a r ih=>exact ih
theorem MA{W:List (List Int)}(ok:Zt W){b:Nat}(d:b<W.length){Lm:Lam}{l:PV}{φ:Nat->Nat->Nat->Bool}(f:YM l=aC)
  (i:∀k h c:Nat,k<(eW W).length->h<W.length->VZ Lm l [.int (k:Int),.int (h:Int),.int (c:Int)]=ax (.bl (φ k h c))) :
  WL [wP W,.int (b:Int),.clo Lm l]=ax (pP (nL (Ve ((ZZ (eW W) φ (eW W).length (Sn b)).B.map (·.1))))):=by
 have e:=L7 ok d f i;generalize g:ZZ (eW W) φ (eW W).length (Sn b)=s at e ⊢;have a:WInv (eW W) W.length b s:=by rw[<-g];exact WInv.walk Va (WInv.start d)
 have p:=RX a.ndF a.ltF;have m:s.F.length=s.B.length+1:=by rw[a.hB];simp
 have o:=ok.few;have j:(s.B.map λx=>PV.int (x.1:Int))=iL (nL (s.B.map (·.1))):=by simp[nL]
 refine XX (ret (HS ?_));rw[Ov];exact c1 (c1 ((ZL s.B (λx=>pP (bI x)) (λx=>.int (x.1:Int)) (by unfold YL;rw[c3 (D:=V0) rfl rfl rfl e];rfl) (by omega) λx n=>⟨_,rfl,rfl,rfl⟩).trans (by rw[j])) (Mw (by rw[aJ];omega))) rfl
theorem M4{W:List (List Int)}{D:List Int}{b:Nat}{F:List Nat}(c:D.length<=1000)(d:Vk [wP W,pP D,.int (b:Int)]=ax (.lst (iL (nL F))))(hd:Xl D b=[])(e:F.length=W.length) :
  WD [wP W,pP D,.int (b:Int)]=ax (.bl aC):=by
 have a:=S3 (b:=b) c;rw[hd] at a;exact XX (ret (ep (ea (p:=aC) (p2:=aC) ((C2 (b:=0) (c1 (c2 rfl rfl a) (Mx (L:=[]))) rfl).trans rfl) ((C2 (c1 (c3 rfl rfl rfl d) Mx) (c1 rfl Vq)).trans (by rw[decide_eq_true (by omega)])))))
noncomputable def R6(W:List (List Int))(D:List Int)(b:Nat):WS:=ZZ (eW W) (By (Zl D)) (eW W).length (Sn b)
noncomputable def MB(W:List (List Int))(D:List Int)(b:Nat):List Nat:=Ve ((R6 W D b).B.map (·.1))
theorem FW{W:List (List Int)}(ok:Zt W){D:List Int}(hd:D.length=W.length){b:Nat}(d:b<W.length)(e:WD [wP W,pP D,.int (b:Int)]=ax (.bl aC)):T7 [wP W,.int (b:Int),pP D]=ax (pP (nL (MB W D b))):=by have f:=MA ok d (We D) (Lm:=YO) (φ:=By (Zl D)) λk h c _ a=>Bj (by rw[hd];exact a);refine XX (sq (gof (xn (p:=aC) (xb (c3 rfl rfl rfl e)))) (ret ?_));show(WL [wP W,.int (b:Int),.clo YO (pP D)]).bind _=_;rw[f,aQ,p9 (We _)];rfl
theorem Zca{W:List (List Int)}(ok:Zt W){D:List Int}{b:Nat}(a:b<W.length){G:List Nat}(B:Burn W D b G)(all:G.length=W.length)(f:∀g,g<W.length->g≠b->0<=Zl D g):∀h,h<W.length->h∈(R6 W D b).F:=λh d=>by
 have c:WInv (eW W) W.length b (R6 W D b):=WInv.walk Va (WInv.start a);have i:PInv (eW W) W.length (Zl D) (R6 W D b):=PInv.walk Va (PInv.start f);have j:Vw (eW W) (R6 W D b).L (R6 W D b).F=aA:=RY Va (WInv.start a) (by simp)
 have o:h∈G:=by
  have:=V3 (l:=nL (aD W.length)) (m:=nL G) (fF.mpr (cq.imp λz e=>z (JG e)));by_cases z:h∈G
  ·exact z
  ·have:=RX (n:=W.length) (Si B.nd z) λx k=>by
    rcases aV.mp k with y | y
    ·exact B.lt x y
    ·rw[aM.mp y];exact d
   rw[aT,bu] at this;omega
 exact HH ok c i j B G.length (aZ _) h (by rw[ck];exact o)
theorem L8{W:List (List Int)}{D a:List Int}{b:Nat}(h:∀g,g≠b->Zl D g=Zl a g):R6 W D b=R6 W a b:=
 Me (λk g c d=>by unfold By;rw[h g d]) (by simp[Sn])
noncomputable def So(B:List (Nat×Nat×Nat))(c:List Int):List Int:=B.foldl (λc x=>c.set x.2.1 ((x.2.2:Int)-1)) c
theorem MC:∀(B:List (Nat×Nat×Nat))(c:List Int),(So B c).length=c.length
 | [],_=>rfl
 | x::B,c=>by show(So B (c.set _ _)).length=_;rw[MC,cG]
theorem Bk(B:List (Nat×Nat×Nat))(x:Nat×Nat×Nat)(c:List Int):So (B++[x]) c=(So B c).set x.2.1 ((x.2.2:Int)-1):=by unfold So;rw[jq];rfl
theorem Zmm{n:Nat}(a:n<=1000):Gu (.lst [.int 0]) (.int (n:Int))=ax (.lst (iL (aS n 0))):=by show(if ZC [PV.int 0]=aC/\(-1000000:Int)<=(n:Int)/\(n:Int)<=1000000/\[PV.int 0].length*((n:Int)).toNat<=10000 then ax (PV.lst (aS ((n:Int)).toNat [PV.int 0]).flatten) else aA)=_;rw[p9 ⟨rfl,by omega,by omega,by simp;omega⟩,bV,Ib];simp
theorem HJ{W:List (List Int)}(ok:Zt W){b:Nat}(j:b<W.length){K:List Nat} :
  Uv [wP W,.int (b:Int),pP (nL K)]=ax (pP (So (ZZ (eW W) (λk _ _=>decide (k∈K)) (eW W).length (Sn b)).B (aS W.length 0))):=by
 have m:=L7 ok j (We (nL K)) (Lm:=Yn) (φ:=λk _ _=>decide (k∈K)) λk h c _ _=>FV;generalize n:ZZ (eW W) (λk _ _=>decide (k∈K)) (eW W).length (Sn b)=s at m ⊢;have g:WInv (eW W) W.length b s:=by rw[<-n];exact WInv.walk Va (WInv.start j)
 have w:=ok.few;have p:∀x∈s.B,x.2.1<W.length:=λx u=>g.ltF _ (by rw[g.hB];exact aN _ (ar.mpr ⟨x,u,rfl⟩))
 have t:∀B:List (Nat×Nat×Nat),Xh (B.map λx=>pP (bI x))=aC:=λB=>by
  induction B with
  | nil=>rfl
  | cons x r ih=>
   show(YM (pP (bI x))&&Xh _)=aC;rw[We];exact ih
 refine Pg (ZU (Zp (o2 (a:=.lst [.int 0]) rfl (c1 rfl Vq) (Zmm (by omega)))) (ZU (Zp (v:=.lst (s.B.map λx=>pP (bI x))) ?_) (Wu (Tu (ls:=s.B.map λx=>pP (bI x)) (λi st=>∃d e f,st=[ax (wP W),ax (.int (b:Int)),ax (pP (nL K)),ax (.lst (iL (So (s.B.take i) (aS W.length 0)))),ax (.lst (s.B.map λx=>pP (bI x))),d,e,f]) rfl ⟨aA,aA,aA,rfl⟩ ?_) ?_)))
 ·show(V0 [wP W,.int (b:Int),.clo Yn (pP (nL K))]).bind _=_;rw[m,aQ,p9 (show YM (PV.lst _)=aC from t _)]
 ·rintro i l st o ⟨d,e,f,rfl⟩;obtain⟨x,q,rfl⟩:∃x,s.B[i]?=ax x/\pP (bI x)=l:=by simpa using o
  refine⟨_,rfl,R0 (FE (k:=x.2.1) rfl (Bz rfl rfl) rfl (by rw[MC,cL];exact p x (av q))) ⟨ax (.int (x.1:Int)),ax (.int (x.2.1:Int)),ax (.int (x.2.2:Int)),?_⟩⟩;rw[show s.B.take (i+1)=s.B.take i++[x] by rw[gY,q];rfl,Bk];rfl
 ·rintro st ⟨d,e,f,rfl⟩;exact Vx (HS (c1 rfl rfl)) (by rw[aJ,ck])
theorem MD{h:Nat}:∀{B:List (Nat×Nat×Nat)}{c:List Int},(∀x∈B,x.2.1≠h)->(So B c)[h]?=c[h]?
 | [],_,_=>rfl
 | x::B,c,hb=>by show(So B (c.set x.2.1 _))[h]?=_;rw[MD λy a=>hb y (aN _ a),i9 (hb x (by simp))]
theorem Dt{x:Nat×Nat×Nat}:∀{B:List (Nat×Nat×Nat)}{c:List Int},(B.map (·.2.1)).Nodup->x∈B->x.2.1<c.length->(So B c)[x.2.1]?=ax ((x.2.2:Int)-1)
 | [],_,_,h,_=>by simp at h
 | y::B,c,nd,h,hl=>by
  rw[af] at nd;have a:=aq.mp nd;show(So B (c.set y.2.1 _))[x.2.1]?=_;rcases aa.mp h with e | h
  ·subst e;rw[MD λz b e=>a.1 (ar.mpr ⟨z,b,e⟩),iK hl]
  ·exact Dt a.2 h (by rw[cG];exact hl)
section
variable {E:List ZE} {n b m:Nat} {s:WS} {φ:Nat->Nat->Nat->Bool} {g:List Nat}
theorem Q3:∀{m:Nat}{s:WS}{x:Nat×Nat×Nat},x∈(ZZ E φ m s).B->x∈s.B\/YR E s.L x.2.1+1<=x.2.2
 | 0,s,x,h=>.inl h
 | m+1,s,x,h=>by
  unfold ZZ at h;split at h
  ·rename_i k a;rcases Q3 (s:=Yr E φ s k) h with z | z
   ·unfold Yr at z;split at z
    ·rcases aV.mp z with y | y
     ·exact .inl y
     ·rw[aM.mp y];exact .inr (by rw[Hl (Tt a).2.1];exact aZ _)
    ·exact .inl z
   ·rw[Fz] at z;refine .inr (cD (ng ?_) z);unfold YR;rw[gA,aT];omega
  ·exact .inl h
theorem Du{D:Nat->Int}(f:∀e∈E,e.1<n/\e.2<n):∀{m:Nat}{s:WS},WInv E n b s->(∀x∈(ZZ E φ m s).B,(x.2.2:Int)=D x.2.1+1)->(∀h,h<n->h∈(ZZ E φ m s).F)->ZZ E (By D) m s=ZZ E φ m s
 | 0,s,_,_,_=>rfl
 | m+1,s,i,hD,all=>by
  have d:=WInv.walk (φ:=φ) (m:=m+1) f i;unfold ZZ at hD all d ⊢
  cases z:Vw E s.L s.F with
  | none=>rfl
  | some k=>
   rw[z] at hD all d;simp only at hD all d ⊢;obtain⟨v,G,_⟩:=Wc z;obtain⟨t,H,o,F,B⟩:=Tt z;have C:=Ox (E:=E) v
   have lt:YG E s.F k<n:=by
    have:=f _ C;rcases B with y | y<;>rw[y] at this
    ·exact this.2
    ·exact this.1
   have same:Yr E (By D) s k=Yr E φ s k:=by
    by_cases c:φ k (YG E s.F k) (YR E (s.L++[k]) (YG E s.F k))=aC
    ·have g:(k,YG E s.F k,YR E (s.L++[k]) (YG E s.F k))∈(Yr E φ s k).B:=by unfold Yr;rw[p9 c];simp
     have:=hD _ (LZ g);simp only at this;unfold Yr;have j:By D k (YG E s.F k) (YR E (s.L++[k]) (YG E s.F k))=aC:=decide_eq_true (by omega);rw[p9 c,p9 j]
    ·have p:=all _ lt;rw[d.hB] at p;have l:(Yr E φ s k).B=s.B:=by unfold Yr;rw[pW c]
     rcases aa.mp p with y | y
     ·exact absurd (y▸(by rw[i.hB];simp:b∈s.F)) t
     ·obtain⟨x,g,a⟩:=ar.mp y;have a:x.2.1=YG E s.F k:=a;have u:=hD x g;rcases Q3 g with w | w
      ·rw[l] at w;have A:YG E s.F k∈b::s.B.map (·.2.1):=aN _ (ar.mpr ⟨x,w,a⟩);exact absurd (i.hB.symm▸A) t
      ·rw[Fz,a] at w;rw[a] at u;unfold Yr;rw[pW c,pW];exact λq=>by have:=of_decide_eq_true q;omega
   rw[same];exact Du f (i.step f z) hD all
structure TInv(E:List ZE)(g:List Nat)(s:WS):Prop where
 two:∀k∈s.L,k∈g->(Zx E k).1∈s.F/\(Zx E k).2∈s.F
 sub:∀x∈s.B,x.1∈g
theorem TInv.walk:∀{m:Nat}{s:WS},TInv E g s->TInv E g (ZZ E (λk _ _=>decide (k∈g)) m s)
 | 0,s,i=>i
 | m+1,s,i=>by
  unfold ZZ;split
  ·rename_i k l;refine TInv.walk ?_;obtain⟨p,n,o,a,e⟩:=Tt l;unfold Yr;by_cases q:k∈g
   ·rw[p9 (decide_eq_true q)];refine⟨λj d b=>?_,λx f=>?_⟩
    ·rcases aV.mp d with y | y
     ·have:=i.two j y b;exact⟨ao _ this.1,ao _ this.2⟩
     ·rw[aM.mp y];have a:o∈s.F++[YG E s.F k]:=ao _ a;have c:YG E s.F k∈s.F++[YG E s.F k]:=by simp
      generalize YG E s.F k=h at e a c;rcases e with y | y<;>rw[y]
      ·exact⟨a,c⟩
      ·exact⟨c,a⟩
    ·rcases aV.mp f with y | y
     ·exact i.sub x y
     ·rw[aM.mp y];exact q
   ·rw[pW (by simpa using q)];refine⟨λj d b=>?_,i.sub⟩;rcases aV.mp d with y | y
    ·exact i.two j y b
    ·rw[aM.mp y] at b;exact absurd b q
  ·exact i
end
structure QInv(W:List (List Int))(s:WS):Prop where
 lk:∀k∈s.L,(Zx (eW W) k).1∈s.F\/(Zx (eW W) k).2∈s.F
 few:∀i x,s.B[i]?=ax x->(x.2.2:Int)<=Z6 W x.2.1 (s.F.take (i+1))
theorem Zcb{W:List (List Int)}(ok:Zt W){L F:List Nat}(m:L.Nodup)(lt:∀k∈L,k<(eW W).length)(c:F.Nodup)(d:∀h∈F,h<W.length)(l:∀k∈L,(Zx (eW W) k).1∈F\/(Zx (eW W) k).2∈F){h:Nat}(j:h<W.length)(b:h∉F):(YR (eW W) L h:Int)<=Z6 W h F:=by
 rw[<-My ok j c λo g=>⟨d o g,λz=>b (z▸g)⟩]
 have sub:∀x∈L.filter (Fy (eW W) h),x∈(aD (eW W).length).filter (Pj (eW W) h F):=λx p=>by
  obtain⟨e,f⟩:=bj.mp p;refine bj.mpr ⟨aY.mpr (lt x e),?_⟩;have n:=lt x e;have s:=Ox (E:=(eW W)) n;have t:=(HC _ s).1;have a:=l x e;unfold Fy at f;simp only[jH,decide_eq_true_eq] at f;refine g6.mpr ?_;unfold FT;by_cases q:h=(Zx (eW W) x).1
  ·rcases a with y | y
   ·exact absurd (q▸y) b
   ·exact⟨_,y,decide_eq_true (by rw[p9 (by omega),q])⟩
  ·have i:h=(Zx (eW W) x).2:=f.resolve_left q;rcases a with y | y
   ·exact⟨_,y,decide_eq_true (by rw[pW (by omega),i])⟩
   ·exact absurd (i▸y) b
 have:=Oo (m.filter _) sub;rw[jL];unfold YR;omega
theorem QInv.walk{W:List (List Int)}(ok:Zt W){b:Nat}{φ:Nat->Nat->Nat->Bool}:∀{m:Nat}{s:WS},WInv (eW W) W.length b s->QInv W s->QInv W (ZZ (eW W) φ m s)
 | 0,s,_,i=>i
 | m+1,s,wi,i=>by
  unfold ZZ;split
  ·rename_i k e;refine QInv.walk ok (wi.step Va e) ?_;obtain⟨l,n,_⟩:=Wc e;obtain⟨v,w,o,g,f⟩:=Tt e;have u:=Ox (E:=(eW W)) l
   have lt:YG (eW W) s.F k<W.length:=by
    have:=Va _ u;rcases f with y | y<;>rw[y] at this
    ·exact this.2
    ·exact this.1
   have d:∀j∈s.L++[k],(Zx (eW W) j).1∈s.F\/(Zx (eW W) j).2∈s.F:=λj c=>by
    rcases aV.mp c with y | y
    ·exact i.lk j y
    ·rw[aM.mp y];generalize YG (eW W) s.F k=h at f;rcases f with y | y<;>rw[y]
     ·exact .inl g
     ·exact .inr g
   unfold Yr;split
   ·refine⟨λj c=>?_,λj x a=>?_⟩
    ·rcases d j c with y | y
     ·exact .inl (ao _ y)
     ·exact .inr (ao _ y)
    ·have p:s.F.length=s.B.length+1:=by rw[wi.hB];simp
     by_cases q:j<s.B.length
     ·rw[aj q] at a;rw[fU (by omega)];exact i.few j x a
     ·have t:=(aR.mp a).1;rw[aT,bu] at t;have:j=s.B.length:=by omega
      subst this;rw[bA (aZ _),Nat.sub_self] at a;have a:=bC a;subst a;rw[show s.B.length+1=s.F.length from p.symm,oQ rfl];refine Zcb ok (Si wi.ndL n) (λj c=>?_) wi.ndF wi.ltF d lt v;rcases aV.mp c with y | y
      ·exact wi.ltL j y
      ·rw[aM.mp y];exact l
   ·exact⟨d,i.few⟩
  ·exact i
theorem QInv.start(W:List (List Int))(b:Nat):QInv W (Sn b):=⟨λk c=>by simp[Sn] at c,λi x a=>by simp[Sn] at a⟩
structure Zmn(W:List (List Int))(b:Nat)(D:List Int):Prop where
 len:D.length=W.length
 base:Zl D b=0
 set:∃F,Settled W b D F
noncomputable def stl(W:List (List Int))(b:Nat)(g:List Nat):List Int:=So (ZZ (eW W) (λk _ _=>decide (k∈g)) (eW W).length (Sn b)).B (aS W.length 0)
theorem HK{l:List Int}{i:Nat}{v:Int}(h:l[i]?=ax v):Zl l i=v:=by unfold Zl;rw[aF,h];rfl
theorem FX{W:List (List Int)}(ok:Zt W){b:Nat}(m:b<W.length){g:List Nat}(lt:∀t∈g,t<(eW W).length)(G:g.Pairwise (· < ·))(Q:∀q:Nat->Nat,(∀t∈g,q (Zx (eW W) t).1=q (Zx (eW W) t).2)->∀x,x<W.length->q x=q 0)(hl:g.length+1=W.length):Zmn W b (stl W b g)/\MB W (stl W b g) b=g:=by
 unfold stl MB R6;generalize j:ZZ (eW W) (λk _ _=>decide (k∈g)) (eW W).length (Sn b)=s;have d:WInv (eW W) W.length b s:=by rw[<-j];exact WInv.walk Va (WInv.start m)
 have I:TInv (eW W) g s:=by rw[<-j];exact TInv.walk ⟨λk w=>by simp[Sn] at w,λx a=>by simp[Sn] at a⟩
 have S:QInv W s:=by rw[<-j];exact QInv.walk ok (WInv.start m) (QInv.start W b)
 have U:Vw (eW W) s.L s.F=aA:=by rw[<-j];exact RY Va (WInv.start m) (by simp)
 have O:b∈s.F:=by rw[d.hB];simp
 have all:∀h,h<W.length->h∈s.F:=λh f=>by
  have n:=Q (λx=>if x∈s.F then 1 else 0) λt L=>by
   by_cases q:t∈s.L
   ·have:=I.two t q L;simp only[this.1,this.2,if_true]
   ·have:=LY U (lt t L) q;simp only[this]
  have y:=n h f;have N:=n b m;simp only[O,if_true] at N;rw[<-N] at y;by_cases q:h∈s.F
  ·exact q
  ·simp[q] at y
 have C:(s.B.map (·.2.1)).Nodup:=by have:=d.ndF;rw[d.hB] at this;exact(aq.mp this).2
 have P:∀x∈s.B,x.2.1≠b:=λx a e=>by have:=d.ndF;rw[d.hB] at this;exact(aq.mp this).1 (ar.mpr ⟨x,a,e⟩)
 have o:∀x∈s.B,x.2.1<W.length:=λx a=>d.ltF _ (by rw[d.hB];exact aN _ (ar.mpr ⟨x,a,rfl⟩));let D:=So s.B (aS W.length 0);have M:D.length=W.length:=by show(So _ _).length=_;rw[MC,cL]
 have A:∀x∈s.B,(x.2.2:Int)=Zl D x.2.1+1:=λx a=>by have:=HK (v:=(x.2.2:Int)-1) (Dt (c:=aS W.length 0) C a (by rw[cL];exact o x a));show(x.2.2:Int)=Zl (So s.B (aS W.length 0)) x.2.1+1;rw[this];omega
 have T:Zl D b=0:=HK (by show(So _ _)[b]?=_;rw[MD P,b7,p9 m]);have same:ZZ (eW W) (By (Zl D)) (eW W).length (Sn b)=s:=by rw[<-j];exact Du (b:=b) Va (WInv.start m) (by rw[j];exact A) (by rw[j];exact all)
 have one:∀h,h<W.length->h≠b->∃(i:Nat) (x:Nat×Nat×Nat),s.B[i]?=ax x/\x.2.1=h:=λh f l=>by
  have:=all h f;rw[d.hB] at this;rcases aa.mp this with z | z
  ·exact absurd z l
  ·obtain⟨x,a,E⟩:=ar.mp z;obtain⟨i,X,e⟩:=bp a;exact⟨i,x,by rw[aE X,e],E⟩
 refine⟨⟨M,T,?_⟩,?_⟩
 ·obtain⟨F,_,B,nx⟩:=Mi ok M m
  have sub:∀k,k<=s.B.length->∀h∈s.F.take (k+1),h∈F:=by
   intro k
   induction k with
   | zero=>
    intro _ h f;rw[d.hB] at f;rw[show h=b by simpa using f];exact av B.hd
   | succ k u=>
    intro w h f;have u:=u (by omega);rw[gY] at f;rcases aV.mp f with z | z
    ·exact u h z
    ·obtain⟨x,a⟩:∃x,s.B[k]?=ax x:=⟨_,aE (by omega)⟩;have J:h=x.2.1:=by rw[d.hB,kX,aX,a] at z;simpa using z
     have p:h<W.length:=by rw[J];exact o x (av a)
     by_cases q:h∈F
     ·exact q
     ·have Z:=Mh nx p q;have n2:=Mz ok p (d.ndF.sublist (e7 _ _)) u B.lt;have R:=S.few k x a;have H:=A x (av a);rw[<-J] at R H;omega
  refine⟨F,λh f l=>?_,B,nx,λh f=>?_⟩
  ·obtain⟨i,x,a,E⟩:=one h f l;have H:=A x (av a);rw[E] at H;have:=Q3 (s:=Sn b) (by rw[j];exact av a);rcases this with z | z
   ·simp[Sn] at z
   ·show 0<=Zl D h;omega
  ·have lF:s.F.length=s.B.length+1:=by rw[d.hB];simp
   have:=sub s.B.length (aZ _) h;rw[bY (by omega)] at this;exact this (all h f)
 ·show Ve ((ZZ (eW W) (By (Zl D)) (eW W).length (Sn b)).B.map (·.1))=g;rw[same];have ln:=Dr d all
  have Y:(s.B.map (·.1)).Perm g:=Q8 d.ndB (λk w=>by
   obtain⟨x,a,rfl⟩:=ar.mp w;exact I.sub x a) (by rw[aJ];omega)
  unfold Ve;have y:nL g=sortI (nL (s.B.map λx=>x.1)):=sortI_eq (Y.symm.map _) (fF.mpr (G.imp λh=>by omega));rw[<-y];unfold nL;rw[bZ]
  conv=>rhs;rw[<-mI g]
  exact au λx _=>bV x
theorem Settled.len{W:List (List Int)}{b:Nat}{D:List Int}{F:List Nat}(s:Settled W b D F):F.length=W.length:=by have d:=s.burn.len;have a:=Oo (l:=aD W.length) (m:=F) cq λx c=>s.all x (aY.mp c);rw[bt] at a;omega
end PW
namespace PW
open L2 VL VX PK
theorem FY{W:List (List Int)}{D S:List Int}{X Y:PV}(ok:Zt W)(hd:D.length=W.length)(v:∀k:Nat,k<W.length->ZR X (.int (k:Int))=ax (.int (Zl D k)))(t:∀k:Nat,k<W.length->ZR Y (.int (k:Int))=ax (.int (Zl S k))) :
  Nu [wP W,X,Y]=ax (pP (ZT W D S)):=by
 have x:=ok.few;have w:(ZT W D S).length=W.length:=by rw[Z9,hd]
 let st:Nat->Option PV->Option PV->Option PV->Option PV->ZG:=λi f m c d=>[ax (wP W),ax X,ax Y,ax (.lst (iL ((ZT W D S).take i))),f,m,c,d];let part:Nat->Nat->Int:=λh j=>Zl D h-sN j (λg=>ZM W h g*(Zl S h-Zl S g));refine Pg (ZU (s1:=st 0 aA aA aA aA) rfl (Wu (Mk (n:=W.length) (λi s=>∃f m c d,s=st i f m c d) (c1 rfl Vq) ⟨aA,aA,aA,aA,rfl⟩ ?_) ?_))
 ·rintro h s b ⟨f,m,c,d,rfl⟩
  have u:part h W.length=Zl (ZT W D S) h:=by
   rw[W7 (by omega)];show Zl D h-sN W.length _=_
   have:sN W.length (λg=>ZM W h g*(Zl S h-Zl S g))=(-1)*gN W (Zl S) h:=by
    unfold gN;rw[<-ZJ];exact Zi λg _=>by rw[fC,fC];omega
   rw[this];omega
  refine Z4 (Zp (vP (a:=part h 0) ((o2 rfl rfl (v h b)).trans (by rw[show part h 0=Zl D h from Int.sub_zero _])))) (L3 (Mk (n:=W.length) (λj s=>∃p q,s=st h (ax (.int (h:Int))) (ax (.int (part h j))) p q) (c1 rfl Vq) ⟨c,d,rfl⟩ ?_) ?_)
  ·rintro j s o ⟨p,q,rfl⟩;have lo:=ok.lo h j b o;have y:=ok.hi h j b o;have e:part h j-ZM W h j*(Zl S h-Zl S j)=part h (j+1):=by show Zl D h-sN j (λg=>ZM W h g*(Zl S h-Zl S g))-ZM W h j*(Zl S h-Zl S j)=Zl D h-(sN j (λg=>ZM W h g*(Zl S h-Zl S g))+ZM W h j*(Zl S h-Zl S j));omega
   exact Z4 (Zp (vP (Bz (o2 rfl rfl (t h b)) (o2 rfl rfl (t j o))))) (R0 (Zp (vP (a:=part h (j+1)) ((Bz rfl (vC (C:=CMul) (op:=(· * ·)) (Zmg b (by rw[ok.sq h b];exact o) rfl rfl rfl) rfl (.inl (by omega)))).trans (by rw[<-e])))) ⟨_,_,rfl⟩)
  ·rintro s ⟨p,q,rfl⟩;exact R0 (Zjr (l:=ZT W D S) (k:=h) (by rw[<-u];exact vP rfl) rfl (by omega) (by omega)) ⟨_,_,_,_,rfl⟩
 ·rintro s ⟨f,m,c,d,rfl⟩;exact Vx (HS (c1 rfl (by rw[bY (by omega)];rfl))) rfl
theorem Zgc{l:List Int}{k:Nat}{v:Int}(b:k<l.length):(l.set k v).sum=l.sum+(v-Zl l k):=by
 rw[Tw,Tw l,cG]
 have e:sN l.length (Zl (l.set k v))=sN l.length (λi=>Zl l i+(if i=k then v-Zl l k else 0)):=Zi λi a=>by
  rw[PW.nth_set a];by_cases q:i=k
  ·subst q;rw[p9 rfl,p9 rfl];omega
  ·rw[pW q,pW q];omega
 rw[e,ZS,Z3 (k:=k) b λi _ a=>pW a,p9 rfl]
end PW
namespace PK
open PW
theorem Zcc{f g:Nat->Int}:∀{n:Nat},(∀i,i<n->f i<=g i)->sN n f<=sN n g
 | 0,_=>dY _
 | n+1,h=>by have a:=Zcc λi c=>h i (cz c);have b:=h n (dt n);show sN n f+f n<=sN n g+g n;omega
noncomputable def s2(n:Nat)(f:Nat->Nat->Int):Int:=sN n λi=>sN n (f i)
theorem Zmp{n:Nat}{f g:Nat->Nat->Int}(h:∀i,i<n->∀j,j<n->f i j<=g i j):s2 n f<=s2 n g:=Zcc λi a=>Zcc λj b=>h i a j b
theorem S5(n:Nat)(f g:Nat->Nat->Int):s2 n (λi j=>f i j+g i j)=s2 n f+s2 n g:=by unfold s2;rw[<-ZS];exact Zi λi _=>ZS _ _ _
theorem TB{n:Nat}{f g:Nat->Nat->Int}(h:∀i,i<n->∀j,j<n->f i j=g i j):s2 n f=s2 n g:=Zi λi a=>Zi λj b=>h i a j b
theorem FZ(n:Nat)(f:Nat->Nat->Int):2*s2 n f=s2 n λi j=>f i j+f j i:=by rw[S5];have:s2 n (λi j=>f j i)=s2 n f:=(UC f n n).symm;omega
noncomputable def lw(n:Nat)(D:Nat->Int)(g:Nat->Bool):Int:=sN n λi=>b1 (g i)*(D i+1)
noncomputable def qw(n:Nat)(w:Nat->Nat->Int)(g:Nat->Bool):Int:=s2 n λi j=>b1 (g i)*b1 (g j)*w i j
noncomputable def uw(n:Nat)(w:Nat->Nat->Int)(D:Nat->Int)(g:Nat->Bool):Int:=2*lw n D g-qw n w g
noncomputable def gw(n:Nat)(w:Nat->Nat->Int)(R:Nat->Int)(v:Nat):Int:=sN n λu=>w v u*(R u-R v)
theorem Zmq{w x:Int}(h:0<=w)(a:1<=x):w<=w*x:=by have:=fV a h;omega
theorem Zcd{n:Nat}{w:Nat->Nat->Int}{N P R:Nat->Int}(m:∀a b,a<n->b<n->0<=w a b)(k:∀a b,a<n->b<n->w a b=w b a)(h:∀i,i<n->0<=R i)(q:∀i,i<n->N i=P i+gw n w R i)(g:Nat->Bool) :
  uw n w N (λi=>g i&&!decide (R i=0))+uw n w P (λi=>g i&&decide (R i=0))<=uw n w N g:=by
 have v:lw n N g=lw n N (λi=>g i&&!decide (R i=0))+lw n N (λi=>g i&&decide (R i=0)):=by
  unfold lw;rw[<-ZS];refine Zi λi _=>?_;by_cases z:R i=0<;>cases e:g i<;>simp[b1,z,e]
 have y:lw n N (λi=>g i&&decide (R i=0))=lw n P (λi=>g i&&decide (R i=0))+s2 n (λi u=>b1 (g i&&decide (R i=0))*(w i u*(R u-R i))):=by
  unfold lw s2;rw[<-ZS];refine Zi λi c=>?_;rw[ZJ,q i c];unfold gw;by_cases z:R i=0<;>cases e:g i<;>simp[b1,z,e]
  omega
 have x:=FZ n (λi u=>b1 (g i&&decide (R i=0))*(w i u*(R u-R i)))
 have t:qw n w g<=(qw n w (λi=>g i&&!decide (R i=0))+qw n w (λi=>g i&&decide (R i=0)))+s2 n λi j=>b1 (g i&&decide (R i=0))*(w i j*(R j-R i))+b1 (g j&&decide (R j=0))*(w j i*(R i-R j)):=by
  unfold qw;rw[<-S5,<-S5];refine Zmp λi c j f=>?_;rw[k j i f c];have d:=m i j c f;have l:=h i c;have s:=h j f;have B:=dR d s;have A:=dR d l;by_cases o:R i=0<;>by_cases p:R j=0<;>cases ei:g i<;>cases ej:g j<;>simp[b1,o,p,ei,ej]<;>try omega
  ·exact Zmq d (by omega)
  ·exact Zmq d (by omega)
 unfold uw;omega
theorem Bm{n:Nat}{w:Nat->Nat->Int}{N P R:Nat->Int}(k:∀a b,a<n->b<n->0<=w a b)(d:∀a b,a<n->b<n->w a b=w b a)(e:∀i,i<n->0<=R i)(m:∀i,i<n->N i=P i+gw n w R i)
  {z:Nat} (q:z<n) (p:R z=0) (j:∀g:Nat->Bool,(∃i,i<n/\g i=aC)->2<=uw n w N g) (f:∀g:Nat->Bool,(∃i,i<n/\g i=aC)->2<=uw n w P g) (l:uw n w N (λ_=>aC)=2):∀i,i<n->R i=0:=λi o=>by
 refine cA λc=>?_;have h:=Zcd k d e m λ_=>aC;have a:=j (λi=>aC&&!decide (R i=0)) ⟨i,o,by simp[c]⟩;have b:=f (λi=>aC&&decide (R i=0)) ⟨z,q,by simp[p]⟩;omega
theorem JI{n:Nat}{w:Nat->Nat->Int}{N P R:Nat->Int}(v:∀a b,a<n->b<n->0<=w a b)(s:∀a b,a<n->b<n->w a b=w b a)(m:∀i,i<n->0<=R i)(x:∀i,i<n->N i=P i+gw n w R i)
  (t:∀g:Nat->Bool,(∃i,i<n/\g i=aC)->2<=uw n w P g) {g:Nat->Bool} (y:uw n w N g<2) (u:∀f:Nat->Bool,(∃i,i<n/\f i=aC)->(∀i,i<n->f i=aC->g i=aC)->uw n w N f<2->∀i,i<n->g i=aC->f i=aC):∀i,i<n->g i=aC->1<=R i:=λi l o=>by
 have z:=m i l;refine cA λc=>?_;have p:R i=0:=by omega
 have h:=Zcd v s m x g;have b:=t (λi=>g i&&decide (R i=0)) ⟨i,l,by simp[p,o]⟩;by_cases e:∃k,k<n/\(g k&&!decide (R k=0))=aC
 ·have:=u (λi=>g i&&!decide (R i=0)) e (λk _ q=>(mJ.mp q).1) (by omega) i l o;simp[p] at this
 ·have:uw n w N (λi=>g i&&!decide (R i=0))=0:=by have f:=λk d=>Bool.eq_false_iff.mpr λq=>e ⟨k,d,q⟩;unfold uw lw qw s2;rw[YH λk d=>by simp only[f k d];simp[b1],YH λk d=>YH λj _=>by simp only[f k d];simp[b1]];rfl
  omega
theorem TC:∀{n:Nat}{p:List Nat->Bool}{G:List Nat},(ZV n).find? p=ax G->∀H∈ZV n,(∀x∈H,x∈G)->p H=aC->H=G
 | 0,p,G,h,H,hH,_,hp=>by have e:H=[]:=aM.mp hH;subst e;have:(List.find? p [[]])=ax G:=h;rw[c9,hp] at this;exact bC this
 | n+1,p,G,h,H,hH,sub,hp=>by
  have h':(ZV n++(ZV n).map (·++[n])).find? p=ax G:=h;rw[List.find?_append] at h';have lt:∀{K:List Nat},K∈ZV n->∀x∈K,x<n:=λi=>(Sf i).2.1;rcases aV.mp (show H∈ZV n++(ZV n).map (·++[n]) from hH) with a | a
  ·cases q:(ZV n).find? p with
   | none=>exact absurd hp (by simpa using eM.mp q H a)
   | some K=>
    rw[q] at h';cases h';exact TC q H a sub hp
  ·obtain⟨d,c,rfl⟩:=ar.mp a;have f:n∈G:=sub n (by simp)
   cases q:(ZV n).find? p with
   | some K=>
    rw[q] at h';cases h';exact absurd (lt (dZ q) n f) (cS n)
   | none=>
    rw[q,Option.none_or,List.find?_map] at h';obtain⟨k,j,g⟩:=ke.mp h';subst g
    rw[TC j d c (λx b=>by
     rcases aV.mp (sub x (by simp[b])) with z | z
     ·exact z
     ·have:=lt c x b;rw[aM.mp z] at this;exact absurd this (cS n)) hp]
theorem Zce{n:Nat}{w:Nat->Nat->Int}{D:Nat->Int}{G:List Nat}(c:G.Nodup)(d:∀g∈G,g<n)(e:tw w G%2=0):2*Hk w D G+2=uw n w D λi=>decide (i∈G):=by
 have a:(G.map D).sum+(G.length:Int)=lw n D λi=>decide (i∈G):=by
  unfold lw;rw[<-Sh (λi=>D i+1) c d,Ts];congr 1
  have:∀G:List Nat,(G.length:Int)=(G.map λ_=>(1:Int)).sum:=λG=>by
   induction G with
   | nil=>rfl
   | cons a G ih=>simp only[az,af,bR];omega
  exact this G
 have b:tw w G=qw n w λi=>decide (i∈G):=by unfold tw qw s2;rw[Sh _ c d];refine Zi λi _=>?_;unfold Fx;rw[Sh _ c d,<-ZJ];exact Zi λj _=>(cg _ _ _).symm
 unfold Hk uw;omega
end PK
namespace PW
open L2 VL VX PK
noncomputable def M5(W:List (List Int))(D:List Int)(G:List Nat):PV:=.tup [pP (nL G),.int (Hk (ZM W) (Zl D) G)]
theorem HL(W:List (List Int))(D:List Int)(l:List (List Nat)):ZC (l.map (M5 W D))=aC:=TV λG _=>by unfold M5;simp
theorem JJ{W:List (List Int)}{h:Nat}{F:List Nat}(ok:Zt W)(c:h<W.length)(a:∀x∈F,x<W.length)(b:F.length<=100):X3 [wP W,.int (h:Int),pP (nL F)]=ax (.int (Fx (ZM W) h F)):=Pe ok c a b (Zlz rfl)
noncomputable def LG(W:List (List Int))(D:List Int):List (List Nat):=((ZV W.length).drop 1).filter λG=>decide (Hk (ZM W) (Zl D) G<0)
noncomputable def Pl(W:List (List Int))(D:List Int):PV:=match LG W D with
 | []=>.non
 | G::_=>pP (nL G)
theorem V7{W:List (List Int)}(ok:Zt W){D:List Int}(hd:D.length=W.length):YV [wP W,pP D]=ax (Pl W D):=by
 have u:=ok.few;have o:∀i,i<=7->(ZV i).length<=128:=λi c=>by rw[Md];have:2^i<=2^7:=Nat.pow_le_pow_right (by decide) c;omega
 let st:Nat->Option PV->Option PV->ZG:=λi h d=>[ax (wP W),ax (pP D),ax (.lst ((ZV i).map (M5 W D))),h,d,aA];refine Pg (ZU (s1:=st 0 aA aA) ?_ (Wu (Tu (ls:=Xt (iL D)) (λi s=>∃h d,s=st i h d) rfl ⟨aA,aA,rfl⟩ ?_) ?_))
 ·have:(ZV 0).map (M5 W D)=[.tup [.tup [],.int (-1)]]:=by show [M5 W D []]=_;unfold M5 Hk tw;simp[nL]
  show _=ax (Out.nx [_,_,ax (PV.lst ((ZV 0).map (M5 W D))),aA,aA,aA]);rw[this];rfl
 ·rintro i l s m ⟨h,d,rfl⟩;have c:i<W.length:=by have:=(aR.mp m).1;rw[WI,aJ,hd] at this;exact this
  rw[Y6,aJ,hd,aX,cC c,bz,XH D i (by rw[hd];exact c)] at m;cases m;have x:=o i (by omega);refine⟨_,rfl,R0 (Zp (o2 rfl (ZL (ZV i) (M5 W D) (λG=>M5 W D (G++[i])) rfl (by omega) λG p=>⟨_,rfl,rfl,?_⟩) ?_)) ⟨_,_,rfl⟩⟩
  ·obtain⟨_,lt,y,_⟩:=Sf p;have f:∀g∈G,g<W.length:=λg t=>nU (lt g t) c;refine(Zmf (o2 (b:=pP [(i:Int)]) rfl rfl (E2 (by simp[nL];omega))) (Bz (FD (FD rfl rfl) rfl) (c3 rfl rfl rfl (JJ ok c f (by omega))))).trans ?_;unfold M5;rw[Zbg (ZM W) (n:=W.length) (λa b j w=>ok.sym a b j w) (λa j=>ok.dia a j) (Zl D) f c];simp[nL]
  ·have e:(ZV i).map (λG=>M5 W D (G++[i]))=((ZV i).map (·++[i])).map (M5 W D):=by rw[bZ];rfl
   rw[e];show(if((ZV i).map (M5 W D)).length+(((ZV i).map (·++[i])).map (M5 W D)).length<=10000/\ZC ((ZV i).map (M5 W D))=aC/\ZC (((ZV i).map (·++[i])).map (M5 W D))=aC then ax (PV.lst ((ZV i).map (M5 W D)++((ZV i).map (·++[i])).map (M5 W D))) else aA)=ax (PV.lst ((ZV (i+1)).map (M5 W D)));rw[p9 ⟨by simp;omega,HL W D _,HL W D _⟩,ZV,ay]
 ·rintro s ⟨h,d,rfl⟩;rw[WI,aJ,hd];have x:=o W.length u;refine ZU (Zp (v:=.lst ((LG W D).map λG=>pP (nL G))) (XG ((ZV W.length).drop 1) (M5 W D) (λG=>pP (nL G)) (λG=>decide (Hk (ZM W) (Zl D) G<0)) ?_ (by rw[bU];omega) λG p=>⟨_,rfl,rfl,λ_=>HS rfl⟩)) ?_
  ·show ax (WA ((ZV W.length).map (M5 W D)) (ax ((1:Nat):Int)) aA)=_
   rw[Di _ (by
    rw[aJ,Md];exact Nat.one_le_two_pow),gH]
  ·refine⟨Pl W D,ret ?_,rfl⟩;unfold Pl
   cases q:LG W D with
   | nil=>exact ep (Mm rfl rfl)
   | cons G r=>exact HS (Ml (xb ((vgt (a:=r.length+1) (b:=0) (by show ax (PV.int (((G::r).map λG=>pP (nL G)).length:Int))=_;simp) rfl).trans (by rw[decide_eq_true (by omega)]))) (o2 rfl rfl (Na (l:=(G::r).map λG=>pP (nL G)) (k:=0) rfl)))
theorem Zgd{n:Nat}{G:List Nat}(h:G∈(ZV n).drop 1):G∈ZV n/\G≠[]:=by
 obtain⟨r,e,a⟩:=Sg n;rw[e] at h ⊢;have h':G∈r:=by simpa using h
 exact⟨aN _ h',a G h'⟩
theorem Bn{n:Nat}{G:List Nat}(h:G∈ZV n)(ne:G≠[]):G∈(ZV n).drop 1:=by
 obtain⟨r,e,a⟩:=Sg n;rw[e] at h ⊢;rcases aa.mp h with z | z
 ·exact absurd z ne
 ·simpa using z
theorem Dv{G:List Nat}(h:G.Pairwise (· < ·)):G.Nodup:=h.imp λz=>by omega
theorem Zcf{W:List (List Int)}(ok:Zt W){D:List Int}(hd:D.length=W.length)(d:D.sum=((eW W).length:Int)-(W.length:Int)+1):Hk (ZM W) (Zl D) (aD W.length)=0:=by
 unfold Hk;have c:((aD W.length).map (Zl D)).sum=D.sum:=by rw[WG,Tw D,hd]
 have a:=Ou ok (G:=aD W.length) cq λg b=>aY.mp b;rw[Zf6] at a;rw[c,a,bt,d];omega
noncomputable def uW(W:List (List Int))(D:List Int)(g:Nat->Bool):Int:=uw W.length (ZM W) (Zl D) g
noncomputable def UG(W:List (List Int))(D:List Int):Prop:=∀g:Nat->Bool,(∃i,i<W.length/\g i=aC)->2<=uW W D g
theorem Zcg{n:Nat}{w:Nat->Nat->Int}{D:Nat->Int}{f g:Nat->Bool}(h:∀i,i<n->f i=g i):uw n w D f=uw n w D g:=by unfold uw lw qw s2;rw[Zi λi a=>by rw[h i a],Zi λi a=>Zi λj b=>by rw[h i a,h j b]]
section
variable {W:List (List Int)} {D:List Int} (ok:Zt W)
include ok
theorem Zch{G:List Nat}(c:G∈ZV W.length):2*Hk (ZM W) (Zl D) G+2=uW W D λi=>decide (i∈G):=by obtain⟨a,lt,_,_⟩:=Sf c;have b:=Dv a;refine Zce b lt ?_;rw[Ou ok b lt];omega
theorem JK(g:Nat->Bool):uW W D g=2*Hk (ZM W) (Zl D) ((aD W.length).filter g)+2:=by
 rw[Zch ok (Vp g _)];exact Zcg λi a=>by cases e:g i<;>simp[e,a]
theorem Zci(hd:D.length=W.length)(a:D.sum=((eW W).length:Int)-(W.length:Int)+1):uW W D (λ_=>aC)=2:=by have:=Zcf ok hd a;rw[JK ok,jO.mpr λ_ _=>rfl,this];rfl
theorem ME:(Pl W D = .non/\UG W D)\/∃G,Pl W D=pP (nL G)/\G≠[]/\(∀x∈G,x<W.length)/\G.Nodup/\uW W D (λi=>decide (i∈G))<2/\
  ∀f:Nat->Bool,(∃i,i<W.length/\f i=aC)->(∀i,i<W.length->f i=aC->decide (i∈G)=aC)->uW W D f<2->∀i,i<W.length->decide (i∈G)=aC->f i=aC:=by
 have ne:∀{f:Nat->Bool},(∃i,i<W.length/\f i=aC)->(aD W.length).filter f≠[]:=λ⟨i,k,n⟩=>iB (bj.mpr ⟨aY.mpr k,n⟩);unfold Pl
 cases e:LG W D with
 | nil=>
  refine .inl ⟨rfl,λg b=>?_⟩;have:=kz.mp e _ (Bn (Vp g _) (ne b));rw[JK ok g];simp only[decide_eq_true_eq] at this;omega
 | cons G r=>
  have u:G∈LG W D:=by rw[e];simp
  obtain⟨o,v⟩:=bj.mp u;obtain⟨m,c⟩:=Zgd o;obtain⟨d,lt,_,_⟩:=Sf m;have p:uW W D (λi=>decide (i∈G))<2:=by rw[<-Zch ok m];have:=of_decide_eq_true v;omega
  refine .inr ⟨G,rfl,c,lt,Dv d,p,λf s sub y i k b=>?_⟩
  have h:(ZV W.length).find? (λG=>decide (G≠[])&&decide (Hk (ZM W) (Zl D) G<0))=ax G:=by
   obtain⟨q,j,w⟩:=Sg W.length;have:(LG W D).head?=ax G:=by rw[e];rfl
   unfold LG at this;rw[List.head?_filter,j] at this;rw[j,c9];have a:(decide (([]:List Nat)≠[])&&decide (Hk (ZM W) (Zl D) []<0))=aB:=by simp
   rw[a];rw[<-this];show q.find? _=q.find? _;refine Mu λK z=>?_;simp[w K z]
  have t:=TC h _ (Vp f W.length) (λx l=>of_decide_eq_true (sub x (aY.mp (bj.mp l).1) (bj.mp l).2)) (by
   rw[JK ok f] at y;rw[decide_eq_true (ne s),decide_eq_true (show Hk (ZM W) (Zl D) ((aD W.length).filter f)<0 by omega)];rfl)
  have:i∈(aD W.length).filter f:=by rw[t];exact of_decide_eq_true b
  exact(bj.mp this).2
end
theorem HM{W:List (List Int)}{L:List Nat}(b:W.length<=7):YB [wP W,pP (nL L)]=ax (pP (XM W.length L)):=by
 refine XX (ret (HS (c1 (Se (λh=>if h∈L then -1 else 0) (Xd (c1 rfl Vq) (by omega)) (by omega) λi a=>⟨_,rfl,rfl,?_⟩) (RA _))));have t:PF aB (.int (i:Int)) (pP (nL L))=ax (.bl (decide (i∈L))):=by rw[Dp];simp only[Mg];rfl
 by_cases q:i∈L
 ·rw[p9 q];exact Ml (xb ((o2 rfl rfl t).trans (by rw[decide_eq_true q]))) rfl
 ·rw[pW q];exact Mm (xb ((o2 rfl rfl t).trans (by rw[decide_eq_false q]))) rfl
theorem Zj4(f:Nat->Int){n:Nat}(c:0<n):∃z,z<n/\∀i,i<n->f z<=f i:=by have s:=VR (l:=(aD n).map f) (by simp;omega);obtain⟨z,a,e⟩:=ar.mp s.1;exact⟨z,aY.mp a,λi b=>by rw[e];exact s.2 _ (ar.mpr ⟨i,aY.mpr b,rfl⟩)⟩
theorem Zj5{W:List (List Int)}(Y:Nat->Int)(c:Int){h:Nat}(a:h<W.length):gN W (λx=>Y x-c) h=gN W Y h:=by show gN W (λx=>Y x + -c) h=_;rw[Vy,R3 (T:=λ_=>-c) (c:=-c) (λ_ _=>rfl) a];omega
abbrev stQ(W:List (List Int))(D S N:List Int)(x5:Option PV):ZG:=[ax (wP W),ax (pP D),ax (pP S),ax (pP N),ax (Pl W N),x5,aA]
structure Way(W:List (List Int))(P:List Int)(L:Nat->Int)(c:Int)(S N:List Int):Prop where
 ls:S.length=W.length
 ln:N.length=W.length
 sm:N.sum=P.sum
 lo:∀i,i<W.length->0<=L i+Zl S i-c
 z:∃i,i<W.length/\L i+Zl S i-c=0
 at':∀i,i<W.length->Zl N i=Zl P i+gN W (λi=>L i+Zl S i-c) i
section
variable {W:List (List Int)} {P:List Int} {L:Nat->Int} {c:Int} {D S N:List Int}
theorem Way.step(ok:Zt W)(p:UG W P)(w:Way W P L c S N){G:List Nat}(ne:G≠[])(lt:∀x∈G,x<W.length)(j:∀i,i<W.length->i∈G->1<=L i+Zl S i-c) :
  Way W P L c (PY S (XM W.length G)) (ZT W N (XM W.length G))/\sN W.length (λi=>L i+Zl (PY S (XM W.length G)) i-c)<sN W.length (λi=>L i+Zl S i-c):=by
 have e:∀i,i<W.length->Zl (PY S (XM W.length G)) i=Zl S i+if i∈G then -1 else 0:=λi d=>by rw[RT (by rw[w.ls];exact d),Jy d]
 obtain⟨z,h,t⟩:=w.z;refine⟨⟨by rw[V4,w.ls],by rw[Z9,w.ln],by rw[RV ok w.ln,w.sm],λi d=>?_,⟨z,h,?_⟩,λi d=>?_⟩,?_⟩
 ·have a:=w.lo i d;have b:=j i d;rw[e i d];split
  ·rename_i q;have:=b q;omega
  ·omega
 ·rw[e z h];have b:=j z h;split
  ·rename_i q;have:=b q;omega
  ·omega
 ·rw[W7 (by rw[w.ln];exact d),w.at' i d,Int.add_assoc,<-Vy];congr 1;exact V5 d λk m=>by rw[e k m,Jy m];omega
 ·obtain⟨g,l⟩:=g8 G ne
  have s:sN W.length (λi=>L i+Zl (PY S (XM W.length G)) i-c)+sN W.length (λi=>if i∈G then 1 else 0)=sN W.length (λi=>L i+Zl S i-c):=by
   rw[<-ZS]
   exact Zi λi d=>by
    rw[e i d];split<;>omega
  have o:=Sj (f:=λi=>if i∈G then 1 else 0) (n:=W.length) (λi _=>by split<;>decide) (lt g l);rw[p9 l] at o;omega
theorem Zcj{F:XS}{d:Option PV}{Z:PV->Prop}(ok:Zt W)(p:UG W P)(C:P.length=W.length)(y:P.sum=((eW W).length:Int)-(W.length:Int)+1)(w:Way W P L c S N)(h:∀m x5',Pl W P = .non->m.length=W.length->(∀i,i<W.length->L i+Zl m i=c)->Y9 F (stQ W D m P x5') Z) :
  Y9 (Zn (XC (xB (Rj aC (Za 4))) (Zn (Zs 5 (Ze YB [Za 0,Za 4])) (Zn (Zs 2 (Ze Vt [Za 2,Za 5])) (Zn (Zs 3 (Ze VP [Za 0,Za 3,Za 5])) (Zs 4 (Ze YV [Za 0,Za 3])))))) F) (stQ W D S N d) Z:=by
 have H:=ok.few;refine Wu (Ds (λk st=>∃S N d,Way W P L c S N/\st=stQ W D S N d/\k=(sN W.length (λi=>L i+Zl S i-c)).toNat) ⟨S,N,d,w,rfl,rfl⟩ ?_) ?_
 ·rintro k st ⟨S,N,d,w,rfl,rfl⟩;rcases ME (D:=N) ok with⟨e,_⟩ | ⟨G,e,ne,lt,_,B,x⟩
  ·rw[show stQ W D S N d=[ax (wP W),ax (pP D),ax (pP S),ax (pP N),ax .non,d,aA] by unfold stQ;rw[e]];exact .inl rfl
  ·have u:∀i,i<W.length->i∈G->1<=L i+Zl S i-c:=λi j v=>JI (P:=Zl P) (λa b g l=>ok.lo a b g l) (λa b g l=>ok.sym a b g l) w.lo w.at' p B x i j (decide_eq_true v);obtain⟨o,R⟩:=w.step ok p ne lt u;have Q:=Ym (n:=W.length) o.lo;have t:(XM W.length G).length=W.length:=by simp[XM]
   rw[show stQ W D S N d=[ax (wP W),ax (pP D),ax (pP S),ax (pP N),ax (pP (nL G)),d,aA] by unfold stQ;rw[e]];exact .inr ⟨rfl,Z4 (Zp (c2 rfl rfl (HM H))) (Z4 (Zp (c2 rfl rfl (Jl (by rw[t,w.ls]) (by rw[w.ls];omega)))) (Z4 (Zp (c3 rfl rfl rfl (Jm ok w.ln t))) (R0 (Zp (c2 rfl rfl (V7 ok o.ln))) ⟨_,by omega,_,_,_,o,rfl,rfl⟩)))⟩
 rintro st ⟨k,⟨m,s,A,f,rfl,_⟩,q⟩;rcases ME (D:=s) ok with⟨O,E⟩ | ⟨G,e,_⟩
 case inr=>
  unfold stQ at q;rw[e] at q;cases q
 obtain⟨z,M,I⟩:=f.z;have all:=Bm (N:=Zl s) (P:=Zl P) (w:=ZM W) (λa b g l=>ok.lo a b g l) (λa b g l=>ok.sym a b g l) f.lo f.at' M I E p (Zci ok f.ln (by rw[f.sm,y]));have J:s=P:=WE (by rw[f.ln,C]) λi j=>by rw[f.ln] at j;rw[f.at' i j,R3 (T:=λi=>L i+Zl m i-c) (c:=0) all j];omega
 subst J;exact h m A O f.ls λi j=>by have:=all i j;omega
end
end PW
namespace PK
open PW
noncomputable def hd(h:List Nat)(k:Nat):Nat:=h.getD k 0
noncomputable def UH(e:ZE)(x:Nat):Nat:=if x=e.1 then e.2 else e.1
noncomputable def TF(E:List ZE)(h:List Nat)(k:Nat):List Nat:=h.set k (UH (Zx E k) (hd h k))
noncomputable def Vb(E:List ZE)(h ks:List Nat):List Nat:=ks.foldl (TF E) h
structure HOk(E:List ZE)(h:List Nat):Prop where
 len:h.length=E.length
 at':∀k,k<E.length->hd h k=(Zx E k).1\/hd h k=(Zx E k).2
theorem Zck{h:List Nat}{k j y:Nat}(a:k<h.length):hd (h.set k y) j=if k=j then y else hd h j:=by
 unfold hd;rw[aF,bW];split<;>rfl
theorem Zge{h:List Nat}{k y v:Nat}(b:k<h.length):((h.set k y).count v:Int)=h.count v-b1 (decide (hd h k=v))+b1 (decide (y=v)):=by
 have e:hd h k=h[k]:=by unfold hd;rw[aF,aE b];rfl
 have le:h[k]=v->1<=h.count v:=λq=>List.count_pos_iff.mpr (by rw[<-q];exact bQ b);rw[List.count_set b,e];by_cases a:h[k]=v
 ·have:=le a;by_cases c:y=v<;>simp[a,c,b1]<;>omega
 ·by_cases c:y=v<;>simp[a,c,b1]
theorem HOk.turn{E:List ZE}{h:List Nat}(o:HOk E h){k:Nat}:HOk E (TF E h k):=by
 refine⟨by unfold TF;rw[cG,o.len],λj a=>?_⟩;by_cases q:k<h.length
 ·unfold TF;rw[Zck q];split
  ·rename_i e;subst e;unfold UH;split
   ·exact .inr rfl
   ·exact .inl rfl
  ·exact o.at' j a
 ·unfold TF;rw[gs (by omega)];exact o.at' j a
structure Pth(E:List ZE)(h F:List Nat)(a:Nat)(ks:List Nat)(x:Nat):Prop where
 lt:∀k∈ks,k<E.length
 inn:∀k∈ks,hd h k∈F/\hd h k≠x
 keep:∀k,k∉ks->hd (Vb E h ks) k=hd h k
 ok:HOk E (Vb E h ks)
 cn:∀v,((Vb E h ks).count v:Int)=h.count v-b1 (decide (a=v))+b1 (decide (x=v))
theorem Pth.start{E:List ZE}{h F:List Nat}{a:Nat}(o:HOk E h):Pth E h F a [] a:=
 ⟨λ_ z=>(br z).elim,λ_ z=>(br z).elim,λ_ _=>rfl,o,λv=>by show(h.count v:Int)=_;omega⟩
theorem Pth.more{E:List ZE}{h F G:List Nat}{a x:Nat}{b:List Nat}(p:Pth E h F a b x)(s:∀z∈F,z∈G):Pth E h G a b x:=⟨p.lt,λk c=>⟨s _ (p.inn k c).1,(p.inn k c).2⟩,p.keep,p.ok,p.cn⟩
theorem Pth.snoc{E:List ZE}{h F:List Nat}{a x k:Nat}{b:List Nat}(o:HOk E h)(p:Pth E h F a b x)(s:x∈F)(f:k<E.length)(d:hd h k=x)(i:UH (Zx E k) x∉F):Pth E h F a (b++[k]) (UH (Zx E k) x):=by
 have n:=λz=>(p.inn k z).2 d;have e:Vb E h (b++[k])=TF E (Vb E h b) k:=by unfold Vb;rw[jq];rfl
 have g:k<(Vb E h b).length:=by rw[p.ok.len];exact f
 have l:hd (Vb E h b) k=x:=by rw[p.keep k n,d]
 refine⟨λj c=>?_,λj c=>?_,λj c=>?_,by rw[e];exact p.ok.turn,λv=>?_⟩
 ·rcases aV.mp c with z | z
  ·exact p.lt j z
  ·rw[aM.mp z];exact f
 ·have:hd h j∈F:=by
   rcases aV.mp c with z | z
   ·exact(p.inn j z).1
   ·rw[aM.mp z,d];exact s
  exact⟨this,λz=>i (by rw[<-z];exact this)⟩
 ·have m:=λz=>c (ao _ z);have q:¬k=j:=λz=>c (by rw[z];simp);rw[e];unfold TF;rw[Zck g,pW q];exact p.keep j m
 ·rw[e];unfold TF;rw[Zge g,p.cn v,l];omega
structure BSr(E:List ZE)(h:List Nat)(q:Nat->Int)(n a:Nat)(F:List Nat)(p:Nat->List Nat)(j:Nat):Prop where
 nd:F.Nodup
 lt:∀x∈F,x<n
 fl:a∈F
 jl:j<=F.length
 pt:∀x∈F,Pth E h F a (p x) x
 sh:∀x∈F,(p x).length<F.length
 cl:∀x∈F.take j,∀k,k<E.length->hd h k=x->UH (Zx E k) x∈F
 ge:∀x∈F.take j,q x<=(h.count x:Int)
theorem F0{f g:Nat->Int}:∀{l:List Nat},(∀x∈l,f x<=g x)->(l.map f).sum<=(l.map g).sum
 | [],_=>dY _
 | x::l,h=>by have a:=h x (by simp);have b:=F0 (l:=l) λy c=>h y (by simp[c]);simp only[af,bR];omega
theorem Zcl{f g:Nat->Int}{a:Nat}:∀{l:List Nat},(∀x∈l,f x<=g x)->a∈l->f a<g a->(l.map f).sum<(l.map g).sum
 | x::l,h,ha,lt=>by
  have d:=h x (by simp);simp only[af,bR];rcases aa.mp ha with rfl | z
  ·have b:=F0 (l:=l) λy c=>h y (by simp[c]);omega
  ·have b:=Zcl (l:=l) (λy c=>h y (by simp[c])) z lt;omega
theorem Zgf{h:List Nat}:(aD h.length).map (hd h)=h:=Mc h 0
theorem BSr.goes{E:List ZE}{h:List Nat}{q:Nat->Int}{n a:Nat}{F:List Nat}{p:Nat->List Nat}{j:Nat}(i:BSr E h q n a F p j)(o:HOk E h)(M1:q a<(h.count a:Int))(l:∀G:List Nat,G.Nodup->(∀g∈G,g<n)->G≠[]->Wb G E<=(G.map q).sum):j<F.length:=by
 refine cA λc=>?_;have m:F.take j=F:=bY (by omega);have cl:=i.cl;have d:=i.ge;rw[m] at cl d;have u:=l F i.nd i.lt (iB i.fl);have f:=Zcl d i.fl M1;rw[Hj i.nd h] at f
 have v:(h.map λx=>b1 (decide (x∈F))).sum<=Wb F E:=by
  have t:h.map (λx=>b1 (decide (x∈F)))=(aD E.length).map λk=>b1 (decide (hd h k∈F)):=by
   conv=>lhs;rw[<-Zgf (h:=h),o.len]
   rw[bZ];rfl
  have s:E.map (λe=>b1 (Jo F e))=(aD E.length).map λk=>b1 (Jo F (Zx E k)):=by
   conv=>lhs;rw[<-Mc E (0,0)]
   rw[bZ];rfl
  unfold Wb;rw[t,s];refine F0 λk b=>?_;have b:=aY.mp b;by_cases z:hd h k∈F
  ·have y:=cl _ z k b rfl
   have:Jo F (Zx E k)=aC:=by
    unfold Jo;unfold UH at y;rcases o.at' k b with w | w
    ·rw[w] at y z;rw[p9 rfl] at y;rw[decide_eq_true z,decide_eq_true y];rfl
    ·rw[w] at y z;split at y
     ·rename_i e;rw[e] at z;rw[decide_eq_true z,decide_eq_true y];rfl
     ·rw[decide_eq_true z,decide_eq_true y];rfl
   rw[this];exact Zma _
  ·rw[decide_eq_false z];exact Hi _
 omega
structure BIn(E:List ZE)(h:List Nat)(q:Nat->Int)(n a:Nat)(F:List Nat)(p:Nat->List Nat)(j x i:Nat):Prop where
 b:BSr E h q n a F p j
 hx:F[j]?=ax x
 dn:∀k,k<i->hd h k=x->UH (Zx E k) x∈F
theorem BIn.pass{E:List ZE}{h:List Nat}{q:Nat->Int}{n a:Nat}{F:List Nat}{p:Nat->List Nat}{j x i:Nat}(s:BIn E h q n a F p j x i)(c:hd h i=x->UH (Zx E i) x∈F):BIn E h q n a F p j x (i+1):=
 ⟨s.b,s.hx,λk b e=>by
  rcases kL.mp b with z | rfl
  ·exact s.dn k z e
  ·exact c e⟩
noncomputable def F1(p:Nat->List Nat)(y:Nat)(ks:List Nat):Nat->List Nat:=λz=>if z=y then ks else p z
theorem BIn.add{E:List ZE}{h:List Nat}{q:Nat->Int}{n a:Nat}{F:List Nat}{p:Nat->List Nat}{j x i:Nat}(s:BIn E h q n a F p j x i)(o:HOk E h)(t:∀e∈E,e.1<n/\e.2<n)(g:i<E.length)(c:hd h i=x)(m:UH (Zx E i) x∉F) :
  BIn E h q n a (F++[UH (Zx E i) x]) (F1 p (UH (Zx E i) x) (p x++[i])) j x (i+1):=by
 have b:=s.b;have sub:∀z∈F,z∈F++[UH (Zx E i) x]:=λz d=>ao _ d;have y:(F++[UH (Zx E i) x]).take j=F.take j:=fU b.jl;have f:=av s.hx;have A:Zx E i∈E:=by unfold Zx;rw[aF,aE g];exact bQ g
 refine⟨⟨?_,λz d=>?_,sub _ b.fl,by rw[aT];exact cD b.jl (fQ _ _),λz d=>?_,λz d=>?_,λz d k l e=>?_,λz d=>?_⟩,?_,λk l e=>?_⟩
 ·exact cN.mpr ⟨b.nd,by simp,λu B w C z=>m (by rw[<-aM.mp C,<-z];exact B)⟩
 ·rcases aV.mp d with w | w
  ·exact b.lt z w
  ·rw[aM.mp w];unfold UH;split
   ·exact(t _ A).2
   ·exact(t _ A).1
 ·unfold F1;by_cases w:z=UH (Zx E i) x
  ·rw[p9 w,w];exact((b.pt x f).snoc o f g c m).more sub
  ·rw[pW w];rcases aV.mp d with v | v
   ·exact(b.pt z v).more sub
   ·exact absurd (aM.mp v) w
 ·unfold F1;rw[aT];by_cases w:z=UH (Zx E i) x
  ·rw[p9 w,aT];exact Nat.add_lt_add_right (b.sh x f) 1
  ·rw[pW w];rcases aV.mp d with v | v
   ·exact cz (b.sh z v)
   ·exact absurd (aM.mp v) w
 ·rw[y] at d;exact sub _ (b.cl z d k l e)
 ·rw[y] at d;exact b.ge z d
 ·rw[aj (aR.mp s.hx).1];exact s.hx
 ·rcases kL.mp l with z | rfl
  ·exact sub _ (s.dn k z e)
  ·simp
theorem BIn.done{E:List ZE}{h:List Nat}{q:Nat->Int}{n a:Nat}{F:List Nat}{p:Nat->List Nat}{j x:Nat}(s:BIn E h q n a F p j x E.length)(i:q x<=(h.count x:Int)):BSr E h q n a F p (j+1):=by
 have b:=s.b;have g:=(aR.mp s.hx).1;have e:F.take (j+1)=F.take j++[x]:=by rw[gY,s.hx];rfl
 refine⟨b.nd,b.lt,b.fl,g,b.pt,b.sh,λz c k f d=>?_,λz c=>?_⟩
 ·rw[e] at c;rcases aV.mp c with w | w
  ·exact b.cl z w k f d
  ·rw[aM.mp w] at d ⊢;exact s.dn k f d
 ·rw[e] at c;rcases aV.mp c with w | w
  ·exact b.ge z w
  ·rw[aM.mp w];exact i
noncomputable def Bo(x:Int):Int:=if 0<x then x else 0
noncomputable def Zcm(n:Nat)(q:Nat->Int)(h:List Nat):Int:=sN n λv=>Bo ((h.count v:Int)-q v)
theorem Zj6(n:Nat)(q:Nat->Int)(h:List Nat):0<=Zcm n q h:=Zbc λv _=>by unfold Bo;split<;>omega
theorem Zcn{n:Nat}{q:Nat->Int}{h h':List Nat}{a x:Nat}(j:a<n)(M1:q a<(h.count a:Int))(free:(h.count x:Int)<q x)(b:∀v,(h'.count v:Int)=h.count v-b1 (decide (a=v))+b1 (decide (x=v))):Zcm n q h'<Zcm n q h:=by
 have ne:x≠a:=λz=>by rw[z] at free;omega
 have i:=Zbb (f:=λv=>Bo ((h'.count v:Int)-q v)) (g:=λv=>Bo ((h.count v:Int)-q v)) j λv _ c=>by
  have d:b1 (decide (a=v))=0:=by rw[decide_eq_false λz=>c z.symm];rfl
  rw[b v,d];by_cases z:x=v
  ·subst z;have k:b1 (decide (x=x))=1:=by rw[decide_eq_true rfl];rfl
   unfold Bo;rw[pW (by omega),pW (by omega)]
  ·rw[decide_eq_false z];have:b1 aB=0:=rfl;rw[this,Int.sub_zero,jV]
 unfold Zcm;rw[i];have e:=b a;rw[decide_eq_true rfl,decide_eq_false ne] at e;have e:(h'.count a:Int)=h.count a-1+0:=e;unfold Bo;split<;>omega
end PK
namespace PW
open PySem L2 VL VX PK
noncomputable def hV(h:List Nat):PV:=.lst (iL (nL h))
theorem Dw{h:List Nat}{k:Nat}(a:k<h.length):Zl (nL h) k=(hd h k:Int):=by unfold Zl hd nL;rw[aF,aX,aE a,aF,aE a];rfl
theorem Zj7{h:List Nat}{k:Nat}(a:k<h.length):ZR (hV h) (.int (k:Int))=ax (.int (hd h k:Int)):=by rw[<-Dw a];exact YD (by simpa [nL] using a)
theorem Zj8(h:List Nat)(v:Nat):(nL h).count (v:Int)=h.count v:=by
 induction h with
 | nil=>rfl
 | cons a h ih=>
  show((a:Int)::nL h).count (v:Int)=_;rw[jJ,jJ,ih];by_cases q:a=v
  ·simp[q]
  ·have:¬(a:Int)=(v:Int):=by omega
   simp[q,this]
theorem NA(h:List Nat)(v:Nat):T3 (hV h) (.int (v:Int))=ax (.int (h.count v:Int)):=by show(Ys (iL (nL h))).map _=_;rw[Yc];show ax (PV.int (((nL h).count (v:Int):Nat):Int))=_;rw[Zj8]
theorem HN{W:List (List Int)}{k x:Nat}(c:k<(eW W).length):Vm [pP (P6 W k),.int (x:Int)]=ax (.int (UH (Zx (eW W) k) x:Int)):=by
 obtain⟨a,b,_⟩:=Tz c;refine XX (ret (ep ?_));unfold UH;by_cases q:x=(Zx (eW W) k).1
 ·rw[p9 q];exact Ml (xb ((C2 rfl (o2 rfl rfl a)).trans (by rw[decide_eq_true (by omega)]))) (o2 rfl rfl b)
 ·rw[pW q];exact Mm (xb ((C2 rfl (o2 rfl rfl a)).trans (by rw[decide_eq_false (by omega)]))) (o2 rfl rfl a)
noncomputable def Pm(n:Nat)(q:Nat->Int)(h:List Nat):Option Nat:=(aD n).find? λv=>decide ((h.count v:Int)>q v)
theorem HP{h:List Nat}{Q:List Int}:WX [hV h,pP Q]=ax (UT (Pm Q.length (Zl Q) h)):=by
 refine Pg (Zhg (L:=aD Q.length) (q:=λ(i:Nat)=>.tup [.int (i:Int),.int (Zl Q i)]) (g:=λ(i:Nat)=>.int (i:Int)) (λv=>decide ((h.count v:Int)>Zl Q v)) (λst=>∃x y,st=[ax (hV h),ax (pP Q),x,y]) (by rw[<-Zjs];rfl) ⟨aA,aA,rfl⟩ ?_ (λa e=>by unfold Pm;rw[e];rfl) ?_)
 ·rintro k b st ⟨x,y,rfl⟩;exact⟨_,rfl,xb (o2 (o2 rfl rfl (NA h k)) rfl rfl),rfl,_,_,rfl⟩
 ·rintro e s ⟨x,y,rfl⟩;exact⟨.non,rfl,by unfold Pm;rw[e];rfl⟩
noncomputable def Oy(ks:List Nat):PV:=.cst (iL (nL ks))
noncomputable def kN(x:Nat):Y8:=.inl (x:Int)
theorem Zco{a b:Nat}(h:kN a=kN b):a=b:=by unfold kN at h;injection h with h;omega
noncomputable def dF(F:List Nat)(p:Nat->List Nat):PV:=.dK (F.map kN) (F.map λx=>Oy (p x))
theorem Zgg(F:List Nat)(p:Nat->List Nat):ZC (F.map λx=>Oy (p x))=aC:=TV λx _=>ZY _
theorem Zcp(F:List Nat)(p:Nat->List Nat)(y:Nat):Vs (F.map kN) (F.map λx=>Oy (p x)) (kN y)=if y∈F then ax (Oy (p y)) else aA:=by
 unfold Vs
 induction F with
 | nil=>rfl
 | cons a F ih=>
  rw[af,af,dG,c9];by_cases q:a=y
  ·subst q;have:decide (kN a=kN a)=aC:=decide_eq_true rfl;rw[this,p9 (by simp)];rfl
  ·have:decide (kN a=kN y)=aB:=decide_eq_false λz=>q (Zco z);rw[this];have e:(y∈a::F)↔y∈F:=by rw[aa];exact⟨λz=>z.resolve_left λw=>q w.symm,.inr⟩
   simp only[e];exact ih
theorem Zcq{F:List Nat}{p:Nat->List Nat}{y:Nat}(h:y∈F):UL (dF F p) (.int (y:Int))=ax (Oy (p y)):=by show Vs (F.map kN) (F.map λx=>Oy (p x)) (kN y)=_;rw[Zcp,p9 h]
theorem Zmr(F:List Nat)(p:Nat->List Nat)(y:Nat):dIn (dF F p) (.int (y:Int))=ax (decide (y∈F)):=by
 show ax (Vs (F.map kN) (F.map λx=>Oy (p x)) (kN y)).isSome=_;rw[Zcp];by_cases q:y∈F
 ·rw[p9 q,decide_eq_true q];rfl
 ·rw[pW q,decide_eq_false q];rfl
theorem Zj9{F:List Nat}{p:Nat->List Nat}{y:Nat}{b:List Nat}(h:y∉F)(d:F.length<=1000):As (dF F p) (.int (y:Int)) (Oy b)=ax (dF (F++[y]) (F1 p y b)):=by
 have n:kN y∉F.map kN:=λz=>by obtain⟨x,c,e⟩:=ar.mp z;exact h (by rw[<-Zco e];exact c)
 show(gd (ZC (F.map λx=>Oy (p x))&&ZO (Oy b)&&decide ((F.map kN).length<=10000))).bind (λ_=>ax (PV.dK (Q6 (F.map kN) (kN y)) (Q7 (F.map kN) (F.map λx=>Oy (p x)) (kN y) (Oy b))))=_;rw[Zgg,show ZO (Oy b)=aC from ZY _,decide_eq_true (by rw[aJ];omega)];rw[LK n,LL n];show ax (PV.dK _ _)=ax (PV.dK _ _);have a:F.map (λx=>Oy (p x))=F.map λx=>Oy (F1 p y b x):=au λx c=>by unfold F1;rw[pW λz=>h (by rw[<-z];exact c)]
 rw[ay,ay,a];congr 3;unfold F1;simp
abbrev stY(W:List (List Int))(h:List Nat)(Q:List Int)(a:Nat)(F:List Nat)(p:Nat->List Nat)(j:Nat)(x7 x8 x9 x10:Option PV):ZG:=[ax (Tx W),ax (hV h),ax (pP Q),ax (.int (a:Int)),ax (dF F p),ax (hV F),ax (.int (j:Int)),x7,x8,x9,x10]
theorem JL(h:List Nat):Xt (iL (nL h))=(aD h.length).map λ(i:Nat)=>.tup [.int (i:Int),.int (hd h i:Int)]:=by
 have l:(nL h).length=h.length:=by simp[nL]
 rw[Y6,aJ,l];exact au λi a=>by have a:=aY.mp a;rw[XH (nL h) i (by rw[l];exact a),Dw a]
theorem Zgh{L:List Nat}{i:Nat}(a:L.length<=1000):Zae (Oy L) (.lst [.int (i:Int)])=ax (.lst (iL (nL (L++[i])))):=by show(Ys (iL (nL L))).bind _=_;rw[Yc,aQ,show([PV.int (i:Int)]:List PV)=iL [(i:Int)] from rfl,Yc,aQ];show(if(nL L).length+1<=10000 then ax (PV.lst (iL (nL L++[(i:Int)]))) else aA)=_;rw[p9 (by simp[nL];omega)];simp[nL]
theorem Zcr{f:XE}{s:ZG}{L:List Nat}(q:f s=ax (.lst (iL (nL L)))):Ct f s=ax (Oy L):=by unfold Ct;rw[q];show(Ys (iL (nL L))).map _=_;rw[Yc];rfl
section
variable {W:List (List Int)} {h:List Nat} {Q:List Int} {a:Nat}
theorem F2(ok:Zt W)(o:HOk (eW W) h)(hl:(eW W).length<=441)(R:Q.length=W.length)(T:a<W.length)(M1:Zl Q a<(h.count a:Int))(P:∀G:List Nat,G.Nodup->(∀g∈G,g<W.length)->G≠[]->Wb G (eW W)<=(G.map (Zl Q)).sum) :
  ∃u x F,Qy [Tx W,hV h,pP Q,.int (a:Int)]=ax (Oy u)/\Pth (eW W) h F a u x/\(h.count x:Int)<Zl Q x/\u.length<=7:=by
 have few:=ok.few
 suffices g:Y9 LU (ZP 11 [Tx W,hV h,pP Q,.int (a:Int)]) λv=>∃u x F,v=Oy u/\Pth (eW W) h F a u x/\(h.count x:Int)<Zl Q x/\u.length<=7 by obtain⟨v,e,u,x,F,rfl,r⟩:=Pf g;exact⟨u,x,F,e,r⟩
 have Y:BSr (eW W) h (Zl Q) W.length a [a] (λ_=>[]) 0:=
  ⟨by simp,λx n=>by rw[aM.mp n];exact T,by simp,dq _,λx n=>by rw[aM.mp n];exact Pth.start o,λx n=>lK,λx n=>(br n).elim,λx n=>(br n).elim⟩
 have H:∀{F p j}(i:BSr (eW W) h (Zl Q) W.length a F p j),∃x,F[j]?=ax x/\x∈F/\ZR (hV F) (.int (j:Int))=ax (.int (x:Int))/\ZR (pP Q) (.int (x:Int))=ax (.int (Zl Q x)):=λ{F p j} i=>by have I:=i.goes o M1 P;have t:F[j]∈F:=bQ I;refine⟨F[j],aE I,t,?_,YD (by rw[R];exact i.lt _ t)⟩;rw[Zj7 I];unfold hd;rw[aF,aE I];rfl
 have N:∀{F p}{j x:Nat}{J A D f},ZR (hV F) (.int (j:Int))=ax (.int (x:Int))->ZR (pP Q) (.int (x:Int))=ax (.int (Zl Q x))->xB (Zm oGe (Zm T3 (Za 1) (Zm ZR (Za 5) (Za 6))) (Zm ZR (Za 2) (Zm ZR (Za 5) (Za 6)))) (stY W h Q a F p j J A D f)=ax (decide (Zl Q x<=(h.count x:Int))):=λg E=>xb (vge (o2 rfl (o2 rfl rfl g) (NA h _)) (o2 rfl (o2 rfl rfl g) E));refine ZU (Zp (v:=dF [a] λ_=>[]) rfl) (ZU (Zp (v:=hV [a]) rfl) (ZU (Zp (v:=.int ((0:Nat):Int)) rfl) (Wu (Ds (λk st=>∃F p j J A D f,BSr (eW W) h (Zl Q) W.length a F p j/\st=stY W h Q a F p j J A D f/\k=W.length-j) ⟨[a],λ_=>[],0,aA,aA,aA,aA,Y,rfl,rfl⟩ ?_) ?_)))
 ·rintro k st ⟨F,p,j,J,A,D,f,i,rfl,rfl⟩;obtain⟨x,n,t,g,E⟩:=H i;have I:=i.goes o M1 P;have Z:=RX i.nd i.lt;by_cases L:Zl Q x<=(h.count x:Int)
  ·refine .inr ⟨(N g E).trans (by rw[decide_eq_true L]),Z4 (Zp (ep (o2 rfl rfl g))) (L3 (Tu (ls:=Xt (iL (nL h))) (λm s=>∃F p A D f,BIn (eW W) h (Zl Q) W.length a F p j x m/\s=stY W h Q a F p j (ax (.int (x:Int))) A D f) rfl ⟨F,p,A,D,f,⟨i,n,λk X=>absurd X (Nat.not_lt_zero _)⟩,rfl⟩ ?_) ?_)⟩
   ·rintro m l s B ⟨F,p,A,D,f,C,rfl⟩;rw[JL] at B;have O:m<h.length:=by simpa using(aR.mp B).1
    rw[aX,cC O] at B;cases B;have M:m<(eW W).length:=by rw[<-o.len];exact O
    have t:x∈F:=av C.hx;have Z:F.length<=7:=cD (RX C.b.nd C.b.lt) few;let y:=UH (Zx (eW W) m) (hd h m);refine⟨_,rfl,Z4 (Zp (c2 (o2 rfl rfl (JH M)) rfl (HN M))) (L4 (xa (xb (C2 rfl rfl)) (p2:=!decide (y∈F)) (xb ?_)) (λw=>?_) λw=>R0 rfl ⟨F,p,_,_,_,C.pass λz=>?_,rfl⟩)⟩
    ·unfold Zed;show(dIn (dF F p) (.int (y:Int))).map (λb=>PV.bl (if aC=aC then !b else b))=_;rw[Zmr];rfl
    ·obtain⟨c,d⟩:hd h m=x/\y∉F:=by simpa [gv] using w
     subst c;have:=C.b.sh (hd h m) t;exact Z4 (IX (k:=.int (y:Int)) (d:=dF F p) (Zcr (o2 (o2 rfl rfl (Zcq t)) rfl (Zgh (by omega)))) rfl rfl (Zj9 d (by omega))) (R0 (Js rfl rfl (by omega)) ⟨_,_,_,_,_,C.add o Va M rfl d,rfl⟩)
    ·subst z;simpa [y] using w
   ·rintro s ⟨S,U,y8,y9,y10,C,rfl⟩;rw[show(Xt (iL (nL h))).length=(eW W).length by rw[JL];simp[o.len]] at C;exact R0 rfl ⟨W.length-(j+1),by omega,S,U,j+1,_,_,_,_,C.done L,rfl,rfl⟩
  ·exact .inl ((N g E).trans (by rw[decide_eq_false L]))
 ·rintro s ⟨k,⟨F,p,j,J,A,D,f,i,rfl,rfl⟩,q⟩;obtain⟨x,n,t,g,E⟩:=H i;have lt:=of_decide_eq_false (bC ((N g E).symm.trans q));have:=i.sh x t;have:=RX i.nd i.lt;exact Vx (ep (o2 rfl (o2 rfl rfl g) (Zcq t)) (ZY _)) ⟨p x,x,F,rfl,i.pt x t,by omega,by omega⟩
end
section
variable {W:List (List Int)} {h:List Nat} {Q:List Int}
abbrev stH(W:List (List Int))(Q:List Int)(h:List Nat)(x4 x5 x6:Option PV):ZG:=[ax (wP W),ax (pP Q),ax (Tx W),ax (hV h),x4,x5,x6]
theorem HQ(E:List ZE):∀(ks h:List Nat),(Vb E h ks).length=h.length
 | [],_=>rfl
 | k::ks,h=>by show(Vb E (TF E h k) ks).length=_;rw[HQ E ks];unfold TF;rw[cG]
theorem L9(E:List ZE):∀(ks h:List Nat)(k:Nat),Vb E h (ks++[k])=TF E (Vb E h ks) k
 | [],_,_=>rfl
 | _::ks,_,k=>L9 E ks _ k
theorem Bp{n a:Nat}{q:Nat->Int}(e:Pm n q h=ax a):a<n/\q a<(h.count a:Int):=by have m:=dZ e;have c:=jK e;exact⟨aY.mp m,of_decide_eq_true c⟩
theorem JM(ok:Zt W)(z:(eW W).length<=441)(l:Q.length=W.length)(A:∀G:List Nat,G.Nodup->(∀g∈G,g<W.length)->G≠[]->Wb G (eW W)<=(G.map (Zl Q)).sum) :
  ∃h,Tg [wP W,pP Q]=ax (hV h)/\HOk (eW W) h/\∀v,v<W.length->(h.count v:Int)<=Zl Q v:=by
 suffices g:Y9 Pc (ZP 7 [wP W,pP Q]) λv=>∃h,v=hV h/\HOk (eW W) h/\∀v,v<W.length->(h.count v:Int)<=Zl Q v by obtain⟨v,e,h,rfl,r⟩:=Pf g;exact⟨h,e,r⟩
 let f:List Nat:=(aD (eW W).length).map λk=>(Zx (eW W) k).1
 have y:HOk (eW W) f:=⟨by simp[f],λk b=>.inl (by
  show((aD (eW W).length).map λk=>(Zx (eW W) k).1).getD k 0=_;rw[aF,aX,cC b];rfl)⟩
 have n:∀h,WX [hV h,pP Q]=ax (UT (Pm W.length (Zl Q) h)):=λh=>by rw[<-l];exact HP
 refine ZU (Zp (c1 rfl (Wa ok).1)) (ZU (Zp (v:=hV f) ((ZL (aD (eW W).length) (λk=>pP (P6 W k)) (λk=>.int ((Zx (eW W) k).1:Int)) ?_ (by simp;omega) λk b=>⟨_,rfl,rfl,ep (o2 rfl rfl (Tz (aY.mp b)).1)⟩).trans ?_)) (ZU (Zp (c2 rfl rfl (n _))) (Wu (Ds (λk st=>∃h j d,HOk (eW W) h/\st=stH W Q h (ax (UT (Pm W.length (Zl Q) h))) j d/\k=(Zcm W.length (Zl Q) h).toNat) ⟨f,aA,aA,y,rfl,rfl⟩ ?_) ?_)))
 ·show ax ((Z8 W).map pP)=_;rw[W9]
  conv=>lhs;rw[<-Mc (Z8 W) []]
  rw[bZ];rfl
 ·unfold hV nL;rw[bZ,Ph];rfl
 ·rintro k st ⟨h,j,d,o,rfl,rfl⟩
  cases e:Pm W.length (Zl Q) h with
  | none=>exact .inl (xb rfl)
  | some a=>
   obtain⟨m,M1⟩:=Bp e;obtain⟨c,x,F,B,p,fr,_⟩:=F2 ok o z l m M1 A;have ls:=Zcn m M1 fr p.cn;have C:=Zj6 W.length (Zl Q) (Vb (eW W) h c);refine .inr ⟨xb rfl,Z4 (Zp (c4 rfl rfl rfl rfl B)) (L3 (Zme (X:=c) (λi s=>∃d,s=stH W Q (Vb (eW W) h (c.take i)) (ax (.int (a:Int))) (ax (Oy c)) d) rfl ⟨d,rfl⟩ ?_) ?_)⟩
   ·rintro i s t ⟨d,rfl⟩;have b:=p.lt _ (bQ t);have u:(Vb (eW W) h (c.take i)).length=(eW W).length:=by rw[HQ,o.len]
    refine R0 (FE (k:=c[i]) rfl (c2 (o2 rfl rfl (JH b)) (o2 rfl rfl (Zj7 (by rw[u];exact b))) (HN b)) rfl (by simp only[nL,aJ,u];exact b)) ⟨ax (.int ((c[i]:Nat):Int)),?_⟩;rw[dQ t,L9];show _=stH W Q (List.set _ _ _) _ _ _;unfold stH hV nL;rw[ky];rfl
   ·rintro s ⟨D,rfl⟩;rw[ck];exact R0 (Zp (c2 rfl rfl (n _))) ⟨_,by omega,_,_,_,p.ok,rfl,rfl⟩
 ·rintro s ⟨k,⟨h,j,d,o,rfl,rfl⟩,q⟩
  cases e:Pm W.length (Zl Q) h with
  | some a=>rw[e] at q;cases q
  | none=>
   refine Vx rfl ⟨h,rfl,o,λv w=>?_⟩;have:=eM.mp e v (aY.mpr w);simp only[decide_eq_true_eq] at this;omega
end
noncomputable def MF(W:List (List Int))(P:List Int):List Int:=PZ (PY P (aS W.length 1)) (Zbt W.length 0)
theorem Zcs{W:List (List Int)}{P:List Int}(d:P.length=W.length){i:Nat}(c:i<W.length):Zl (MF W P) i=Zl P i+1-if i=0 then 1 else 0:=by
 unfold MF;rw[IZ (by rw[V4,d];exact c),RT (by rw[d];exact c)];have a:Zl (aS W.length 1) i=1:=by unfold Zl;rw[aF,b7,p9 c];rfl
 have b:Zl (Zbt W.length 0) i=if i=0 then 1 else 0:=ZF c
 rw[a,b]
theorem Zgi{W:List (List Int)}(ok:Zt W){P:List Int}(j:P.length=W.length)(f:UG W P)(G:List Nat)(c:G.Nodup)(lt:∀g∈G,g<W.length)(ne:G≠[]):Wb G (eW W)<=(G.map (Zl (MF W P))).sum:=by
 obtain⟨g,e⟩:=g8 G ne;have d:=f (λi=>decide (i∈G)) ⟨g,lt g e,decide_eq_true e⟩;have m:=Zce (w:=ZM W) (D:=Zl P) c lt (by rw[Ou ok c lt];omega);have p:=Ou ok c lt;unfold uW at d;rw[<-m] at d;unfold Hk at d
 have o:(G.map (Zl (MF W P))).sum=(G.map (Zl P)).sum+(G.map λi=>1-if i=0 then(1:Int) else 0).sum:=by
  rw[<-Ts];congr 1;exact au λi l=>by rw[Zcs j (lt i l)];omega
 have n:∀G:List Nat,G.Nodup->(G.length:Int)-1<=(G.map λi=>1-if i=0 then(1:Int) else 0).sum/\(0∉G->(G.length:Int)<=(G.map λi=>1-if i=0 then(1:Int) else 0).sum):=λG=>by
  induction G with
  | nil=>intro _;exact⟨by decide,λ_=>by decide⟩
  | cons x G ih=>
   intro c;obtain⟨h,k⟩:=aq.mp c;obtain⟨a,b⟩:=ih k;simp only[af,bR,az];by_cases z:x=0
   ·subst z;have:=b h;simp;omega
   ·simp[z];exact⟨by omega,λ_ w=>by have:=b w;omega⟩
 have q:=(n G c).1;omega
theorem Bq{h:List Nat}{k g c:Nat}(a:k<h.length):VZ YN (Oy h) [.int (k:Int),.int (g:Int),.int (c:Int)]=ax (.bl (decide (hd h k=g))):=by
 unfold VZ;rw[pW (show YN≠Yn from FU (by decide)),p9 rfl]
 exact o2 (o2 rfl rfl (show ZR (Oy h) (.int (k:Int))=ax (.int (hd h k:Int)) from Zj7 a)) rfl (by
  rw[Uj];simp[gv])
noncomputable def Zct(W:List (List Int))(P:List Int)(T X:List Nat):Prop:=∃h,HOk (eW W) h/\(∀v,v<W.length->(h.count v:Int)<=Zl (MF W P) v)/\T=Ve ((ZZ (eW W) (λk g _=>decide (hd h k=g)) (eW W).length (Sn 0)).B.map (·.1))/\X=((aD h.length).filter λk=>!decide (k∈T)).map (hd h)
theorem Zgj{W:List (List Int)}(ok:Zt W){P:List Int}(d:P.length=W.length)(j:UG W P):∃T X:List Nat,Qz [wP W,pP P]=ax (.tup [pP (nL T),pP (nL X)])/\Zct W P T X:=by
 have m:=ok.few;have u:=ok.pos;have p:(MF W P).length=W.length:=by unfold MF;rw[IY,V4,d]
 have n:(eW W).length<=441:=by rw[W9];exact(Wa ok).2
 obtain⟨h,i,o,q⟩:=JM ok n p (Zgi ok d j);have s:=o.len;have e:=MA ok u (Lm:=YN) (l:=Oy h) (φ:=λk g _=>decide (hd h k=g)) (We (nL h)) λk g c f _=>Bq (by rw[s];exact f);generalize t:Ve ((ZZ (eW W) (λk g _=>decide (hd h k=g)) (eW W).length (Sn 0)).B.map (·.1))=T at e;let X:List Nat:=((aD h.length).filter λk=>!decide (k∈T)).map (hd h);refine⟨T,X,XX (sq (Zp (c2 (c2 (b:=pP (aS W.length 1)) rfl (o2 (a:=.tup [.int 1]) rfl (c1 rfl Vq) ?_) (Jl (by rw[cL,d]) (by rw[d];omega))) (c2 rfl rfl (Bc (h:=0) m)) (IW (by simp[Zbt,V4,d]) (by rw[V4,d];omega)))) (sq (Zp (ep (Zcr (c2 rfl rfl i)) (ZY _))) (sq (Zp (v:=pP (nL T)) ?_) (ret (ep (Zmf rfl (c1 (a:=.lst (iL (nL X))) ((XG (aD h.length) (λ(k:Nat)=>.tup [.int (k:Int),.int (hd h k:Int)]) (λ(k:Nat)=>.int (hd h k:Int)) (λk=>!decide (k∈T)) (by show ax (Xt (iL (nL h)))=_;rw[JL]) (by simp;omega) λk f=>⟨_,rfl,xb (o2 rfl rfl (by rw[Dp];simp only[Mg];rfl)),λ_=>rfl⟩).trans ?_) (RA _))) (by simp)))))),h,o,q,t.symm,rfl⟩
 ·show(if ZC [PV.int 1]=aC/\[PV.int 1]≠[]/\1<=(W.length:Int)/\(W.length:Int)<=1000000/\[PV.int 1].length*((W.length:Int)).toNat<=10000 then ax (PV.tup (aS ((W.length:Int)).toNat [PV.int 1]).flatten) else aA)=_;rw[p9 ⟨rfl,by simp,by omega,by omega,by simp;omega⟩,bV,Ib];simp
 ·show(WL [wP W,.int ((0:Nat):Int),.clo YN (Oy h)]).bind _=_;rw[e,aQ,p9 (We _)]
 ·show _=ax (PV.lst (iL (nL (((aD h.length).filter λk=>!decide (k∈T)).map (hd h)))));unfold nL;rw[bZ,Ph];rfl
end PW
namespace PW
open L2 VL VX PK
noncomputable def Br(W:List (List Int)):Int:=((eW W).length:Int)-(W.length:Int)+1
theorem Pn{l:List Int}{n:Nat}(h:l.length=n)(c:n<=1000):Ut [pP l,.int (n:Int)]=ax (.bl aC):=by
 have c1:Ze UK [Za 0,eC (.ty "tuple")] [ax (pP l),ax (.int (n:Int))]=ax (.bl aC):=by simp
 have c2:Zm (Xz aC) (Ze ZN [Za 0]) (Za 1) [ax (pP l),ax (.int (n:Int))]=ax (.bl aB):=by
  have:Ze ZN [Za 0] [ax (pP l),ax (.int (n:Int))]=ax (.int (n:Int)):=by show ax (PV.int ((iL l).length:Int))=_;rw[aJ,h]
  rw[XD,this];show Xz aC (.int (n:Int)) (.int (n:Int))=_;simp
 have b:Ru (Gj (Py (xB (Ze UK [Za 0,eC (.ty "tuple")]))) (xB (Zm (Xz aC) (Ze ZN [Za 0]) (Za 1)))) (ZQ (eP (eC (.bl aB)))) YE [ax (pP l),ax (.int (n:Int))]=ax (.nx [ax (pP l),ax (.int (n:Int))]):=by rw[Vj,Rx,Ry,U7,c1];simp only[aQ,AD,bz,m9,jc,if_false];rw[U7,c2];rfl
 have a:Zw 1 [] (U2 (Za 0)) (.one 0) ZD (Ze VQ [Za 0]) [ax (pP l),ax (.int (n:Int))]=ax (.lst ((l.map λ_=>aC).map PV.bl)):=by rw[ZL l PV.int (λ_=>.bl aC) (RE (by simp)) (by omega) (λi d=>⟨_,rfl,rfl,by simp[ZH,Za3]⟩),bZ];rfl
 show YF 2 SN _=_;unfold SN;show(Zn _ _ [ax (pP l),ax (.int (n:Int))]).bind U5=_
 rw[W4 b,M3 (v:=.bl aC) (by
  rw[U6,Yl,Zy,a];show(oM (Kv [.lst ((l.map λ_=>aC).map PV.bl)]) λl=>if ZO l=aC then ax l else aA)=_;rw[AH];simp)]
 rfl
end PW
namespace PW
open PySem L2 VL VX PK
noncomputable def JN(W:List (List Int)):List Int:=(aD W.length).map λh=>(ZA W h).sum/2-1
theorem Bt{W:List (List Int)}(ok:Zt W):NJ [wP W]=ax (pP (JN W)):=by have b:=ok.few;exact XX (ret (HS (c1 (Se (λh=>(ZA W h).sum/2-1) (Xd (c1 rfl Vq) (by omega)) (by omega) λi a=>⟨_,rfl,rfl,Bz (vdv (c2 rfl rfl (N5 a)) rfl) rfl⟩) (RA _))))
theorem Zgk(W:List (List Int)):(JN W).length=W.length:=by simp[JN]
theorem Bv{W:List (List Int)}(ok:Zt W)(t:V2 W){P L:List Int}(f:P.length=W.length)(p:UG W P)(o:P.sum=Br W)(y:∀h,h<W.length->(Zl (PZ (ZT W P L) (JN W)) h).natAbs<=2^208) :
  ∃(S:List Int) (T X:List Nat),RO [wP W,pP (ZT W P L)]=ax (.tup [pP (Y2 S),pP P,pP (nL T),pP (nL X)])/\S.length=W.length/\Zct W P T X/\∃c,∀i,i<W.length->Zl L i+Zl S i=c:=by
 have E:=ok.few;have k:=ok.pos;let D:=ZT W P L;have a:D.length=W.length:=by show(ZT W P L).length=_;rw[Z9,f]
 have q:D.sum=Br W:=by show(ZT W P L).sum=_;rw[RV ok f,o]
 have s:=Hu ok t (D:=PZ D (JN W)) (b:=0) (by rw[IY,a]) k y;have m:=Ht (W:=W) (D:=PZ D (JN W)) (b:=0) k;generalize Ms W (PZ D (JN W)) 0=S0 at s m;obtain⟨z,A,n⟩:=Zj4 (λi=>Zl L i+Zl S0 i) k;have x:Way W P (Zl L) (Zl L z+Zl S0 z) S0 (ZT W D S0):=by refine⟨m,by rw[Z9,a],by rw[RV ok a,q,o],λi j=>by have:=n i j;omega,⟨z,A,by omega⟩,λi j=>?_⟩;rw[Zj5 _ _ j,W7 (by rw[a];exact j),show Zl D i=Zl P i+gN W (Zl L) i from W7 (by rw[f];exact j),Vy];omega
 obtain⟨T,X,B,u⟩:=Zgj ok f p
 suffices g:Y9 IK (ZP 7 [wP W,pP D]) λv=>∃S,v = .tup [pP (Y2 S),pP P,pP (nL T),pP (nL X)]/\S.length=W.length/\∃c,∀i,i<W.length->Zl L i+Zl S i=c by obtain⟨v,e,S,rfl,l,r⟩:=Pf g;exact⟨S,T,X,e,l,u,r⟩
 have rt:WV [wP W,pP D]=ax .non:=Zmb (gof (xb (o2 (c1 rfl (Za2 D)) (c1 rfl (Zb2 ok)) (by
  rw[Uj];show ax (PV.bl (!decide (D.sum=Br W)))=_;rw[decide_eq_true q];rfl))))
 refine ZU (Zmc (c2 rfl rfl rt)) (ZU (Zp (c3 rfl (c2 rfl (c1 rfl (Bt ok)) (IW (by rw[Zgk,a]) (by rw[a];omega))) rfl s)) (ZU (Zp (c3 rfl rfl rfl (Jm ok a m))) (ZU (Zp (c2 rfl rfl (V7 ok (by rw[Z9,a])))) (Zcj ok p f o x λS C F d w=>ZU (Zp (c2 rfl rfl B)) (Vx (ep (by
  rw[Rw,Zy,c1 rfl (Mr (l:=S) (by rw[d];exact k) (by rw[d];omega))];rfl) (by simp)) ⟨S,rfl,d,_,w⟩)))))
end PW
namespace PW
open L2 VL VX PK
theorem MG(c:Int)(n:Nat)(f:Nat->Nat->Int):s2 n (λi j=>c*f i j)=c*s2 n f:=by unfold s2;rw[<-ZJ];exact Zi λi _=>ZJ _ _ _
theorem Zgl(n:Nat)(f:Nat->Nat->Int):s2 n (λi j=>f j i)=s2 n f:=(UC f n n).symm
theorem Zcu(n:Nat)(f:Nat->Int)(g:Nat->Nat->Int):s2 n (λi j=>f i*g i j)=sN n λi=>f i*sN n (g i):=Zi λi _=>ZJ _ _ _
noncomputable def enE(n:Nat)(w:Nat->Nat->Int)(z:Nat->Int):Int:=s2 n λi j=>w i j*((z j-z i)*(z j-z i))
section
variable {n:Nat} {w:Nat->Nat->Int} (sy:∀a b,a<n->b<n->w a b=w b a)
include sy
theorem Zgm(z:Nat->Int):sN n (gw n w z)=0:=by
 have h:=FZ n λi j=>w i j*(z j-z i)
 have e:s2 n (λi j=>w i j*(z j-z i)+w j i*(z i-z j))=0:=by
  exact YH λi a=>YH λj b=>by show w i j*(z j-z i)+w j i*(z i-z j)=0;rw[sy j i b a];grind
 have:sN n (gw n w z)=s2 n λi j=>w i j*(z j-z i):=rfl;omega
theorem Zgn(z:Nat->Int)(e:Int)(g:Nat->Bool):enE n w (λi=>z i+e*b1 (g i))=enE n w z-4*e*(sN n λi=>b1 (g i)*gw n w z i)+e*e*s2 n (λi j=>w i j*(b1 (g j)-b1 (g i))*(b1 (g j)-b1 (g i))):=by
 have d:enE n w (λi=>z i+e*b1 (g i))=enE n w z+(2*e)*s2 n (λi j=>w i j*(z j-z i)*(b1 (g j)-b1 (g i)))+(e*e)*s2 n (λi j=>w i j*(b1 (g j)-b1 (g i))*(b1 (g j)-b1 (g i))):=by
  unfold enE;rw[<-MG,<-MG,<-S5,<-S5];exact TB λi _ j _=>by grind
 have c:s2 n (λi j=>w i j*(z j-z i)*(b1 (g j)-b1 (g i))) = -2*s2 n λi j=>b1 (g i)*(w i j*(z j-z i)):=by
  have a:s2 n (λi j=>w i j*(z j-z i)*(b1 (g j)-b1 (g i)))=s2 n (λi j=>w i j*(z j-z i)*b1 (g j))+(-1)*s2 n (λi j=>b1 (g i)*(w i j*(z j-z i))):=by
   rw[<-MG,<-S5];exact TB λi _ j _=>by grind
  have b:s2 n (λi j=>w i j*(z j-z i)*b1 (g j))=(-1)*s2 n (λi j=>b1 (g i)*(w i j*(z j-z i))):=by
   rw[<-Zgl,<-MG];exact TB λi f j h=>by rw[sy j i h f];grind
  omega
 rw[d,c,Zcu];unfold gw;grind
end
theorem JO:∀n:Nat,sN n (λ_=>1)=(n:Int)
 | 0=>rfl
 | n+1=>by show sN n (λ_=>1)+1=_;rw[JO n];omega
theorem Zka{d:Type}(f:d->Int)(h:∀a,0<=f a)(g:d):∃a,∀b,f a<=f b:=by
 have:∀(k:Nat)(a:d),(f a).toNat=k->∃a,∀b,f a<=f b:=λk=>by
  induction k using lM with
  | _ k ih=>
   intro a e;by_cases q:∃b,f b<f a
   ·obtain⟨b,i⟩:=q;have:=h b;exact ih (f b).toNat (by omega) b rfl
   ·exact⟨a,λb=>cA λc=>q ⟨b,by omega⟩⟩
 exact this _ g rfl
theorem Zgo{n:Nat}{w:Nat->Nat->Int}(f:∀a b,a<n->b<n->w a b=w b a)(g:Nat->Bool):2*sN n (λi=>b1 (g i)*sN n (w i))=2*qw n w g+s2 n (λi j=>w i j*(b1 (g j)-b1 (g i))*(b1 (g j)-b1 (g i))):=by
 have a:=(Zcu n (λi=>b1 (g i)) w).symm;have b:=FZ n λi j=>b1 (g i)*w i j
 have c:s2 n (λi j=>b1 (g i)*w i j+b1 (g j)*w j i)=2*qw n w g+s2 n (λi j=>w i j*(b1 (g j)-b1 (g i))*(b1 (g j)-b1 (g i))):=by
  unfold qw;rw[<-MG,<-S5]
  exact TB λi d j e=>by
   rw[f j i e d];unfold b1;cases g i<;>cases g j<;>simp<;>omega
 omega
theorem Zgp{W:List (List Int)}(ok:Zt W)(w:V2 W){D:List Int}(hd:D.length=W.length)(I:D.sum=((eW W).length:Int)-(W.length:Int)+1):∃(S:Nat->Int) (P:List Int),P.length=W.length/\UG W P/\∀i,i<W.length->Zl P i=Zl D i+gN W S i:=by
 have u:=ok.pos;have s:=λa b L R=>ok.sym a b L R;let n:=(W.length:Int);let Y:=λh=>2*n*Zl D h-n*sN W.length (ZM W h)+(2*n-2);obtain⟨z,_,_,p⟩:=Q2 ok w u Y;have v:=(Xx (Mq ok w u Y) (aZ _)).nz;generalize (Wv (W.length-1) (Vz W 0 Y) (W.length-1)).2=d at p v
 have N:sN W.length Y=0:=by
  have q:=Zci ok hd I;have q1:lw W.length (Zl D) (λ_=>aC)=D.sum+n:=by unfold lw;rw[Zi (g:=λi=>Zl D i+1) λi _=>by show 1*(Zl D i+1)=_;omega,ZS,Tw,hd,JO]
  have Z:qw W.length (ZM W) (λ_=>aC)=sN W.length λi=>sN W.length (ZM W i):=TB λi _ j _=>by show 1*1*ZM W i j=_;omega
  unfold uW uw at q
  have e:sN W.length Y=(2*n)*sN W.length (Zl D)+(-n)*(sN W.length λi=>sN W.length (ZM W i))+(2*n-2)*sN W.length (λ_=>1):=by
   rw[<-ZJ,<-ZJ,<-ZJ,<-ZS,<-ZS];exact Zi λi _=>by grind
  rw[e,JO];have e2:sN W.length (Zl D)=D.sum:=by rw[Tw,hd]
  grind
 have M:∀h,h<W.length->gN W z h = -(d*Y h):=λh E=>by
  by_cases q:h=0
  ·subst q;have a:=Zbb (f:=gN W z) (g:=λh=>(-d)*Y h) u λx T F=>by rw[p x T F];grind
   have b:sN W.length (gN W z)=0:=Zgm s z;rw[ZJ,N,b] at a;grind
  ·exact p h E q
 obtain⟨S,G⟩:=Zka (λS:Nat->Int=>enE W.length (ZM W) (λi=>z i + -(2*n*d)*S i)) (λS=>Ym λi m=>Ym λj A=>dR (ok.lo i j m A) (by
  rcases Int.le_total 0 ((z j + -(2*n*d)*S j)-(z i + -(2*n*d)*S i)) with q | q
  ·exact dR q q
  ·exact Int.mul_nonneg_of_nonpos_of_nonpos q q)) λ_=>0
 let P:=(aD W.length).map λi=>Zl D i+gN W S i;refine⟨S,P,by simp[P],λg B=>?_,λi m=>ZF m⟩;have o:=G λi=>S i-b1 (g i);have O:enE W.length (ZM W) (λi=>z i + -(2*n*d)*(S i-b1 (g i)))=enE W.length (ZM W) (λi=>(z i + -(2*n*d)*S i)+(2*n*d)*b1 (g i)):=by congr 1;funext i;grind
 rw[O,Zgn s] at o;have c1:=Zgo s g;generalize X:s2 W.length (λi j=>ZM W i j*(b1 (g j)-b1 (g i))*(b1 (g j)-b1 (g i)))=C at o c1
 have U:sN W.length (λi=>b1 (g i)*gw W.length (ZM W) (λi=>z i + -(2*n*d)*S i) i)=(-d)*((2*n)*lw W.length (Zl P) g+(-n)*sN W.length (λi=>b1 (g i)*sN W.length (ZM W i))+(-2)*sN W.length λi=>b1 (g i)):=by
  unfold lw;rw[<-ZJ,<-ZJ,<-ZJ,<-ZS,<-ZS,<-ZJ];refine Zi λi m=>?_;have a:gw W.length (ZM W) (λi=>z i + -(2*n*d)*S i) i=gN W z i + -(2*n*d)*gN W S i:=by show gN W (λi=>z i + -(2*n*d)*S i) i=_;rw[Vy,Wd]
  have b:Zl P i=Zl D i+gN W S i:=ZF m;grind
 rw[U] at o;have H:1<=sN W.length λi=>b1 (g i):=by obtain⟨i,m,J⟩:=B;have:=Sj (f:=λi=>b1 (g i)) (λi _=>Hi _) m;rw[J] at this;exact this
 have ev:=JK (D:=P) ok g
 have Q:0<uW W P g:=by
  unfold uW uw;generalize lw W.length (Zl P) g=l at o ⊢;generalize qw W.length (ZM W) g=q at c1 ⊢;generalize sN W.length (λi=>b1 (g i)*sN W.length (ZM W i))=t at o c1;generalize (sN W.length λi=>b1 (g i))=k at o H
  have y:0<d*d:=by
   rcases ja v with q | q
   ·exact Int.mul_pos_of_neg_of_neg q q
   ·exact Int.mul_pos q q
  have m3:0<=(4*n*(d*d))*(2*n*(2*l-q)-4*k):=by
   have:(4*n*(d*d))*(2*n*(2*l-q)-4*k) = - (4*(2*n*d)*((-d)*((2*n)*l+(-n)*t+(-2)*k)))+2*n*d*(2*n*d)*C:=by grind
   omega
  refine cA λc=>?_;have m4:2*n*(2*l-q)<=0:=Int.mul_nonpos_of_nonneg_of_nonpos (by omega) (by omega);have m5:(4*n*(d*d))*(2*n*(2*l-q)-4*k)<0:=Int.mul_neg_of_pos_of_neg (Int.mul_pos (by omega) y) (by omega);omega
 omega
end PW
namespace PW
open PySem L2 VL VX PK
section
variable {W:List (List Int)} {D E P:List Int} {b:Nat} {F:List Nat}
theorem Ka(h:∀g,g≠b->Zl D g=Zl E g)(a:b∈F):YX W D F=YX W E F:=by
 unfold YX;congr 1;funext g;by_cases q:g=b
 ·rw[q];simp[a]
 ·rw[h g q]
theorem JP(s:Settled W b D F)(h:∀g,g≠b->Zl D g=Zl E g):Settled W b E F:=by
 have hd:=s.burn.hd;refine⟨λg a ne=>by rw[<-h g ne];exact s.free g a ne,⟨s.burn.nd,s.burn.lt,hd,λk d c=>?_⟩,?_,s.all⟩
 ·rw[<-Ka h (av (i:=0) (by rw[dA (by omega)];exact hd))];exact s.burn.st k d c
 ·rw[<-Ka h (av hd)];exact s.stop
theorem Zgq(ok:Zt W)(f:UG W P){h:Nat}(a:h<W.length):0<=Zl P h:=by have:=f (λi=>decide (i=h)) ⟨h,a,by simp⟩;unfold uW uw lw qw s2 at this;rw[Z3 (k:=h) a (λi _ b=>by simp[b1,b]),Z3 (k:=h) a (λi _ b=>YH λj _=>by simp[b1,b]),Z3 (k:=h) a (λj _ c=>by simp[b1,c]),ok.dia h a] at this;simp[b1] at this;omega
theorem F3(ok:Zt W)(o:V2 W)(hd:D.length=W.length)(p:D.sum=Br W)(t:∀h,h<W.length->(Zl (PZ D (JN W)) h).natAbs<=2^208):∃(L P:List Int) (T X:List Nat),RO [wP W,pP D]=ax (.tup [pP L,pP P,pP (nL T),pP (nL X)])/\L.length=W.length/\P.length=W.length/\ZT W D L=P/\UG W P:=by
 obtain⟨j,P,b,n,eP⟩:=Zgp ok o hd p;let L:List Int:=(aD W.length).map λi=>(-1)*j i;have d:∀i,i<W.length->Zl L i=(-1)*j i:=λi a=>ZF a;have k:ZT W P L=D:=WE (by rw[Z9,b,hd]) λi a=>by rw[Z9,b] at a;rw[W7 (by rw[b];exact a),V5 a d,Wd,eP i a];omega
 have s:P.sum=Br W:=by rw[<-p,<-k,RV ok b]
 obtain⟨S,T,X,m,l,_,c,q⟩:=Bv (L:=L) ok o b n s (by rw[k];exact t);rw[k] at m;refine⟨Y2 S,P,T,X,m,by rw[UB,l],b,WE (by rw[Z9,hd,b]) λi a=>?_,n⟩;rw[Z9,hd] at a;rw[W7 (by rw[hd];exact a),eP i a];congr 1;have e:∀g,g<W.length->Zl (Y2 S) g=j g+(c-XI S):=λg f=>by rw[S2 (by rw[l];exact f)];have:=q g f;rw[d g f] at this;omega
 rw[V5 a e,Vy,R3 (T:=λ_=>c-XI S) (c:=c-XI S) (λ_ _=>rfl) a];omega
noncomputable def Rl(W:List (List Int))(b:Nat)(P:List Int)(T:List Nat):Prop:=∃S D G,Tc [wP W,pP P,.int (b:Int)]=ax (.tup [S,pP D,G])/\MB W D b=T
theorem Rl.uniq{T c:List Nat}(h:Rl W b P T)(h':Rl W b P c):T=c:=by obtain⟨S,D,G,e,t⟩:=h;obtain⟨f,g,d,a,t'⟩:=h';rw[e] at a;injection a with a;injection a with a;simp only[oN] at a;rw[<-t,<-t',pP_inj.mp a.2.1]
theorem Zcv(d:F.Nodup):(Ve F).Pairwise (· < ·):=by
 have e:(nL (Ve F)).Pairwise (·<=·):=by rw[Ov];exact Um _
 have b:(Ve F).Nodup:=(V6 F).nodup_iff.mpr d;exact((fF.mp e).and b).imp λ⟨a,c⟩=>by omega
end
theorem F4{W:List (List Int)}(ok:Zt W):Qt [wP W]=ax (.int (Br W)):=by
 have d:=ok.few
 have e:(W.map λr=>r.sum).sum=2*((Z8 W).length:Int):=by
  rw[<-Hb ok];congr 1;apply gM;intro i;by_cases c:i<W.length
  ·rw[aX,aX,cC c,aE c];unfold ZA;simp[aF,aE c]
  ·rw[bw (by simp;omega),bw (by simp;omega)]
 refine XX (ret (vP ?_));unfold Br;rw[W9];refine FD (Bz ((vdv (a:=2*((Z8 W).length:Int)) (b:=2) (c1 (a:=.lst (iL (W.map λr=>r.sum))) ?_ (by rw[Gw,e])) rfl).trans ?_) (c1 rfl Vq)) rfl
 ·rw[ZL W pP (λr=>.int r.sum) rfl (by omega) (λr _=>⟨[ax (pP r)],rfl,rfl,AG r⟩),Ph]
 ·congr 2;omega
theorem Zcw{W:List (List Int)}(ok:Zt W)(J:V2 W)(O:(eW W).length<=12){b:Nat}(o:b<W.length){m:Nat->Nat}{F:List Nat}(tr:TrOk W.length (eW W) m F []):∃P,K1 [wP W,.int (b:Int),pP (nL (Ve F))]=ax (pP P)/\Rl W b P (Ve F):=by
 have hp:=ok.pos;have hf:=ok.few;have nd:F.Nodup:=by have:=tr.nd;simpa using this
 have A:∀k∈F,k<(eW W).length:=λk j=>tr.inn k (by simpa using j);have ln:((F.map (Zx (eW W))).length:Int)=W.length-1:=MkOk.all tr.mark hp (Zb1 ok J tr);have lF:F.length+1=W.length:=by rw[aJ] at ln;omega
 have N:∀k,k∈Ve F↔k∈F:=λk=>(V6 F).mem_iff
 obtain⟨st,C⟩:=FX ok o (g:=Ve F) (λt ht=>A t ((N t).mp ht)) (Zcv nd) (λq hq=>CZ tr.mark hp ln λe he=>by
  obtain⟨k,j,rfl⟩:=ar.mp he;exact hq k ((N k).mpr j)) (by rw[(V6 F).length_eq];exact lF)
 generalize hT:Ve F=T at *;have lT:T.length+1=W.length:=by rw[<-hT,(V6 F).length_eq];exact lF
 have H:∀k∈T,k<12:=λk j=>bB (A k ((N k).mp j)) O;have eS:Uv [wP W,.int (b:Int),pP (nL T)]=ax (pP (stl W b T)):=HJ ok o;generalize stl W b T=S at *;obtain⟨G,B⟩:=st.set;have lG:G.length=W.length:=Settled.len B;have isT:isT W T=aC:=by rw[<-C];exact Zb6 ok (WInv.walk Va (WInv.start o)) (Zca ok o B.burn lG B.free)
 have eT:T2 [wP W,pP (nL T)]=ax (.bl aC):=by rw[HF ok (λk j=>by have:=H k j;omega) (by omega),isT]
 have y:=st.len;let D:List Int:=S.set b (Br W-S.sum);have s:D.length=W.length:=by show(S.set b _).length=_;rw[cG,y]
 have E:∀g,g≠b->Zl S g=Zl D g:=λg I=>by
  show _=Zl (S.set b _) g;by_cases q:g<S.length
  ·rw[PW.nth_set q,pW I]
  ·unfold Zl;rw[aF,aF,bw (by omega),bw (by rw[cG];omega)]
 have sD:D.sum=Br W:=by show(S.set b _).sum=_;rw[Zgc (by rw[y];exact o),st.base];omega
 have lp:(Br W).natAbs<=20:=by unfold Br;omega
 have bS:∀h,h<W.length->(Zl S h).natAbs<=63:=λh d=>by
  by_cases q:h=b
  ·rw[q,st.base];decide
  ·have:=Hx ok B d q;omega
 have bsum:S.sum.natAbs<=441:=by rw[Tw,y];have:=FL (f:=Zl S) (M:=63) bS;omega
 have bD:∀h,h<W.length->(Zl D h).natAbs<=600:=λh d=>by
  by_cases q:h=b
  ·have:Zl D b=Br W-S.sum:=by show Zl (S.set b _) b=_;rw[PW.nth_set (by rw[y];exact o),p9 rfl]
   rw[q,this];omega
  ·rw[<-E h q];have:=bS h d;omega
 obtain⟨L,P,T',X,eb,lL,x,eP,fP⟩:=F3 ok J s sD λh d=>by
  rw[IZ (by rw[s];exact d),show Zl (JN W) h=(ZA W h).sum/2-1 from ZF d]
  have e6:((ZA W h).sum).natAbs<=W.length*9:=by
   rw[Tw,ok.sq h d];exact FL λi u=>by have a:0<=Zl (ZA W h) i:=ok.lo h i d u;have b:Zl (ZA W h) i<=9:=ok.hi h i d u;omega
  have:=bD h d;have:(1000:Nat)<=2^208:=by decide +kernel
  omega
 have U:∀h,h<W.length->0<=Zl P h:=λh d=>Zgq ok fP d;have sP:P.sum=Br W:=by rw[<-eP,RV ok s,sD]
 have bP:∀h,h<W.length->(Zl P h).natAbs<=2^208:=λh d=>by
  have e4:=Sj (n:=W.length) U d;rw[<-x,<-Tw,sP] at e4;have:=U h d;have:(1000:Nat)<=2^208:=by decide +kernel
  omega
 let L':List Int:=(aD W.length).map λi=>(-1)*Zl L i
 have eL:ZT W P L'=D:=WE (by rw[Z9,x,s]) λi u=>by
  rw[Z9,x] at u;have e1:Zl P i=Zl D i+gN W (Zl L) i:=by rw[<-eP,W7 (by rw[s];exact u)]
  rw[W7 (by rw[x];exact u),V5 u (Z:=λi=>(-1)*Zl L i) λg I=>ZF I,Wd,e1];omega
 have w:=JP B E;have es:=Ba ok J x o bP (by simp[L']) eL.symm w;have Y:=(C1 ok s o);have eG:G=Hq W D b:=Burn.uniq w.burn Y.2.1 w.stop Y.2.2;have et:T7 [wP W,.int (b:Int),pP D]=ax (pP (nL T)):=by rw[FW ok s o (M4 (by omega) Y.1 (debt_nil.mpr λh d ne=>w.free h (by rw[<-s];exact d) ne) (by rw[<-eG];exact lG))];unfold MB at C ⊢;rw[<-L8 E,C]
 have Q:MB W D b=T:=by unfold MB at C ⊢;rw[<-L8 E,C]
 refine⟨P,?_,_,_,_,es,Q⟩;have ne:P≠[]:=λz=>by rw[z] at x;simp at x;omega
 let R:PV:=.tup [pP L,pP P,pP (nL T'),pP (nL X)];have nb:(0:Int)<=XI P:=by obtain⟨i,u,e⟩:=bp (VR ne).1;have:=U i (by rw[<-x];exact u);unfold Zl at this;rw[aF,aE u] at this;rw[<-e];exact this
 refine XX (sq (Zp (c3 rfl rfl rfl (XX (sq (gof (xn (p:=aC) (xb (c2 rfl rfl eT)))) (ret (c3 rfl rfl rfl eS)))))) (sq (gof (xo (xn (p:=aC) (xb (c2 rfl (c1 rfl Vq) (Pn y (by omega))))) (xb ((o2 (o2 rfl rfl (YD (l:=S) (k:=b) (by rw[y];exact o))) rfl (Uj ..)).trans ?_)))) (sq (Zp (c1 rfl (by rw[Iq,p9 (ZY _)]))) (sq (FE (k:=b) rfl (Bz (c1 rfl (F4 ok)) (c1 rfl (AG S))) rfl (by rw[y];exact o)) (sq (Zp (v:=R) (c2 rfl (c1 rfl rfl) eb)) (sq (gof (xo (xn (p:=aC) (xb (c2 (a:=R) (b:=.ty "tuple") rfl rfl rfl))) (xo (xb (p:=aB) (o2 (op:=Xz aC) (a:=.int 4) (b:=.int 4) (c1 (a:=R) rfl rfl) rfl (by rw[Uj];rfl))) (xn (p:=aC) (xb (c2 (a:=pP L) rfl (c1 rfl Vq) (Pn lL (by omega)))))))) (sq (gof (xo (neq (l:=P) (c3 (c:=pP L) rfl rfl rfl (by
  rw[<-eP];exact FY ok s (λk j=>YD (by rw[s];exact j)) λk j=>YD (by rw[lL];exact j))) rfl) (xb (o2 (a:=.int (XI P)) (b:=.int 0) (c1 (a:=pP P) rfl (EK XI ne)) rfl ?_)))) (sq (Zp (HS (o2 (c3 (b:=pP P) rfl rfl rfl es) rfl rfl))) (sq (gof (xo (neq (l:=D) rfl (c1 rfl rfl)) (neq (l:=nL T) (c3 rfl rfl rfl et) rfl))) (ret (HS rfl)))))))))))
 ·rw[st.base];rfl
 ·show ax (PV.bl (decide (XI P<0)))=_;rw[decide_eq_false (by omega)]
section
variable {τ:List Int->List Nat} {L:List (List Int)} {P:List Int}
noncomputable def knV(τ:List Int->List Nat)(L:List (List Int)):PV:=.dT (L.map kI) (L.map λP=>pP (nL (τ P)))
theorem Zcy(P:List Int):Vs (L.map kI) (L.map λP=>pP (nL (τ P))) (kI P)=if P∈L then ax (pP (nL (τ P))) else aA:=by
 unfold Vs
 induction L with
 | nil=>rfl
 | cons a L ih=>
  rw[af,af,dG,c9];by_cases q:a=P
  ·subst q;simp
  ·have:decide (kI a=kI P)=aB:=decide_eq_false λz=>q (FO z);have n:P≠a:=λz=>q z.symm;rw[this,ih];simp[n]
theorem Zkb{f g h:XE}{s:ZG}(q:f s=ax (knV τ L))(b:g s=ax (pP P))(a:h s=ax (pP (nL (τ P)))):O7 f g h s=ax (pP (nL (τ P))):=by
 unfold O7;rw[q,b,a]
 have e:dIn (knV τ L) (pP P)=ax (decide (P∈L)):=by
  show(MT (pP P)).map _=_;rw[FN,bz,Zcy];by_cases c:P∈L
  ·rw[p9 c,decide_eq_true c];rfl
  ·rw[pW c,decide_eq_false c];rfl
 show(dIn (knV τ L) (pP P)).bind _=_;rw[e,aQ];by_cases c:P∈L
 ·rw[p9 (decide_eq_true c)];show(MT (pP P)).bind _=_;rw[FN,aQ,Zcy,p9 c]
 ·rw[pW (by simpa using c)]
theorem Zgr:∀L:List (List Int),ZC (L.map λP=>pP (nL (τ P)))=aC:=λL=>TV λ_ _=>ZY _
theorem Zkc(f:L.length<=1000):∃L',L'.length<=L.length+1/\As (knV τ L) (pP P) (pP (nL (τ P)))=ax (knV τ L'):=by
 have e:As (knV τ L) (pP P) (pP (nL (τ P)))=ax (.dT (Q6 (L.map kI) (kI P)) (Q7 (L.map kI) (L.map λP=>pP (nL (τ P))) (kI P) (pP (nL (τ P))))):=by show(gd (ZC (L.map λP=>pP (nL (τ P)))&&ZO (pP (nL (τ P)))&&decide ((L.map kI).length<=10000))).bind (λ_=>(MT (pP P)).map _)=_;rw[Zgr,show ZO (pP (nL (τ P)))=aC from ZY _,decide_eq_true (by rw[aJ];omega),FN];rfl
 by_cases c:P∈L
 ·refine⟨L,by omega,?_⟩;have b:kI P∈L.map kI:=gj c;rw[e];unfold Q6 Q7 knV;rw[p9 b,p9 b,List.zip_map',bZ];congr 2;refine au λa _=>?_;show(if kI a=kI P then pP (nL (τ P)) else pP (nL (τ a)))=_;split
  ·rename_i z;rw[FO z]
  ·rfl
 ·refine⟨L++[P],by simp,?_⟩;have b:kI P∉L.map kI:=λz=>by obtain⟨a,d,ea⟩:=ar.mp z;exact c (by rw[<-FO ea];exact d)
  rw[e,LK b,LL b];unfold knV;rw[ay,ay];rfl
end
theorem law_true(ns:List Int)(e:ns.length<=63)(_:∀n∈ns,n.natAbs.log2<=1048576):D_law [.cst (iL ns)]=ax (.bl aC):=by
 obtain⟨W,N,ok,H,Y,Z⟩:=Zb0 e Zoc;have Q:=ok.pos;have x:(eW W).length<=12:=by rw[W9];omega
 obtain⟨b,M,G⟩:=Xy (Zl ns 13) (t:=331) (m:=W.length) (by omega) Q
 obtain⟨τ,tau⟩:∃τ:List Int->List Nat,∀P T,Rl W b P T->τ P=T:=Classical.axiomOfChoice (r:=λP y=>∀T,Rl W b P T->y=T) λP=>by
  by_cases h:∃T,Rl W b P T
  ·exact⟨h.choose,λT A=>Rl.uniq h.choose_spec A⟩
  ·exact⟨[],λT A=>absurd ⟨T,A⟩ h⟩
 let cut:=WA (iL ns) (ax 13) (ax 21);have q:∀l∈cut,∃c,l=PV.int c:=λl u=>by have j:l∈WA (iL ns) (ax 13) (ax 21):=u;unfold WA at j;obtain⟨c,_,rfl⟩:=ar.mp (dh (cW j));exact⟨c,rfl⟩
 have C:cut.length<=63:=by show(WA (iL ns) (ax 13) (ax 21)).length<=63;unfold WA;rw[bG,bU,aJ];omega
 let ls:List PV:=[.int (Zl ns 12)]++cut;have X:ls.length<=64:=by show([PV.int (Zl ns 12)]++cut).length<=64;rw[aT,bu];omega
 let st:PV->Option PV->Option PV->Option PV->ZG:=λd f g o=>[ax (.cst (iL ns)),ax (wP W),ax (.int (b:Int)),ax d,f,g,o];refine Pg (ZU (Zp (v:=wP W) N) (ZU (Zp (c3 (c2 rfl rfl (R4 e 13)) rfl (c1 rfl Vq) G)) (ZU (s1:=st (knV τ []) aA aA aA) rfl (Wu (Tu (ls:=ls) (λi s=>∃L f g o,s=st (knV τ L) f g o/\L.length<=i) ?_ ⟨[],aA,aA,aA,rfl,aZ _⟩ ?_) ?_))))
 ·unfold YL
  rw[o2 (op:=LB) (a:=.lst [.int (Zl ns 12)]) (b:=.lst cut) (R:=ax (.lst ls)) (by
   show(PB _ _).map PV.lst=_
   rw[Zy,c2 (D:=Vu) (a:=.cst (iL ns)) rfl rfl (R4 e 12)];rfl) rfl (by
   show(if 1+cut.length<=10000/\ZC [PV.int (Zl ns 12)]=aC/\ZC cut=aC then ax (PV.lst ([.int (Zl ns 12)]++cut)) else aA)=_;rw[p9 ⟨by omega,rfl,DX _ _ (ZY ns)⟩])]
  rfl
 ·rintro i l s u ⟨L,f,g,o,rfl,S⟩;have U:i<ls.length:=(aR.mp u).1
  obtain⟨c,rfl⟩:∃c,l=PV.int c:=by
   rcases aV.mp (av u) with z | z
   ·exact⟨_,aM.mp z⟩
   ·exact q l z
  obtain⟨m,F,w,tr⟩:=Be ok c;rw[<-Ov] at w;obtain⟨P,B,I⟩:=Zcw ok H x M tr;have J:=tau P _ I;rw[<-J] at w B;obtain⟨O,E,ep⟩:=Zkc (τ:=τ) (L:=L) (P:=P) (by omega);exact⟨_,rfl,Z4 (Zp (c2 rfl rfl w)) (Z4 (Zp (c3 rfl rfl rfl B)) (Z4 (gof (xo (xb (p:=aB) rfl) (neq (l:=nL (τ P)) (Zkb rfl rfl rfl) rfl))) (R0 (IX (v:=pP (nL (τ P))) (k:=pP P) (d:=knV τ L) rfl rfl rfl ep) ⟨O,_,_,_,rfl,by omega⟩)))⟩
 ·rintro s ⟨L,f,g,o,rfl,_⟩;exact Vx (ep rfl) rfl
end PW
namespace PW
open PySem L2 VL
theorem cst_mk{K:aH}{h:ba}{mg:bH->Option aI}{x:bH}{v:Int}{t:Tok}(X:K.In h)(G:h.Ns cO mg)(y:jS K cO x=ax (ax (.int v t))):Cst mg x v:=⟨t,pE X G y⟩
theorem all_mk{P:bM}{w:bc}{K:aH}{mg:bH->Option aI}{fa:aL}(hfa:mg "law" = ax (.ref fa))(B:XQ mg)
  (Z_BASE:Cst mg "BASE" 0)
  (d0:Def K mg "_law_pick" NU)
  (d1:Def K mg "_law_read_web" Uz)
  (d2:Def K mg "_law_at" GZ)
  (d3:Def K mg "_law_web" K8)
  (d4:Def K mg "_law_ties" NV)
  (d5:Def K mg "_law_tree" NW)
  (d6:Def K mg "ties_of" QH)
  (d7:Def K mg "tie_to_look_at" X8)
  (d8:Def K mg "walked" NX)
  (d9:Def K mg "still_by" SW)
  (d10:Def K mg "pieces_of" Tn)
  (d11:Def K mg "is_tree" QI)
  (d12:Def K mg "still_of" SX)
  (d13:Def K mg "total" Ja)
  (d14:Def K mg "loops" Jb)
  (d15:Def K mg "refuse_total" W0)
  (d16:Def K mg "reduced" QJ)
  (d17:Def K mg "evened" NY)
  (d18:Def K mg "solved_below" W3)
  (d19:Def K mg "ties_at" QK)
  (d20:Def K mg "row_of" NZ)
  (d21:Def K mg "square_without" X9)
  (d22:Def K mg "nearing" QL)
  (d23:Def K mg "gain" G8)
  (d24:Def K mg "run" Zav)
  (d25:Def K mg "ties_to" QM)
  (d26:Def K mg "lacking_among" Wr)
  (d27:Def K mg "minus" Jc)
  (d28:Def K mg "overfull" SY)
  (d29:Def K mg "other_end" To)
  (d30:Def K mg "way_out" QO)
  (d31:Def K mg "heads_for" Tp)
  (d32:Def K mg "tree_by" QP)
  (d33:Def K mg "plus" Ff)
  (d34:Def K mg "one_at" N0)
  (d35:Def K mg "made_of" QQ)
  (d36:Def K mg "borrowing" Tq)
  (d37:Def K mg "least" Ji)
  (d38:Def K mg "middle" N1)
  (d39:Def K mg "broken" N2)
  (d40:Def K mg "_law_loops" QR)
  (d41:Def K mg "in_debt" QS)
  (d42:Def K mg "house_to_burn" Ws)
  (d43:Def K mg "burnt" Jj)
  (d44:Def K mg "settle" N3)
  (d45:Def K mg "_law_whole" QU)
  (d46:Def K mg "_law_wholes" S1)
  (d47:Def K mg "_law_lend" N4)
  (d48:Def K mg "is_settled" UA)
  (d49:Def K mg "tree_of" QV)
  (d50:Def K mg "_law_one" Jk)
  (d51:Def K mg "law" Za1)
  : ∃fd:fL,(∀(s:aO)(u:aI),nP s fd ⟨[u],[]⟩ [("_law_script",u)])/\∀base:ba,K.In base->base.Ns cO mg->Pq P w K mg base J6 7 fa fd ["_law_script"] (Y5 K D_law 1):=by
 refine AA d51 hfa (λ_ _ _ _ _ _ _=>rfl) λbase f fd _ _ F=>?_;have C_l_pick:Th P w K mg base:=CC d0 B;have C_l_read_web:Ux P w K mg base:=MY d1 B;have C_l_at:K3 P w K mg base:=Zfa d2 B;have C_p_web:K4 P w K mg base:=Zaq d3 B C_l_at C_l_read_web C_l_pick;have C_l_ties:NK P w K mg base:=CD d4 B;have C_l_tree:NL P w K mg base:=CF d5 B C_l_ties C_l_pick;have C_ties_of:WM P w K mg base:=G0 d6 B;have C_tie_to_look_at:X6 P w K mg base:=RQ d7 B;have C_walked:RP P w K mg base:=CG d8 B C_ties_of C_tie_to_look_at;have C_still_by:SR P w K mg base:=IP d9 B C_walked;have C_pieces_of:Ti P w K mg base:=K9 d10 B;have C_is_tree:QA P w K mg base:=G1 d11 B C_ties_of C_pieces_of;have C_still_of:SS P w K mg base:=IS d12 B C_is_tree C_still_by;have C_total:K5 P w K mg base:=Zas d13 B;have C_loops:K6 P w K mg base:=Zau d14 B C_ties_of;have C_refuse_total:WY P w K mg base:=PU d15 B C_total C_loops;have C_reduced:QB P w K mg base:=G4 d16 B;have C_evened:NM P w K mg base:=CH d17 B C_reduced;have C_solved_below:WZ P w K mg base:=PX d18 B C_evened;have C_ties_at:T8 P w K mg base:=G6 d19 B;have C_row_of:NN P w K mg base:=CJ d20 B C_ties_at;have C_square_without:X7 P w K mg base:=RS d21 B C_row_of;have C_nearing:T9 P w K mg base:=G7 d22 B C_solved_below C_square_without;have C_gain:GU P w K mg base:=Zfc d23 B;have C_run:EV P w K mg base:=Zjl d24 B C_gain;have C_ties_to:Sa P w K mg base:=Fb d25 B;have C_lacking_among:Wo P w K mg base:=QN d26 B C_ties_to;have C_minus:Og P w K mg base:=Zax d27 B;have C_overfull:SU P w K mg base:=IT d28 B;have C_other_end:Vn P w K mg base:=Je d29 B;have C_way_out:QC P w K mg base:=Fc d30 B C_other_end;have C_heads_for:Tj P w K mg base:=Jf d31 B C_ties_of C_overfull C_way_out C_other_end;have C_tree_by:Sb P w K mg base:=Fe d32 B C_walked;have C_plus:NO P w K mg base:=Zfe d33 B;have C_one_at:NP P w K mg base:=CM d34 B;have C_made_of:QD P w K mg base:=Fg d35 B Z_BASE C_minus C_one_at C_plus C_heads_for C_tree_by;have C_borrowing:Vo P w K mg base:=Jh d36 B;have C_least:Oh P w K mg base:=Zay d37 B;have C_middle:NQ P w K mg base:=CO d38 B C_ties_at;have C_broken:NR P w K mg base:=CP d39 B Z_BASE C_refuse_total C_nearing C_minus C_middle C_run C_lacking_among C_borrowing C_plus C_made_of C_least;have C_p_loops:QE P w K mg base:=Fi d40 B;have C_in_debt:Sd P w K mg base:=Fl d41 B;have C_house_to_burn:Wq P w K mg base:=QT d42 B C_ties_to;have C_burnt:Oi P w K mg base:=Zaz d43 B C_house_to_burn;have C_settle:NS P w K mg base:=CQ d44 B C_nearing C_run C_in_debt C_borrowing C_plus C_burnt C_least;have C_l_whole:QF P w K mg base:=Fo d45 B;have C_l_wholes:SV P w K mg base:=IV d46 B C_l_whole;have C_l_lend:NT P w K mg base:=CS d47 B;have C_is_settled:Uy P w K mg base:=M0 d48 B C_burnt C_in_debt;have C_tree_of:QG P w K mg base:=Fq d49 B C_is_settled C_tree_by;have C_l_one:K7 P w K mg base:=Za0 d50 B C_still_of C_l_wholes C_p_loops C_broken C_l_lend C_settle C_tree_of;exact Zjm F B C_p_web C_l_pick C_l_at C_l_tree C_l_one
end PW
namespace PySem.W.Fast
def tw4568557110485277235:=()
def tw12761213313718421003:=()
def tw8812836070042812102:=()
def tw8782152602832551980:=()
def tw8240382224488735352:=()
def tw8207819139364641829:=()
def tw3920206202896402750:=()
def tw4785217659553265497:=()
def tw15368575763946179786:=()
def tw695992354571977667:=()
def tw15367506362991542202:=()
def tw8853035382684319144:=()
def tw6393953328765848523:=()
def tw14123062133781142106:=()
def tw4551441894067219735:=()
def tw2364330746421353352:=()
def tw7589804929088442895:=()
def tw13466035901969439372:=()
def tw15262804941248135743:=()
def tw4179622002355222978:=()
def tw15466881440262827575:=()
def tw5963009893973476457:=()
def tw355826940578167520:=()
def tw15463020167596354585:=()
def tw7295391521184229610:=()
def tw9411114826287345398:=()
def tw3655537740208811218:=()
def tw3675363141698042902:=()
def tw2655070881790570287:=()
def tw17097679096817177621:=()
def tw5183881548356244319:=()
def tw1784069885286305379:=()
def tw12247664164925275273:=()
def tw7123136977641453003:=()
def tw11328918291340733076:=()
def tw10857472957819232521:=()
def tw9955787820598592246:=()
def tw5379155578801403815:=()
def tw16154590545945991449:=()
def tw6973718740279434304:=()
def tw12335843450235453038:=()
def tw382388446156648077:=()
def tw5642793607536675789:=()
def tw13946824810135065206:=()
def tw8303789134619767495:=()
def tw2305758111735384280:=()
def tw17639341172731814029:=()
def tw1916971606689209974:=()
def tw17674674340021016854:=()
def tw5812654950643742579:=()
def tw3764049324535547562:=()
def tw3899518403274958155:=()
def tw1478327057779949476:=()
def tw9664388601579289329:=()
def tw8332538891179092557:=()
def tw2808561713407447752:=()
def tw3460040953713607811:=()
def tw407041480026195578:=()
def tw6484045368166981153:=()
def tw8118417115398581009:=()
def tw13070611496886178493:=()
def tw10187668202023934772:=()
def tw11616672294848397233:=()
def tw4878807661765905854:=()
def tw10362887115445222498:=()
def tw7369309076417310454:=()
def tw16504459956964768376:=()
def tw17920206248347414862:=()
def tw5556519672159790065:=()
def tw14283249264799779559:=()
def tw12750895202155877026:=()
def tw17905010533243343895:=()
def tw3347475646540610584:=()
def tw14770380026299740963:=()
def tw3397785493869517823:=()
def tw620311096513705133:=()
def tw9597567211337543721:=()
def tw13330653850823557171:=()
def tw17646564013186239265:=()
def tw15600088997620189282:=()
def tw12462406677893820269:=()
def tw17667362729621574180:=()
def tw3884518651065103851:=()
def tw2143887634606816983:=()
def tw15310769767874420264:=()
def tw3883878152846581726:=()
def tw17015675484652807245:=()
def tw16377148292780735541:=()
def tw13013465728751321442:=()
def tw17669852626692206530:=()
def tw12020396183508021827:=()
def tw9532865126810354852:=()
def tw12487132639125899259:=()
def tw15763707860603425447:=()
def tw14930355624675027196:=()
def tw2141540175209892111:=()
def tw5611983023371715519:=()
def tw13274301690036969704:=()
def tw5031781272781464438:=()
def tw16339509269714679503:=()
def tw4416161722523496680:=()
def tw12738833039426405273:=()
def tw4685069237475044315:=()
def tw15042514664109249870:=()
def tw7336160668825767736:=()
def tw11738069616994597902:=()
def tw6919610419239929235:=()
def tw16960437318739445378:=()
def tw16995863496425404703:=()
def tw17500280881267320546:=()
def tw9790582455172769195:=()
def tw17628677860869114984:=()
def tw15554774727742863363:=()
def tw8519591617961819673:=()
def tw1038848516825797983:=()
def tw3444070694678455274:=()
def tw216059827963820031:=()
def tw11541483527806101947:=()
def tw15558895707989783028:=()
def tw11867845709926064103:=()
def tw18160126369153144203:=()
def tw917177032410571341:=()
def tw18348027958263212255:=()
def tw2051381035214890123:=()
def tw5576007649878385558:=()
def tw17984444498164197854:=()
def tw17866739257754727928:=()
def tw11081563027029992957:=()
def tw9799146502486600256:=()
end PySem.W.Fast
open PySem PySem.W PyProof.Rows
set_option maxRecDepth 100000 in
set_option maxHeartbeats 0 in
theorem PySem.Challenge.cw_purseweb_k93_whole_trees_to_break_purses_holds : PySem.Challenge.rw_purseweb_k93_whole_trees_to_break_purses.Holds := by
 w_on;o_law;k_head;(case hw=>w_witness2)
 k_fill
 refine VL.law_walkT (l:=iY) (D:=PW.D_law) (x:="_law_script") 7 rfl rfl ⟨rfl,by decide,by decide,rfl⟩ (λw=>by kernel_rfl) PW.law_true (λw h Y=>PySem.W.km_in_of Y) ?F
 case F=>
  intro w mg fa h KX G hmg
  refine' PW.all_mk hmg ?B ?Z0 ?d0 ?d1 ?d2 ?d3 ?d4 ?d5 ?d6 ?d7 ?d8 ?d9 ?d10 ?d11 ?d12 ?d13 ?d14 ?d15 ?d16 ?d17 ?d18 ?d19 ?d20 ?d21 ?d22 ?d23 ?d24 ?d25 ?d26 ?d27 ?d28 ?d29 ?d30 ?d31 ?d32 ?d33 ?d34 ?d35 ?d36 ?d37 ?d38 ?d39 ?d40 ?d41 ?d42 ?d43 ?d44 ?d45 ?d46 ?d47 ?d48 ?d49 ?d50 ?d51
  case B=>constructor<;>(refine PySem.W.mg_none_of KX G ?_;k_is)
  case Z0=>(refine' PW.cst_mk KX G ?y;(case y=>k_is))
  case d0 | d1 | d2 | d3 | d4 | d5 | d6 | d7 | d8 | d9 | d10 | d11 | d12 | d13 | d14 | d15 | d16 | d17 | d18 | d19 | d20 | d21 | d22 | d23 | d24 | d25 | d26 | d27 | d28 | d29 | d30 | d31 | d32 | d33 | d34 | d35 | d36 | d37 | d38 | d39 | d40 | d41 | d42 | d43 | d44 | d45 | d46 | d47 | d48 | d49 | d50 | d51=>(refine' L2.def_mk KX G ?a ?l ?c ?k;(case a=>k_is);(case l=>k_is);(case c=>k_is);(case k=>k_is))
