import PyProof.Rows.All
import Wide.All
import OpenK.AllK
import Wide.FinOn
import Lean
import PyProof.EqAt
import PyProof.EqKinds
import PyProof.TupleCall
import PyProof.NeKinds
import PyProof.ListMulRoad
import PyProof.WalkInts
import PyProof.ListRange
import KE.KRevIter
import KE.KSortTup
import KE.KDictSum
import PyProof.Rows.SortWalk
import PyProof.ExcInit
import PyProof.InstStoreFacts
import OpenK.KMake
import OpenK.KCls
import PyProof.FString2
import PyProof.TupleOfSeq
import KE.KUnpack
import KE.KMinKey
import PySem.Challenge.RW_purseweb_k93_whole_trees_to_break_purses
open Option renaming none → aA,bind_some → aQ,map_some → bz,isSome_iff_exists → cT,some_ne_none → jN,map_eq_some_iff → ke,bind_eq_bind → mS,isSome_map → nT,getD_none → n9,bind → oM,pure_def → oO,none → pT,some → ax
open Bool renaming false → aB,true → aC,and_eq_true → aw,false_ne_true → bx,eq_iff_iff → jG,or_eq_true → jH,false_eq_true → jc,not_eq_true' → ju,and_eq_true_iff → mJ,not_true → m9,not_eq_true → oG
open List renaming range → aD,getElem?_eq_getElem → aE,getD_eq_getElem?_getD → aF,length_map → aJ,mem_singleton → aM,mem_cons_of_mem → aN,getElem?_eq_some_iff → aR,replicate → aS,length_append → aT,size_toArray → aU,mem_append → aV,getElem?_map → aX,mem_range → aY,mem_cons → aa,map_cons → af,mem_cons_self → ag,mem_append_right → ah,getElem?_append_left → aj,mem_append_left → ao,nodup_cons → aq,mem_map → ar,map_congr_left → au,mem_of_getElem? → av,map_append → ay,length_cons → az,getElem?_append_right → bA,length_take → bG,all_eq_true → bK,getElem_mem → bQ,sum_cons → bR,length_drop → bU,getElem?_set → bW,take_of_length_le → bY,map_map → bZ,getElem?_replicate → b7,lookup_cons → bh,mem_filter → bj,getElem_of_mem → bp,not_mem_nil → br,length_range → bt,length_singleton → bu,getElem?_eq_none → bw,getElem?_range → cC,length_set → cG,nodup_nil → cH,length_replicate → cL,nodup_append → cN,mem_of_mem_take → cW,find?_cons → c9,take_length → ck,nodup_range → cq,getElem?_take_of_lt → dA,zip_cons_cons → dG,length_eq_zero_iff → dI,take_succ_eq_append_getElem → dP,filterMap_cons → dR,replicate_succ → dS,append_nil → dW,mem_of_find?_eq_some → dY,length → df,mem_of_mem_drop → dh,append_assoc → dj,find?_eq_none → eM,range_succ → eY,take_sublist → e7,mem_erase_of_ne → e8,pairwise_map → fF,length_erase_of_mem → fI,length_pos_iff → fK,ext_getElem → fS,take_append_of_le_length → fU,map_nil → fX,getElem?_drop → fg,range_succ_eq_map → fu,filter_append → gA,sum_append → gE,map_drop → gH,flatten_cons → gL,ext_getElem? → gM,take_succ → gY,any_eq_true → g6,mem_flatMap → g7,exists_mem_of_ne_nil → g8,mem_map_of_mem → gj,length_flatMap → gk,set_eq_of_length_le → gs,map_take → gu,of_mem_zip → gx,foldl_cons → gy,mem_filterMap → hW,ne_nil_of_mem → iB,getElem?_set_self → iK,drop_eq_nil_of_le → iQ,length_pos_of_mem → iT,eraseIdx_eq_take_drop_succ → iU,countP_cons → i6,getElem?_set_ne → i9,mem_iff_getElem → ig,pairwise_append → ip,filter → jA,length_nil → jE,count_cons → jJ,find?_some → jK,countP_eq_length_filter → jL,filter_eq_self → jO,all_map → jT,length_eraseIdx_of_lt → j7,getElem?_zip_eq_some → jh,foldl_append → jq,flatMap_cons → js,all_cons → jz,idxOf_lt_length_iff → kC,getElem_inj → kO,eraseIdx_cons_succ → kW,getElem?_cons_succ → kX,pairwise_lt_range → kj,extract → km,getElem_cons_succ → ko,map_set → ky,filter_eq_nil_iff → kz,nil_append → lE,take_append_drop → lO,perm_cons_erase → mE,map_id → mI,any_cons → mZ,foldl → ml,getElem_range → nA,getElem_idxOf → nB,map_replicate → nE,mem_replicate → nI,idxOf_append → nW,perm_middle → nj,getElem_map → oA,cons_append → oE,map_flatMap → oF,take_left' → oQ,take_zero → o9,drop_zero → oz,take_nil → pH,drop_nil → pI
open PySem renaming wpAny_bind → aG,Value → aI,Addr → aL,Shared → aO,starEach → aP,wpAny_pure → aW,Str → bH,wpAny → bJ,Program → bM,Expr → bO,Heap → ba,World → bc,Around → bq,Stmt → cB,foldedSetIterable → cK,mainGlobals → cO,wpAny_mono → cU,wpAny_callSpecial?_slot → cV,SetTable → cX,behindInMarks → cY,wpAny_ite_split → cf,wpAny_call_entry → cj,mem_of_lookup → cu,wpAny_field → cx,wpAny_newObj_type → cy,bootBuiltins → dB,backTo → dC,wpAny_Call_Name_kw → dE,compareOp → dH,wpAny_truthy_bool → dN,Obj → dU,Pos → dw,binaryOp → dy,cLine → dz,wpAny_seqItems → eI,wpAny_setField_rec → eK,wpAny_passesOwn → eU,sysModules → fG,wpAny_holding → fH,FuncData → fL,NameKind → fM,sizeLine_eq → fT,call_meets → fY,Builtin → fj,Scope → gC,rawInt → gJ,wpAny_setState_of → gQ,IsPair → gU,codeAny_mono → gZ,wpAny_ite_false → gz,tupleKind_room_in1 → iA,swapsWith → iC,sliceBounds → iE,wpAny_setField → iP,wpAny_updateSeq_pair → ie,wpAny_execs_nil → jD,wpAny_loadPart' → jF,codeAny_builtin → jI,wpAny_setEntries_of → jM,intKind → jP,codeAny → jQ,codeAmong → jX,assignEach → jZ,wpAny_pyIter_tuple → j3,bindArgs → j4,wpAny_binaryOp_repeat_ref → je,pyNext → jv,wpAny_comprehension_free → jw,wpAny_onRaise → jx,wpAny_attempt → jy,tupleKind → kM,noFill_tuple_add → kP,wpAny_isInstance → kR,wpAny_askSetting → kU,builtinsNs → kZ,concat_meets → k8,getItem → k9,typeIs_int → kc,closureFor → kg,letOwnedTupleGo → lC,IsZip → lH,wpAny_isTrue_Compare1 → lN,builtinLookup_eq_fast → lU,wpAny_loadName_local → lX,keywordEach → lZ,fitsIndex_both → l8,compEnvC → lu,wpAny_newFunctionEnv → lx,firstArgMember → mC,isSubtype_type → mH,PassesOwn → mM,Keyword → mN,Arguments → mO,notedBy → mP,wpAny_loadName_cell → mQ,wpAny_standAt → mW,seq_tuple_add → mX,attributeBase → mY,Env → ma,isTrue → md,wpAny_call → me,IsPart → mh,wpAny_rule → mw,intKind_is → nC,CmpOp → nK,BindsTo → nP,seqIndex_neg → nQ,valueAt → nS,callerA → nX,pyIter → nY,seqIndex? → n8,pickOrder → nu,seqIndex_of → oI,wpAny_of_eq → oJ,wpAny_letGo → oK,standAt → oT,GenState → oV,wpAny_Name → oW,Operator → oX,backToKw → o4,bindL → o5,bindC → o6,atKey → o8,relayAll → oj,defaultsOf → ox,Within → pN,Result → pQ,layNew → pR
open PySem.W renaming Frag → aH,kia_one → cZ,codeIn → dM,fnOf → dO,kitOne → dc,kla_fn → gV,tabObj → gX,keepIn → iM,tabIn → i8,nsIn → jS,cellsFrom_some → k6,envX → kq,mem_of_lookupK → ku,instObj → lA,CodeHd → lW,lookIn → lY,callWith_K → mf,kitx_list → nM,kitx_dict → nO,plainGet → nZ,findIn → oZ,noTabs → oy,mg_of → pE
open PySem.Heap renaming get?_push_of_some → aK,lt_size → a9,get?_push_size → ak,SameBut → cP,size_push → cR,get?_update_self → eO,get?_update_other → kb,ExtBut → mB
open Nat renaming le_refl → aZ,lt_of_lt_of_le → bB,ne_of_lt → bN,le_trans → cD,le_of_lt → cJ,lt_irrefl → cS,lt_succ_of_lt → cz,zero_le → dq,lt_succ_self → dt,mod_eq_of_lt → du,min_eq_left → eV,le_add_right → fQ,ne_of_gt → fW,lt_of_le_of_lt → fZ,mod_lt → gW,le_succ → iG,mul_le_mul_right → jC,add_zero → jR,mul_le_mul → j9,lt_succ_iff_lt_or_eq → kL,min_eq_right → kS,zero_lt_one → lK,strongRecOn → lM,add_left_cancel → mR,mod_eq_sub_mod → nH,mul_comm → nR,lt_trans → nU,le_succ_of_le → nV,succ_le_succ → ng
open Option.some renaming inj → bC,injEq → jm
open PySem.F renaming plainAttrs_list → bT,slot_list_append → cE,type_list_append → cF,args_tuple_add_2 → gn,entry_tuple_add → iD,slot_tuple_add → iN,slot_dict_get → iV,slot_list_insert → kE,type_list_insert → kF,slot_list_extend → kG,type_list_extend → kH,args_dict_get_3 → kQ,entry_dict_get → kf,slot_set_iter → lV
open Int renaming toNat_natCast → bV,mul_comm → cQ,mul_assoc → cg,neg_mul → dJ,mul_nonneg → dQ,le_refl → dX,mul_sub → fC,mul_zero → fD,zero_mul → fE,mul_le_mul_of_nonneg_left → fV,mul_left_comm → gR,fdiv_eq_ediv_of_nonneg → gS,toNat_of_nonneg → g9,ofNat_inj → gv,toNat → iH,mul_add → jB,add_zero → jV,lt_or_gt_of_ne → ja,eq_of_mul_eq_mul_left → ji,one_mul → jr,mul_fdiv_cancel_left → kJ,lt_mul_ediv_self_add → kK,add_mul → mD,natAbs_mul → mK,mul_ediv_self_le → mL,emod_lt_of_pos → nF,mul_one → oH,emod_nonneg → oR,not_lt → pA,fdiv → pV
open Ne renaming symm → bX
open True renaming intro → b8
open PySem.SetTable renaming below → b9,has → da,insertAt → e9,turns → fR,runEnd → hU,freeSlot → jn,layClean → jo,slot → kA,bits → kB,fill → kD,probeStart → mU,laid → m6,fits → m7,orStandIn → mz,advance → nt,tooFull → oB,fresh → og,Probe → oh,probe → ot
open PyProof.Rows renaming callWith_type1 → bg,slot_tuple_getitem → fJ,callWith_builtin1 → fO,step_dedup → iI,envOfC → iZ,IntsAre → i7,AllBare → k5,subscriptTail_builtinR → ka,Constant_none → mV,boot_range → oY,Subscript_ → o7,step_dedup → ou,Call_ → pL
open Classical renaming byContradiction → cA
open PySem.NameKind renaming free → cI,cell → gG
open Array renaming length_toList → cM,getElem?_toList → dZ,toList_append → dk,getElem?_eq_getElem → eR,getElem?_eq_none → iJ,toList_push → iO,toArray_toList → ij,getElem_toList → ik,getD → j6,getElem?_eq_some_iff → j8,replicate → lJ,toList_extract → mF,toList → pO
open PySem.Heap.SameBut renaming update → cw
open False renaming elim → dD
open PySem.Value renaming int → di,ref → jW,type → kY,none → oU,isStrOf → pC
open PyProof.Rows.F renaming plain_set_update_loop → dm,entry_set_update_loop → gh
open PySem.Calls renaming spliced_cons → eB,spliced_nil → gK,Name_function_global → jY,callWith_builtin → kd,evalArgs_plain → l6
open PySem.Obj renaming data_mapFields → eJ,isFreed_of_fields → iW,cls_mapFields → jj,mapSeq → mj
open PySem.Builtin.Slice renaming slicePlaces → eQ,sliceAdjust → jd
open PySem.PassesOwn renaming never → eZ
open PySem.SetTable.probe renaming go → fA
open ForInStep renaming yield → gD
open PySem.SetTable.below renaming go → gO
open PySem.Builtin.Int renaming intBits → gg
open PySem.Builtin.List renaming listTooLong → gp,listLengthHint → jU
open List.Perm renaming refl → iR,swap → oq
open PySem.SetTable.layClean renaming free → iS
open PySem.Challenge renaming pw_purseweb_k93_whole_trees_to_break_purses → iX,rw_purseweb_k93_whole_trees_to_break_purses → iY
open PySem.Around renaming under_plainId → iu,frames_deeper → l3
open Or renaming inl → j5,inr → mq
open PySem.Builtin.SmallTypes renaming nextOf → jf
open PySem.W.WData renaming weightAll → kT,int → nh
open PySem.SeqAt renaming EqAt → kh
open PySem.SeqAt.EqAt renaming same → lI,int_int → mx,of_refs → my
open Sum renaming inl → nJ,inr → oS
open PyProof.Rows.IsTup renaming new → n6
open List.cons renaming injEq → oN
open PySem.Builtin.Frozenset renaming updateFrom → oP,newClass → om,slot0 → pM
open PySem.SetTable.Met.empty renaming injEq → pJ
open Prod.mk renaming injEq → pK
open PySem.IsRange renaming new → pS
open PySem.Shared renaming heap → pU
theorem p9.{u}{c:Prop}{h:Decidable c}(a:c){b:Sort u}{t e:b}:ite c t e=t:=if_pos a
theorem pW.{u}{c:Prop}{h:Decidable c}(a:Not c){b:Sort u}{t e:b}:ite c t e=e:=if_neg a
noncomputable section
set_option Elab.async false
set_option linter.all false
set_option maxRecDepth 100000
namespace L2
open PySem PySem.Spec PyProof.Rows
abbrev Y8:=Sum Int bH
noncomputable def M6:Y8->aI->Bool
 | .inl k,v=>aI.isInt k v
 | .inr x,v=>pC x v
noncomputable def Znd(w:bc):Y8->Int
 | .inl k=>hashInt k
 | .inr x=>hashStr w x
theorem Yu:∀{k:Y8}{v:aI},M6 k v=aC->(∃i t,k=nJ i/\v=di i t)\/(∃x t,k=oS x/\v=aI.str x t)
 | .inl i,v,h=>by obtain⟨t,e⟩:=aI.isInt_shape h;exact .inl ⟨i,t,rfl,e⟩
 | .inr x,v,h=>by obtain⟨t,e⟩:=aI.isStrOf_shape h;exact .inr ⟨x,t,rfl,e⟩
theorem Dx(i:Int)(t:Tok):M6 (.inl i) (.int i t)=aC:=by simp[M6,aI.isInt]
theorem Dy(x:bH)(t:Tok):M6 (.inr x) (.str x t)=aC:=by simp[M6,pC]
theorem Zhn(a b:Int):decide ((nJ a:Y8)=nJ b)=(a==b):=by grind
theorem Zho(a b:bH):decide ((oS a:Y8)=oS b)=decide (a=b):=by simp
theorem Zhp(a:Int)(b:bH):decide ((nJ a:Y8)=oS b)=aB:=decide_eq_false (λq=>nomatch q)
theorem Zhq(a:bH)(b:Int):decide ((oS a:Y8)=nJ b)=aB:=decide_eq_false (λq=>nomatch q)
noncomputable def Yv(prog:bM)(w:bc):PySem.KeyKind prog w Y8 where
 is:=M6
 hash:=Znd w
 inj:=λv a b ha hb=>by
  rcases Yu ha with⟨i,t,rfl,rfl⟩ | ⟨x,t,rfl,rfl⟩
  ·rcases Yu hb with⟨j,u,rfl,e⟩ | ⟨y,u,rfl,e⟩
   ·injection e with e1 _;rw[e1]
   ·exact nomatch e
  ·rcases Yu hb with⟨j,u,rfl,e⟩ | ⟨y,u,rfl,e⟩
   ·exact nomatch e
   ·injection e with e1 _;rw[e1]
 byValue:=λk v h=>by rcases Yu h with⟨i,t,rfl,rfl⟩ | ⟨x,t,rfl,rfl⟩<;>rfl
 pyHash:=λhv h=>by
  rcases Yu hv with⟨i,t,rfl,rfl⟩ | ⟨x,t,rfl,rfl⟩
  ·exact wpAny_pyHash_int h
  ·exact wpAny_pyHash_str h
 eqBool:=λhu hv h=>by
  rcases Yu hu with⟨i,t,rfl,rfl⟩ | ⟨x,t,rfl,rfl⟩
  ·rcases Yu hv with⟨j,u,rfl,rfl⟩ | ⟨y,u,rfl,rfl⟩
   ·rw[Zhn] at h;exact wpAny_eqBool_int h
   ·rw[Zhp] at h;exact kh.int_str i t y u _ _ _ _ h
  ·rcases Yu hv with⟨j,u,rfl,rfl⟩ | ⟨y,u,rfl,rfl⟩
   ·rw[Zhq] at h;exact kh.str_int x t j u _ _ _ _ h
   ·rw[Zho] at h;exact wpAny_eqBool_str h
 «strs»:=λk x t v h=>by
  rcases Yu h with⟨i,u,rfl,e⟩ | ⟨y,u,rfl,e⟩
  ·exact nomatch e
  ·injection e with e1 _;subst e1;cases v<;>rfl
theorem JR(prog:bM)(w:bc)(i:Int)(t:Tok):(Yv prog w).is (.inl i) (.int i t)=aC:=Dx i t
theorem JS(prog:bM)(w:bc)(x:bH)(t:Tok):(Yv prog w).is (.inr x) (.str x t)=aC:=Dy x t
inductive V where
 | non | bl (b:Bool) | int (i:Int) | str (x:bH) | byt (b:Array UInt8) | flt (b:UInt64) | ref (a:aL) | ty (n:String)
 deriving DecidableEq
noncomputable def RelV:V->aI->Prop
 | .non,u=>u=oU
 | .bl b,u=>u=aI.bool b
 | .int i,u=>∃t,u=di i t
 | .str x,u=>∃t,u=aI.str x t
 | .byt b,u=>∃t,u=aI.bytes b t
 | .flt b,u=>∃t,u=aI.float b t
 | .ref a,u=>u=jW a
 | .ty n,u=>u=kY n
abbrev Vals:List V->List aI->Prop:=Paired RelV
theorem Vals.length{xs:List V}{a:List aI}(r:Vals xs a):xs.length=a.length:=Paired.length r
theorem Vals.get:∀{xs:List V}{us:List aI}{i:Nat}{x:V},Vals xs us->xs[i]?=ax x->∃u,us[i]?=ax u/\RelV x u
 | _,_,_,_,.nil,e=>by simp at e
 | _,_,0,_,.cons r _,e=>by simp at e;subst e;exact⟨_,rfl,r⟩
 | _,_,i+1,x,.cons _ t,e=>by obtain⟨u,a,b⟩:=Vals.get (i:=i) (x:=x) t (by simpa using e);exact⟨u,by simpa using a,b⟩
theorem Vals.set{x:V}{u:aI}(r:RelV x u):∀{xs:List V}{us:List aI}(i:Nat),Vals xs us->Vals (xs.set i x) (us.set i u)
 | _,_,_,.nil=>.nil
 | _,_,0,.cons _ t=>.cons r t
 | _,_,i+1,.cons q t=>.cons q (Vals.set r i t)
theorem Vals.append:∀{xs ys:List V}{us ws:List aI},Vals xs us->Vals ys ws->Vals (xs++ys) (us++ws)
 | _,_,_,_,.nil,s=>s
 | _,_,_,_,.cons r t,s=>.cons r (Vals.append t s)
theorem Vals.take:∀{xs:List V}{us:List aI}(n:Nat),Vals xs us->Vals (xs.take n) (us.take n)
 | _,_,0,_=>.nil
 | _,_,_+1,.nil=>.nil
 | _,_,n+1,.cons r t=>.cons r (Vals.take n t)
theorem Vals.drop:∀{xs:List V}{us:List aI}(n:Nat),Vals xs us->Vals (xs.drop n) (us.drop n)
 | _,_,0,r=>r
 | _,_,_+1,.nil=>.nil
 | _,_,n+1,.cons _ t=>Vals.drop n t
noncomputable def RelO:Option V->Option aI->Prop
 | some v,ax u=>RelV v u
 | none,aA=>True
 | _,_=>False
noncomputable def KV{κ:Type}:List (κ×V)->List (κ×aI)->Prop:=Paired λ(p:κ×V) (q:κ×aI)=>p.1=q.1/\RelV p.2 q.2
noncomputable def kV:Y8->V
 | .inl i=>.int i
 | .inr x=>.str x
inductive HO where
 /-- a list -/
 | lst (xs:List V)
 /-- a tuple (never changes) -/
 | tup (xs:List V)
 /-- a dict whose keys are ints and texts;one whose keys are tuples of ints and texts (the empty one is both) -/
 | dK (p4:List (Y8×V)) | dT (p4:List (List Y8×V))
 /-- a set of ints: p8 members,p8 size -/
 | set (S:Int->Bool) (n:Nat)
 /-- an instance of the class at C,p8 dict at dx,p8 attributes -/
 | ins (C dx:aL) (fs:List (bH×V))
 /-- the dict of the instance at x -/
 | own (x:aL)
 /-- the dict of an exception -/
 | xd (fs:List (bH×V))
 /-- a bound method,f of x -/
 | met (f x:aL)
 /-- a range object lo,lo+1,.. below hi -/
 | rng (lo hi:Int)
 /-- a thing that is known to the object (the script;a dict while a loop walks it): read,never written while it is so -/
 | frz (o:dU) (u:HO)
 /-- a code object's table -/
 | tbl (ps:Array aI)
 /-- any other thing,by what is aC of p8 one object (a def of one's own: SetO a S n:=HO.ext λh=>..) -/
 | ext (φ:ba->Prop)
abbrev Hp:=aL->Option HO
noncomputable def upd(H:Hp)(a:aL)(o:HO):Hp:=λb=>if b=a then ax o else H b
theorem Zk{H:Hp}{a:aL}{o:HO}:upd H a o a=ax o:=by unfold upd;rw[p9 rfl]
theorem upd_ne{H:Hp}{a b:aL}{o:HO}(h:b≠a):upd H a o b=H b:=by unfold upd;rw[pW h]
theorem Zki{H:Hp}{a b:aL}{o u:HO}(h:H a=ax o)(h':H b=ax u)(d:o≠u):a≠b:=by grind
theorem Zr{H:Hp}{a b:aL}{o:HO}(h:H a=ax o)(h':H b=aA):a≠b:=by grind
noncomputable def Po(x:bH):Bool:=x=="tree_of" || x=="still_by" || x=="made_of"
noncomputable def Oz(x:bH):bH:=x++".<locals>."++"<lambda>"
noncomputable def HU(o:dU)(q:bH):Prop:=∃vs t,o.data = .fields vs/\vs[1]?=ax (.str q t)
noncomputable def Wh(q:bH)(H:Hp)(ps:List aI):Prop:=TriplesOk ps/\∀pos v,jX pos ps=ax v->∃c o,v = .ref c/\H c=ax (.frz o (.own 0))/\HU o q
theorem OA{h:ba}{T:aI}{xs:Array aI}{n:Nat}{o:dU}(e:(h.push { cls:=T,data:=.seq xs n }).get? h.objs.size=ax o):o.dict=aA:=by rw[ak _ rfl] at e;cases e;rfl
section
variable (P:bM) (w:bc)
noncomputable def ObjOk(H:Hp)(h:ba)(a:aL):HO->Prop
 | .lst xs=>xs.length<=sizeLine/\∃(p8:List aI) (n:Nat),Vals xs p8/\h.get? a=ax { cls:=.type "list",data:=.seq p8.toArray n }
 | .tup xs=>(xs.length<=sizeLine/\∀o,h.get? a=ax o->o.dict=aA)/\∃p8:List aI,Vals xs p8/\IsTup h a p8.toArray
 | .dK p4=>p4.length<=sizeLine/\(a==fG)=aB/\∃vs,KV p4 vs/\h.DictOf (Yv P w) a vs
 | .dT p4=>p4.length<=sizeLine/\(a==fG)=aB/\∃xs:List (List Y8×aL×aI),
   Paired (λ(p:List Y8×V) (q:List Y8×aL×aI)=>p.1=q.1/\H q.2.1=ax (.tup (p.1.map kV))/\RelV p.2 q.2.2) p4 xs/\
   ∃o es ep,h.get? a=ax o/\o.ExactDict/\o.data = .dict es ep/\es.toList=xs.map (entryOfKey (kM (Yv P w)))/\(xs.map (·.1)).Nodup
 | .set S n=>h.SetOf (jP P w) a S n
 | .ins C dx fs=>H dx=ax (.own a)/\fs.length<=1000/\dx≠a/\h.get? a=ax (lA C dx)/\
   ∃mA,h.Ns1 dx mA/\(∀f,RelO (fs.lookup f) (mA f))/\pN mA (fs.map (·.1))
 | .own _=>∃o,h.get? a=ax o
 | .xd fs=>∃mA,h.Ns1 a mA/\∀f,RelO (fs.lookup f) (mA f)
 | .rng lo hi=>∃t u v,h.get? a=ax { cls:=.type "range",data:=.fields #[.int lo t,.int hi u,.int 1 v] }
 | .frz o u=>h.get? a=ax o/\ObjOk H h a u
 | .tbl ps=>∃(q:bH) (t:Tok) (ps':Array aI),ps[0]?=ax (.str q t)/\h.get? a=ax { cls:=.none,data:=.fields ps' }/\Wh q H ps'.toList
 | .met f x=>h.get? a=ax (PySem.W.methodObj (.ref f) (.ref x))
 | .ext φ=>φ h/\(∃o,h.get? a=ax o)/\∀h1 h2:ba,φ h1->(∀o,h1.get? a=ax o->h2.get? a=ax o)->φ h2
noncomputable def HOk(H:Hp)(h:ba):Prop:=∀a o,H a=ax o->ObjOk P w H h a o
end
section
variable {P:bM} {w:bc} {H H':Hp} {h h':ba} {a:aL} {o:HO}
theorem ObjOk.lt(x:ObjOk P w H h a o):a<h.objs.size:=by
 cases o with
 | lst xs=>obtain⟨_,_,_,_,e⟩:=x;exact a9 e
 | tup xs=>obtain⟨_,_,_,p⟩:=x;exact p.lt
 | dK p4=>obtain⟨_,_,_,_,o,_,_,e,_⟩:=x;exact a9 e
 | dT p4=>obtain⟨_,_,_,_,o,_,_,e,_⟩:=x;exact a9 e
 | set S n=>obtain⟨o,_,_,_,e,_⟩:=x;exact a9 e
 | ins C dx fs=>obtain⟨_,_,_,e,_⟩:=x;exact a9 e
 | own y=>obtain⟨_,e⟩:=x;exact a9 e
 | xd fs=>obtain⟨_,⟨_,_,_,e,_⟩,_⟩:=x;exact a9 e
 | rng lo hi=>obtain⟨_,_,_,e⟩:=x;exact a9 e
 | frz ob u=>obtain⟨e,_⟩:=x;exact a9 e
 | tbl ps=>obtain⟨_,_,_,_,e,_⟩:=x;exact a9 e
 | met f y=>exact a9 (show h.get? a=ax _ from x)
 | ext φ=>obtain⟨_,⟨_,e⟩,_⟩:=x;exact a9 e
theorem Paired.mapP{c d:Type}{F G:c->d->Prop}:∀{l₁:List c}{l₂:List d},Paired F l₁ l₂->(∀a b,F a b->G a b)->Paired G l₁ l₂
 | _,_,.nil,_=>.nil
 | _,_,.cons r t,f=>.cons (f _ _ r) (Paired.mapP t f)
theorem ObjOk.stay(x:ObjOk P w H h a o)(k:∀b u,(b=a\/H b=ax (.own a))->h.get? b=ax u->h'.get? b=ax u)
  (L:∀b,H b=ax (.own a)->H' b=ax (.own a)) (E:∀b xs,H b=ax (.tup xs)->H' b=ax (.tup xs)) (F:∀b u,H b=ax (.frz u (.own 0))->H' b=ax (.frz u (.own 0))):ObjOk P w H' h' a o:=by
 induction o with
 | lst xs=>obtain⟨z,l,n,r,e⟩:=x;exact⟨z,l,n,r,k _ _ (.inl rfl) e⟩
 | tup xs=>obtain⟨z,l,r,g,e,c⟩:=x;exact⟨⟨z.1,λo q=>by rw[k _ _ (.inl rfl) e] at q;cases q;exact z.2 _ e⟩,l,r,g,k _ _ (.inl rfl) e,c⟩
 | dK p4=>obtain⟨z,y,vs,r,g,i,ep,e,c⟩:=x;exact⟨z,y,vs,r,g,i,ep,k _ _ (.inl rfl) e,c⟩
 | dT p4=>
  obtain⟨z,y,xs,r,g,i,ep,e,c⟩:=x;exact⟨z,y,xs,Paired.mapP r λp q z=>⟨z.1,E _ _ z.2.1,z.2.2⟩,g,i,ep,k _ _ (.inl rfl) e,c⟩
 | set S n=>obtain⟨g,i,ep,t,e,c⟩:=x;exact⟨g,i,ep,t,k _ _ (.inl rfl) e,c⟩
 | ins C dx fs=>
  obtain⟨d,z,ne,e,A,⟨m,i,ep,j,c⟩,r⟩:=x;exact⟨L _ d,z,ne,k _ _ (.inl rfl) e,A,⟨m,i,ep,k _ _ (.inr d) j,c⟩,r⟩
 | own y=>obtain⟨g,e⟩:=x;exact⟨g,k _ _ (.inl rfl) e⟩
 | xd fs=>obtain⟨A,⟨m,i,ep,e,c⟩,r⟩:=x;exact⟨A,⟨m,i,ep,k _ _ (.inl rfl) e,c⟩,r⟩
 | rng lo hi=>obtain⟨t,u,v,e⟩:=x;exact⟨t,u,v,k _ _ (.inl rfl) e⟩
 | frz g u ih=>obtain⟨e,q⟩:=x;exact⟨k _ _ (.inl rfl) e,ih q⟩
 | tbl ps=>
  obtain⟨q,t,s,B,e,G,M⟩:=x;refine⟨q,t,s,B,k a _ (.inl rfl) e,G,λpos v J=>?_⟩;obtain⟨c,o,D,j,I⟩:=M pos v J;exact⟨c,o,D,F c o j,I⟩
 | met f y=>
  have e:=x;exact k a _ (.inl rfl) e
 | ext φ=>obtain⟨p,⟨o,e⟩,st⟩:=x;exact⟨st _ _ p λo q=>k _ _ (.inl rfl) q,⟨o,k _ _ (.inl rfl) e⟩,st⟩
theorem HOk.lt(x:HOk P w H h)(e:H a=ax o):a<h.objs.size:=(x a o e).lt
theorem HOk.fresh(x:HOk P w H h)(e:h.objs.size<=a):H a=aA:=by
 cases q:H a with
 | none=>rfl
 | some u=>exact absurd (bB (x.lt q) e) (cS _)
theorem HOk.kept(x:HOk P w H h)(k:∀b u,h.get? b=ax u->h'.get? b=ax u):HOk P w H h':=λa o e=>
 (x a o e).stay (λb u _ q=>k b u q) (λ_ q=>q) (λ_ _ q=>q) λ_ _ q=>q
theorem HOk.laid(x:HOk P w H h)(k:∀b u,h.get? b=ax u->h'.get? b=ax u)(g:h.objs.size<=a)(new:ObjOk P w (upd H a o) h' a o):HOk P w (upd H a o) h':=λb u e=>by
 have d:=x.fresh g;by_cases f:b=a
 ·subst f;rw[Zk] at e;cases e;exact new
 ·rw[upd_ne f] at e;exact(x b u e).stay (λc v _ q=>k c v q) (λc q=>by rw[upd_ne (Zr q d)];exact q) (λc xs q=>by rw[upd_ne (Zr q d)];exact q) λc u q=>by rw[upd_ne (Zr q d)];exact q
end
noncomputable def Rd(H:Hp)(a:aL)(u:HO):Prop:=H a=ax u\/∃o,H a=ax (.frz o u)
theorem Rd.ok{P:bM}{w:bc}{H:Hp}{h:ba}{a:aL}{u:HO}(r:Rd H a u)(x:HOk P w H h):ObjOk P w H h a u:=by
 rcases r with r | ⟨o,r⟩
 ·exact x a u r
 ·obtain⟨_,q⟩:=x a _ r;exact q
noncomputable def UU:Option HO->Prop
 | some (.lst _)=>True
 | some (.dK _)=>True
 | some (.dT _)=>True
 | some (.set _ _)=>True
 | some (.ins _ _ _)=>True
 | some (.ext _)=>True
 | _=>False
section
variable {P:bM} {w:bc} {H:Hp} {h h':ba} {x e:aL} {o':HO}
theorem HOk.write(ok:HOk P w H h)(f:UU (H x))(n:e=x\/H e=ax (.own x))(k:∀b u,b≠e->h.get? b=ax u->h'.get? b=ax u)(l:∃u,h'.get? e=ax u)
  (new:ObjOk P w (upd H x o') h' x o'):HOk P w (upd H x o') h':=λb u q=>by
 have d:∀c y,H c=ax (.own y)->c≠x:=λc y r z=>by subst z;rw[r] at f;exact f
 have g:∀c xs,H c=ax (.tup xs)->c≠x:=λc xs r z=>by subst z;rw[r] at f;exact f
 by_cases j:b=x
 ·subst j;rw[Zk] at q;cases q;exact new
 ·rw[upd_ne j] at q;by_cases a:b=e
  ·have m:H b=ax (.own x):=by
    rcases n with z | z
    ·exact absurd (a.trans z) j
    ·rw[a];exact z
   rw[q] at m;cases m;obtain⟨v,o⟩:=l;exact⟨v,by rw[a];exact o⟩
  ·refine(ok b u q).stay (λc v i r=>k c v ?_ r) (λc r=>by rw[upd_ne (d c b r)];exact r) (λc xs r=>by rw[upd_ne (g c xs r)];exact r) λc v r=>by rw[upd_ne (λz=>by subst z;rw[r] at f;exact f)];exact r
   rcases i with rfl | i
   ·exact a
   ·rintro rfl;rcases n with z | z
    ·exact d c b i z
    ·rw[i] at z;cases z;exact j rfl
end
structure Un(fs ex:List aL)(H H':Hp)(h h':ba):Prop where
 keep:∀b o,h.get? b=ax o->H b=aA->b∉fs->b∉ex->h'.get? b=ax o
 slot:∀b o,h.get? b=ax o->H b=aA->b∈fs->b∉ex->∃sl,h'.get? b=ax { o with slots:=sl }
 free:∀b o,h.get? b=ax o->H b=aA->b∉ex->H' b=aA
 there:∀b o,h.get? b=ax o->b∉ex->∃o',h'.get? b=ax o'
 tups:∀b xs,H b=ax (.tup xs)->H' b=ax (.tup xs)
 frzs:∀b o u,H b=ax (.frz o u)->H' b=ax (.frz o u)
 tbls:∀b ps,H b=ax (.tbl ps)->∃more,H' b=ax (.tbl (ps++more))
section
variable {fs fs' ex ex':List aL} {H H1 H2:Hp} {h h1 h2 h':ba} {a x e:aL} {o:HO}
theorem Un.any(u:Un fs ex H H1 h h1){b:aL}{a:dU}(q:h.get? b=ax a)(n:H b=aA)(d:b∉ex):∃sl,h1.get? b=ax { a with slots:=sl }:=by
 by_cases c:b∈fs
 ·exact u.slot b a q n c d
 ·exact⟨a.slots,u.keep b a q n c d⟩
theorem Un.kept(k:∀b u,h.get? b=ax u->h'.get? b=ax u):Un fs ex H H h h':=
 ⟨λb a q _ _ _=>k b a q,λb a q _ _ _=>⟨a.slots,k b a q⟩,λ_ _ _ n _=>n,λb a q _=>⟨a,k b a q⟩,λ_ _ q=>q,λ_ _ _ q=>q,λ_ c q=>⟨#[],by rw[q];simp⟩⟩
theorem Un.refl:Un fs ex H H h h:=Un.kept λ_ _ q=>q
theorem Un.laid(k:∀b u,h.get? b=ax u->h'.get? b=ax u)(d:h.objs.size<=a)(c:H a=aA):Un fs ex H (upd H a o) h h' where
 keep:=λb u q _ _ _=>k b u q
 slot:=λb u q _ _ _=>⟨u.slots,k b u q⟩
 free:=λb u q n _=>by rw[upd_ne (bN (bB (a9 q) d))];exact n
 there:=λb u q _=>⟨u,k b u q⟩
 tups:=λb xs q=>by rw[upd_ne (Zr q c)];exact q
 frzs:=λb u xs q=>by rw[upd_ne (Zr q c)];exact q
 tbls:=λb e q=>⟨#[],by rw[upd_ne (Zr q c),q];simp⟩
theorem Un.write(c:UU (H x))(l:e=x\/H e=ax (.own x))(k:∀b u,b≠e->h.get? b=ax u->h'.get? b=ax u)(d:∃u,h'.get? e=ax u):Un fs ex H (upd H x o) h h':=by
 have i:∀b,H b=aA->b≠x:=λb n z=>by subst z;rw[n] at c;exact c
 have g:∀b,H b=aA->b≠e:=λb n z=>by
  subst z;rcases l with r | r
  ·exact i b n r
  ·rw[n] at r;cases r
 have f:∀b u,H b=ax u->¬UU (ax u)->b≠x:=λb u q j z=>by subst z;rw[q] at c;exact j c
 refine⟨λb u q n _ _=>k b u (g b n) q,λb u q n _ _=>⟨u.slots,k b u (g b n) q⟩,λb u q n _=>by rw[upd_ne (i b n)];exact n,λb u q _=>?_,
  λb xs q=>by rw[upd_ne (f b _ q λz=>z)];exact q,λb u xs q=>by rw[upd_ne (f b _ q λz=>z)];exact q,λb m q=>⟨#[],by rw[upd_ne (f b _ q λz=>z),q];simp⟩⟩
 by_cases a:b=e
 ·subst a;exact d
 ·exact⟨u,k b u a q⟩
end
noncomputable def TabsH(K:aH)(mg:bH->Option aI)(base:ba)(H:Hp):Prop:=∀(q:bH)(c:aL),Po q=aC->dM K (.ref c) q=aC->
 ∃Pt ps t,lW base c Pt/\H Pt=ax (.tbl ps)/\ps[0]?=ax (.str (Oz q) t)/\base.BuiltinsAt mg Pt
theorem TabsH.un{K:aH}{mg:bH->Option aI}{a:ba}{fs k:List aL}{H f:Hp}{h h':ba}(t:TabsH K mg a H)(u:Un fs k H f h h'):TabsH K mg a f:=λq c i m=>by
 obtain⟨Pt,b,tk,j,g,d,o⟩:=t q c i m;obtain⟨more,l⟩:=u.tbls Pt b g
 have e:0<b.size:=by
  cases z:b.size with
  | zero=>rw[iJ (by omega)] at d;cases d
  | succ n=>omega
 exact⟨Pt,_,tk,j,l,by rw[Array.getElem?_append_left e];exact d,o⟩
noncomputable def trk(h:ba)(H:Hp):List aL:=(aD h.objs.size).filter λa=>(H a).isSome
noncomputable def Kb(h:ba)(H:Hp):ba:=PySem.W.hideAll h (trk h H)
theorem Dz(h:ba)(H:Hp):(Kb h H).objs.size=h.objs.size:=PySem.W.hideAll_size _ _
theorem BA{h:ba}{H:Hp}{b:aL}{o:dU}(e:h.get? b=ax o)(n:H b=aA):(Kb h H).get? b=ax o:=
 PySem.W.hideAll_get _ e λa=>by have q:=(bj.mp a).2;rw[n] at q;simp at q
theorem Zc4{h:ba}{H:Hp}{b:aL}{o:dU}(e:(Kb h H).get? b=ax o):h.get? b=ax o/\H b=aA:=by
 have a:=PySem.W.of_hideAll (trk h H) e;refine⟨a,?_⟩
 cases q:H b with
 | none=>rfl
 | some x=>
  have c:b∈trk h H:=bj.mpr ⟨aY.mpr (a9 a),by simp[q]⟩;have z:(Kb h H).get? b=aA:=PySem.W.hideAll_none (trk h H) c;rw[z] at e;cases e
noncomputable def Zc5(g h:ba)(L:aL):List (aL×dU):=(aD h.objs.size).filterMap λa=>if a=L\/(g.get? a).isSome=aC then aA else(h.get? a).map λo=>(a,o)
noncomputable def YC(g h:ba)(L d:aL):List (aL×dU):=(Zc5 g h L).filter λp=>decide (p.1≠d)
structure Mod(K:aH)(mg:bH->Option aI)(base:ba):Prop where
 kin:K.In base
 glob:base.Ns cO mg
 blt:∃mb,base.Ns kZ mb/\∀x:bH,x≠"__name__"->mb x=dB x
 nolimit:base.NoLimit
structure Cx where
 prog:bM
 w:bc
 K:aH
 mg:bH->Option aI
 base:ba
 A:bq
 N:List bH
 s₀:aO
 H₀:Hp
 env:ma
 outer:List ma
 stack:List ma
 ex:List aL
 fn:bH->Bool
 calm:Bool
 pn:List (aL×dU)
 xe:aI->aO->Prop
noncomputable def Kc(l:List ma):List aL:=l.filterMap (·.frame)
abbrev Cx.fs(X:Cx):List aL:=Kc X.outer
noncomputable def Vis(sc:gC)(x:bH):Prop:=sc.names.lookup x=ax .local\/sc.names.lookup x=ax .cell\/sc.names.lookup x=ax .free
noncomputable def BB(sc:gC)(x:bH):Prop:=sc.names.lookup x=ax .local\/sc.names.lookup x=ax .cell
noncomputable def Zne(env:ma)(h:ba)(m:bH->Option aI)(x:bH)(u:aI):Prop:=
 (env.kindOf x=ax .local/\m x=ax u)\/((env.kindOf x=ax .cell\/env.kindOf x=ax .free)/\∃c,env.cells.lookup x=ax c/\h.IsCell c (ax u))
structure Cx.Ok(X:Cx):Prop where
 mod:Mod X.K X.mg X.base
 kind:X.env.scope.kind = .function
 glob:X.env.globals=cO
 blt:X.env.builtins=kZ
 above:X.s₀.heap.objs.size<=X.env.locals
 inj:∀x y c,X.env.cells.lookup x=ax c->X.env.cells.lookup y=ax c->x=y
 has:∀x,(X.env.kindOf x=ax .cell\/X.env.kindOf x=ax .free)->∃c,X.env.cells.lookup x=ax c
 cab:∀x c,X.fn x=aC->X.env.cells.lookup x=ax c->X.s₀.heap.objs.size<=c
 hd:X.calm=aC->X.A.handled=aA
 frames:X.A.frames=ax X.stack
 stk:X.stack=X.outer\/(X.stack=X.env::X.outer/\X.env.frame=ax X.env.locals)
 exf:∀b∈X.ex,b≠X.env.locals/\∀x c,X.env.cells.lookup x=ax c->c≠b
 bs:∀b o,X.base.get? b=ax o->X.s₀.heap.get? b=ax o/\X.H₀ b=aA
 bsz:X.base.objs.size<=X.s₀.heap.objs.size
 noex:∀b o,X.base.get? b=ax o->b∉X.ex
 exfs:∀b∈X.ex,b∉X.fs
 funs:X.s₀.heap.FunFrames X.base X.outer
 frf:∀b∈X.fs,X.H₀ b=aA
 tab:TabsH X.K X.mg X.base X.H₀
 cod:∀q:bH,X.env.func≠aA->X.env.qual=q++".<locals>."->Po q=aC->dM X.K X.env.code q=aC
structure Inv(X:Cx)(p0:List (aL×dU))(σ:List (Option V))(H:Hp)(s:aO):Prop where
 ok:X.Ok
 os:s.os=X.s₀.os
 bare:k5 s.gens
 base:Un X.fs X.ex X.H₀ H X.s₀.heap s.heap
 loc:∃m,s.heap.Ns X.env.locals m/\∀(i:Nat)(x:bH)(v:V),X.N[i]?=ax x->σ[i]?=ax (ax v)->Vis X.env.scope x->∃u,RelV v u/\Zne X.env s.heap m x u
 cell:∀x c,X.env.cells.lookup x=ax c->∃v,s.heap.IsCell c v
 free:H X.env.locals=aA
 freeC:∀x c,X.env.cells.lookup x=ax c->H c=aA
 pin:∀p∈X.pn++p0,s.heap.get? p.1=ax p.2/\H p.1=aA/\p.1≠X.env.locals/\p.1∉X.fs/\∀v,p.2.data≠.cell v
 hok:HOk X.prog X.w H s.heap
 len:σ.length=X.N.length
section
variable {X:Cx} {p0:List (aL×dU)} {σ:List (Option V)} {H H':Hp} {s:aO} {h':ba}
theorem Cx.Ok.nofr(ok:X.Ok){b:aL}{o:dU}(e:X.base.get? b=ax o):b∉X.fs:=λa=>by have:=(ok.funs.mem a).1;rw[e] at this;cases this
theorem Inv.bs(I:Inv X p0 σ H s):∀b o,X.base.get? b=ax o->s.heap.get? b=ax o/\H b=aA:=λb o e=>
 ⟨I.base.keep b o (I.ok.bs b o e).1 (I.ok.bs b o e).2 (I.ok.nofr e) (I.ok.noex b o e),I.base.free b o (I.ok.bs b o e).1 (I.ok.bs b o e).2 (I.ok.noex b o e)⟩
theorem Inv.bk(I:Inv X p0 σ H s):∀b o,X.base.get? b=ax o->s.heap.get? b=ax o:=λb o e=>(I.bs b o e).1
theorem Inv.mod(I:Inv X p0 σ H s):Mod X.K X.mg X.base:=I.ok.mod
theorem Inv.kIn(I:Inv X p0 σ H s):X.K.In s.heap:=I.ok.mod.kin.keeps I.bk
theorem Inv.fr(I:Inv X p0 σ H s):∃m,Fr X.base X.env.locals s.heap m:=
 let⟨m,a,_⟩:=I.loc
 ⟨m,a,I.bk,cD I.ok.bsz I.ok.above⟩
theorem Inv.lt(I:Inv X p0 σ H s):X.env.locals<s.heap.objs.size:=let⟨_,a,_⟩:=I.loc;a.lt
theorem Inv.sz(I:Inv X p0 σ H s):X.s₀.heap.objs.size<=s.heap.objs.size:=cD I.ok.above (cJ I.lt)
theorem Inv.nofs(I:Inv X p0 σ H s){a:aL}(h:s.heap.objs.size<=a):a∉X.fs:=λc=>by obtain⟨_,o,b,_⟩:=I.ok.funs.mem c;exact absurd (bB (a9 b) (cD I.sz h)) (cS _)
theorem Inv.cne(I:Inv X p0 σ H s):∀x c,X.env.cells.lookup x=ax c->c≠X.env.locals:=λx c e z=>by obtain⟨v,o,d,hd⟩:=I.cell x c e;obtain⟨m,⟨f,g,ep,b,a,_⟩,_⟩:=I.loc;rw[z,b] at d;cases d;rw[a] at hd;cases hd
theorem Inv.funs(I:Inv X p0 σ H s):s.heap.FunFrames X.base X.outer:=by
 have all:∀(l:List ma),(∀b∈Kc l,b∈X.fs)->X.s₀.heap.FunFrames X.base l->s.heap.FunFrames X.base l:=by
  intro l
  induction l with
  | nil=>intro _ _;trivial
  | cons env r ih=>
   intro f g;obtain⟨i,⟨L,o,c,j,k,hd⟩,h⟩:=g;have a:L∈X.fs:=f L (by unfold Kc;rw[dR,c];exact ag);obtain⟨m,e⟩:=I.base.slot L o k (I.ok.frf L a) a λz=>I.ok.exfs L z a;exact⟨i,⟨L,_,c,j,e,hd⟩,ih (λb d=>f b (by unfold Kc;rw[dR,c];exact aN _ d)) h⟩
 exact all X.outer (λ_ d=>d) I.ok.funs
theorem Inv.stack(I:Inv X p0 σ H s):s.heap.FunFrames X.base X.stack:=by
 rcases I.ok.stk with e | ⟨e,a⟩
 ·rw[e];exact I.funs
 ·rw[e];obtain⟨m,b,_⟩:=I.loc;refine .cons (by rw[I.ok.kind];decide) a b ?_ I.funs;exact ba.get?_none_of_le (cD I.ok.bsz I.ok.above)
theorem Inv.stkSub(I:Inv X p0 σ H s):∀b∈Kc X.stack,b∈X.env.locals::X.fs:=λb a=>by
 rcases I.ok.stk with e | ⟨e,c⟩
 ·rw[e] at a;exact aN _ a
 ·rw[e] at a;unfold Kc at a;rw[dR,c] at a;exact a
theorem Inv.stkFree(I:Inv X p0 σ H s):∀b∈Kc X.stack,H b=aA:=λb a=>by
 rcases aa.mp (I.stkSub b a) with e | a
 ·rw[e];exact I.free
 ·obtain⟨_,o,c,_⟩:=I.ok.funs.mem a;exact I.base.free b o c (I.ok.frf b a) λz=>I.ok.exfs b z a
theorem Inv.step{Q:Array oV}{t':Nat}{W:Drawn}{ch:List aL}(I:Inv X p0 σ H s)
  (f:∀b∈ch,(b∈X.ex\/X.s₀.heap.objs.size<=b)/\b≠X.env.locals/\(∀x c,X.env.cells.lookup x=ax c->c≠b)/\∀p∈X.pn++p0,p.1≠b)
  (keep:∀b o,b≠X.env.locals->b∉X.fs->b∉ch->s.heap.get? b=ax o->H b=aA->h'.get? b=ax o)
  (w:∀b o,b≠X.env.locals->b∈X.fs->b∉ch->s.heap.get? b=ax o->H b=aA->∃M,h'.get? b=ax { o with slots:=M }) (free:∀b o,b∉ch->s.heap.get? b=ax o->H b=aA->H' b=aA)
  (y:∀b o,b∉ch->s.heap.get? b=ax o->∃G,h'.get? b=ax G)
  (F:∀b xs,H b=ax (.tup xs)->H' b=ax (.tup xs)) (J:∀b o u,H b=ax (.frz o u)->H' b=ax (.frz o u)) (E:∀b L,H b=ax (.tbl L)->∃more,H' b=ax (.tbl (L++more)))
  (ns:∀m,s.heap.Ns X.env.locals m->h'.Ns X.env.locals m) (N:HOk X.prog X.w H' h') (hg:k5 Q) :
  Inv X p0 σ H' { s with heap:=h',gens:=Q,drawn:=W,toks:=t' }:=by
 have C:∀b o,X.s₀.heap.get? b=ax o->b≠X.env.locals:=λb o e=>bN (bB (a9 e) I.ok.above)
 have t:∀b o,X.s₀.heap.get? b=ax o->b∉X.ex->b∉ch:=λb o e a A=>by
  rcases(f b A).1 with z | z
  ·exact a z
  ·exact absurd (bB (a9 e) z) (cS _)
 have g:∀x c,X.env.cells.lookup x=ax c->∀v,s.heap.IsCell c v->h'.IsCell c v:=λx c e v ⟨o,B,hd⟩=>by
  have h:=λz=>(f c z).2.2.1 x c e rfl;by_cases S:c∈X.fs
  ·obtain⟨M,q⟩:=w c o (I.cne x c e) S h B (I.freeC x c e);exact⟨_,q,hd⟩
  ·exact⟨o,keep c o (I.cne x c e) S h B (I.freeC x c e),hd⟩
 refine⟨I.ok,I.os,hg,⟨λb o e n A a=>?_,λb o e n A a=>?_,λb o e n a=>?_,λb o e a=>?_,λb xs e=>F b xs (I.base.tups b xs e),λb o xs e=>J b o xs (I.base.frzs b o xs e),λb L e=>?_⟩,?_,λx c e=>?_,?_,λx c e=>?_,λp P=>?_,N,I.len⟩
 ·exact keep b o (C b o e) A (t b o e a) (I.base.keep b o e n A a) (I.base.free b o e n a)
 ·obtain⟨M,j⟩:=I.base.slot b o e n A a;obtain⟨O,D⟩:=w b _ (C b o e) A (t b o e a) j (I.base.free b o e n a);exact⟨O,D⟩
 ·obtain⟨G,j⟩:=I.base.there b o e a;exact free b G (t b o e a) j (I.base.free b o e n a)
 ·obtain⟨G,j⟩:=I.base.there b o e a;exact y b G (t b o e a) j
 ·obtain⟨m1,j⟩:=I.base.tbls b L e;obtain⟨U,D⟩:=E b _ j;exact⟨m1++U,by rw[D,Array.append_assoc]⟩
 ·obtain⟨m,Z,T⟩:=I.loc;refine⟨m,ns m Z,λi x v j D Y=>?_⟩;obtain⟨u,r,l⟩:=T i x v j D Y;refine⟨u,r,?_⟩;rcases l with l | ⟨k,c,e,z⟩
  ·exact .inl l
  ·exact .inr ⟨k,c,e,g x c e _ z⟩
 ·obtain⟨v,z⟩:=I.cell x c e;exact⟨v,g x c e v z⟩
 ·obtain⟨m,⟨o,_,_,B,_⟩,_⟩:=I.loc;exact free _ o (λz=>(f _ z).2.1 rfl) B I.free
 ·obtain⟨v,o,B,hd⟩:=I.cell x c e;exact free c o (λz=>(f c z).2.2.1 x c e rfl) B (I.freeC x c e)
 ·obtain⟨e,n,ne,R,d⟩:=I.pin p P;have h:=λz=>(f p.1 z).2.2.2 p P rfl;exact⟨keep p.1 p.2 ne R h e n,free p.1 p.2 h e n,ne,R,d⟩
theorem Inv.un{t':Nat}(I:Inv X p0 σ H s)(u:Un X.fs [] H H' s.heap h')(d:HOk X.prog X.w H' h'):Inv X p0 σ H' { s with heap:=h',toks:=t' }:=by
 obtain⟨m,⟨o,p,ep,g,r⟩,_⟩:=id I.loc;obtain⟨k,h⟩:=u.any g I.free (by simp)
 exact I.step (ch:=[]) (λ_ z=>nomatch z) (λb o _ f _ e n=>u.keep b o e n f (by simp)) (λb o _ f _ e n=>u.slot b o e n f (by simp)) (λb o _ e n=>u.free b o e n (by simp)) (λb o _ e=>u.there b o e (by simp)) u.tups u.frzs u.tbls (λq i=>by
  obtain⟨l,es',c,a,j⟩:=i;rw[g] at a;cases a;exact⟨_,es',c,h,j⟩) d I.bare
theorem Inv.call{j:Array oV}{t':Nat}{l:Drawn}{ch:List aL}(I:Inv X p0 σ H s)(u:Un (Kc X.stack) ch H H' s.heap h')(i:HOk X.prog X.w H' h')(t:k5 j)
  (d:∀b∈ch,(b∈X.ex\/X.s₀.heap.objs.size<=b)/\b≠X.env.locals/\(∀x c,X.env.cells.lookup x=ax c->c≠b)/\∀p∈X.pn++p0,p.1≠b) :
  Inv X p0 σ H' { s with heap:=h',gens:=j,drawn:=l,toks:=t' }:=by
 obtain⟨m,⟨o,B,ep,k,r⟩,_⟩:=id I.loc;obtain⟨y,h⟩:=u.any k I.free λz=>(d _ z).2.1 rfl
 exact I.step d (λb o h v a e n=>u.keep b o e n (λz=>(aa.mp (I.stkSub b z)).elim h v) a) (λb o _ _ a e n=>u.any e n a) (λb o a e n=>u.free b o e n a) (λb o a e=>u.there b o e a) u.tups u.frzs u.tbls (λC q=>by
  obtain⟨A,es',g,f,w⟩:=q;rw[k] at f;cases f;exact⟨_,es',g,h,w⟩) i t
theorem Inv.turned{t':Nat}{a:aL}(I:Inv X p0 σ H s)(k:∀b o,b≠a->s.heap.get? b=ax o->h'.get? b=ax o)(t:H a=aA)(g:a≠X.env.locals)
  (j:a∈X.ex\/X.s₀.heap.objs.size<=a) (h:∀x c,X.env.cells.lookup x=ax c->c≠a) (i:∀p∈X.pn++p0,p.1≠a):Inv X p0 σ H { s with heap:=h',toks:=t' }:=by
 have f:∀b u,H b=ax u->b≠a:=λb u e z=>by rw[z,t] at e;cases e
 refine I.step (ch:=[a]) (λb A=>?_) (λb o _ _ d e _=>k b o (λz=>d (by simp[z])) e) (λb o _ _ d e _=>⟨o.slots,k b o (λz=>d (by simp[z])) e⟩) (λ_ _ _ _ n=>n)
  (λb o d e=>⟨o,k b o (λz=>d (by simp[z])) e⟩) (λ_ _ e=>e) (λ_ _ _ e=>e) (λb B e=>⟨#[],by rw[e];simp⟩) (λm l=>?_) (λb u e=>?_) I.bare
 ·have e:b=a:=by simpa using A
  subst e;exact⟨j,g,h,i⟩
 ·obtain⟨o,y,ep,w,r⟩:=l;exact⟨o,y,ep,k _ o (bX g) w,r⟩
 ·refine(I.hok b u e).stay (λc v d q=>k c v ?_ q) (λ_ q=>q) (λ_ _ q=>q) λ_ _ q=>q;rcases d with z | z
  ·rw[z];exact f b u e
  ·exact f c _ z
theorem Inv.tok(I:Inv X p0 σ H s)(t:Nat):Inv X p0 σ H { s with toks:=t }:=I.un Un.refl I.hok
theorem Inv.kept{t':Nat}(I:Inv X p0 σ H s)(k:∀b u,s.heap.get? b=ax u->h'.get? b=ax u):Inv X p0 σ H { s with heap:=h',toks:=t' }:=I.un (Un.kept k) (I.hok.kept k)
theorem Inv.laid{a:aL}{o:HO}{t':Nat}(I:Inv X p0 σ H s)(k:∀b u,s.heap.get? b=ax u->h'.get? b=ax u)(c:s.heap.objs.size<=a)(new:ObjOk X.prog X.w (upd H a o) h' a o) :
  Inv X p0 σ (upd H a o) { s with heap:=h',toks:=t' }:=I.un (Un.laid k c (I.hok.fresh c)) (I.hok.laid k c new)
theorem Inv.write{x e:aL}{o:HO}{t':Nat}(I:Inv X p0 σ H s)(c:UU (H x))(d:e=x\/H e=ax (.own x))(k:∀b u,b≠e->s.heap.get? b=ax u->h'.get? b=ax u)(a:∃u,h'.get? e=ax u)
  (new:ObjOk X.prog X.w (upd H x o) h' x o):Inv X p0 σ (upd H x o) { s with heap:=h',toks:=t' }:=I.un (Un.write c d k a) (I.hok.write c d k a new)
theorem Inv.weak{a:List (Option V)}(I:Inv X p0 σ H s)(e:a.length=σ.length)(w:∀(i:Nat) v,a[i]?=ax (ax v)->σ[i]?=ax (ax v)):Inv X p0 a H s:=
 ⟨I.ok,I.os,I.bare,I.base,let⟨m,c,b⟩:=I.loc;⟨m,c,λi x v f d g=>b i x v f (w i v d) g⟩,I.cell,I.free,I.freeC,I.pin,I.hok,e.trans I.len⟩
theorem Inv.pins_of{a:List (aL×dU)}(I:Inv X p0 σ H s)(h:∀p∈a,s.heap.get? p.1=ax p.2/\H p.1=aA/\p.1≠X.env.locals/\p.1∉X.fs/\∀v,p.2.data≠.cell v):Inv X a σ H s:=
 ⟨I.ok,I.os,I.bare,I.base,I.loc,I.cell,I.free,I.freeC,λp b=>(aV.mp b).elim (λz=>I.pin p (ao _ z)) (h p),I.hok,I.len⟩
theorem JT{N:List bH}(e:N.Nodup){i j:Nat}{x:bH}(a:N[i]?=ax x)(b:N[j]?=ax x):i=j:=by obtain⟨f,d⟩:=aR.mp a;obtain⟨g,c⟩:=aR.mp b;exact(kO e).mp (d.trans c.symm)
theorem DA{M:Model}{A:bq}{E:aI->aO->Prop}{i:Nat}{x:bH}{v:V}{u:aI}{Q:Unit->aO->Prop}(I:Inv X p0 σ H s)(hN:X.N.Nodup)(P:X.N[i]?=ax x)(w:BB X.env.scope x)(r:RelV v u)
  (h:∀s',Inv X p0 (σ.set i (ax v)) H s'->(∃a,cP a s.heap s'.heap/\(a=X.env.locals\/X.env.cells.lookup x=ax a))->Q () s') (hf:X.fn x=aC\/X.env.scope.names.lookup x=ax .local:=by first | exact .inl rfl | exact .inr rfl | assumption):bJ M A (storeName X.env x u) Q E s:=by
 obtain⟨m,hn,hl⟩:=id I.loc;have T:(X.env.scope.kind==.class || (X.env.scope.kind==.module&&X.env.locals != X.env.globals))=aB:=by rw[I.ok.kind];rfl
 have F:i<σ.length:=by rw[I.len];exact(aR.mp P).1
 have cne:=I.cne
 have l:∀{a:aL}{h':ba},(∃o,s.heap.get? a=ax o/\H a=aA)->cP a s.heap h'->HOk X.prog X.w H h':=λ{a h'} ha f b ob e=>by
  obtain⟨_,_,B⟩:=ha;refine(I.hok b ob e).stay (λc W t q=>(f.2 c ?_).trans q) (λ_ q=>q) (λ_ _ q=>q) λ_ _ q=>q;rintro rfl;rcases t with rfl | t
  ·rw[B] at e;cases e
  ·rw[B] at t;cases t
 rcases w with D | D
 ·refine wpAny_storeName_local D hn (λh' hn' f=>?_) T;obtain⟨oL,_,_,Z,_⟩:=id hn;refine h _ ⟨I.ok,I.os,I.bare,⟨λb o e n L w=>?_,λb o e n L w=>?_,I.base.free,λb o e w=>?_,I.base.tups,I.base.frzs,I.base.tbls⟩,⟨_,hn',λj y v' g C e3=>?_⟩,λy c e=>?_,I.free,I.freeC,λp Y=>?_,l ⟨oL,Z,I.free⟩ f,by simpa using I.len⟩ ⟨_,f,.inl rfl⟩
  ·exact(f.2 b (bN (bB (a9 e) I.ok.above))).trans (I.base.keep b o e n L w)
  ·obtain⟨sl,g⟩:=I.base.slot b o e n L w;exact⟨sl,(f.2 b (bN (bB (a9 e) I.ok.above))).trans g⟩
  ·obtain⟨o',g⟩:=I.base.there b o e w;exact⟨o',(f.2 b (bN (bB (a9 e) I.ok.above))).trans g⟩
  ·by_cases G:j=i
   ·subst G;rw[P] at g;cases g;rw[iK F] at C;cases C;exact⟨u,r,.inl ⟨D,by simp⟩⟩
   ·rw[i9 (bX G)] at C;obtain⟨u',r',q⟩:=hl j y v' g C e3;refine⟨u',r',?_⟩;rcases q with⟨k,e⟩ | ⟨k,c,e,z⟩
    ·refine .inl ⟨k,?_⟩;have:y≠x:=λe=>G (JT hN g (e▸P));simp[this,e]
    ·exact .inr ⟨k,c,e,z.sameBut f (cne y c e)⟩
  ·obtain⟨W,z⟩:=I.cell y c e;exact⟨W,z.sameBut f (cne y c e)⟩
  ·obtain⟨e,n,ne,nf,d⟩:=I.pin p Y;exact⟨(f.2 p.1 ne).trans e,n,ne,nf,d⟩
 ·have J:X.fn x=aC:=by
   rcases hf with z | z
   ·exact z
   ·rw[z] at D;cases D
  obtain⟨c,t⟩:=I.ok.has x (.inl D);obtain⟨W,z⟩:=I.cell x c t;refine wpAny_storeName_cell I.ok.kind D t z (λh' S f=>?_);obtain⟨oc,O,R⟩:=id z;refine h { s with heap:=h' } ⟨I.ok,I.os,I.bare,⟨λb o e n L w=>?_,λb o e n L w=>?_,I.base.free,λb o e w=>?_,I.base.tups,I.base.frzs,I.base.tbls⟩,⟨m,hn.sameBut f (bX (cne x c t)),λj y v' g C e3=>?_⟩,λy U e=>?_,I.free,I.freeC,λp Y=>?_,l ⟨oc,O,I.freeC x c t⟩ f,by simpa using I.len⟩ ⟨c,f,.inr t⟩
  ·exact(f.2 b (bN (bB (a9 e) (I.ok.cab x c J t)))).trans (I.base.keep b o e n L w)
  ·obtain⟨sl,g⟩:=I.base.slot b o e n L w;exact⟨sl,(f.2 b (bN (bB (a9 e) (I.ok.cab x c J t)))).trans g⟩
  ·obtain⟨o',g⟩:=I.base.there b o e w;exact⟨o',(f.2 b (bN (bB (a9 e) (I.ok.cab x c J t)))).trans g⟩
  ·by_cases G:j=i
   ·subst G;rw[P] at g;cases g;rw[iK F] at C;cases C;exact⟨u,r,.inr ⟨.inl D,c,t,S⟩⟩
   ·rw[i9 (bX G)] at C;obtain⟨u',r',q⟩:=hl j y v' g C e3;refine⟨u',r',?_⟩;rcases q with q | ⟨k,U,e,z'⟩
    ·exact .inl q
    ·refine .inr ⟨k,U,e,z'.sameBut f ?_⟩;rintro rfl;exact G (JT hN g (I.ok.inj _ _ _ e t▸P))
  ·by_cases N:U=c
   ·subst N;exact⟨_,S⟩
   ·obtain⟨w2,z2⟩:=I.cell y U e;exact⟨w2,z2.sameBut f N⟩
  ·obtain⟨e,n,ne,nf,d⟩:=I.pin p Y;refine⟨(f.2 p.1 ?_).trans e,n,ne,nf,d⟩;intro q;rw[q,O] at e;have q':oc=p.2:=bC e;exact d W (by rw[<-q'];exact R)
theorem S6{M:Model}{A:bq}{E:aI->aO->Prop}{i:Nat}{x:bH}{v:V}{u:aI}{Q:Unit->aO->Prop}(I:Inv X p0 σ H s)(c:X.N.Nodup)(b:X.N[i]?=ax x)(d:BB X.env.scope x)(r:RelV v u)
  (h:∀a,Inv X p0 (σ.set i (ax v)) H a->Q () a) (e:X.fn x=aC\/X.env.scope.names.lookup x=ax .local:=by first | exact .inl rfl | exact .inr rfl | assumption):bJ M A (storeName X.env x u) Q E s:=
 DA I c b d r (λa f _=>h a f) e
theorem Inv.call'{a:aO}{ch:List aL}(I:Inv X p0 σ H s)(h:a.os=s.os)(u:Un (Kc X.stack) ch H H' s.heap a.heap)(f:HOk X.prog X.w H' a.heap)(g:k5 a.gens)
  (d:∀b∈ch,(b∈X.ex\/X.s₀.heap.objs.size<=b)/\b≠X.env.locals/\(∀x c,X.env.cells.lookup x=ax c->c≠b)/\∀p∈X.pn++p0,p.1≠b):Inv X p0 σ H' a:=by
 obtain⟨h',k,j,t',i⟩:=a;have e:=h;subst e;exact I.call u f g d
end
abbrev XK:=aI->Option aL->Hp->Prop
abbrev St:=List (Option V)
abbrev VK:=V->Hp->Prop
abbrev TE:=St->Hp->VK->Prop
abbrev TT:=St->Hp->(Bool->Hp->Prop)->Prop
abbrev TA:=St->Hp->(List V->Hp->Prop)->Prop
structure Y9 where
 nx:St->Hp->Prop
 rt:VK
 bk:St->Hp->Prop:=λ_ _=>False
 ct:St->Hp->Prop:=λ_ _=>False
abbrev TS:=Y9->St->Hp->Prop
noncomputable def EP(X:Cx)(p0:List (aL×dU))(σ:St)(Q:VK)(u:aI)(s':aO):Prop:=∃v H',Inv X p0 σ H' s'/\RelV v u/\Q v H'
noncomputable def TP(X:Cx)(p0:List (aL×dU))(σ:St)(Q:Bool->Hp->Prop)(b:Bool)(s':aO):Prop:=∃H',Inv X p0 σ H' s'/\Q b H'
noncomputable def AP(X:Cx)(p0:List (aL×dU))(σ:St)(Q:List V->Hp->Prop)(us:List aI)(s':aO):Prop:=∃vs H',Inv X p0 σ H' s'/\Vals vs us/\Q vs H'
noncomputable def SP(X:Cx)(p0:List (aL×dU))(D:Y9)(f:Flow)(s':aO):Prop:=
 match f with
 | .next=>∃σ' H',Inv X p0 σ' H' s'/\D.nx σ' H'
 | .brk=>∃σ' H',Inv X p0 σ' H' s'/\D.bk σ' H'
 | .cont=>∃σ' H',Inv X p0 σ' H' s'/\D.ct σ' H'
 | .ret u=>∃v σ' H',Inv X p0 σ' H' s'/\RelV v u/\D.rt v H'
noncomputable def PE(X:Cx)(e:bO)(t:TE):Prop:=
 ∀(p0:List (aL×dU))(s:aO)(σ:St)(H:Hp)(Q:VK),Inv X p0 σ H s->t σ H Q->bJ (model X.prog X.w) X.A (eval e X.env) (EP X p0 σ Q) X.xe s
noncomputable def PT(X:Cx)(e:bO)(t:TT):Prop:=
 ∀(p0:List (aL×dU))(s:aO)(σ:St)(H:Hp)(Q:Bool->Hp->Prop),Inv X p0 σ H s->t σ H Q->bJ (model X.prog X.w) X.A (md e X.env (eval e X.env)) (TP X p0 σ Q) X.xe s
noncomputable def PW(X:Cx)(e:bO)(t:TT):Prop:=
 ∀(whole:Sem aI)(p0:List (aL×dU))(s:aO)(σ:St)(H:Hp)(Q:Bool->Hp->Prop),Inv X p0 σ H s->t σ H Q->bJ (model X.prog X.w) X.A (md e X.env whole) (TP X p0 σ Q) X.xe s
theorem PW.pt{X:Cx}{e:bO}{t:TT}(h:PW X e t):PT X e t:=h _
noncomputable def PA(X:Cx)(es:List bO)(t:TA):Prop:=
 ∀(pos:dw)(p0:List (aL×dU))(s:aO)(σ:St)(H:Hp)(Q:List V->Hp->Prop),Inv X p0 σ H s->t σ H Q->bJ (model X.prog X.w) X.A (spliced (dC pos (aP es X.env))) (AP X p0 σ Q) X.xe s
noncomputable def PS(X:Cx)(st:cB)(t:TS):Prop:=
 ∀(p0:List (aL×dU))(s:aO)(σ:St)(H:Hp)(D:Y9),Inv X p0 σ H s->t D σ H->bJ (model X.prog X.w) X.A (exec st X.env) (SP X p0 D) X.xe s
noncomputable def PSs(X:Cx)(st:List cB)(t:TS):Prop:=
 ∀(p0:List (aL×dU))(s:aO)(σ:St)(H:Hp)(D:Y9),Inv X p0 σ H s->t D σ H->bJ (model X.prog X.w) X.A (execs st X.env) (SP X p0 D) X.xe s
theorem Yo{c:Type}{t:Sem c}{Q b:c->aO->Prop}{M:Model}{A:bq}{E:aI->aO->Prop}{s:aO}(h:bJ M A t Q E s)(d:∀a s,Q a s->b a s):bJ M A t b E s:=cU h d λ_ _ x=>x
section
variable {X:Cx}
theorem bin{a b:bO}{k l:TE}(o:PE X a k)(B:PE X b l){i:List (aL×dU)}{s:aO}{d:St}{H:Hp}{R:V->V->Hp->Prop}(I:Inv X i d H s)(h:k d H λx j=>l d j λy c=>R x y c)
  {m:Type} {Q:m->aO->Prop} {f:aI->aI->Sem m}
  (p:∀v u s2 x y c,Inv X i d c s2->RelV x v->RelV y u->R x y c->bJ (model X.prog X.w) X.A (f v u) Q X.xe s2) :
  bJ (model X.prog X.w) X.A (eval a X.env) (λv g=>bJ (model X.prog X.w) X.A (eval b X.env) (λu e=>bJ (model X.prog X.w) X.A (f v u) Q X.xe e) X.xe g) X.xe s:=by
 refine Yo (o i s d H _ I h) λv s1 ⟨x,j,t,w,q⟩=>?_;refine Yo (B i s1 d j _ t q) λu s2 ⟨y,c,A,z,n⟩=>?_;exact p v u s2 x y c A w z n
noncomputable def Pp(i:Nat):TE:=λσ H Q=>∃v,σ[i]?=ax (ax v)/\Q v H
noncomputable def tC(v:V):TE:=λ_ H Q=>Q v H
theorem BC{i:Nat}{x:bH}{pos:dw}(t:X.N[i]?=ax x)(n:Vis X.env.scope x)(hd:(x==("__debug__" : bH))=aB:=by decide)(f:(x==("__classdict__" : bH))=aB:=by decide):PE X (.Name x pos) (Pp i):=by
 intro q s p H Q I h;obtain⟨v,e,h⟩:=h;obtain⟨m,o,j⟩:=I.loc;obtain⟨u,r,l⟩:=j i x v t e n;have b:EP X q p Q u s:=⟨v,H,I,r,h⟩;rcases l with⟨d,k⟩ | ⟨d,c,g,a⟩
 ·exact oW (lX I.ok.kind d o k b) hd
 ·rcases d with d | d
  ·exact oW (mQ I.ok.kind d g a b) hd
  ·exact oW (wpAny_loadName_free I.ok.kind d g a b f) hd
theorem Zhr{i j pos}:PE X (.Constant (.int i) j pos) (tC (.int i)):=λ_ _ _ H _ I h=>wpAny_Constant_int ⟨.int i,H,I.tok _,⟨_,rfl⟩,h⟩
theorem Zkj{b j pos}:PE X (.Constant (.bool b) j pos) (tC (.bl b)):=λ_ _ _ H _ I h=>Constant_bool ⟨.bl b,H,I,rfl,h⟩
theorem Zhs{j pos}:PE X (.Constant .none j pos) (tC .non):=λ_ _ _ H _ I h=>mV ⟨.non,H,I,rfl,h⟩
noncomputable def Gl(X:Cx)(x:bH):Prop:=X.env.kindOf x=ax .globalImplicit
theorem Kd{E:aI->aO->Prop}{b:List (aL×dU)}{s:aO}{d:St}{H:Hp}{x:bH}{u:aI}{pos:dw}{Q:aI->aO->Prop}(I:Inv X b d H s)(a:Gl X x)(c:X.mg x=ax u)(h:Q u s)
  (hd:(x==("__debug__" : bH))=aB:=by decide):bJ (model X.prog X.w) X.A (eval (.Name x pos) X.env) Q E s:=
 jY I.ok.kind a (Calls.loadGlobal_global (by rw[I.ok.glob];exact I.mod.glob.keeps I.bk) c h) hd
theorem XZ{E:aI->aO->Prop}{i:List (aL×dU)}{s:aO}{f:St}{H:Hp}{x:bH}{u:aI}{pos:dw}{Q:aI->aO->Prop}(I:Inv X i f H s)(g:Gl X x)(c:X.mg x=aA)(d:dB x=ax u)(h:Q u s)
  (e:x≠"__name__":=by decide) (hd:(x==("__debug__" : bH))=aB:=by decide):bJ (model X.prog X.w) X.A (eval (.Name x pos) X.env) Q E s:=by
 obtain⟨j,b,a⟩:=I.mod.blt;exact jY I.ok.kind g (Calls.loadGlobal_builtin (by rw[I.ok.glob];exact I.mod.glob.keeps I.bk) c (by rw[I.ok.blt];exact b.keeps I.bk) ((a x e).trans d) h) hd
theorem Zc6{x:bH}{v:V}{u:aI}{pos:dw}(a:Gl X x)(b:X.mg x=ax u)(r:RelV v u)(hd:(x==("__debug__" : bH))=aB:=by decide):PE X (.Name x pos) (tC v):=
 λ_ _ _ H _ I h=>Kd I a b ⟨v,H,I,r,h⟩ hd
theorem Zc7{x:bH}{v:V}{u:aI}{pos:dw}(a:Gl X x)(b:X.mg x=aA)(c:dB x=ax u)(r:RelV v u)(d:x≠"__name__":=by decide)(hd:(x==("__debug__" : bH))=aB:=by decide):PE X (.Name x pos) (tC v):=
 λ_ _ _ H _ I h=>XZ I a b c ⟨v,H,I,r,h⟩ d hd
variable {a b:bO} {ta tb:TE} {pos:dw}
noncomputable def PC(X:Cx)(op:nK)(a b:bO)(t:TE):Prop:=
 ∀(p0:List (aL×dU))(s:aO)(σ:St)(H:Hp)(Q:VK),Inv X p0 σ H s->t σ H Q->
  bJ (model X.prog X.w) X.A (eval a X.env) (λv s₁=>bJ (model X.prog X.w) X.A (eval b X.env) (λu s₂=>bJ (model X.prog X.w) X.A (dH op v u) (EP X p0 σ Q) X.xe s₂) X.xe s₁) X.xe s
theorem BD(b:bO){op:nK}(h:op≠.In)(d:op≠.NotIn):cY op b=aB:=by
 have c:(op==nK.In)=aB:=by cases op<;>first | rfl | exact absurd rfl h
 have a:(op==nK.NotIn)=aB:=by cases op<;>first | rfl | exact absurd rfl d
 cases b<;>simp[cY,c,a]
noncomputable def Zkk(ta:TE):TE:=λσ H Q=>ta σ H λx H1=>Q (.bl (decide (x = .non))) H1
noncomputable def Zgs(ta:TE):TE:=λσ H Q=>ta σ H λx H1=>Q (.bl (!decide (x = .non))) H1
theorem RelV.none_iff{x:V}{v:aI}(r:RelV x v):(v==oU)=decide (x = .non):=by
 cases x with
 | non=>cases r;rfl
 | bl _=>cases r;rfl
 | int _=>obtain⟨t,rfl⟩:=r;rfl
 | str _=>obtain⟨t,rfl⟩:=r;rfl
 | byt _=>obtain⟨t,rfl⟩:=r;rfl
 | flt _=>obtain⟨t,rfl⟩:=r;rfl
 | ref _=>cases r;rfl
 | ty _=>cases r;rfl
theorem Zht{j pos'}(b:PE X a ta):PC X .Is a (.Constant .none j pos') (Zkk ta):=by intro f s i H Q I h;refine Yo (b f s i H _ I h) λv s1 ⟨x,d,e,c,g⟩=>?_;exact mV (is_none_gen ⟨.bl _,d,e,by rw[c.none_iff];rfl,g⟩)
theorem Zc8{j pos'}(b:PE X a ta):PC X .IsNot a (.Constant .none j pos') (Zgs ta):=by intro f s i H Q I h;refine Yo (b f s i H _ I h) λv s1 ⟨x,d,e,c,g⟩=>?_;exact mV (isnot_none_gen ⟨.bl _,d,e,by rw[c.none_iff];rfl,g⟩)
noncomputable def tB(t:TE):TT:=λσ H Q=>t σ H λx H1=>∃c,x = .bl c/\Q c H1
theorem HV{op:nK}{t:TE}(h:PC X op a b t)(e:cY op b=aB:=by first | exact BD _ (by decide) (by decide) | rfl):PT X (.Compare a [op] [b] pos) (tB t):=by intro n s k H Q I i;refine lN (Yo (h n s k H _ I i) λv s1 e=>Yo e λu s2 g=>Yo g λc o ⟨x,m,j,l,f⟩=>?_) e;obtain⟨d,rfl,q⟩:=f;cases l;exact dN ⟨m,j,q⟩
theorem Zhu{e:bO}{t:TE}(h:PE X e t)(a:∀whole,md e X.env whole=(do let v <-whole;oT e.pos;holding [v] (truthy v)):=by intro _;rfl):PT X e (tB t):=by intro k s g H Q I c;refine isTrue_plain (Yo (h k s g H _ I c) λv s1 ⟨x,j,f,i,b⟩=>?_) (a _);obtain⟨d,rfl,q⟩:=b;cases i;exact dN ⟨j,f,q⟩
variable {tA tB':TT} {YC:List bO}
noncomputable def Zkl(t u:TT):TT:=λσ H Q=>t σ H λc H1=>if c=aC then u σ H1 Q else Q aB H1
noncomputable def tOr(t u:TT):TT:=λσ H Q=>t σ H λc H1=>if c=aC then Q aC H1 else u σ H1 Q
noncomputable def Znf(t:TT):TT:=λσ H Q=>t σ H λc H1=>Q (!c) H1
theorem Zc9(b:PT X a tA):PW X (.BoolOp .And [a] pos) tA:=by
 intro g d s f H Q I h;refine isTrue_and (Yo (b d s f H Q I h) λc s1 e=>?_)
 cases c with
 | true=>exact isTrue_and_nil e
 | false=>exact e
theorem Zhv(b:PT X a tA):PW X (.BoolOp .Or [a] pos) tA:=by
 intro g d s f H Q I h;refine isTrue_or (Yo (b d s f H Q I h) λc s1 e=>?_)
 cases c with
 | false=>exact isTrue_or_nil e
 | true=>exact e
theorem Zhw(j:PT X a tA)(l:PW X (.BoolOp .And (b::YC) pos) tB'):PW X (.BoolOp .And (a::b::YC) pos) (Zkl tA tB'):=by
 intro k f s i H Q I h;refine isTrue_and (Yo (j f s i H _ I h) λc s1 ⟨d,e,g⟩=>?_)
 cases c with
 | true=>exact l k f s1 i d Q e g
 | false=>exact⟨d,e,g⟩
theorem Zkm(j:PT X a tA)(l:PW X (.BoolOp .Or (b::YC) pos) tB'):PW X (.BoolOp .Or (a::b::YC) pos) (tOr tA tB'):=by
 intro k f s i H Q I h;refine isTrue_or (Yo (j f s i H _ I h) λc s1 ⟨d,e,g⟩=>?_)
 cases c with
 | true=>exact⟨d,e,g⟩
 | false=>exact l k f s1 i d Q e g
theorem Zhx(b:PT X a tA):PT X (.UnaryOp .Not a pos) (Znf tA):=by intro e s f H Q I h;exact isTrue_not (b e s f H (λc d=>Q (!c) d) I h)
noncomputable def Zkn(ta tb:TE):TE:=λσ H Q=>ta σ H λx H1=>∃c,x = .bl c/\if c=aC then tb σ H1 Q else Q (.bl aB) H1
noncomputable def Zko(ta:TE):TE:=λσ H Q=>ta σ H λx H1=>∃c,x = .bl c/\Q (.bl (!c)) H1
theorem Zhy{op}{t:TE}(h:PE X a t):PE X (.BoolOp op [a] pos) t:=λb s d H Q I c=>BoolOp_one (h b s d H Q I c)
theorem Zhz(j:PE X a ta)(l:PE X (.BoolOp .And (b::YC) pos) tb):PE X (.BoolOp .And (a::b::YC) pos) (Zkn ta tb):=by
 intro g s i H Q I h;refine BoolOp_and (Yo (j g s i H _ I h) λv s1 ⟨x,e,f,k,d⟩=>?_);obtain⟨c,rfl,d⟩:=d;cases k;refine dN ?_
 cases c with
 | true=>exact l g s1 i e Q f d
 | false=>exact⟨.bl aB,e,f,rfl,d⟩
theorem Zh0(d:PE X a ta):PE X (.UnaryOp .Not a pos) (Zko ta):=by intro i s j H Q I h;refine UnaryOp_ (Yo (d i s j H _ I h) λv s1 ⟨x,f,g,e,b⟩=>?_);obtain⟨c,rfl,b⟩:=b;cases e;exact not_of (dN ⟨.bl (!c),f,g,rfl,b⟩)
noncomputable def tIf(t:TT)(ta tb:TE):TE:=λσ H Q=>t σ H λc H1=>if c=aC then ta σ H1 Q else tb σ H1 Q
theorem BE{c:bO}(l:PT X c tA)(k:PE X a ta)(m:PE X b tb):PE X (.IfExp c a b pos) (tIf tA ta tb):=by
 intro e s f H Q I h;refine wpAny_IfExp (Yo (l e s f H _ I h) λd s1 ⟨g,i,j⟩=>?_)
 cases d with
 | true=>exact k e s1 f g Q i j
 | false=>exact m e s1 f g Q i j
end
noncomputable def SqL(K:aH)(H:Hp)(a:aL)(xs:List V):Prop:=
 Rd H a (.lst xs)\/
  ∃(o:dU) (p8:Array aI) (n:Nat),K.lookup a=ax o/\o.cls = .type "list"/\o.dict=aA/\o.data = .seq p8 n/\p8.size<=sizeLine/\Vals xs p8.toList
noncomputable def SqT(K:aH)(H:Hp)(a:aL)(xs:List V):Prop:=
 Rd H a (.tup xs)\/
  ∃(o:dU) (p8:Array aI) (n:Nat),K.lookup a=ax o/\o.cls = .type "tuple"/\o.data = .seq p8 n/\p8.size<=sizeLine/\Vals xs p8.toList
noncomputable def Zng:aI->Option V
 | .none=>ax .non
 | .bool b=>ax (.bl b)
 | .int i _=>ax (.int i)
 | .str x _=>ax (.str x)
 | .bytes b _=>ax (.byt b)
 | .float b _=>ax (.flt b)
 | .ref a=>ax (.ref a)
 | .type n=>ax (.ty n)
 | _=>aA
theorem RelV.abs{x:V}{u:aI}(r:RelV x u):Zng u=ax x:=by
 cases x with
 | non=>cases r;rfl
 | bl _=>cases r;rfl
 | int _=>obtain⟨t,rfl⟩:=r;rfl
 | str _=>obtain⟨t,rfl⟩:=r;rfl
 | byt _=>obtain⟨t,rfl⟩:=r;rfl
 | flt _=>obtain⟨t,rfl⟩:=r;rfl
 | ref _=>cases r;rfl
 | ty _=>cases r;rfl
theorem RelV.inj{x y:V}{u:aI}(r:RelV x u)(q:RelV y u):x=y:=bC (r.abs.symm.trans q.abs)
theorem Vals.inj:∀{xs ys:List V}{us:List aI},Vals xs us->Vals ys us->xs=ys
 | _,_,_,.nil,.nil=>rfl
 | _,_,_,.cons r t,.cons r' t'=>by rw[r.inj r',Vals.inj t t']
section
variable {X:Cx} {p0:List (aL×dU)} {σ:St} {H:Hp} {s:aO} {a:aL} {xs ys:List V}
theorem SqL.of{K:aH}(h:H a=ax (.lst xs)):SqL K H a xs:=.inl (.inl h)
theorem SqT.of{K:aH}(h:H a=ax (.tup xs)):SqT K H a xs:=.inl (.inl h)
theorem Inv.list(I:Inv X p0 σ H s)(h:SqL X.K H a xs):∃b:List aI,Vals xs b/\PlainL s.heap a b.toArray/\xs.length<=sizeLine:=by
 rcases h with h | ⟨o,b,n,f,c,hd,d,g,r⟩
 ·obtain⟨z,b,n,r,e⟩:=h.ok I.hok;exact⟨b,r,⟨_,n,e,rfl,rfl,rfl⟩,z⟩
 ·refine⟨b.toList,r,⟨o,n,I.kIn a o f,c,hd,by simpa using d⟩,?_⟩;have e:=r.length;simp only[cM] at e;omega
theorem Inv.tuple(I:Inv X p0 σ H s)(h:SqT X.K H a xs):∃b:List aI,Vals xs b/\IsTup s.heap a b.toArray/\xs.length<=sizeLine:=by
 rcases h with h | ⟨o,b,n,f,c,d,g,r⟩
 ·obtain⟨z,b,r,p⟩:=h.ok I.hok;exact⟨b,r,p,z.1⟩
 ·refine⟨b.toList,r,⟨o,I.kIn a o f,c,n,by simpa using d⟩,?_⟩;have e:=r.length;simp only[cM] at e;omega
theorem Inv.list_inj(I:Inv X p0 σ H s)(h:SqL X.K H a xs)(h':SqL X.K H a ys):xs=ys:=by
 obtain⟨g,r,⟨o,n,e,_,_,d⟩,_⟩:=I.list h;obtain⟨b,i,⟨k,j,f,_,_,c⟩,_⟩:=I.list h';rw[e] at f;cases f;rw[d] at c;injection c with d1 _
 have:g=b:=by simpa using congrArg pO d1
 subst this;exact r.inj i
theorem Inv.tuple_inj(I:Inv X p0 σ H s)(h:SqT X.K H a xs)(h':SqT X.K H a ys):xs=ys:=by
 obtain⟨g,r,⟨o,e,_,n,d⟩,_⟩:=I.tuple h;obtain⟨b,i,⟨k,f,_,j,c⟩,_⟩:=I.tuple h';rw[e] at f;cases f;rw[d] at c;injection c with d1 _
 have:g=b:=by simpa using congrArg pO d1
 subst this;exact r.inj i
end
abbrev Cx.wish(X:Cx)(E:aI->aO->Prop):Cx:={ X with xe:=E }
abbrev Cx.nox(X:Cx):Cx:=X.wish λ_ _=>False
theorem Cx.Ok.wish{X:Cx}(ok:X.Ok)(E:aI->aO->Prop):(X.wish E).Ok:=
 ⟨ok.mod,ok.kind,ok.glob,ok.blt,ok.above,ok.inj,ok.has,ok.cab,ok.hd,ok.frames,ok.stk,ok.exf,ok.bs,ok.bsz,ok.noex,ok.exfs,ok.funs,ok.frf,ok.tab,ok.cod⟩
theorem Cx.Ok.unwish{X:Cx}{E:aI->aO->Prop}(ok:(X.wish E).Ok):X.Ok:=
 ⟨ok.mod,ok.kind,ok.glob,ok.blt,ok.above,ok.inj,ok.has,ok.cab,ok.hd,ok.frames,ok.stk,ok.exf,ok.bs,ok.bsz,ok.noex,ok.exfs,ok.funs,ok.frf,ok.tab,ok.cod⟩
section
variable {X:Cx} {p0:List (aL×dU)} {σ:St} {H:Hp} {s:aO} {E:aI->aO->Prop}
theorem Inv.wish(I:Inv X p0 σ H s)(E:aI->aO->Prop):Inv (X.wish E) p0 σ H s:=⟨I.ok.wish E,I.os,I.bare,I.base,I.loc,I.cell,I.free,I.freeC,I.pin,I.hok,I.len⟩
theorem Inv.unwish(I:Inv (X.wish E) p0 σ H s):Inv X p0 σ H s:=⟨I.ok.unwish,I.os,I.bare,I.base,I.loc,I.cell,I.free,I.freeC,I.pin,I.hok,I.len⟩
theorem SP.unwish{D:Y9}{f:Flow}{c:aO}(h:SP (X.wish E) p0 D f c):SP X p0 D f c:=by
 cases f with
 | next=>obtain⟨a,b,I,q⟩:=h;exact⟨a,b,I.unwish,q⟩
 | brk=>obtain⟨a,b,I,q⟩:=h;exact⟨a,b,I.unwish,q⟩
 | cont=>obtain⟨a,b,I,q⟩:=h;exact⟨a,b,I.unwish,q⟩
 | ret u=>obtain⟨v,a,b,I,r,q⟩:=h;exact⟨v,a,b,I.unwish,r,q⟩
theorem PSs.nox{st:List cB}{t:TS}(h:PSs X.nox st t):PSs X st t:=λb s a H D I c=>
 cU (h b s a H D (I.wish _) c) (λ_ _ q=>q.unwish) λ_ _ z=>dD z
end
section
variable {X:Cx} {st:cB} {YC:List cB} {t u:TS} {e:bO} {te:TE} {pos:dw}
noncomputable def Zgt:TS:=λD σ H=>D.nx σ H
noncomputable def Znh(t u:TS):TS:=λD σ H=>t { D with nx:=u D } σ H
theorem Zda:PSs X [] Zgt:=λ_ _ a H _ I h=>jD ⟨a,H,I,h⟩
theorem JU(c:PS X st t)(g:PSs X YC u):PSs X (st::YC) (Znh t u):=by
 intro b s i H D I h;refine wpAny_execs_cons (Yo (c b s i H { D with nx:=u D } I h) λf s1 q=>?_)
 cases f with
 | next=>
  obtain⟨a,d,e,q⟩:=q;exact g b s1 a d D e q
 | ret v=>exact q
 | brk=>exact q
 | cont=>exact q
theorem Zdb(a:PS X st t):PSs X [st] t:=by
 intro b s c H D I h;refine wpAny_execs_cons (Yo (a b s c H D I h) λf s1 q=>?_)
 cases f with
 | next=>exact jD q
 | ret v=>exact q
 | brk=>exact q
 | cont=>exact q
theorem Inv.quiet{a:List (aL×dU)}{b:St}{H:Hp}{s:aO}(I:Inv X a b H s):interactive X.env=aB:=by simp[interactive,I.ok.kind]
noncomputable def F5(te:TE):TS:=λD σ H=>te σ H λ_ H1=>D.nx σ H1
theorem Y3(g:PE X e te)(c:iC e aA pos.line X.env=pure aB:=by rfl):PS X (.Expr e pos) (F5 te):=by intro f s a H D I h;exact wpAny_Expr_any (Yo (g f s a H _ I h) λv s1 ⟨x,b,d,j,i⟩=>⟨a,b,d,i⟩) I.quiet c
noncomputable def Zni(te:TE):TS:=λD σ H=>te σ H D.rt
theorem HW(g:PE X e te):PS X (.Return (ax e) pos) (Zni te):=by intro f s a H D I h;exact wpAny_Return_some (Yo (g f s a H _ I h) λv s1 ⟨x,c,d,b,i⟩=>⟨x,a,c,d,b,i⟩)
noncomputable def Znj(c:TT)(t u:TS):TS:=λD σ H=>c σ H λb H1=>if b=aC then t D σ H1 else u D σ H1
theorem Zkp{c:bO}{a b:List cB}{g:TT}(m:PT X c g)(l:PSs X a t)(n:PSs X b u):PS X (.If c a b pos) (Znj g t u):=by
 intro f s e H D I h;refine wpAny_If (Yo (m f s e H _ I h) λd s1 ⟨k,j,i⟩=>?_)
 cases d with
 | true=>exact l f s1 e k D j i
 | false=>exact n f s1 e k D j i
end
abbrev TG:=V->St->Hp->(St->Hp->Prop)->Prop
abbrev TGs:=List V->St->Hp->(St->Hp->Prop)->Prop
noncomputable def PG(X:Cx)(target:bO)(t:TG):Prop:=
 ∀(p0:List (aL×dU))(s:aO)(σ:St)(H:Hp)(v:V)(u:aI)(Q:St->Hp->Prop),Inv X p0 σ H s->RelV v u->t v σ H Q->
  bJ (model X.prog X.w) X.A (assign target X.env u) (λ_ s'=>∃σ' H',Inv X p0 σ' H' s'/\Q σ' H') X.xe s
noncomputable def PGs(X:Cx)(ts:List bO)(t:TGs):Prop:=
 ∀(p0:List (aL×dU))(s:aO)(σ:St)(H:Hp)(vs:List V)(us:List aI)(Q:St->Hp->Prop),Inv X p0 σ H s->Vals vs us->t vs σ H Q->
  bJ (model X.prog X.w) X.A (assignInOrder ((jZ ts X.env).map (·.2)) us) (λ_ s'=>∃σ' H',Inv X p0 σ' H' s'/\Q σ' H') X.xe s
abbrev Zh1:=V->V->V->Hp->(Hp->Prop)->Prop
noncomputable def Zkq(X:Cx)(t:Zh1):Prop:=
 ∀(p0:List (aL×dU))(s:aO)(σ:St)(H:Hp)(o i v:V)(ov iv u:aI)(Q:Hp->Prop),Inv X p0 σ H s->RelV o ov->RelV i iv->RelV v u->t o i v H Q->
  bJ (model X.prog X.w) X.A (setItem ov iv u) (λ_ s'=>∃H',Inv X p0 σ H' s'/\Q H') X.xe s
abbrev TIp:=V->V->Hp->VK->Prop
noncomputable def PIp(X:Cx)(op:oX)(t:TIp):Prop:=
 ∀(p0:List (aL×dU))(s:aO)(σ:St)(H:Hp)(x y:V)(v u:aI)(Q:VK),Inv X p0 σ H s->RelV x v->RelV y u->t x y H Q->
  bJ (model X.prog X.w) X.A (inplaceOp op v u) (EP X p0 σ Q) X.xe s
section
variable {X:Cx} {pos:dw}
noncomputable def Sq(i:Nat):TG:=λv σ H Q=>Q (σ.set i (ax v)) H
theorem P7{i:Nat}{x:bH}(b:X.N.Nodup)(a:X.N[i]?=ax x)(c:BB X.env.scope x)(d:X.fn x=aC\/X.env.scope.names.lookup x=ax .local:=by first | exact .inl rfl | exact .inr rfl | assumption):PG X (.Name x pos) (Sq i):=by intro f s j H v u Q I r h;exact wpAny_assign_Name (S6 I b a c r (λg e=>⟨_,H,e,h⟩) d)
noncomputable def Zkr:TGs:=λvs σ H Q=>vs=[]/\Q σ H
noncomputable def Zgv(t:TG)(u:TGs):TGs:=λvs σ H Q=>∃v r,vs=v::r/\t v σ H λσ' H'=>u r σ' H' Q
theorem Yh:PGs X [] Zkr:=by intro c s a H vs b Q I r h;obtain⟨e,h⟩:=h;subst e;cases r;exact assignInOrder_nil ⟨a,H,I,h⟩
theorem Zv{e:bO}{a:List bO}{t:TG}{u:TGs}(i:PG X e t)(g:PGs X a u)
  (m:(jZ (e::a) X.env).map (·.2)=assign e X.env::(jZ a X.env).map (·.2):=by rfl):PGs X (e::a) (Zgv t u):=by
 intro c s k H vs n Q I r h;obtain⟨v,o,d,h⟩:=h;subst d
 cases r with
 | cons r rr=>
  rw[m];refine assignInOrder_cons (Yo (i c s k H _ _ _ I r h) λ_ s1 ⟨b,l,j,f⟩=>?_);exact g c s1 b l _ _ Q j rr f
noncomputable def Zks(K:aH)(n:Nat)(t:TGs):TG:=λv σ H Q=>∃a xs,v = .ref a/\SqT K H a xs/\xs.length=n/\t xs σ H Q
theorem YI{c:List bO}{k:Nat}{t:TGs}{n:Nat}(q:X.calm=aC)(h:PGs X c t)
  (x:(jZ c X.env).length=n:=by rfl) (f:(jZ c X.env).findIdx? (·.1)=aA:=by rfl):PG X (.Tuple c k pos) (Zks X.K n t):=by
 intro z s y H v u Q I r d;obtain⟨a,xs,j,i,l,d⟩:=d;subst j;cases r;obtain⟨A,g,m,B⟩:=I.tuple i;refine assign_Tuple_tuple (I.ok.hd q) m (by simp[x,<-l,g.length]) f λh' p=>?_;have w:=I.kept (t':=s.toks) λb o e=>p b o (bN (a9 e)) e;exact h z _ y H xs _ Q w (by simpa using g) d
noncomputable def Zh2(to ti:TE)(t:Zh1):TG:=λv σ H Q=>to σ H λo H1=>ti σ H1 λi H2=>t o i v H2 λH3=>Q σ H3
theorem Sz{o i:bO}{e f:TE}{t:Zh1}(D:PE X o e)(n:PE X i f)(B:Zkq X t)
  (E:∀v,assign (.Subscript o i pos) X.env v=(do
   let a <-holding [v] (eval o X.env);let b <-holding [v,a] (eval i X.env)
   oT pos
   holding [v,a,b] (setItem a b v)
   release [v,a,b] []):=by intro _;rfl):PG X (.Subscript o i pos) (Zh2 e f t):=by
 intro d s c H v u Q I r h;refine aG (fH (Yo (D d s c H _ I h) λa s1 ⟨x,z,q,w,k⟩=>?_));refine aG (fH (Yo (n d s1 c z _ q k) λb s2 ⟨y,l,C,A,j⟩=>?_));refine aG (mW (aG (fH (Yo (B d s2 c l x y v a b u _ C w A r j) λ_ F ⟨g,p,m⟩=>?_))));exact wpAny_release ⟨c,g,p,m⟩
noncomputable def Ke(te:TE)(g:TG):TS:=λD σ H=>te σ H λx H1=>g x σ H1 D.nx
theorem UW{a e:bO}{d:TE}{g:TG}(f:PE X e d)(o:PG X a g)(p:swapsWithSole [a] e pos.line X.env=pure aB:=by rfl)(j:swappedStores [a] e X.env=pure aA:=by rfl)
  (k:(jZ [a] X.env).map (·.2)=[assign a X.env]:=by rfl):PS X (.Assign [a] e pos) (Ke d g):=by
 intro c s b H D I h;refine wpAny_Assign_stores (Yo (f c s b H _ I h) λv s1 ⟨x,n,l,m,i⟩=>?_) p j;rw[k];exact Yo (o c s1 b n x v _ l m i) λ_ s2 q=>q
theorem BF{i:Nat}{x:bH}{e:bO}{a:TE}{pos':dw}(q:X.N.Nodup)(g:X.N[i]?=ax x)(c:BB X.env.scope x)(b:PE X e a)(n:iC e (ax (.Name x pos')) pos.line X.env=pure aB:=by rfl)(d:X.fn x=aC\/X.env.scope.names.lookup x=ax .local:=by first | exact .inl rfl | exact .inr rfl | assumption) :
  PS X (.Assign [.Name x pos'] e pos) (Ke a (Sq i)):=by
 intro p s k H D I h;refine wpAny_Assign_Name (Yo (b p s k H _ I h) λv s1 ⟨y,m,j,l,f⟩=>?_) n;exact S6 j q g c l (λs2 o=>⟨_,m,o,f⟩) d
noncomputable def Zkt(i:Nat)(te:TE)(ti:TIp):TS:=λD σ H=>∃x,σ[i]?=ax (ax x)/\te σ H λy H1=>ti x y H1 λz H2=>D.nx (σ.set i (ax z)) H2
theorem Zh3{i:Nat}{x:bH}{e:bO}{A:TE}{op:oX}{t:TIp}{pos':dw}(Y:X.N.Nodup)(p:X.N[i]?=ax x)(g:BB X.env.scope x)(E:PE X e A)(W:PIp X op t)(G:X.fn x=aC\/X.env.scope.names.lookup x=ax .local:=by first | exact .inl rfl | exact .inr rfl | assumption) :
  PS X (.AugAssign (.Name x pos') op e pos) (Zkt i A t):=by
 intro n s q H D I h;obtain⟨v,B,h⟩:=h;obtain⟨m,Q,C⟩:=I.loc;have j:Vis X.env.scope x:=by rcases g with k | k;exact .inl k;exact .inr (.inl k)
 obtain⟨u,r,l⟩:=C i x v p B j;refine wpAny_AugAssign_Name ?_;have o:bJ (model X.prog X.w) X.A (eval e X.env) (λw f=>bJ (model X.prog X.w) X.A (inplaceOp op u w) (λr d=>bJ (model X.prog X.w) X.A (storeName X.env x r) (λ_=>SP X n D .next) X.xe d) X.xe f) X.xe s:=by refine Yo (E n s q H _ I h) λw s1 ⟨y,S,O,R,J⟩=>?_;refine Yo (W n s1 q S v y u w _ O r R J) λz s2 ⟨Z,L,U,T,F⟩=>?_;exact S6 U Y p g T (λs3 N=>⟨_,L,N,F⟩) G
 rcases l with⟨a,P⟩ | ⟨a,c,M,b⟩
 ·exact lX I.ok.kind a Q P o
 ·rcases a with a | a
  ·exact mQ I.ok.kind a M b o
  ·rcases g with k | k
   ·have:X.env.scope.names.lookup x=ax .free:=a;rw[k] at this;cases this
   ·have:X.env.scope.names.lookup x=ax .free:=a;rw[k] at this;cases this
noncomputable def ipI(f:Int->Int->Int):TIp:=λx y H Q=>∃i j,x = .int i/\y = .int j/\Q (.int (f i j)) H
theorem Zh4:PIp X .Add (ipI λi j=>i+j):=by intro f s e H x y v u Q I c d h;obtain⟨i,j,b,a,q⟩:=h;subst b;subst a;obtain⟨t,rfl⟩:=c;obtain⟨t',rfl⟩:=d;exact iadd_int ⟨.int _,H,I.tok _,⟨_,rfl⟩,q⟩
end
section
variable {X:Cx} {pos:dw}
noncomputable def Zh5(c:TT)(tb:TS):TS:=λD σ H=>∃W:Nat->St->Hp->Prop,(∃m,W m σ H)/\∀m σ H,W m σ H->
 c σ H λb H1=>if b=aC then ∃N:St->Hp->Prop,(∀σ' H',N σ' H'->∃m',m'<m/\W m' σ' H')/\tb { D with nx:=N,ct:=N,bk:=D.nx } σ H1 else D.nx σ H1
theorem BG{c:bO}{e:List cB}{w:TT}{t:TS}(u:mM (model X.prog X.w) X.A X.env X.xe)(E:PT X c w)(L:PSs X e t):PS X (.While c e [] pos) (Zh5 w t):=by
 intro p s G H D I h;obtain⟨W,⟨C,J⟩,turn⟩:=h;refine wpAny_While (codeAny_whileLoop (λn M=>∃σ' H',Inv X p σ' H' M/\W n σ' H') ?_ C ⟨G,H,I,J⟩);rintro n s1 ⟨d,y,F,B⟩;refine eU u (Yo (E p s1 d y _ F (turn n d y B)) λb s2 ⟨x,z,i⟩=>?_)
 cases b with
 | true=>
  obtain⟨N,A,i⟩:=i;refine eU u (Yo (L p s2 d x _ z i) λf O j=>?_)
  cases f with
  | next=>
   obtain⟨a,g,l,m⟩:=j;obtain⟨q,o,k⟩:=A a g m;exact⟨q,o,a,g,l,k⟩
  | cont=>
   obtain⟨a,g,l,m⟩:=j;obtain⟨q,o,k⟩:=A a g m;exact⟨q,o,a,g,l,k⟩
  | brk=>exact j
  | ret v=>exact j
 | false=>
  exact jD ⟨d,x,z,i⟩
end
structure It where
 go:Nat->Hp->Prop
 yld:Nat->Hp->V->Hp->Prop
 stop:Nat->Hp->Prop
noncomputable def Sk(X:Cx)(p0:List (aL×dU))(H:Hp)(b:aL):Prop:=
 H b=aA/\b≠X.env.locals/\b∉X.fs/\(b∈X.ex\/X.s₀.heap.objs.size<=b)/\(∀x c,X.env.cells.lookup x=ax c->c≠b)/\∀p∈X.pn++p0,p.1≠b
theorem Inv.fpOk{X:Cx}{f:List (aL×dU)}{i:St}{H d:Hp}{s:aO}{b:aL}(I:Inv X f i H s)(a:s.heap.objs.size<=b)(g:d b=aA):Sk X f d b:=by
 refine⟨g,fW (bB I.lt a),I.nofs a,.inr (cD I.sz a),λx c e z=>?_,λp h z=>?_⟩
 ·obtain⟨v,q⟩:=I.cell x c e;exact absurd (bB q.lt (by rw[z];exact a)) (cS _)
 ·exact absurd (bB (a9 (I.pin p h).1) (by rw[z];exact a)) (cS _)
structure JV(P:bM)(w:bc)(K:aH)(tg:bO)(J:It)(fp:List aL)(it:aL)(tn:Nat->ba->Prop):Prop where
 mem:it∈fp
 obj:∀i h,tn i h->∀b∈fp,∃o,h.get? b=ax o/\∀v,o.data≠.cell v
 keep:∀i h h',tn i h->(∀b∈fp,∀o,h.get? b=ax o->h'.get? b=ax o)->tn i h'
 item:∀(X:Cx),X.prog=P->X.w=w->X.K=K->X.calm=aC->∀(i:Nat)(p0:List (aL×dU))(s:aO)(σ:St)(H:Hp)(E:aI->aO->Prop),Inv X p0 σ H s->(∀b∈fp,Sk X p0 H b)->tn i s.heap->J.go i H->
  bJ (model P w) X.A (jv (.ref it)) (λr s1=>∃u,r=ax u/\
   bJ (model P w) X.A (lC tg (.ref it) u) (λ_ s2=>∃x H',Inv X p0 σ H' s2/\RelV x u/\J.yld i H x H'/\tn (i+1) s2.heap/\∀b∈fp,H' b=aA) E s1) E s
 done:∀(X:Cx),X.prog=P->X.w=w->X.K=K->X.calm=aC->∀(i:Nat)(p0:List (aL×dU))(s:aO)(σ:St)(H:Hp)(E:aI->aO->Prop),Inv X p0 σ H s->(∀b∈fp,Sk X p0 H b)->tn i s.heap->J.stop i H->
  bJ (model P w) X.A (jv (.ref it)) (λr s1=>r=aA/\Inv X p0 σ H s1) E s
 self:∀(A:bq)(i:Nat)(s:aO)(Q:aI->aO->Prop)(E:aI->aO->Prop),tn i s.heap->Q (.ref it) s->bJ (model P w) A (nY (.ref it)) Q E s
abbrev TI:=St->Hp->(It->Hp->Prop)->Prop
noncomputable def PIE(X:Cx)(p0:List (aL×dU))(σ:St)(tg:bO)(R:It->Hp->Prop)(itv:aI)(s2:aO):Prop:=
 ∃(it:aL) (fp:List aL) (tn:Nat->ba->Prop) (J:It) (H':Hp),itv = .ref it/\Inv X p0 σ H' s2/\JV X.prog X.w X.K tg J fp it tn/\tn 0 s2.heap/\(∀b∈fp,Sk X p0 H' b)/\R J H'
noncomputable def PI(X:Cx)(tg iter:bO)(wi:TI):Prop:=
 ∀(p0:List (aL×dU))(s:aO)(σ:St)(H:Hp)(R:It->Hp->Prop),Inv X p0 σ H s->wi σ H R->
  bJ (model X.prog X.w) X.A (eval iter X.env) (λv s1=>bJ (model X.prog X.w) X.A (nY v) (PIE X p0 σ tg R) X.xe s1) X.xe s
theorem BH{M:Model}{A:bq}{E:aI->aO->Prop}{s:aO}{b:bO}{c:aL}{u:aI}{o:dU}{n:String}{vs:Array aI}{Q:Unit->aO->Prop}(e:s.heap.get? c=ax o)(d:o.cls = .type n)(hd:o.data = .fields vs)
    (f:["enumerate","zip","dict_itemiterator","dict_reverseitemiterator","odict_iterator","itertools.zip_longest","itertools.pairwise"].contains n=aB) (a:Q () s):bJ M A (lC b (.ref c) u) Q E s:=by
  cases b<;>first
    | exact aW a
    | (cases u<;>first
        | exact aW a
        | (refine aG (wpAny_load e ?_)
           rw[d,hd];show bJ M A (if(["enumerate","zip","dict_itemiterator","dict_reverseitemiterator","odict_iterator","itertools.zip_longest","itertools.pairwise"].contains n&&vs[0]?==ax (gJ _))=aC then _ else _) Q E s;rw[pW (by intro h;rw[f] at h;cases h)];exact aW a))
noncomputable def Itl(K:aH)(a:aL):It:=
 ⟨λi H=>∃xs x,SqL K H a xs/\xs[i]?=ax x,λi H x H'=>H'=H/\∀xs,SqL K H a xs->xs[i]?=ax x,λi H=>∃xs,SqL K H a xs/\xs.length<=i⟩
noncomputable def Itt(K:aH)(a:aL):It:=
 ⟨λi H=>∃xs x,SqT K H a xs/\xs[i]?=ax x,λi H x H'=>H'=H/\∀xs,SqT K H a xs->xs[i]?=ax x,λi H=>∃xs,SqT K H a xs/\xs.length<=i⟩
noncomputable def Itr(lo:Int)(n:Nat):It:=⟨λi _=>i<n,λi H x H'=>H'=H/\x = .int (lo+i),λi _=>n<=i⟩
theorem DB{P:bM}{w:bc}{K:aH}{M:bO}(a f:aL):JV P w K M (Itl K a) [f] f (λi h=>h.IsListIter f a i) where
 mem:=by simp
 obj:=λi h st b g=>by
  have e:b=f:=by simpa using g
  subst e;obtain⟨o,e,c,d⟩:=st;exact⟨o,e,λv z=>by rw[d] at z;cases z⟩
 keep:=λi h h' st k=>st.at λo e=>k f (by simp) o e
 item:=by intro X G B n J i W s S H E I m st F;subst G B n;obtain⟨xs,x,l,y⟩:=F;obtain⟨O,A,p,R⟩:=I.list l;obtain⟨u,U,T⟩:=A.get y;obtain⟨q,f1,L,t,C,D⟩:=m f (by simp);refine wpAny_pyNext_list_item st p.isList (by simpa using U) λh' j N=>?_;have Q:=I.turned (t':=s.toks) (λb o g e=>(N.2 b g).trans e) q f1 t C D;obtain⟨o,e,c,d⟩:=id j;exact⟨u,rfl,BH e c d rfl ⟨x,H,Q,T,⟨rfl,λys Y=>by rw[I.list_inj Y l];exact y⟩,j,λb g=>(m b g).1⟩⟩
 done:=by intro X G B n J i W s S H E I m st F;subst G B n;obtain⟨xs,l,y⟩:=F;obtain⟨O,A,p,R⟩:=I.list l;obtain⟨q,f1,L,t,C,D⟩:=m f (by simp);have hl:=A.length;exact wpAny_pyNext_list_end (I.ok.hd J) st p.isList (by simp;omega) λh' Z=>⟨rfl,I.turned (λb o g e=>Z b o g e) q f1 t C D⟩
 self:=λ_ _ _ _ _ st h=>wpAny_pyIter_listiter st h
theorem HX{P:bM}{w:bc}{K:aH}{M:bO}(a f:aL):JV P w K M (Itt K a) [f] f (λi h=>h.IsTupleIter f a i) where
 mem:=by simp
 obj:=λi h st b g=>by
  have e:b=f:=by simpa using g
  subst e;obtain⟨o,e,c,d⟩:=st;exact⟨o,e,λv z=>by rw[d] at z;cases z⟩
 keep:=λi h h' st k=>st.at λo e=>k f (by simp) o e
 item:=by intro X G B n J i W s S H E I m st F;subst G B n;obtain⟨xs,x,l,y⟩:=F;obtain⟨O,A,p,R⟩:=I.tuple l;obtain⟨u,U,T⟩:=A.get y;obtain⟨q,f1,L,t,C,D⟩:=m f (by simp);refine wpAny_pyNext_tuple_item st (p) (by simpa using U) λh' j N=>?_;have Q:=I.turned (t':=s.toks) (λb o g e=>(N.2 b g).trans e) q f1 t C D;obtain⟨o,e,c,d⟩:=id j;exact⟨u,rfl,BH e c d rfl ⟨x,H,Q,T,⟨rfl,λys Y=>by rw[I.tuple_inj Y l];exact y⟩,j,λb g=>(m b g).1⟩⟩
 done:=by intro X G B n J i W s S H E I m st F;subst G B n;obtain⟨xs,l,y⟩:=F;obtain⟨O,A,p,R⟩:=I.tuple l;obtain⟨q,f1,L,t,C,D⟩:=m f (by simp);have hl:=A.length;exact wpAny_pyNext_tuple_end (I.ok.hd J) st (p) (by simp;omega) λh' Z=>⟨rfl,I.turned (λb o g e=>Z b o g e) q f1 t C D⟩
 self:=λ_ _ _ _ _ st h=>wpAny_pyIter_tupleiter st h
theorem HY{P:bM}{w:bc}{K:aH}{D:bO}(a:aL)(lo:Int)(n:Nat):JV P w K D (Itr lo n) [a] a (λi h=>IsRangeIter h a (lo+(i:Nat)*1) ((n:Int)-(i:Nat)) 1) where
 mem:=by simp
 obj:=λi h st b c=>by
  have e:b=a:=by simpa using c
  subst e
  exact⟨_,st,λv z=>by
   have F:=z;cases F⟩
 keep:=λi h h' st k=>k a (by simp) _ st
 item:=by intro X A x u l i B s y H E I f st p;subst A x u;obtain⟨g,f1,C,j,m,q⟩:=f a (by simp);have W:=Walks.range (prog:=X.prog) (w:=X.w) (I.ok.hd l) a lo 1 n;refine W.item i s _ _ p st λv h' tk L d G=>?_;obtain⟨t,rfl⟩:=L;have J:Inv X B y H { s with heap:=h',toks:=tk }:=I.turned (λb o c e=>G b o (by simpa using c) e) g f1 j m q;refine⟨_,rfl,BH d rfl rfl rfl ⟨.int (lo+i),H,J,⟨t,?_⟩,⟨rfl,rfl⟩,d,λb c=>(f b c).1⟩⟩;rw[oH]
 done:=by intro X A x u l i B s y H E I f st p;obtain⟨g,f1,C,j,m,q⟩:=f a (by simp);exact wpAny_pyNext_range_end (I.ok.hd l) st (by have:n<=i:=p;omega) λh' M=>⟨rfl,I.turned (λb o c e=>M b o c e) g f1 j m q⟩
 self:=λ_ _ _ _ _ st h=>wpAny_pyIter_rangeiter st h
section
variable {X:Cx} {tg:bO}
noncomputable def Zkv(K:aH)(tl:TE):TI:=λσ H R=>tl σ H λx H1=>∃a,x = .ref a/\(∃xs,SqL K H1 a xs)/\R (Itl K a) H1
noncomputable def Znl(K:aH)(tl:TE):TI:=λσ H R=>tl σ H λx H1=>∃a,x = .ref a/\(∃xs,SqT K H1 a xs)/\R (Itt K a) H1
theorem Zdc{l:bO}{d:TE}(g:PE X l d):PI X tg l (Zkv X.K d):=by
 intro n s j H R I h;refine Yo (g n s j H _ I h) λv s1 ⟨x,m,c,k,i⟩=>?_;obtain⟨a,e,⟨xs,f⟩,q⟩:=i;subst e;cases k;obtain⟨w,u,p,y⟩:=c.list f;refine wpAny_pyIter_list p.isList ?_;refine⟨s1.heap.objs.size,[s1.heap.objs.size],_,_,m,rfl,c.kept λb o e=>aK _ e,DB a _,⟨_,ak _ rfl,rfl,rfl⟩,λb t=>?_,q⟩;have e:b=s1.heap.objs.size:=by simpa using t
 subst e;exact c.fpOk (aZ _) (c.hok.fresh (aZ _))
theorem Zh6{l:bO}{d:TE}(g:PE X l d):PI X tg l (Znl X.K d):=by
 intro n s j H R I h;refine Yo (g n s j H _ I h) λv s1 ⟨x,m,c,k,i⟩=>?_;obtain⟨a,e,⟨xs,f⟩,q⟩:=i;subst e;cases k;obtain⟨w,u,p,y⟩:=c.tuple f;refine j3 (p) ?_;refine⟨s1.heap.objs.size,[s1.heap.objs.size],_,_,m,rfl,c.kept λb o e=>aK _ e,HX a _,⟨_,ak _ rfl,rfl,rfl⟩,λb t=>?_,q⟩;have e:b=s1.heap.objs.size:=by simpa using t
 subst e;exact c.fpOk (aZ _) (c.hok.fresh (aZ _))
theorem JW{f:List (aL×dU)}{d:St}{H:Hp}{s:aO}{R:It->Hp->Prop}{E:aI->aO->Prop}{lo a:Int}{t u v:Tok}{tk:Nat}(I:Inv X f d H s)(l : -(2^62)<=lo)(j:lo<2^62)(k : -(2^62)<=a)(i:a<2^62)
  (q:R (Itr lo (a-lo).toNat) H):bJ (model X.prog X.w) X.A (nY (.ref s.heap.objs.size)) (PIE X f d tg R) E { s with heap:=s.heap.push { cls:=.type "range",data:=.fields #[.int lo t,.int a u,.int 1 v] },toks:=tk }:=by
 refine wpAny_pyIter_range (pS ..) (small_one l j k i) ?_;have c:Inv X f d H { s with heap:=s.heap.push { cls:=.type "range",data:=.fields #[.int lo t,.int a u,.int 1 v] },toks:=tk }:=I.kept λb o e=>aK _ e
 refine⟨(s.heap.push { cls:=.type "range",data:=.fields #[.int lo t,.int a u,.int 1 v] }).objs.size,[(s.heap.push { cls:=.type "range",data:=.fields #[.int lo t,.int a u,.int 1 v] }).objs.size],_,_,H,rfl,
  c.kept λb o e=>aK _ e,HY _ lo (a-lo).toNat,?_,λb m=>?_,q⟩
 ·have h:lo+((0:Nat):Int)*1=lo:=by simp
  have g:(((a-lo).toNat:Nat):Int)-((0:Nat):Int)=fj.Range.rangeSize lo a 1:=by rw[rangeSize_one];split<;>omega
  rw[h,g];exact ak _ rfl
 ·have e:b=(s.heap.push { cls:=.type "range",data:=.fields #[.int lo t,.int a u,.int 1 v] }).objs.size:=by simpa using m
  subst e;exact c.fpOk (aZ _) (c.hok.fresh (aZ _))
noncomputable def Zkw(ta:TA):TI:=λσ H R=>ta σ H λvs H1=>∃j:Int,vs=[.int j]/\-(2^62)<=j/\j<2^62/\R (Itr 0 j.toNat) H1
noncomputable def Zkx(ta:TA):TI:=λσ H R=>ta σ H λvs H1=>∃i j:Int,vs=[.int i,.int j]/\(-(2^62)<=i/\i<2^62/\-(2^62)<=j/\j<2^62)/\R (Itr i (j-i).toNat) H1
theorem DC{a:bO}{c:TA}{p pos:dw}(m:Gl X "range")(i:X.mg "range" = aA)(f:PA X [a] c)(n:aP [a] X.env=[(aB,eval a X.env)]:=by rfl):PI X tg (.Call (.Name "range" p) [a] [] pos) (Zkw c):=by
 intro o s k H R I h;refine pL (XZ I m i oY (bg (Yo (f pos o s k H _ I h) λu s1 ⟨vs,v,g,l,b⟩=>?_) n rfl));obtain⟨j,e,b,d,q⟩:=b;subst e
 cases l with
 | cons r rr=>
  cases rr;obtain⟨t,rfl⟩:=r;exact call_range_1 (JW g (by omega) (by omega) b d (by simpa using q))
theorem DD{a b:bO}{f:TA}{p pos:dw}(w:Gl X "range")(o:X.mg "range" = aA)(k:PA X [a,b] f)(x:aP [a,b] X.env=[(aB,eval a X.env),(aB,eval b X.env)]:=by rfl)(c:aP [b] X.env=[(aB,eval b X.env)]:=by rfl) :
  PI X tg (.Call (.Name "range" p) [a,b] [] pos) (Zkx f):=by
 intro y s u H R I h;refine pL (XZ I w o oY (bg (Yo (k pos y s u H _ I h) λz s1 ⟨vs,A,n,v,d⟩=>?_) (by rw[x,c]) (by rw[c];rfl)));obtain⟨i,j,e,⟨d,g,m,l⟩,q⟩:=d;subst e
 cases v with
 | cons r rr=>
  cases rr with
  | cons r' rr=>
   cases rr;obtain⟨t,rfl⟩:=r;obtain⟨t',rfl⟩:=r';exact call_range_2 (JW n d g m l q)
noncomputable def Znm(wi:TI)(g:TG)(tb:TS):TS:=λD σ H=>wi σ H λJ H1=>∃W:Nat->Nat->St->Hp->Prop,(∃m,W 0 m σ H1)/\∀i m σ H,W i m σ H->
 (J.stop i H/\D.nx σ H)\/(J.go i H/\∃N:St->Hp->Prop,(∀σ' H',N σ' H'->∃m',m'<m/\W (i+1) m' σ' H')/\∀x H',J.yld i H x H'->g x σ H' λσ2 H2=>tb { D with nx:=N,ct:=N,bk:=D.nx } σ2 H2)
noncomputable def R7(fp:List aL)(h:ba):List (aL×dU):=fp.filterMap λb=>(h.get? b).map λo=>(b,o)
theorem Ub{a:List aL}{h:ba}{b:aL}{o:dU}(c:b∈a)(e:h.get? b=ax o):(b,o)∈R7 a h:=hW.mpr ⟨b,c,by rw[e];rfl⟩
theorem DE{a:List aL}{h:ba}{p:aL×dU}(c:p∈R7 a h):p.1∈a/\h.get? p.1=ax p.2:=by
 obtain⟨b,d,e⟩:=hW.mp c
 cases q:h.get? b with
 | none=>rw[q] at e;cases e
 | some o=>
  rw[q] at e;have f:=bC e;subst f;exact⟨d,q⟩
theorem Inv.pinned{c:List (aL×dU)}{g:St}{H:Hp}{s:aO}{a:List aL}(I:Inv X c g H s)(l:∀b∈a,Sk X c H b)(m:∀b∈a,∃o,s.heap.get? b=ax o/\∀v,o.data≠.cell v):Inv X (c++R7 a s.heap) g H s:=
 I.pins_of λp j=>(aV.mp j).elim (λz=>I.pin p (ah _ z)) λz=>by obtain⟨h,e⟩:=DE z;obtain⟨k,f1,i,_⟩:=l p.1 h;obtain⟨o,f,d⟩:=m p.1 h;rw[e] at f;cases f;exact⟨e,k,f1,i,d⟩
theorem Inv.unpinned{a c:List (aL×dU)}{b:St}{H:Hp}{s:aO}(I:Inv X (a++c) b H s):Inv X a b H s:=I.pins_of λp d=>I.pin p (ah _ (ao _ d))
theorem Zh7{k:bO}{w:List cB}{Z:TI}{g:TG}{tb:TS}{pos:dw}(B:mM (model X.prog X.w) X.A X.env X.xe)(hc:X.calm=aC)(hi:PI X tg k Z)(hg:PG X tg g)(p:PSs X w tb)
  (hs:∀x,cK k X.env x=pure x:=by intro _;rfl):PS X (.For tg k w [] pos) (Znm Z g tb):=by
 intro y s σ H D I h;refine wpAny_For (Yo (hi y s σ H _ I h) λv s1 h1=>Yo h1 λitv s2 h2=>?_) hs;obtain⟨it,E,tn,J,H2,e,I2,T,R,Y,W,⟨m0,w0⟩,turn⟩:=h2;subst e
 -- what stays aC of the iterator's objects through the loop
 have l:∀{H':Hp},(∀b∈E,H' b=aA)->∀b∈E,Sk X y H' b:=λhn b p=>⟨hn b p,(Y b p).2⟩;refine codeAny_forLoop_any (λn s'=>∃i σ' H',Inv X y σ' H' s'/\tn i s'.heap/\(∀b∈E,H' b=aA)/\W i n σ' H') ?_ m0 ⟨0,σ,H2,I2,R,λb p=>(Y b p).1,w0⟩;rintro n s3 ⟨i,c,L,U,F,A,w3⟩;rcases turn i n c L w3 with⟨G,qn⟩ | ⟨go,N,hN,step⟩
 ·refine eU B (Yo (T.done X rfl rfl rfl hc i y s3 c L X.xe U (l A) F G) λr s4 ⟨Q,I4⟩=>?_);subst Q;exact jD ⟨c,L,I4,qn⟩
 ·refine eU B (Yo (T.item X rfl rfl rfl hc i y s3 c L X.xe U (l A) F go) λr s4 ⟨u,Q,h4⟩=>?_);subst Q;refine eU B (Yo h4 λ_ s5 ⟨x,H5,I5,r5,y5,z,P⟩=>?_);have S:=I5.pinned (l P) (T.obj _ _ z);refine eU B (Yo (hg _ s5 c H5 x u _ S r5 (step x H5 y5)) λ_ s6 ⟨O,H6,I6,q6⟩=>?_);refine eU B (Yo (p _ s6 O H6 _ I6 q6) λf M t=>?_);have again:∀{a:St}{q:Hp},Inv X (y++R7 E s5.heap) a q M->N a q->∃m,m<n/\∃i σ' H',Inv X y σ' H' M/\tn i M.heap/\(∀b∈E,H' b=aA)/\W i m σ' H':=λ{a q} j C=>by obtain⟨m',hm,w7⟩:=hN a q C;refine⟨m',hm,i+1,a,q,j.unpinned,T.keep _ _ _ z λb p o e=>(j.pin (b,o) (ah _ (ah _ (Ub p e)))).1,λb p=>?_,w7⟩;obtain⟨o,e,d⟩:=T.obj _ _ z b p;exact(j.pin (b,o) (ah _ (ah _ (Ub p e)))).2.1
  cases f with
  | next=>obtain⟨a,q,j,C⟩:=t;exact again j C
  | cont=>obtain⟨a,q,j,C⟩:=t;exact again j C
  | brk=>obtain⟨a,q,j,t⟩:=t;exact⟨a,q,j.unpinned,t⟩
  | ret v=>obtain⟨x7,a,q,j,r7,t⟩:=t;exact⟨x7,a,q,j.unpinned,r7,t⟩
end
abbrev R2:=V->V->Hp->VK->Prop
noncomputable def TH(X:Cx)(f:aI->aI->Sem aI)(r:R2):Prop:=
 ∀(p0:List (aL×dU))(s:aO)(σ:St)(H:Hp)(x y:V)(v u:aI)(Q:VK),Inv X p0 σ H s->RelV x v->RelV y u->r x y H Q->
  bJ (model X.prog X.w) X.A (f v u) (EP X p0 σ Q) X.xe s
noncomputable def UnR(X:Cx)(f:aI->Sem aI)(r:V->Hp->VK->Prop):Prop:=
 ∀(p0:List (aL×dU))(s:aO)(σ:St)(H:Hp)(x:V)(v:aI)(Q:VK),Inv X p0 σ H s->RelV x v->r x H Q->
  bJ (model X.prog X.w) X.A (f v) (EP X p0 σ Q) X.xe s
noncomputable def XW(X:Cx)(f:aI)(r:List V->Hp->VK->Prop):Prop:=
 ∀(p0:List (aL×dU))(s:aO)(σ:St)(H:Hp)(xs:List V)(us:List aI)(Q:VK),Inv X p0 σ H s->Vals xs us->r xs H Q->
  bJ (model X.prog X.w) X.A (call f us) (EP X p0 σ Q) X.xe s
noncomputable def Zno(X:Cx)(r:V->Hp->(Bool->Hp->Prop)->Prop):Prop:=
 ∀(p0:List (aL×dU))(s:aO)(σ:St)(H:Hp)(x:V)(v:aI)(Q:Bool->Hp->Prop),Inv X p0 σ H s->RelV x v->r x H Q->
  bJ (model X.prog X.w) X.A (truthy v) (TP X p0 σ Q) X.xe s
noncomputable def tOp(r:R2)(ta tb:TE):TE:=λσ H Q=>ta σ H λx H1=>tb σ H1 λy H2=>r x y H2 Q
noncomputable def tUn(r:V->Hp->VK->Prop)(ta:TE):TE:=λσ H Q=>ta σ H λx H1=>r x H1 Q
noncomputable def rI(C:Int->Int->Prop)(g:Int->Int->V):R2:=λx y H Q=>∃i j,x = .int i/\y = .int j/\C i j/\Q (g i j) H
noncomputable def rI0(g:Int->Int->V):R2:=λx y H Q=>∃i j,x = .int i/\y = .int j/\Q (g i j) H
noncomputable def rU(g:Int->V):V->Hp->VK->Prop:=λx H Q=>∃i,x = .int i/\Q (g i) H
section
variable {X:Cx} {a b c:bO} {ta tb tc:TE} {pos:dw}
theorem Zh8(l:PE X a ta)(w:PE X b tb){i:List (aL×dU)}{s:aO}{d:St}{H:Hp}{R:V->V->Hp->Prop}(I:Inv X i d H s)
  (h:ta d H λx j=>tb d j λy c=>R x y c) {Q:aI->aO->Prop} {f:aI->aI->Sem aI}
  (m:∀v u s2 x y c,Inv X i d c s2->RelV x v->RelV y u->R x y c->bJ (model X.prog X.w) X.A (f v u) Q X.xe s2) :
  bJ (model X.prog X.w) X.A (eval a X.env) (λv g=>bJ (model X.prog X.w) X.A (eval b X.env) (λu e=>bJ (model X.prog X.w) X.A (f v u) Q X.xe e) X.xe g) X.xe s:=by
 refine Yo (l i s d H _ I h) λv s1 ⟨x,j,o,p,n⟩=>?_;refine Yo (w i s1 d j _ o n) λu s2 ⟨y,c,t,q,k⟩=>?_;exact m v u s2 x y c t p q k
theorem F6{op:oX}{r:R2}(j:TH X (dy op) r)(c:PE X a ta)(l:PE X b tb):PE X (.BinOp a op b pos) (tOp r ta tb):=by intro k s g H Q I h;exact wpAny_BinOp (Zh8 c l I h λv u s2 x y f i e d q=>j k s2 g f x y v u Q i e d q)
theorem Zky{op:UnaryOp}{r:V->Hp->VK->Prop}(g:UnR X (unaryOp op) r)(d:PE X a ta):PE X (.UnaryOp op a pos) (tUn r ta):=by intro b s c H Q I h;exact UnaryOp_ (Yo (d b s c H _ I h) λv s1 ⟨x,f,i,e,j⟩=>g b s1 c f x v Q i e j)
theorem opI{f:aI->aI->Sem aI}{C:Int->Int->Prop}{g:Int->Int->Int}
  (rule:∀(i j:Int)(t u:Tok)(s:aO)(Q:aI->aO->Prop)(E:aI->aO->Prop),C i j->Q (.int (g i j) s.toks) { s with toks:=s.toks+1 }->bJ (model X.prog X.w) X.A (f (.int i t) (.int j u)) Q E s) :
  TH X f (rI C λi j=>.int (g i j)):=by
 intro e s d H x y v u Q I b a h;obtain⟨i,j,rfl,rfl,c,q⟩:=h;obtain⟨t,rfl⟩:=b;obtain⟨t',rfl⟩:=a;exact rule i j t t' s _ _ c ⟨.int (g i j),H,I.tok _,⟨_,rfl⟩,q⟩
theorem Zk0{f:aI->aI->Sem aI}{g:Int->Int->Int}
  (rule:∀(i j:Int)(t u:Tok)(s:aO)(Q:aI->aO->Prop)(E:aI->aO->Prop),Q (.int (g i j) s.toks) { s with toks:=s.toks+1 }->bJ (model X.prog X.w) X.A (f (.int i t) (.int j u)) Q E s) :
  TH X f (rI0 λi j=>.int (g i j)):=by
 intro d s c H x y v u Q I b a h;obtain⟨i,j,rfl,rfl,q⟩:=h;obtain⟨t,rfl⟩:=b;obtain⟨t',rfl⟩:=a;exact rule i j t t' s _ _ ⟨.int (g i j),H,I.tok _,⟨_,rfl⟩,q⟩
theorem Zdd{f:aI->aI->Sem aI}{g:Int->Int->Bool}
  (rule:∀(i j:Int)(t u:Tok)(s:aO)(Q:aI->aO->Prop)(E:aI->aO->Prop),Q (.bool (g i j)) s->bJ (model X.prog X.w) X.A (f (.int i t) (.int j u)) Q E s) :
  TH X f (rI0 λi j=>.bl (g i j)):=by
 intro d s c H x y v u Q I b a h;obtain⟨i,j,rfl,rfl,q⟩:=h;obtain⟨t,rfl⟩:=b;obtain⟨t',rfl⟩:=a;exact rule i j t t' s _ _ ⟨.bl (g i j),H,I,rfl,q⟩
noncomputable def BI(i j:Int):Prop:=0<j/\j<1073741824
noncomputable def Zgw(i j:Int):Prop:=j≠0/\j.natAbs<1073741824
noncomputable def Zk1(i j:Int):Prop:=0<=j/\j<=1000000/\i.natAbs<2^64
noncomputable def CMul(i j:Int):Prop:=(-(2^64)<i/\i<2^64)\/(-(2^64)<j/\j<2^64)
theorem CMul.ok{i j:Int}(h:CMul i j):IntMulOk i j:=by
 rcases h with⟨a,b⟩ | ⟨a,b⟩
 ·exact .of_left (intBits_le_64 a b)
 ·exact .of_right (intBits_le_64 a b)
theorem Zh9:TH X (dy .Add) (rI0 λi j=>.int (i+j)):=Zk0 λ_ _ _ _ _ _ _ q=>add_int q
theorem Zia:TH X (dy .Sub) (rI0 λi j=>.int (i-j)):=Zk0 λ_ _ _ _ _ _ _ q=>sub_int q
theorem Zib:TH X (dy .Mult) (rI CMul λi j=>.int (i*j)):=opI λ_ _ _ _ _ _ _ a q=>mul_int q a.ok
theorem Zde:TH X (dy .FloorDiv) (rI BI λi j=>.int (i/j)):=opI λi j _ _ _ _ _ a q=>by have b:=a.1;have c:=a.2;exact floordiv_int (by omega) (by rw[gS i (by omega)];exact q) (.inl (PyProof.noPylong_small (by omega)))
theorem Zic:TH X (dy .Mod) (rI (λ_ j=>0<j) λi j=>.int (i%j)):=opI λi j _ _ _ _ _ a q=>by exact mod_int' (by omega) (by rw[Int.fmod_eq_emod_of_nonneg i (by omega)];exact q)
theorem unI{f:aI->Sem aI}{g:Int->Int}
  (rule:∀(i:Int)(t:Tok)(s:aO)(Q:aI->aO->Prop)(E:aI->aO->Prop),Q (.int (g i) s.toks) { s with toks:=s.toks+1 }->bJ (model X.prog X.w) X.A (f (.int i t)) Q E s) :
  UnR X f (rU λi=>.int (g i)):=by
 intro b s c H x v Q I a h;obtain⟨i,rfl,q⟩:=h;obtain⟨t,rfl⟩:=a;exact rule i t s _ _ ⟨.int (g i),H,I.tok _,⟨_,rfl⟩,q⟩
theorem Zid:UnR X (unaryOp .USub) (rU λi=>.int (-i)):=unI λ_ _ _ _ _ q=>neg_int q
end
section
variable {X:Cx} {a b c:bO} {ta tb tc:TE} {pos:dw}
theorem BJ:TH X (dH .Lt) (rI0 λi j=>.bl (decide (i<j))):=Zdd λ_ _ _ _ _ _ _ q=>lt_int q
theorem Zk2:TH X (dH .LtE) (rI0 λi j=>.bl (decide (i<=j))):=Zdd λ_ _ _ _ _ _ _ q=>le_int q
theorem Zgx:TH X (dH .Gt) (rI0 λi j=>.bl (decide (j<i))):=Zdd λ_ _ _ _ _ _ _ q=>gt_int q
theorem Zk3:TH X (dH .GtE) (rI0 λi j=>.bl (decide (j<=i))):=Zdd λ_ _ _ _ _ _ _ q=>ge_int q
theorem UX(b:bO){op:nK}(h:op≠.In:=by decide)(d:op≠.NotIn:=by decide):cY op b=aB:=by
 have c:(op==nK.In)=aB:=by cases op<;>first | rfl | exact absurd rfl h
 have a:(op==nK.NotIn)=aB:=by cases op<;>first | rfl | exact absurd rfl d
 cases b<;>simp[cY,c,a]
theorem Zdf{op:nK}{r:R2}(k:TH X (dH op) r)(c:PE X a ta)(m:PE X b tb)(g:cY op b=aB):PE X (.Compare a [op] [b] pos) (tOp r ta tb):=by intro l s i H Q I h;exact wpAny_Compare1 (Zh8 c m I h λv u s2 x y f j e d q=>k l s2 i f x y v u Q j e d q) g
noncomputable def F7(t:TE):TT:=λσ H Q=>t σ H λx H'=>∃k,x = .bl k/\Q k H'
theorem Zdg{op:nK}{r:R2}(C:TH X (dH op) r)(j:PE X a ta)(D:PE X b tb)(q:cY op b=aB):PT X (.Compare a [op] [b] pos) (F7 (tOp r ta tb)):=by
 intro f s d H Q I h
 refine lN (Yo (j f s d H _ I h) λv s1 ⟨x,w,p,t,l⟩=>Yo (D f s1 d w _ p l) λu s2 ⟨y,m,B,A,i⟩=>
  Yo (C f s2 d m x y v u _ B t A i) λc F ⟨z,g,o,E,k,e,n⟩=>?_) q
 subst e;cases E;exact dN ⟨g,o,n⟩
noncomputable def BK(r r':R2)(ta tb tc:TE):TE:=λσ H Q=>ta σ H λx H1=>tb σ H1 λy H2=>r x y H2 λz H3=>∃k,z = .bl k/\
 (if k=aC then tc σ H3 λw' H4=>r' y w' H4 Q else Q (.bl aB) H3)
theorem BL{op f:nK}{r p:R2}(S:TH X (dH op) r)(j:TH X (dH f) p)(w:PE X a ta)(U:PE X b tb)(G:PE X c tc)
  (N:lastMarks [op,f] [b,c]=aB:=by with_unfolding_all rfl):PE X (.Compare a [op,f] [b,c] pos) (BK r p ta tb tc):=by
 intro i s g H Q I h
 refine Compare_chain (Yo (w i s g H _ I h) λv s1 ⟨x,P,J,O,C⟩=>chain_link (Yo (U i s1 g P _ J C) λu s2 ⟨y,F,R,o,t⟩=>
  Yo (S i s2 g F x y v u _ R O o t) λd T ⟨z,l,n,W,k,e,m⟩=>?_)) N
 subst e;cases W;refine dN ?_
 cases k with
 | false=>exact ite_ff ⟨.bl aB,l,n,rfl,m⟩
 | true=>exact ite_tt (chain_last (Yo (G i T g l _ n m) λL A ⟨D,M,B,q,E⟩=>j i A g M y D u L Q B o q E))
noncomputable def Zk4(K:aH)(x:V)(H:Hp)(k:Bool):Prop:=
 match x with
 | .non=>k=aB
 | .bl b=>k=b
 | .int i=>k=(i != 0)
 | .str y=>y.length<=sizeLine/\k=((y.length:Int) != 0)
 | .byt y=>y.size<=sizeLine/\k=((y.size:Int) != 0)
 | .ref p=>(∃xs,SqL K H p xs/\k = !xs.isEmpty)\/(∃xs,SqT K H p xs/\k = !xs.isEmpty)\/∃p4,H p=ax (.dK p4)/\k = !p4.isEmpty
 | _=>False
theorem HZ{b:Type}{a:List (b×V)}{vs:List (b×aI)}(r:KV a vs):(!vs.isEmpty) = !a.isEmpty:=by cases r<;>rfl
theorem OB{xs:List V}{a:List aI}(r:Vals xs a):(!a.toArray.isEmpty) = !xs.isEmpty:=by cases r<;>simp
theorem Kf:(sizeLine:Nat)<2^63:=by rw[fT];decide
theorem Zie:Zno X (λx H Q=>∃k,Zk4 X.K x H k/\Q k H):=by
 intro A s w H x v Q I d h;obtain⟨k,e,q⟩:=h;have z:=fT
 cases x with
 | non=>
  cases d;have a:=e;subst a;exact truthy_none ⟨H,I,q⟩
 | bl b=>
  cases d;have a:=e;subst a;exact dN ⟨H,I,q⟩
 | int i=>
  obtain⟨t,rfl⟩:=d;have a:=e;subst a;exact PySem.P.truthy_int ⟨H,I,q⟩
 | str y=>
  obtain⟨t,rfl⟩:=d;obtain⟨o,a⟩:=e;subst a;exact PySem.P.truthy_str (by omega) ⟨H,I.tok _,q⟩
 | byt y=>
  obtain⟨t,rfl⟩:=d;obtain⟨o,a⟩:=e;subst a;exact PySem.W.truthy_bytes (by omega) ⟨H,I.tok _,q⟩
 | ref p=>
  cases d;have a:=e;rcases a with⟨xs,f,a⟩ | ⟨xs,f,a⟩ | ⟨u,f,a⟩
  ·subst a;obtain⟨n,r,g,j⟩:=I.list f;have c:=r.length;exact wpAny_truthy_list g.isList (by simp only[aU];omega) ⟨H,I.tok _,by rw[OB r];exact q⟩
  ·subst a;obtain⟨n,r,g,j⟩:=I.tuple f;have c:=r.length;exact truthy_tuple g (by simp only[aU];omega) ⟨H,I.tok _,by rw[OB r];exact q⟩
  ·subst a;obtain⟨j,l,vs,r,m⟩:=I.hok p _ f;have c:=Paired.length r;exact wpAny_truthy_dict l m (by omega) ⟨H,I.tok _,by rw[HZ r];exact q⟩
 | _=>exact(e).elim
theorem BM(e:PE X a ta)(j:∀whole,md a X.env whole=(do let v <-whole;oT a.pos;holding [v] (truthy v))) :
  PT X a (λb H Q=>ta b H λx c=>∃k,Zk4 X.K x c k/\Q k c):=by
 intro d s b H Q I h;exact isTrue_plain (Yo (e d s b H _ I h) λv s1 ⟨x,f,i,g,l⟩=>Zie d s1 b f x v Q i g l) (j _)
theorem Sr{x:V}{a:List aI}(r:Vals [x] a):∃u,a=[u]/\RelV x u:=by
 cases r with
 | cons r1 r2=>cases r2;exact⟨_,rfl,r1⟩
theorem Zgy{x y:V}{a:List aI}(r:Vals [x,y] a):∃u w',a=[u,w']/\RelV x u/\RelV y w':=by
 cases r with
 | cons r1 r2=>
  cases r2 with
  | cons r3 r4=>cases r4;exact⟨_,_,rfl,r1,r3⟩
theorem DF(b:X.calm=aC):XW X (.builtin "max") (λxs H Q=>∃i j,xs=[.int i,.int j]/\Q (.int (if j>i then j else i)) H):=by
 intro f s e H xs c Q I r h;obtain⟨i,j,rfl,q⟩:=h;obtain⟨u,d,rfl,⟨t,rfl⟩,⟨t',rfl⟩⟩:=Zgy r;refine max_two_ints (I.ok.hd b) λh' tk k=>⟨_,H,I.kept k,?_,q⟩;by_cases a:j>i
 ·rw[p9 a,p9 a];exact⟨_,rfl⟩
 ·rw[pW a,pW a];exact⟨_,rfl⟩
theorem DG:XW X (.type "int") (λxs H Q=>(∃i,xs=[.int i]/\Q (.int i) H)\/∃k,xs=[.bl k]/\Q (.int (if k then 1 else 0)) H):=by
 intro d s b H xs c Q I r h;rcases h with⟨i,rfl,q⟩ | ⟨k,rfl,q⟩
 ·obtain⟨u,rfl,t,rfl⟩:=Sr r;exact call_int_int ⟨.int i,H,I,⟨_,rfl⟩,q⟩
 ·obtain⟨u,rfl,a⟩:=Sr r;cases a;exact call_int_bool ⟨.int (if k then 1 else 0),H,I.tok _,⟨_,rfl⟩,q⟩
noncomputable def Zk5(K:aH)(x:V)(H:Hp)(n:Nat):Prop:=
 match x with
 | .str y=>y.length<=sizeLine/\n=y.length
 | .byt y=>y.size<=sizeLine/\n=y.size
 | .ref p=>(∃xs,SqL K H p xs/\n=xs.length)\/∃xs,SqT K H p xs/\n=xs.length
 | _=>False
theorem BN:XW X (.builtin "len") (λxs H Q=>∃x n,xs=[x]/\Zk5 X.K x H n/\Q (.int n) H):=by
 intro v s m H xs l Q I r h;obtain⟨x,n,rfl,e,q⟩:=h;obtain⟨u,rfl,d⟩:=Sr r;have o:=fT
 cases x with
 | str y=>
  obtain⟨t,rfl⟩:=d;obtain⟨k,b⟩:=e;subst b;exact len_str (by omega) ⟨.int _,H,I.tok _,⟨_,rfl⟩,q⟩
 | byt y=>
  obtain⟨t,rfl⟩:=d;obtain⟨k,b⟩:=e;subst b;exact PySem.W.len_bytes (by omega) ⟨.int _,H,I.tok _,⟨_,rfl⟩,q⟩
 | ref p=>
  cases d;have b:=e;rcases b with⟨xs,f,b⟩ | ⟨xs,f,b⟩
  ·subst b;obtain⟨i,g,c,j⟩:=I.list f;have a:=g.length;exact Calls.call_len_list c.isList (by simp only[aU];omega) ⟨.int xs.length,H,I.tok _,⟨_,by simp only[aU];rw[a]⟩,q⟩
  ·subst b;obtain⟨i,g,c,j⟩:=I.tuple f;have a:=g.length;exact len_tuple c (by simp only[aU];omega) ⟨.int xs.length,H,I.tok _,⟨_,by simp only[aU];rw[a]⟩,q⟩
 | _=>exact(e).elim
end
structure ObjM(h:ba)(x dx C:aL)(mA:bH->Option aI):Prop where
 obj:h.get? x=ax (lA C dx)
 ns:h.Ns1 dx mA
 ne:dx≠x
theorem DH{h:ba}{c:aL}{f:bH->Option aI}(n:h.Ns1 c f):∃od,h.get? c=ax od/\∀name,lY name od=ax (f name):=by
 obtain⟨o,d,ep,k,hd,g,_,j⟩:=n;refine⟨o,k,λname=>?_⟩;have e:=j name;unfold nsFind findBy at e;rw[<-Array.find?_toList] at e;unfold lY;rw[hd]
 dsimp only
 split
 ·rename_i y q;rw[q] at e;exact congrArg ax e
 ·rename_i q;rw[q] at e;have a:d.toList.any (·.refKey)=aB:=by rw[List.any_eq_false];intro y l;obtain⟨z,t,b⟩:=g y (Array.mem_toList_iff.mp l);simp[DictEntry.refKey,b]
  have i:¬d.toList.any (·.refKey)=aC:=by rw[a];exact bx
  rw[pW i];exact congrArg ax e
theorem ObjM.look{h:ba}{x b C:aL}{c:bH->Option aI}(I:ObjM h x b C c):∃a,PySem.W.InstAt h x (lA C b) C (ax a)/\∀name,lY name a=ax (c name):=
 let⟨a,e,d⟩:=DH I.ns
 ⟨a,⟨I.obj,rfl,rfl,e⟩,d⟩
theorem RelO.some_of{v:V}{o:Option aI}(r:RelO (ax v) o):∃u,o=ax u/\RelV v u:=by
 cases o with
 | none=>exact(r).elim
 | some u=>exact⟨u,rfl,r⟩
section
variable {P:bM} {w:bc} {H H':Hp} {h h':ba} {a C dx:aL} {fs fs':List (bH×V)}
theorem Zdh(c:HOk P w H h)(e:H a=ax (.ins C dx fs)):∃b,ObjM h a dx C b/\(∀f,RelO (fs.lookup f) (b f))/\pN b (fs.map (·.1))/\fs.length<=1000/\H dx=ax (.own a):=by obtain⟨d,z,ne,g,b,n,r,q⟩:=(c a _ e);exact⟨b,⟨g,n,ne⟩,r,q,z,d⟩
end
structure Cls(K:aH)(C:aL):Prop where
 pg:nZ K C bH.empty=aC
 hd:PySem.W.hasDictIn K C=aC
 po:PySem.W.plainOver K C=aC
 sa:oZ K (.ref C) "__setattr__" = ax (ax (.builtin "object.__setattr__"))
theorem Cls.get{K:aH}{C:aL}(c:Cls K C)(f:bH):nZ K C f=aC:=c.pg
section
variable {X:Cx} {p0:List (aL×dU)} {σ:St} {H:Hp} {s:aO} {A:bq} {E:aI->aO->Prop} {Q:aI->aO->Prop} {c:aI} {b:Bool}
inductive TyOf(K:aH)(H:Hp):V->aI->Prop where
 | non:TyOf K H .non (.type "NoneType")
 | bl (x:Bool):TyOf K H (.bl x) (.type "bool")
 | int (i:Int):TyOf K H (.int i) (.type "int")
 | str (x:bH):TyOf K H (.str x) (.type "str")
 | flt (x:UInt64):TyOf K H (.flt x) (.type "float")
 | lst {a:aL} {xs:List V} (e:H a=ax (.lst xs)):TyOf K H (.ref a) (.type "list")
 | frz {a:aL} {o:dU} {xs:List V} (e:H a=ax (.frz o (.lst xs))):TyOf K H (.ref a) (.type "list")
 | tup {a:aL} {xs:List V} (e:H a=ax (.tup xs)):TyOf K H (.ref a) (.type "tuple")
 | dK {a:aL} {p4:List (Y8×V)} (e:H a=ax (.dK p4)):TyOf K H (.ref a) (.type "dict")
 | dT {a:aL} {p4:List (List Y8×V)} (e:H a=ax (.dT p4)):TyOf K H (.ref a) (.type "dict")
 | ins {a C dx:aL} {fs:List (bH×V)} (e:H a=ax (.ins C dx fs)) (cl:Cls K C) (ha:oZ K (.ref C) "__class__" = ax (ax (.builtin "object.__class__")))
   (hn:PySem.W.specialIn K (.builtin "object.__class__") "__get__" = ax (ax (.builtin "getset_descriptor.__get__"))) (htk:PySem.W.takesIn K (.builtin "object.__class__")=ax aC)
   (hm:PySem.W.mroIn K C (.type "object")=ax aC):TyOf K H (.ref a) (.ref C)
theorem DI{x:V}{u t:aI}(I:Inv X p0 σ H s)(d:RelV x u)(ty:TyOf X.K H x t)(e:dc X.K t c=ax b)(h:∀tk,Q (.bool b) { s with toks:=tk }) :
  bJ (model X.prog X.w) A (call (.builtin "isinstance") [u,c]) Q E s:=by
 cases ty with
 | non=>cases (d);exact cZ PySem.W.kitx_none I.kIn b8 e (λz=>nomatch z) h
 | bl y=>cases (d);exact cZ PySem.W.kitx_bool I.kIn b8 e (λz=>nomatch z) h
 | int i=>obtain⟨t,q⟩:=(d);cases q;exact cZ PySem.W.kitx_int I.kIn b8 e (λz=>nomatch z) h
 | str y=>obtain⟨t,q⟩:=(d);cases q;exact cZ PySem.W.kitx_str I.kIn b8 e (λz=>nomatch z) h
 | flt y=>obtain⟨t,q⟩:=(d);cases q;exact cZ PySem.W.kitx_float I.kIn b8 e (λz=>nomatch z) h
 | @lst a xs ea=>
  cases (d);obtain⟨_,_,n,_,f⟩:=(I.hok a _ ea);exact cZ nM I.kIn ⟨_,f,rfl⟩ e (λz=>nomatch z) h
 | @frz a ob xs ea=>
  cases (d);obtain⟨_,_,_,n,_,f⟩:=(I.hok a _ ea);exact cZ nM I.kIn ⟨_,f,rfl⟩ e (λz=>nomatch z) h
 | @tup a xs ea=>
  cases (d);obtain⟨_,_,_,p⟩:=(I.hok a _ ea);obtain⟨o,f,g,_⟩:=p;exact cZ PySem.W.kitx_tuple I.kIn ⟨o,f,g⟩ e (λz=>nomatch z) h
 | @dK a p4 ea=>
  cases (d);obtain⟨_,_,vs,_,p⟩:=(I.hok a _ ea);obtain⟨o,j,ep,f,g,_⟩:=p;exact cZ nO I.kIn ⟨o,f,g.1⟩ e (λz=>nomatch z) h
 | @dT a p4 ea=>
  cases (d);obtain⟨_,_,xs,_,o,j,ep,f,g,_⟩:=(I.hok a _ ea);exact cZ nO I.kIn ⟨o,f,g.1⟩ e (λz=>nomatch z) h
 | @ins a C dx fs ea cl ha hn htk hm=>
  cases (d);obtain⟨l,O,_⟩:=Zdh I.hok ea;obtain⟨k,J,_⟩:=O.look;exact cZ (PySem.W.kitx_own (cl.get _) cl.hd ha hn htk hm) I.kIn J e (λz=>nomatch z) h
end
structure Room(k:Nat)(A:bq):Prop where
 hd:A.handled=aA
 dp:A.depth+3*k+5<recursionLimit
 un:A.units+16*k+200<dz
 gd:A.guards=ax []
theorem Room.mono{j k:Nat}{A:bq}(r:Room k A)(h:j<=k):Room j A:=⟨r.hd,by have:=r.dp;omega,by have:=r.un;omega,r.gd⟩
theorem Room.deeper{k:Nat}{A:bq}(r:Room (k+1) A)(env:ma):Room k (A.deeper env):=
 ⟨r.hd,by have:=r.dp;show A.depth+1+3*k+5<_;omega,by have:=r.un;show A.units+3+16*k+200<_;omega,r.gd⟩
theorem Room.depth{k:Nat}{A:bq}(r:Room k A):A.depth<recursionLimit:=by have:=r.dp;omega
theorem Room.units{k:Nat}{A:bq}(r:Room k A):A.units+64<dz:=by have:=r.un;omega
noncomputable def DJ:TA:=λ_ H Q=>Q [] H
noncomputable def Q4(ta:TE)(tr:TA):TA:=λσ H Q=>ta σ H λx H1=>tr σ H1 λxs H2=>Q (x::xs) H2
section
variable {X:Cx} {e:bO} {es:List bO} {te:TE} {t:TA} {pos:dw}
theorem Y0:PA X [] DJ:=λ_ _ _ _ H Q I h=>gK ⟨[],H,I,.nil,h⟩
theorem Z2(d:PE X e te)(f:PA X es t)(n:aP (e::es) X.env=(aB,eval e X.env)::aP es X.env:=by rfl):PA X (e::es) (Q4 te t):=by intro pos b s a H Q I h;rw[n];refine eB (Yo (d b s a H _ I h) λu s1 ⟨x,l,j,k,g⟩=>?_);exact Yo (f pos b s1 a l _ j g) λp s2 ⟨xs,i,o,m,c⟩=>⟨x::xs,i,o,.cons k m,c⟩
noncomputable def Zk6(t:TA):TE:=λσ H Q=>t σ H λxs H1=>xs.length<=sizeLine/\∀p,H1 p=aA->Q (.ref p) (upd H1 p (.tup xs))
noncomputable def Znp(t:TA):TE:=λσ H Q=>t σ H λxs H1=>xs.length<=sizeLine/\∀p,H1 p=aA->Q (.ref p) (upd H1 p (.lst xs))
theorem H9{x1}(h:PA X es t):PE X (.Tuple es x1 pos) (Zk6 t):=by intro j s g H Q I c;refine wpAny_Tuple_spliced (Yo (h pos j s g H _ I c) λd s1 ⟨xs,i,a,r,z,q⟩=>⟨by rw[<-r.length];exact z,?_⟩);have f:=a.hok.fresh (aZ _);refine⟨.ref s1.heap.objs.size,upd i s1.heap.objs.size (.tup xs),a.laid (λb u e=>aK _ e) (aZ _) ?_,rfl,q _ f⟩;exact⟨⟨z,λo e=>OA e⟩,d,r,⟨_,ak _ rfl,rfl,_,rfl⟩⟩
theorem BO(h:PA X es t):PE X (.List es pos) (Znp t):=by intro j s g H Q I c;refine wpAny_List_spliced (Yo (h pos j s g H _ I c) λd s1 ⟨xs,i,a,r,z,q⟩=>⟨by rw[<-r.length];exact z,?_⟩);have f:=a.hok.fresh (aZ _);refine⟨.ref s1.heap.objs.size,upd i s1.heap.objs.size (.lst xs),a.laid (λb u e=>aK _ e) (aZ _) ?_,rfl,q _ f⟩;exact⟨z,d,0,r,ak _ rfl⟩
end
abbrev Sp:=List V->Hp->VK->XK->Prop
abbrev CXT:=List ma->Hp->aO->XK->aI->aO->Prop
structure Env0(P:bM)(w:bc)(K:aH)(mg:bH->Option aI)(base:ba)(A:bq)(outer:List ma)(s:aO)(H:Hp):Prop where
 frames:A.frames=ax outer
 mod:Mod K mg base
 bs:∀b o,base.get? b=ax o->s.heap.get? b=ax o/\H b=aA
 bsz:base.objs.size<=s.heap.objs.size
 funs:s.heap.FunFrames base outer
 frf:∀b∈Kc outer,H b=aA
 tab:TabsH K mg base H
 hok:HOk P w H s.heap
 bare:k5 s.gens
noncomputable def CE(outer:List ma)(P:bM)(w:bc)(H:Hp)(s:aO)(Q:VK)(u:aI)(s':aO):Prop:=
 ∃v H',s'.os=s.os/\k5 s'.gens/\Un (Kc outer) [] H H' s.heap s'.heap/\HOk P w H' s'.heap/\RelV v u/\Q v H'
noncomputable def CR(CX:CXT)(outer:List ma)(P:bM)(w:bc)(H:Hp)(s:aO)(Q:VK)(E:XK)(r:pQ)(s':aO):Prop:=
 match r with
 | .ok (.ret u)=>CE outer P w H s Q u s'
 | .ok _=>False
 | .error e=>CX outer H s E e s'
structure Pq(P:bM)(w:bc)(K:aH)(mg:bH->Option aI)(base:ba)(CX:CXT)(k:Nat)(f:aL)(fd:fL)(ps:List bH)(sp:Sp):Prop where
 len:∀vs H Q E,sp vs H Q E->vs.length=ps.length
 run:∀(A:bq)(outer:List ma)(s:aO)(H:Hp)(args:Args)(us:List aI)(vs:List V)(Q:VK)(E:XK),Room k A->Env0 P w K mg base A outer s H->nP s fd args (ps.zip us)->Vals vs us->sp vs H Q E->
  jQ (model P w) A (.call (.ref f) args) (CR CX outer P w H s Q E) s
section
variable {X:Cx} {p0:List (aL×dU)} {σ:St} {H:Hp} {s s':aO}
theorem Inv.env0(I:Inv X p0 σ H s):Env0 X.prog X.w X.K X.mg X.base X.A X.stack s H:=
 ⟨I.ok.frames,I.ok.mod,I.bs,cD I.ok.bsz I.sz,I.stack,I.stkFree,I.ok.tab.un I.base,I.hok,I.bare⟩
theorem Inv.after{Q:VK}{u:aI}(I:Inv X p0 σ H s)(h:CE X.stack X.prog X.w H s Q u s'):EP X p0 σ Q u s':=by obtain⟨v,f,os,a,un,c,r,q⟩:=h;obtain⟨i,g,d,t,e⟩:=s';obtain rfl:=os;exact⟨v,f,I.call un c a (λb z=>absurd z (by simp)),r,q⟩
end
noncomputable def Zg0(sp:Sp)(dvs:List V)(E:XK)(t:TA):TE:=λσ H Q=>t σ H λvs H1=>sp (vs++dvs) H1 Q E
noncomputable def Binds(K:aH)(fd:fL)(ps:List bH)(ds:List aI):Prop:=
 ∀(s:aO)(us:List aI),K.In s.heap->(us++ds).length=ps.length->nP s fd ⟨us,[]⟩ (ps.zip (us++ds))
theorem Binds.all{K:aH}{d:fL}{b:List bH}(h:∀a:List aI,a.length=b.length->j4 d ⟨a,[]⟩=pure (b.zip a)):Binds K d b []:=λs a _ c=>by rw[dW] at c ⊢;exact .of_eq (h a c)
noncomputable def Ga(CX:CXT)(X:Cx)(E:XK):Prop:=∀(p0:List (aL×dU))(σ:St)(H:Hp)(s:aO)(e:aI)(s':aO),Inv X p0 σ H s->CX X.stack H s E e s'->X.xe e s'
section
variable {X:Cx} {CX:CXT} {k:Nat} {f C:aL} {fd:fL} {ps:List bH} {sp:Sp} {dvs:List V} {ds:List aI} {E:XK} {x m:bH} {p pos apos:dw} {e o:bO} {es:List bO} {ta:TE} {t:TA}
theorem Zif{d:List (aL×dU)}{c:St}{H:Hp}{s:aO}{Q:VK}{a:List aI}{vs:List V}(F:Pq X.prog X.w X.K X.mg X.base CX k f fd ps sp)(j:Room k X.A)(m:Binds X.K fd ps ds)(hd:Vals dvs ds)(l:Ga CX X E)
  (I:Inv X d c H s) (r:Vals vs a) (h:sp (vs++dvs) H Q E):bJ (model X.prog X.w) X.A (call (.ref f) a) (EP X d c Q) X.xe s:=by
 have g:=r.append hd;have i:(a++ds).length=ps.length:=by rw[<-g.length];exact F.len _ _ _ _ h
 refine me (gZ (F.run X.A X.stack s H ⟨a,[]⟩ (a++ds) (vs++dvs) Q E j I.env0 (m s a I.kIn i) g h) λr n b=>?_)
 cases r with
 | error e=>exact l d c H s e n I b
 | ok fl=>
  cases fl with
  | ret u=>exact I.after b
  | next=>exact dD b
  | brk=>exact dD b
  | cont=>exact dD b
theorem Zdi(F:Pq X.prog X.w X.K X.mg X.base CX k f fd ps sp)(i:Room k X.A)(o:Gl X x)(m:X.mg x=ax (.ref f))(l:iM X.K (.ref f)=aC)(v:Binds X.K fd ps ds)(hd:Vals dvs ds)(j:Ga CX X E)
  (g:PA X (e::es) t) (b:(x==("__debug__" : bH))=aB:=by decide) (d:aP (e::es) X.env=(aB,eval e X.env)::aP es X.env:=by rfl) (a:(dC pos (aP es X.env)).any (·.1)=aB:=by rfl) :
  PE X (.Call (.Name x p) (e::es) [] pos) (Zg0 sp dvs E t):=by
 intro u s n H Q I h;refine dE (Kd I o m ?_ b);refine mf I.ok.mod.kin l (Yo (g pos u s n H _ I h) λw s1 ⟨vs,y,c,r,q⟩=>⟨c.kIn,?_⟩) d a;exact Zif F i v hd j c r q
end
noncomputable def PK(X:Cx)(kws:List mN)(t:TA):Prop:=
 ∀(pos:dw)(p0:List (aL×dU))(s:aO)(σ:St)(H:Hp)(Q:List V->Hp->Prop),Inv X p0 σ H s->t σ H Q->bJ (model X.prog X.w) X.A (evalAll ((o4 pos (lZ kws X.env)).map (·.2))) (AP X p0 σ Q) X.xe s
structure Zq(N P:List bH)(sc:gC):Prop where
 kind:sc.kind = .function
 co:sc.isCoroutine=aB
 gen:sc.isGenerator=aB
 nd:N.Nodup
 pre:N.take P.length=P
 par:∀x∈P,sc.names.lookup x=ax .local\/sc.names.lookup x=ax .cell
 nofree:∀y∈sc.names,y.2≠.free
theorem M7{kindOf:bH->Option fM}{x:bH}:∀{binds:List (bH×aI)}{m:bH->Option aI},(∀v,(x,v)∉binds)->o5 kindOf binds m x=m x
 | [],_,_=>rfl
 | (n,v)::r,m,h=>by
  unfold o5;rw[M7 λw a=>h w (aN _ a)];split
  ·have:x≠n:=by rintro rfl;exact h v ag
   simp[this]
  ·rfl
theorem M8{kindOf:bH->Option fM}{x:bH}:∀{binds:List (bH×aI)}{m:bH->Option aI},(∀v,(x,v)∉binds)->o6 kindOf binds m x=m x
 | [],_,_=>rfl
 | (n,v)::r,m,h=>by
  unfold o6;rw[M8 λw a=>h w (aN _ a)];split
  ·rfl
  ·have:x≠n:=by rintro rfl;exact h v ag
   simp[this]
theorem M9{kindOf:bH->Option fM}{x:bH}{v:aI}:∀{P:List bH}{vs:List aI}{i:Nat}{m:bH->Option aI},P.Nodup->P[i]?=ax x->vs[i]?=ax v->kindOf x=ax .local->
  o5 kindOf (P.zip vs) m x=ax v
 | [],_,_,_,_,h,_,_=>by simp at h
 | _::_,[],_,_,_,_,h,_=>by simp at h
 | p::P,w::vs,0,m,nd,h1,h2,hk=>by simp at h1 h2;subst h1;subst h2;show o5 kindOf ((p,w)::P.zip vs) m p=_;unfold o5;rw[M7 λv a=>(aq.mp nd).1 (gx a).1,p9 hk];simp
 | p::P,w::vs,i+1,m,nd,h1,h2,hk=>by show o5 kindOf ((p,w)::P.zip vs) m x=_;unfold o5;exact M9 (i:=i) (aq.mp nd).2 (by simpa using h1) (by simpa using h2) hk
theorem La{kindOf:bH->Option fM}{x:bH}{v:aI}:∀{P:List bH}{vs:List aI}{i:Nat}{m:bH->Option aI},P.Nodup->P[i]?=ax x->vs[i]?=ax v->kindOf x≠ax .local->
  o6 kindOf (P.zip vs) m x=ax v
 | [],_,_,_,_,h,_,_=>by simp at h
 | _::_,[],_,_,_,_,h,_=>by simp at h
 | p::P,w::vs,0,m,nd,h1,h2,hk=>by simp at h1 h2;subst h1;subst h2;show o6 kindOf ((p,w)::P.zip vs) m p=_;unfold o6;rw[M8 λv a=>(aq.mp nd).1 (gx a).1,pW hk];simp
 | p::P,w::vs,i+1,m,nd,h1,h2,hk=>by show o6 kindOf ((p,w)::P.zip vs) m x=_;unfold o6;exact La (i:=i) (aq.mp nd).2 (by simpa using h1) (by simpa using h2) hk
noncomputable def start(N:List bH)(vs:List V):St:=vs.map ax++aS (N.length-vs.length) aA
noncomputable def OC(CX:CXT)(P:bM)(w:bc)(K:aH)(mg:bH->Option aI)(base:ba)(N:List bH)(qual:bH)(scope:gC)(f:aL)(cd:aI)(A:bq)(outer:List ma)(s:aO)(H:Hp)(E:XK):Cx where
 prog:=P
 w:=w
 K:=K
 mg:=mg
 base:=base
 A:=A.deeper (iZ qual scope s.heap.objs.size f cd)
 N:=N
 s₀:=s
 H₀:=H
 env:=iZ qual scope s.heap.objs.size f cd
 outer:=outer
 stack:=iZ qual scope s.heap.objs.size f cd::outer
 ex:=[]
 calm:=aC
 fn:=λ_=>aC
 pn:=[]
 xe:=λe s'=>bJ (model P w) (A.deeper (iZ qual scope s.heap.objs.size f cd)) (leaving (iZ qual scope s.heap.objs.size f cd) e) (λ_ s''=>CX outer H s E e s'') (λe' s''=>CX outer H s E e' s'') s'
theorem JX{a:gC}{n:Nat}{x:bH}(h:a.names.lookup x=ax .cell):∃c,(cellsFrom n a.names []).lookup x=ax c:=by have q:=k6 a.names n [] (.inl h);exact cT.mp q
theorem F8{a b c:bH}(h:a++c=b++c):a=b:=by
 obtain⟨a⟩:=a;obtain⟨b⟩:=b;have d:a++c.cps=b++c.cps:=congrArg bH.cps h;have f:a.toList++c.cps.toList=b.toList++c.cps.toList:=by rw[<-dk,<-dk,d]
 have e:=Array.toList_inj.mp (List.append_cancel_right f);rw[e]
theorem DK{Q:CXT}{P:bM}{w:bc}{K:aH}{mg:bH->Option aI}{n:ba}{N o:List bH}{g:bH}{d:gC}{f:aL}{F:aI}{A:bq}{j:List ma}{s s1:aO}{H:Hp}{E:XK}{J:List aI}{vs:List V}
  (L:dM K F g=aC) (S:Zq N o d) (hd:A.handled=aA) (m:Env0 P w K mg n A j s H) (X:vs.length=o.length) (r:Vals vs J)
  (x:InCallC s s.heap.objs.size (o5 (iZ g d s.heap.objs.size f F).kindOf (o.zip J) λ_=>aA) (cellsFrom (s.heap.objs.size+1) d.names []) (o6 (iZ g d s.heap.objs.size f F).kindOf (o.zip J) λ_=>aA) s1) :
  Inv (OC Q P w K mg n N g d f F A j s H E) [] (start N vs) H s1:=by
 have U:o.length<=N.length:=by have:=congrArg df S.pre;rw[bG] at this;omega
 obtain⟨G,tk,rfl,M⟩:=x.done;have t:∀b:aL,b∉(OC Q P w K mg n N g d f F A j s H E).ex:=λb z=>absurd (show b∈([]:List aL) from z) (by simp)
 refine⟨⟨m.mod,S.kind,rfl,rfl,aZ _,λy z c G l=>?_,λy B=>?_,λy c _ h=>?_,λ_=>hd,l3 m.frames,.inr ⟨rfl,rfl⟩,λb z=>absurd z (t b),m.bs,m.bsz,λb _ _=>t b,λb z=>absurd z (t b),m.funs,m.frf,m.tab,λq _ R _=>by rw[<-F8 R];exact L⟩,
  rfl,m.bare,Un.kept M,⟨_,x.toInCall.ns,λi y v G l Y=>?_⟩,λy c h=>⟨_,x.cell y c h⟩,m.hok.fresh (aZ _),λy c h=>?_,λp C=>absurd (show p∈([]:List (aL×dU)) from C) (by simp),m.hok.kept M,?_⟩
 ·exact name_of_addr x.apart (cu G) (cu l)
 ·have B:=B;rcases B with B | B
  ·exact JX B
  ·exact absurd rfl (S.nofree _ (cu B))
 ·exact cJ (x.above y c (cu h))
 ·have I:i<vs.length:=by
   unfold start at l;by_cases I:i<vs.length
   ·exact I
   ·rw[bA (by simpa using I)] at l;rw[b7] at l;split at l<;>cases l
  have T:vs[i]?=ax v:=by
   unfold start at l;rw[aj (by simpa using I),aX] at l
   cases e:vs[i]? with
   | none=>rw[e] at l;cases l
   | some a=>rw[e] at l;cases l;rfl
  obtain⟨u,O,W⟩:=r.get T;have C:o[i]?=ax y:=by rw[<-S.pre,dA (by omega)];exact G
  have D:o.Nodup:=by rw[<-S.pre];exact S.nd.sublist (e7 _ _)
  refine⟨u,W,?_⟩;rcases S.par y (av C) with k | k
  ·exact .inl ⟨k,M9 D C O k⟩
  ·obtain⟨c,e⟩:=JX k;refine .inr ⟨.inl k,c,e,?_⟩;have q:=x.cell y c e;rw[La D C O (by show d.names.lookup y≠_;rw[k];decide)] at q;exact q
 ·exact m.hok.fresh (cJ (x.above y c (cu h)))
 ·unfold start;show _=N.length;rw[aT,aJ,cL];omega
theorem XX{O:CXT}{P:bM}{w:bc}{K:aH}{mg:bH->Option aI}{h:ba}{k:Nat}{f:aL}{name d:bH}{i:mO}{j:List cB}{a:gC}{dV kV L pm g ct oc:aI}{an od:Option aL}
  {R:Array (Option aI)} {N M:List bH} {X:Sp} (lk:K.lookup f=ax ⟨oc,od,.func (dO name d i j a dV kV L pm an g ct),R⟩) (F:dM K g d=aC) (S:Zq N M a)
  (len:∀vs H Q E,X vs H Q E->vs.length=M.length)
  (z:∀(A:bq)(c:List ma)(s:aO)(H:Hp)(vs:List V)(Q:VK)(E:XK),Room k (A.deeper (iZ d a s.heap.objs.size f g))->X vs H Q E->
   ∃t,PSs (OC O P w K mg h N d a f g A c s H E) j t/\t { nx:=λ_ m=>Q .non m,rt:=Q } (start N vs) H) :
  Pq P w K mg h O (k+1) f (dO name d i j a dV kV L pm an g ct) M X:=by
 refine⟨len,λA c s H Z us vs Q E T C hb r D=>?_⟩;have hl:=len _ _ _ _ D;have KX:=C.mod.kin.keeps λb o e=>(C.bs b o e).1;have W:=C.mod.nolimit.keeps λb o e=>(C.bs b o e).1
 have p:∀y∈M.zip us,a.names.lookup y.1=ax .local\/(a.names.lookup y.1=ax .cell/\((cellsFrom (s.heap.objs.size+1) a.names []).lookup y.1).isSome=aC):=λ⟨n,v⟩ hy=>by
  rcases S.par n (gx hy).1 with q | q
  ·exact .inl q
  ·exact .inr ⟨q,k6 _ _ _ (.inl q)⟩
 refine codeAny_call_function T.depth (KX _ _ lk) rfl S.co S.gen rfl (PySem.W.codeRec_of KX F) (hb _ _ _ _ ?_);refine wpAny_newFunctionEnv_cells S.kind p λenv he s1 x=>?_;subst he;refine⟨W.keeps x.toInCall.keep,codeAny_func ?_⟩;obtain⟨t,ht,hq⟩:=z A c s H vs Q E (T.deeper _) D;have I:Inv (OC O P w K mg h N d a f g A c s H E) [] (start N vs) H s1:=DK F S T.hd C hl r x;refine cU (ht [] s1 (start N vs) H _ I hq) (λfl Y B=>?_) λe Y B=>B
 have G:∀{l:St}{m:Hp}{v:V}{u:aI},Inv (OC O P w K mg h N d a f g A c s H E) [] l m Y->RelV v u->Q v m->CE c P w H s Q u Y:=
  λ{l m v u} J U q=>⟨v,m,J.os,J.bare,J.base,J.hok,U,q⟩
 cases fl with
 | ret u=>
  obtain⟨v,l,m,J,U,q⟩:=B;exact G J U q
 | next=>
  obtain⟨l,m,J,q⟩:=B;exact G (v:=V.non) J rfl q
 | brk=>
  obtain⟨_,_,_,q⟩:=B;exact dD q
 | cont=>
  obtain⟨_,_,_,q⟩:=B;exact dD q
section
variable {X:Cx} {x:bH} {p pos:dw} {e:bO} {es:List bO} {t:TA} {id T:String} {r:List V->Hp->VK->Prop}
noncomputable def tCB(r:List V->Hp->VK->Prop)(t:TA):TE:=λσ H Q=>t σ H λvs H1=>r vs H1 Q
theorem JY(k:XW X (.builtin id) r)(v:Gl X x)(m:X.mg x=aA)(n:dB x=ax (.builtin id))(g:PA X (e::es) t)(o:x≠"__name__":=by decide)(b:(x==("__debug__" : bH))=aB:=by decide)
  (f:aP (e::es) X.env=(aB,eval e X.env)::aP es X.env:=by rfl) (a:(dC pos (aP es X.env)).any (·.1)=aB:=by rfl):PE X (.Call (.Name x p) (e::es) [] pos) (tCB r t):=by
 intro d s c H Q I h;refine dE (XZ I v m n ?_ o b);exact fO (Yo (g pos d s c H _ I h) λi s1 ⟨vs,u,l,q,j⟩=>k d s1 c u vs i Q l q j) f a
theorem Lb(k:XW X (.type T) r)(v:Gl X x)(m:X.mg x=aA)(n:dB x=ax (.type T))(g:PA X (e::es) t)(o:x≠"__name__":=by decide)(b:(x==("__debug__" : bH))=aB:=by decide)
  (f:aP (e::es) X.env=(aB,eval e X.env)::aP es X.env:=by rfl) (a:(dC pos (aP es X.env)).any (·.1)=aB:=by rfl):PE X (.Call (.Name x p) (e::es) [] pos) (tCB r t):=by
 intro d s c H Q I h;refine dE (XZ I v m n ?_ o b);exact bg (Yo (g pos d s c H _ I h) λi s1 ⟨vs,u,l,q,j⟩=>k d s1 c u vs i Q l q j) f a
end
end L2
namespace HT
open PySem PyProof.Rows
section
variable {prog:bM} {w:bc} {A:bq} {E:aI->aO->Prop} {s:aO}
theorem cat_tup{t b:aL}{vs a:List aI}{Q:aI->aO->Prop}(x:IsTup s.heap t vs.toArray)(C:IsTup s.heap b a.toArray)(q:vs≠[])
  (z:a=[]->Q (.ref t) s) (y:a≠[]->Q (.ref s.heap.objs.size) { s with heap:=s.heap.push { cls:=.type "tuple",data:=.seq (vs++a).toArray } })
  (j:vs.length+a.length<=sizeLine):bJ (model prog w) A (dy .Add (.ref t) (.ref b)) Q E s:=by
 obtain⟨⟨k,v,g,o⟩,i,B,n,hd⟩:=id x;obtain⟨⟨p,f,data2,d⟩,c,l,u,m⟩:=id C;subst B hd l m;have e:vs.toArray++a.toArray=(vs++a).toArray:=by simp
 by_cases h:a=[]
 ·exact k8 ⟨_,i,rfl⟩ ⟨_,c,rfl⟩ kP mX iN iD (gn _ _)
   (tuple_addW1 t b vs.toArray a.toArray n u v f o d (by simpa using q) (by simp[h])) ⟨i,c,z h⟩
 ·refine k8 ⟨_,i,rfl⟩ ⟨_,c,rfl⟩ kP mX iN iD (gn _ _)
   (tuple_addW2 t b vs.toArray a.toArray n u v f o d (by simpa using q) (by simpa using h) (by rw[aU];exact j)) ⟨i,c,?_⟩
  rw[e];exact y h
noncomputable def sIx(n d:Nat):Option Int->Nat
 | none=>d
 | some v=>if v<0 then(v+(n:Int)).toNat else min v.toNat n
theorem sIx_none(n d:Nat):sIx n d aA=d:=rfl
theorem sIx_nat(n d k:Nat):sIx n d (ax (k:Int))=min k n:=rfl
theorem F9(v:Int)(n d:Nat):(if v<0 then max (v+(n:Int)) 0 else min v (n:Int))=((sIx n d (ax v):Nat):Int):=by
 show(if v<0 then max (v+(n:Int)) 0 else min v (n:Int))=(((if v<0 then(v+(n:Int)).toNat else min v.toNat n):Nat):Int);by_cases a:v<0
 ·simp only[p9 a];omega
 ·simp only[pW a];omega
theorem Gb(lo a:Option Int)(n:Nat):jd lo a 1 (n:Int)=(((sIx n 0 lo:Nat):Int),((sIx n n a:Nat):Int)):=by
 refine Prod.ext ?_ ?_
 ·cases lo with
  | none=>rfl
  | some v=>exact F9 v n 0
 ·cases a with
  | none=>rfl
  | some v=>exact F9 v n n
theorem Gd(i j:Nat):eQ (i:Int) (j:Int) 1=j-i:=by
 unfold eQ;split<;>omega
theorem OD{v:aI}{o:Option Int}{Q:Option Int->aO->Prop}(p:mh v o)(h:Q o s):bJ (model prog w) A (fj.Slice.slicePartIndex v) Q E s:=by
 cases p with
 | none=>exact slicePart_none h
 | int i t=>exact slicePart_int h
theorem R8{d:aL}{f e:aI}{lo b:Option Int}{n:Nat}{Q:Int×Int×Nat->aO->Prop}(i:s.heap.IsSliceOf d f e .none)(j:mh f lo)(k:mh e b)
  (h:Q (((sIx n 0 lo:Nat):Int),1,sIx n n b-sIx n 0 lo) s):bJ (model prog w) A (fj.Slice.sliceApplied (.ref d) (pure (n:Int))) Q E s:=by
 obtain⟨os,a,g,c⟩:=id i;refine aG (aG (cx a c rfl (aG (cx a c rfl (aG (cx a c rfl (aW ?_)))))));refine aG (slicePart_none ?_);refine aG (OD j (aG (OD k (aG (aW ?_)))));show bJ _ _ (match jd lo b 1 (n:Int) with | (lo,b)=>pure (lo,(1:Int),eQ lo b 1)) _ _ s;rw[Gb lo b n];show bJ _ _ (pure (((sIx n 0 lo:Nat):Int),(1:Int),eQ ((sIx n 0 lo:Nat):Int) ((sIx n n b:Nat):Int) 1)) _ _ s;rw[Gd];exact aW h
theorem BP(xs:Array aI)(i k:Nat):((aD k).filterMap λ(m:Nat)=>xs[((i:Int)+(m:Int)*1).toNat]?).toArray=((xs.toList.drop i).take k).toArray:=by
 have e:(λ(m:Nat)=>xs[((i:Int)+(m:Int)*1).toNat]?)=λm=>xs[i+m]?:=by
  funext m;have:((i:Int)+(m:Int)*1).toNat=i+m:=by omega
  rw[this]
 rw[e];have:=pick_run xs i k;rw[List.filterMap_map] at this;have a:((λx=>xs[x]?) ∘ λx=>i+x)=λm=>xs[i+m]?:=rfl;rw[a] at this;rw[this]
theorem getItem_tuple_cut{t e:aL}{items:Array aI}{k j:aI}{lo b:Option Int}{Q:aI->aO->Prop}(c:IsTup s.heap t items)(l:s.heap.IsSliceOf e k j .none)(o:mh k lo)(p:mh j b)
  (u:¬(sIx items.size 0 lo=0/\sIx items.size items.size b=items.size))
  (h:Q (.ref s.heap.objs.size) { s with heap:=s.heap.push { cls:=.type "tuple",data:=.seq ((items.toList.drop (sIx items.size 0 lo)).take (sIx items.size items.size b-sIx items.size 0 lo)).toArray } })
  (m:items.size<=sizeLine):bJ (model prog w) A (k9 (.ref t) (.ref e)) Q E s:=by
 have a:sizeOk (.seq ((items.toList.drop (sIx items.size 0 lo)).take (sIx items.size items.size b-sIx items.size 0 lo)).toArray):=by show((items.toList.drop (sIx items.size 0 lo)).take (sIx items.size items.size b-sIx items.size 0 lo)).toArray.size<=sizeLine;rw[aU,bG,bU,cM];omega
 obtain⟨os,i,d,n⟩:=id l;have f:s.TypeIs (.ref e) "slice":=⟨os,i,d⟩;unfold k9
 try with_reducible refine fH ?_
 first | refine aG (aW ?_) | skip
 refine aG (wpAny_sequenceKey c.typeIs rfl ?_)
 refine aG (cV c.typeIs fJ
  (cj fJ c.typeIs entry_tuple_getitem ?_ (args_tuple_getitem _ _)))
 show bJ _ _ (fj.Tuple.tupleItemsOf (.ref t) >>= _) _ _ s;refine aG (tupleItemsOf_ c ?_);refine aG (wpAny_typeOf f ?_);refine aG (R8 l o p ?_);have g:¬((((sIx items.size 0 lo:Nat):Int)==0&&(1:Int)==1&&(sIx items.size items.size b-sIx items.size 0 lo)==items.size)=aC):=by intro q;rw[aw,aw] at q;have x:=eq_of_beq q.1.1;have v:=eq_of_beq q.2;exact u ⟨by omega,by omega⟩
 show bJ _ _ (if(((sIx items.size 0 lo:Nat):Int)==0&&(1:Int)==1&&(sIx items.size items.size b-sIx items.size 0 lo)==items.size)=aC then _ else _) _ _ s;rw[pW g,BP]
 first
  | exact aG (cy (aW ⟨_,rfl,aW h⟩) a)
  | exact aG (cy (aG (aW (aW ⟨_,rfl,aW h⟩))) a)
  | exact aG (aG (cy (aW (aW ⟨_,rfl,aW h⟩)) a))
  | exact aG (aG (cy (aW ⟨_,rfl,aW h⟩) a))
end
end HT
namespace L2
open PySem PySem.Spec PyProof.Rows
abbrev TO:=St->Hp->(Option Int->Hp->Prop)->Prop
noncomputable def PO(X:Cx)(e:Option bO)(t:TO):Prop:=
 ∀(p0:List (aL×dU))(s:aO)(σ:St)(H:Hp)(Q:Option Int->Hp->Prop),Inv X p0 σ H s->t σ H Q->
  bJ (model X.prog X.w) X.A (evalPart e X.env) (λu s'=>∃o H',Inv X p0 σ H' s'/\mh u o/\Q o H') X.xe s
noncomputable def Zdj:TO:=λ_ H Q=>Q aA H
noncomputable def Zk7(t:TE):TO:=λσ H Q=>t σ H λx H1=>∃i,x = .int i/\Q (ax i) H1
theorem SA{ns:List Int}:∀{a:List aI},Vals (ns.map V.int) a->i7 a ns:=by
 induction ns with
 | nil=>intro a r;rw[fX] at r;cases r;exact .nil
 | cons n ns ih=>
  intro a r
  cases r with
  | cons r1 r2=>
   obtain⟨t,e⟩:=r1;subst e;exact .cons n t (ih r2)
section
variable {X:Cx} {e:bO} {te:TE} {lo hi:Option bO} {tl th:TO} {pos p2:dw}
theorem Zdk:PO X aA Zdj:=by intro a s b H Q I h;exact aW ⟨aA,H,I,.none,h⟩
theorem Zdl(h:PE X e te):PO X (ax e) (Zk7 te):=by intro d s j H Q I g;refine Yo (h d s j H _ I g) λu s1 ⟨x,b,c,a,f⟩=>?_;obtain⟨i,rfl,q⟩:=f;obtain⟨t,rfl⟩:=a;exact⟨ax i,b,c,.int i t,q⟩
noncomputable def SlR(X:Cx)(r:V->Option Int->Option Int->Hp->VK->Prop):Prop:=
 ∀(p0:List (aL×dU))(s:aO)(σ:St)(H:Hp)(x:V)(v vl vu:aI)(lo hi:Option Int)(sl:aL)(Q:VK),Inv X p0 σ H s->RelV x v->s.heap.IsSliceOf sl vl vu .none->mh vl lo->mh vu hi->r x lo hi H Q->
  ∃T id,typeLookup (.type T) "__getitem__" = pure (ax (.builtin id))/\s.TypeIs v T/\bJ (model X.prog X.w) X.A (k9 v (.ref sl)) (EP X p0 σ Q) X.xe s
noncomputable def tSl(r:V->Option Int->Option Int->Hp->VK->Prop)(te:TE)(tl th:TO):TE:=λσ H Q=>te σ H λx H1=>tl σ H1 λl H2=>th σ H2 λu H3=>r x l u H3 Q
theorem JZ{r:V->Option Int->Option Int->Hp->VK->Prop}(w:SlR X r)(m:PE X e te)(k:PO X lo tl)(L:PO X hi th):PE X (.Subscript e (.Slice lo hi aA p2) pos) (tSl r te tl th):=by intro d s a H Q I h;refine o7 (Yo (m d s a H _ I h) λv s1 ⟨x,F,D,E,z⟩=>?_);refine wpAny_Slice (Yo (k d s1 a F _ D z) λg s2 ⟨l,A,G,p,n⟩=>Yo (L d s2 a A _ G n) λf c ⟨u,i,C,t,B⟩=>?_);refine aW ?_;have o:Inv X d a i { c with heap:=c.heap.push { cls:=.type "slice",data:=.fields #[g,f,.none] } }:=C.kept λb M q=>aK _ q;obtain⟨T,id,j,y,J⟩:=w d { c with heap:=c.heap.push { cls:=.type "slice",data:=.fields #[g,f,.none] } } a i x v g f l u c.heap.objs.size Q o E (ba.IsSliceOf.new ..) p t B;exact tail_any y j J rfl
noncomputable def DL(xs:List V)(lo hi:Option Int):List V:=(xs.drop (HT.sIx xs.length 0 lo)).take (HT.sIx xs.length xs.length hi-HT.sIx xs.length 0 lo)
theorem Q5(xs:List V)(lo a:Option Int):(DL xs lo a).length<=xs.length:=by unfold DL;rw[bG,bU];omega
noncomputable def Znr(K:aH):V->Option Int->Option Int->Hp->VK->Prop:=λx lo hi H Q=>∃a xs,x = .ref a/\SqT K H a xs/\
 ¬(HT.sIx xs.length 0 lo=0/\HT.sIx xs.length xs.length hi=xs.length)/\∀p,H p=aA->Q (.ref p) (upd H p (.tup (DL xs lo hi)))
theorem Zig:SlR X (Znr X.K):=by
 intro A s z H x v y w lo f t Q I k p i j h;obtain⟨a,xs,rfl,l,m,q⟩:=h;cases k;obtain⟨n,r,d,g⟩:=I.tuple l;have c:n.toArray.size=xs.length:=by rw[aU];exact r.length.symm
 refine⟨"tuple",_,fJ.lookup,d.typeIs,?_⟩;refine HT.getItem_tuple_cut d p i j (by rw[c];exact m) ?_ (by rw[c];exact g);rw[c];refine⟨.ref s.heap.objs.size,_,I.laid (λb u q=>aK _ q) (aZ _) ?_,rfl,q _ (I.hok.fresh (aZ _))⟩;exact⟨⟨cD (Q5 xs lo f) g,λo e=>OA e⟩,_,(r.drop (HT.sIx xs.length 0 lo)).take (HT.sIx xs.length xs.length f-HT.sIx xs.length 0 lo),n6 _ _⟩
noncomputable def Zk8(K:aH):R2:=λx y H Q=>∃a b xs ys,x = .ref a/\y = .ref b/\SqT K H a xs/\SqT K H b ys/\xs≠[]/\xs.length+ys.length<=sizeLine/\
 (ys=[]->Q (.ref a) H)/\(ys≠[]->∀p,H p=aA->Q (.ref p) (upd H p (.tup (xs++ys))))
theorem Vals.nil_iff{xs:List V}{a:List aI}(r:Vals xs a):a=[]↔xs=[]:=by
 cases r with
 | nil=>simp
 | cons _ _=>simp
theorem Zdm:TH X (dy .Add) (Zk8 X.K):=by intro E s D H x y v u Q I m l h;obtain⟨a,b,xs,B,rfl,rfl,j,t,n,f,p,i⟩:=h;cases m;cases l;obtain⟨C,d,k,_⟩:=I.tuple j;obtain⟨g,c,p2,_⟩:=I.tuple t;refine HT.cat_tup k p2 (λz=>n (d.nil_iff.mp z)) (λz=>⟨.ref a,H,I,rfl,p (c.nil_iff.mp z)⟩) (λz=>?_) (by rw[<-d.length,<-c.length];exact f);refine⟨.ref s.heap.objs.size,_,I.laid (λb A q=>aK _ q) (aZ _) ?_,rfl,i (λw=>z (c.nil_iff.mpr w)) _ (I.hok.fresh (aZ _))⟩;exact⟨⟨by rw[aT];exact f,λo e=>OA e⟩,_,d.append c,n6 _ _⟩
end
noncomputable def J0(n:Nat)(i:Int):Option Nat:=if 0<=i then(if i<n then ax i.toNat else aA) else if -(n:Int)<=i then ax (i+n).toNat else aA
noncomputable def R9{α:Type}(xs:List α)(i:Int):Option α:=(J0 xs.length i).bind λj=>xs[j]?
theorem Ea{n:Nat}{i:Int}{j:Nat}(h:J0 n i=ax j):n8 i n=ax j/\j<n/\-(n:Int)<=i/\i<n:=by
 unfold J0 at h;by_cases b:0<=i
 ·rw[p9 b] at h;by_cases a:i<n
  ·rw[p9 a] at h;have e:=bC h;exact⟨by rw[oI b a,e],by omega,by omega,a⟩
  ·rw[pW a] at h;cases h
 ·rw[pW b] at h;by_cases a : -(n:Int)<=i
  ·rw[p9 a] at h;have e:=bC h;exact⟨by rw[nQ (by omega) a,e],by omega,a,by omega⟩
  ·rw[pW a] at h;cases h
theorem Kg{a:Type}{xs:List a}{i:Int}{v:a}(h:R9 xs i=ax v):∃j,n8 i xs.length=ax j/\xs[j]?=ax v/\j<xs.length/\-(xs.length:Int)<=i/\i<xs.length:=by
 unfold R9 at h
 cases e:J0 xs.length i with
 | none=>rw[e] at h;cases h
 | some j=>
  rw[e] at h;obtain⟨b,c,f,d⟩:=Ea e;exact⟨j,b,h,c,f,d⟩
theorem TJ{a:Type}{xs:List a}{j:Nat}{v:a}(h:xs[j]?=ax v):R9 xs (j:Int)=ax v:=by
 have b:=(aR.mp h).1;have e:J0 xs.length (j:Int)=ax j:=by unfold J0;rw[p9 (by omega),p9 (by omega)];simp
 unfold R9;rw[e];exact h
noncomputable def Kh(b:bO):Prop:=∀o i,subscripted b aB o i=operate [o,i] (k9 o i)
noncomputable def IxR(X:Cx)(r:R2):Prop:=
 ∀(value slice:bO)(p0:List (aL×dU))(s:aO)(σ:St)(H:Hp)(x y:V)(v u:aI)(Q:VK),Inv X p0 σ H s->RelV x v->RelV y u->r x y H Q->
  subscripted slice aB v u=operate [v,u] (k9 v u)->bJ (model X.prog X.w) X.A (subscriptTail value slice v u) (EP X p0 σ Q) X.xe s
noncomputable def MtR(X:Cx)(id:String)(r:V->List V->Hp->VK->Prop):Prop:=
 ∀(p0:List (aL×dU))(s:aO)(σ:St)(H:Hp)(x:V)(xs:List V)(v:aI)(us:List aI)(Q:VK),Inv X p0 σ H s->RelV x v->Vals xs us->r x xs H Q->
  bJ (model X.prog X.w) X.A (call (.builtin id) (v::us)) (EP X p0 σ Q) X.xe s
section
variable {X:Cx} {a b:bO} {ta tb:TE} {pos:dw}
theorem IxR.or{r i:R2}(h:IxR X r)(h':IxR X i):IxR X (λx y H Q=>r x y H Q\/i x y H Q):=by
 intro a b g s e H x y v u Q I d c q f;rcases q with q | q
 ·exact h a b g s e H x y v u Q I d c q f
 ·exact h' a b g s e H x y v u Q I d c q f
theorem J1{r:R2}(e:IxR X r)(c:PE X a ta)(m:PE X b tb)(j:Kh b):PE X (.Subscript a b pos) (tOp r ta tb):=by intro l s i H Q I h;exact o7 (Zh8 c m I h λv u s2 x y g k f d q=>e a b l s2 i g x y v u Q k f d q (j _ _))
noncomputable def Zih(K:aH):R2:=λx y H Q=>∃p xs i v,x = .ref p/\y = .int i/\SqL K H p xs/\R9 xs i=ax v/\Q v H
noncomputable def Zk9(K:aH):R2:=λx y H Q=>∃p xs i v,x = .ref p/\y = .int i/\SqT K H p xs/\R9 xs i=ax v/\Q v H
noncomputable def Zla:R2:=λx y H Q=>∃z i c,x = .str z/\y = .int i/\z.length<=sizeLine/\R9 z.cps.toList i=ax c/\Q (.str ⟨#[c]⟩) H
theorem ix_list:IxR X (Zih X.K):=by
 intro c d J s G H x y v u Q I D C h l;obtain⟨p,xs,i,z,rfl,rfl,m,A,q⟩:=h;cases D;obtain⟨t,rfl⟩:=C;obtain⟨F,r,f,M⟩:=I.list m;obtain⟨j,b,E,L,B,o⟩:=Kg A;obtain⟨w,k,Xp⟩:=r.get E;have n:=r.length;have N:=Kf;have a:EP X J G Q w s:=⟨z,H,I,Xp,q⟩;by_cases g:0<=i
 ·have e:i.toNat=j:=by rw[oI g o] at b;exact bC b
  exact item_listR f.isList g (by omega) (by rw[e];simpa using k) a l
 ·have e:(i+(F.toArray.size:Int)).toNat=j:=by rw[nQ (by omega) B] at b;rw[aU,<-n];exact bC b
  exact ka f.isList.typeIs slot_list_getitem.lookup
   (wpAny_getItem_list_neg f.isList (by omega) (by rw[aU]<;>omega) (by omega) (by rw[e];simpa using k) ⟨rfl,a⟩) l
theorem ix_tup:IxR X (Zk9 X.K):=by
 intro a b C s o H x y v u Q I l k h B;obtain⟨p,xs,i,z,rfl,rfl,e,g,q⟩:=h;cases l;obtain⟨t,rfl⟩:=k;obtain⟨G,r,d,J⟩:=I.tuple e;obtain⟨j,n,m,F,E,D⟩:=Kg g;obtain⟨w,A,Xp⟩:=r.get m;have f:=r.length;have L:=Kf;have c:EP X C o Q w s:=⟨z,H,I,Xp,q⟩
 exact ka d.typeIs slot_tuple_getitem.lookup
  (getItem_tuple d (by omega) (by omega) (by rw[aU,<-f];exact n) (by simpa using A) ⟨rfl,c⟩) B
theorem Zii:IxR X Zla:=by
 intro a b E s C H x y v u Q I o n h w;obtain⟨z,i,c,rfl,rfl,B,l,q⟩:=h;obtain⟨t,rfl⟩:=o;obtain⟨t',rfl⟩:=n;obtain⟨j,d,p,A,m,k⟩:=Kg l;have f:z.cps.toList.length=z.length:=by simp[bH.length]
 rw[f] at d m k;have D:=Kf
 exact tail_any (typeIs_str s z t) slot_str_getitem.lookup (getItem_str (by
  have g:decide (i < -(2^63:Int))=aB:=decide_eq_false (by omega);have e:decide (i ≥ 2^63)=aB:=decide_eq_false (by omega);rw[g,e,Bool.or_false]) (by rw[d];simpa using p) ⟨.str ⟨#[c]⟩,H,I.tok _,⟨_,rfl⟩,q⟩) w
noncomputable def rIx(K:aH):R2:=λx y H Q=>Zih K x y H Q\/Zk9 K x y H Q\/Zla x y H Q
theorem Zij:IxR X (rIx X.K):=ix_list.or (ix_tup.or Zii)
theorem Ge(a:List aI)(n j:Nat)(u:aI):mj (·.setIfInBounds j u) { cls:=.type "list",data:=.seq a.toArray n }={ cls:=.type "list",data:=.seq (a.set j u).toArray n }:=by simp[mj]
theorem Inv.lst{b:List (aL×dU)}{c:St}{H:Hp}{s:aO}{p:aL}{xs:List V}(I:Inv X b c H s)(h:H p=ax (.lst xs)) :
  ∃(a:List aI) (n:Nat),Vals xs a/\s.heap.get? p=ax { cls:=.type "list",data:=.seq a.toArray n }/\xs.length<=sizeLine:=by
 obtain⟨z,a,n,r,e⟩:=I.hok p _ h;exact⟨a,n,r,e,z⟩
theorem Inv.lstUpd{k:List (aL×dU)}{j:St}{H:Hp}{s:aO}{p:aL}{xs d:List V}{i a:List aI}{n c:Nat}{f:dU->dU}(I:Inv X k j H s)(h:H p=ax (.lst xs))
  (m:s.heap.get? p=ax { cls:=.type "list",data:=.seq i.toArray n }) (g:f { cls:=.type "list",data:=.seq i.toArray n }={ cls:=.type "list",data:=.seq a.toArray c }) (r:Vals d a) (l:d.length<=sizeLine) (t:Nat) :
  Inv X k j (upd H p (.lst d)) { s with heap:=s.heap.update p f,toks:=t }:=by
 have e:(s.heap.update p f).get? p=ax { cls:=.type "list",data:=.seq a.toArray c }:=by rw[eO f m (by rw[g]<;>rfl),g]
 refine I.write (by rw[h];trivial) (.inl rfl) (λb u o q=>(kb _ _ (bX o)).trans q) ⟨_,e⟩ ?_;exact⟨l,a,c,r,e⟩
noncomputable def BQ:V->V->V->Hp->(Hp->Prop)->Prop:=λo i v H Q=>∃p xs k j,o = .ref p/\i = .int k/\H p=ax (.lst xs)/\J0 xs.length k=ax j/\Q (upd H p (.lst (xs.set j v)))
theorem WQ:Zkq X BQ:=by
 intro J s F H o i v E C u Q I B x z h;obtain⟨p,xs,k,j,rfl,rfl,e,y,q⟩:=h;cases B;obtain⟨t,rfl⟩:=x;obtain⟨w,n,r,d,A⟩:=I.lst e;obtain⟨a,D,m,f⟩:=Ea y;have b:=r.length;have G:=Kf
 have l:=
  I.lstUpd e d (Ge w n j u) (r.set z j) (by rw[cG];exact A) s.toks
 by_cases g:0<=k
 ·have c:k.toNat=j:=by rw[oI g f] at a;exact bC a
  exact PySem.W.ki_setAt d g (by omega) (by rw[aU,<-b];exact f) (by rw[c];exact⟨_,l,q⟩)
 ·have c:(k+(w.toArray.size:Int)).toNat=j:=by rw[nQ (by omega) m] at a;rw[aU,<-b];exact bC a
  exact PySem.W.ki_setBack d (by omega) (by rw[aU,<-b];exact m) (by omega) (by rw[c];exact⟨_,l,q⟩)
theorem Ki(lo a:Option Int)(n:Nat):(iE lo a aA n).1=((HT.sIx n 0 lo:Nat):Int)/\(iE lo a aA n).2.1=((HT.sIx n n a:Nat):Int)/\(iE lo a aA n).2.2=1:=by
 refine⟨?_,?_,rfl⟩
 ·cases lo with
  | none=>simp[iE,HT.sIx]
  | some i=>
   simp only[iE,HT.sIx,n9];by_cases h:i<0
   ·simp only[h,if_true]<;>omega
   ·simp only[h,if_false]<;>omega
 ·cases a with
  | none=>simp[iE,HT.sIx]
  | some i=>
   simp only[iE,HT.sIx,n9];by_cases h:i<0
   ·simp only[h,if_true]<;>omega
   ·simp only[h,if_false]<;>omega
theorem MK(a:List aI)(lo b:Option Int):slicePick a.toArray lo b aA=((a.drop (HT.sIx a.length 0 lo)).take (HT.sIx a.length a.length b-HT.sIx a.length 0 lo)).toArray:=by
 obtain⟨c,d,e⟩:=Ki lo b a.toArray.size;unfold slicePick;rw[c,d,e];simp only[sliceRange_one,pick_run]<;>rfl
noncomputable def Zns(K:aH):V->Option Int->Option Int->Hp->VK->Prop:=λx lo hi H Q=>∃a xs,x = .ref a/\SqL K H a xs/\∀p,H p=aA->Q (.ref p) (upd H p (.lst (DL xs lo hi)))
theorem Zdn:SlR X (Zns X.K):=by intro w s u H x v t p lo e m Q I i l f g h;obtain⟨a,xs,rfl,j,q⟩:=h;cases i;obtain⟨o,r,d,k⟩:=I.list j;have c:=r.length;refine⟨"list",_,slot_list_getitem.lookup,d.isList.typeIs,?_⟩;refine wpAny_getItem_list_slice d.isList l f g .none (by simp) ?_ (by rw[aU]<;>omega);rw[MK,<-c];refine⟨.ref s.heap.objs.size,_,I.laid (λb n q=>aK _ q) (aZ _) ?_,rfl,q _ (I.hok.fresh (aZ _))⟩;exact⟨cD (Q5 xs lo e) k,_,0,(r.drop (HT.sIx xs.length 0 lo)).take (HT.sIx xs.length xs.length e-HT.sIx xs.length 0 lo),ak _ rfl⟩
theorem Uc:XW X (.type "list") (λxs H Q=>∃p d,xs=[.ref p]/\(SqL X.K H p d\/SqT X.K H p d)/\∀l,H l=aA->Q (.ref l) (upd H l (.lst d))):=by
 intro z s y H xs A Q I r h;obtain⟨p,d,rfl,g,q⟩:=h;obtain⟨u,rfl,x⟩:=Sr r;cases x
 have j:∀(a:List aI),Vals d a->d.length<=sizeLine->∀(h':ba)(c:Nat),(∀b o',s.heap.get? b=ax o'->h'.get? b=ax o')->
   h'.get? s.heap.objs.size=ax { cls:=.type "list",dict:=aA,data:=.seq a.toArray c,slots:=#[] }->EP X z y Q (.ref s.heap.objs.size) { s with heap:=h' }:=λa f k h' c i e=>
  ⟨.ref s.heap.objs.size,_,I.laid i (aZ _) (show ObjOk X.prog X.w _ h' _ (.lst d) from⟨k,a,c,f,e⟩),rfl,q _ (I.hok.fresh (aZ _))⟩
 rcases g with g | g
 ·obtain⟨a,f,t,k⟩:=I.list g;have m:=f.length;obtain⟨o,w,v,n,hd⟩:=t.isList;exact call_list_seq p (.inl rfl) w v hd (λh' c i e=>j a f k h' c i e) (by simp only[aU]<;>omega)
 ·obtain⟨a,f,t,k⟩:=I.tuple g;have m:=f.length;obtain⟨o,w,v,n,hd⟩:=t;exact call_list_seq p (.inr rfl) w v hd (λh' c i e=>j a f k h' c i e) (by simp only[aU]<;>omega)
theorem Zu:XW X (.type "tuple") (λxs H Q=>∃p a,xs=[.ref p]/\((SqL X.K H p a/\∀l,H l=aA->Q (.ref l) (upd H l (.tup a)))\/(SqT X.K H p a/\Q (.ref p) H))):=by
 intro x s w H xs v Q I r h;obtain⟨p,a,rfl,h⟩:=h;obtain⟨u,rfl,n⟩:=Sr r;cases n;rcases h with⟨c,q⟩ | ⟨c,q⟩
 ·obtain⟨g,f,d,j⟩:=I.list c;have k:=f.length;refine call_tuple_list d.isList (λh' m=>?_) (by simp only[aU]<;>omega);have i:=I.kept (t':=s.toks) m
  have t:=
   i.laid (t':=s.toks) (λb o e=>aK _ e) (aZ _) (show ObjOk X.prog X.w _ _ _ (.tup a) from⟨⟨j,λo e=>OA e⟩,g,f,n6 _ _⟩)
  exact⟨.ref h'.objs.size,_,t,rfl,q _ (i.hok.fresh (aZ _))⟩
 ·obtain⟨g,f,d,j⟩:=I.tuple c;exact call_tuple_same d ⟨.ref p,H,I,rfl,q⟩
noncomputable def tyV(K:aH)(T:String)(x:V)(H:Hp):Prop:=match x with
 | .str _=>T = "str"
 | .int _=>T = "int"
 | .ref p=>(T = "list"/\∃xs,SqL K H p xs)\/(T = "tuple"/\∃o,K.lookup p=ax o/\o.cls = .type "tuple"/\o.dict=aA)\/
   (T = "dict"/\((∃p4,H p=ax (.dK p4))\/∃p4,H p=ax (.dT p4)))\/(T = "set"/\∃S n,H p=ax (.set S n))\/(T = "tuple"/\∃xs,H p=ax (.tup xs))
 | _=>False
theorem Zik{u:List (aL×dU)}{q:St}{H:Hp}{s:aO}{T:String}{x:V}{v:aI}(I:Inv X u q H s)(r:RelV x v)(ty:tyV X.K T x H) :
  s.TypeIs v T/\∀a,v = .ref a->∃ob,s.heap.get? a=ax ob/\ob.dict=aA:=by
 cases x with
 | str z=>
  obtain⟨t,rfl⟩:=r;cases (ty);exact⟨typeIs_str s z t,λ_ e=>nomatch e⟩
 | int i=>
  obtain⟨t,rfl⟩:=r;cases (ty);exact⟨kc s i t,λ_ e=>nomatch e⟩
 | ref p=>
  cases r;rcases ty with⟨rfl,xs,j⟩ | ⟨rfl,o,b,k,hd⟩ | ⟨rfl,b⟩ | ⟨rfl,S,n,b⟩ | ⟨rfl,xs,b⟩;rotate_left 4
  ·obtain⟨z,m,_,o,g,f,_⟩:=(I.hok p _ b);refine⟨⟨o,g,f⟩,λa e=>?_⟩;cases e;exact⟨o,g,z.2 o g⟩
  ·obtain⟨m,_,h,_⟩:=I.list j;refine⟨h.isList.typeIs,λa e=>?_⟩;cases e;obtain⟨o,n,e,c,hd,_⟩:=h;exact⟨o,e,hd⟩
  ·refine⟨⟨o,I.kIn p o b,k⟩,λa e=>?_⟩;cases e;exact⟨o,I.kIn _ o b,hd⟩
  ·have z:∃o,s.heap.get? p=ax o/\o.ExactDict:=by
    rcases b with⟨l,b⟩ | ⟨l,b⟩
    ·obtain⟨_,_,_,_,o,_,_,e,d,_⟩:=I.hok p _ b;exact⟨o,e,d⟩
    ·obtain⟨_,_,_,_,o,_,_,e,d,_⟩:=I.hok p _ b;exact⟨o,e,d⟩
   obtain⟨o,e,d⟩:=z;refine⟨⟨o,e,d.1⟩,λa f=>?_⟩;cases f;exact⟨o,e,d.2.1⟩
  ·obtain⟨o,_,_,_,e,d,_⟩:=I.hok p _ b;refine⟨⟨o,e,d.1⟩,λa f=>?_⟩;cases f;exact⟨o,e,d.2.1⟩
 | _=>exact dD ty
noncomputable def tBM(K:aH)(T:String)(r:V->List V->Hp->VK->Prop)(to:TE)(t:TA):TE:=λσ H Q=>to σ H λx H1=>tyV K T x H1/\t σ H1 λxs H2=>r x xs H2 Q
variable {o e:bO} {es:List bO} {to:TE} {t:TA} {name:bH} {apos p5:dw} {T id:String} {r:V->List V->Hp->VK->Prop}
theorem WR(y:PlainAttrs T)(d:Slot T name id)(g:typeOf (.builtin id)=pure (.type "method_descriptor"))(B:MtR X id r)(G:PE X o to)(p:PA X (e::es) t)
  (c:mY o name X.env (eval o X.env)=eval o X.env:=by rfl)
  (f:((dC p5 (aP (e::es) X.env)).all (λx=>!x.1)&&(o4 p5 (lZ [] X.env)).all (λx=>x.1.isSome)
   &&decide ((e::es).length+([]:List mN).length+(if([]:List mN).isEmpty then 0 else 1)<30))=aC:=by rfl)
  (b:(apos.endLine==p5.line)=aC:=by rfl) (E:aP (e::es) X.env=(aB,eval e X.env)::aP es X.env:=by rfl) (a:(dC p5 (aP es X.env)).any (·.1)=aB:=by rfl) :
  PE X (.Call (.Attribute o name apos) (e::es) [] p5) (tBM X.K T r to t):=by
 intro j s i H Q I h;refine wpAny_Call_method_late c f b rfl (Yo (G j s i H _ I h) λv s1 ⟨x,C,l,m,ty,u⟩=>?_);obtain⟨z,w⟩:=Zik l m ty;refine⟨T,id,y,d,g,z,w,?_⟩;have k:=p p5 j s1 i C _ l u;rw[E] at k ⊢;refine kd (by show(aB || (dC p5 (aP es X.env)).any (·.1))=aB;rw[a]<;>rfl) (l6 ?_);exact Yo k λq s2 ⟨vs,A,F,D,n⟩=>B j s2 i A x vs v q Q F m D n
end
noncomputable def MtM(X:Cx)(id:String)(r:V->List V->Hp->VK->Prop):Prop:=
 ∀(p0:List (aL×dU))(s:aO)(σ:St)(H:Hp)(x:V)(xs:List V)(v:aI)(us:List aI)(Q:VK),Inv X p0 σ H s->RelV x v->Vals xs us->r x xs H Q->
  bJ (model X.prog X.w) X.A (call (.builtin id) (v::us)) (EP X p0 σ Q) X.xe s
theorem Vals.one:∀{x:V}{us:List aI},Vals [x] us->∃u,us=[u]/\RelV x u
 | _,_,.cons r .nil=>⟨_,rfl,r⟩
theorem Vals.two:∀{x y:V}{us:List aI},Vals [x,y] us->∃u v,us=[u,v]/\RelV x u/\RelV y v
 | _,_,_,.cons r (.cons q .nil)=>⟨_,_,rfl,r,q⟩
theorem Vals.dropLast{xs:List V}{a:List aI}(h:Vals xs a):Vals xs.dropLast a.dropLast:=by
 induction h with
 | nil=>exact .nil
 | cons r t ih=>
  cases t with
  | nil=>exact .nil
  | cons q t'=>exact .cons r ih
theorem Vals.eraseIdx:∀{xs:List V}{us:List aI}(i:Nat),Vals xs us->Vals (xs.eraseIdx i) (us.eraseIdx i)
 | _,_,_,.nil=>.nil
 | _,_,0,.cons _ t=>t
 | _,_,i+1,.cons r t=>.cons r (Vals.eraseIdx i t)
theorem Vals.rep{xs:List V}{a:List aI}(h:Vals xs a):∀k:Nat,Vals (aS k xs).flatten (aS k a).flatten
 | 0=>.nil
 | k+1=>by rw[dS,dS,gL,gL];exact Vals.append h (Vals.rep h k)
theorem Lc{a:Type}:∀(l:List a)(i:Nat),(l.eraseIdx i).length<=l.length
 | [],_=>aZ _
 | _::_,0=>iG _
 | _::r,i+1=>ng (Lc r i)
theorem Qa(a:List aI):∀(k:Nat)(acc:List aI),
  ml (λd c=>d++c) acc.toArray (aS k a.toArray)=(acc++(aS k a).flatten).toArray
 | 0,acc=>by simp
 | k+1,acc=>by
  have e:acc.toArray++a.toArray=(acc++a).toArray:=by simp
  have b:(acc++a)++(aS k a).flatten=acc++(aS (k+1) a).flatten:=by rw[dS,gL,dj]
  rw[<-b,<-Qa a k (acc++a),<-e,dS,gy]
section
variable {X:Cx} {p0:List (aL×dU)} {σ:St} {H:Hp} {s:aO} {l b:aL} {xs ys zs:List V}
theorem Inv.lset{b a:List aI}{n:Nat}{f:Array aI->Array aI}{t':Nat}(I:Inv X p0 σ H s)(i:H l=ax (.lst xs))
  (e:s.heap.get? l=ax { cls:=.type "list",data:=.seq b.toArray n }) (h:f b.toArray=a.toArray) (j:Vals ys a) (d:ys.length<=sizeLine) :
  Inv X p0 σ (upd H l (.lst ys)) { s with heap:=s.heap.update l (mj f),toks:=t' }:=by
 have q:=PySem.IsL.update e f;rw[h] at q;refine I.write (by rw[i];exact trivial) (.inl rfl) (λk u g c=>(kb s.heap (mj f) (bX g)).trans c) ⟨_,q⟩ ?_;exact⟨d,a,_,j,q⟩
theorem Inv.lnew{a:List aI}{t':Nat}(I:Inv X p0 σ H s)(c:Vals ys a)(b:ys.length<=sizeLine) :
  Inv X p0 σ (upd H s.heap.objs.size (.lst ys)) { s with heap:=s.heap.push { cls:=.type "list",data:=.seq a.toArray },toks:=t' }:=
 I.laid (λ_ _ q=>aK _ q) (aZ _) ⟨b,a,0,c,ak _ rfl⟩
theorem Inv.fresh(I:Inv X p0 σ H s):H s.heap.objs.size=aA:=I.hok.fresh (aZ _)
theorem Inv.lstM(I:Inv X p0 σ H s)(b:H l=ax (.lst xs)):xs.length<=sizeLine/\∃(a:List aI) (n:Nat),Vals xs a/\xs.length=a.length/\s.heap.get? l=ax { cls:=.type "list",data:=.seq a.toArray n }:=by obtain⟨z,a,n,r,e⟩:=I.hok l _ b;exact⟨z,a,n,r,r.length,e⟩
theorem J2{n:Nat}(h:n<=sizeLine):gp n=aB:=by exact decide_eq_false (by omega)
end
section
variable {X:Cx}
noncomputable def Eb:V->List V->Hp->VK->Prop:=λx vs H Q=>∃l xs y,x = .ref l/\vs=[y]/\H l=ax (.lst xs)/\xs.length<sizeLine/\Q .non (upd H l (.lst (xs++[y])))
theorem Xa:MtM X "list.append" Eb:=by intro m s k H x vs v i Q I b c h;obtain⟨l,xs,y,rfl,rfl,a,j,q⟩:=h;cases b;obtain⟨u,rfl,f⟩:=c.one;obtain⟨z,d,n,r,g,e⟩:=I.lstM a;refine fY F.slot_list_append ⟨_,e,rfl⟩ F.entry_list_append (F.args_list_append_2 _ _) (PySem.list_append l d.toArray n u (by rw[aU];omega)) ⟨e,?_⟩;refine⟨.non,_,I.lset a e (by simp) (r.append (.cons f .nil)) ?_,rfl,q⟩;rw[aT,bu];omega
noncomputable def Ec:V->List V->Hp->VK->Prop:=λx vs H Q=>∃l b xs zs,x = .ref l/\vs=[.ref b]/\H l=ax (.lst xs)/\H b=ax (.lst zs)/\xs.length+zs.length<=sizeLine/\Q .non (upd H l (.lst (xs++zs)))
theorem Ld:MtM X "list.extend" Ec:=by
 intro G s E H x vs v B Q I k m h;obtain⟨l,b,xs,A,rfl,rfl,g,j,C,q⟩:=h;cases k;obtain⟨u,rfl,t⟩:=m.one;cases t;obtain⟨z,d,n,r,y,e⟩:=I.lstM g;obtain⟨D,a,o,p,w,i⟩:=I.lstM j;have f:d.toArray.size+a.toArray.size<=sizeLine:=by rw[aU,aU];omega
 have c:¬(!d.toArray.isEmpty&&gp (d.toArray.size+a.toArray.size))=aC:=by rw[J2 f,Bool.and_false];exact bx
 refine fY F.slot_list_extend ⟨_,e,rfl⟩ F.entry_list_extend (F.args_list_extend_2 _ _)
  (AutoSeq1.list_extend_list_list_0 l d.toArray n b a.toArray o c (by omega) (by omega)) ⟨e,i,?_⟩
 refine⟨.non,_,I.lset g e (by simp) (r.append p) ?_,rfl,q⟩;rw[aT];omega
noncomputable def BR:V->List V->Hp->VK->Prop:=λx vs H Q=>∃l xs i k y,x = .ref l/\vs=[.int i]/\H l=ax (.lst xs)/\-(2^63)<=i/\i<2^63/\n8 i xs.length=ax k/\xs[k]?=ax y/\Q y (upd H l (.lst (xs.eraseIdx k)))
theorem BS:MtM X "list.pop" BR:=by
 intro D s C H x vs v B Q I d f h;obtain⟨l,xs,i,k,y,rfl,rfl,b,m,g,o,A,q⟩:=h;cases d;obtain⟨u,rfl,p⟩:=f.one;obtain⟨t,rfl⟩:=p;obtain⟨z,a,n,r,c,e⟩:=I.lstM b;obtain⟨w,j,Xp⟩:=r.get A
 refine fY F.slot_list_pop ⟨_,e,rfl⟩ F.entry_list_pop (F.args_list_pop_2 _ _)
  (MeetsSeq.list_pop_at l a.toArray n i t k w (l8 m g) (by rw[aU,<-c];exact o) (by rw[<-dZ];exact j) (by rw[aU];omega)) ⟨e,?_⟩
 refine⟨y,_,I.lset b e ?_ (r.eraseIdx k) ?_,Xp,q⟩
 ·show a.toArray.eraseIdxIfInBounds k=(a.eraseIdx k).toArray;rw[List.eraseIdxIfInBounds_toArray]
 ·have:=Lc xs k;omega
noncomputable def Zlc:R2:=λx y H Q=>∃l b xs zs,x = .ref l/\y = .ref b/\H l=ax (.lst xs)/\H b=ax (.lst zs)/\xs.length+zs.length<=sizeLine/\∀p,H p=aA->Q (.ref p) (upd H p (.lst (xs++zs)))
theorem BU:TH X (dy .Add) Zlc:=by
 intro C s A H x y v u Q I i g h;obtain⟨l,b,xs,p,rfl,rfl,j,f,t,q⟩:=h;cases i;cases g;obtain⟨z,c,n,r,o,e⟩:=I.lstM j;obtain⟨w,a,B,k,m,d⟩:=I.lstM f;refine PySem.P.add_list e d ?_ (by rw[aU,aU];omega);have ea:c.toArray++a.toArray=(c++a).toArray:=by simp
 rw[ea];exact⟨.ref _,_,I.lnew (r.append k) (by rw[aT];omega),rfl,q _ I.fresh⟩
noncomputable def Znu:R2:=λx y H Q=>∃l k xs,x = .ref l/\y = .int k/\H l=ax (.lst xs)/\-(2^63)<=k/\k<2^63/\xs.length*k.toNat<=sizeLine/\
 ∀p,H p=aA->Q (.ref p) (upd H p (.lst (aS k.toNat xs).flatten))
theorem Kj{a:Type}(xs:List a)(k:Nat):(aS k xs).flatten.length=k*xs.length:=by simp
theorem Zil:TH X (dy .Mult) Znu:=by
 intro M s L H x y v u Q I B w h;obtain⟨l,k,xs,rfl,rfl,E,G,C,j,q⟩:=h;cases B;obtain⟨t,rfl⟩:=w;obtain⟨z,b,n,r,o,e⟩:=I.lstM E;have g:b.toArray.size*k.toNat<=sizeLine:=by rw[aU,<-o];exact j
 have f:¬b.toArray.size*k.toNat>(2^63-1)/8:=by
  have:(sizeLine:Nat)<=(2^63-1)/8:=by decide
  omega
 have d:¬(!Builtin.List.listFitsIndex k)=aC:=by rw[l8 G C];exact bx
 have c:¬gp (b.toArray.size*k.toNat)=aC:=by rw[J2 g];exact bx
 have i:ml (λD A=>D++A) #[] (aS (if b.toArray.isEmpty=aC then 0 else k.toNat) b.toArray)=(aS k.toNat b).flatten.toArray:=by
  have p:=λm=>by have:=Qa b m [];rw[lE] at this;exact this
  rw[p]
  cases b with
  | nil=>simp
  | cons a r'=>rw[pW (by simp)]
 refine je rfl ⟨_,e,rfl⟩ (λJ=>kc J k t) noFill_list_mul F.fills_int_mul F.slot_int_rmul repeat_list F.slot_int_index.lookup
  (fY F.slot_int_rmul (kc s k t) F.entry_int_rmul (F.args_int_rmul_2 _ _) (int___rmul___int_list k t l b.toArray n)
   ⟨e,rfl,⟨_,e,rfl⟩,fY F.slot_list_mul ⟨_,e,rfl⟩ F.entry_list_mul (F.args_list_mul_2 _ _) (AutoListH.list___mul___list_int_3 l b.toArray n k t d f c) ⟨e,?_⟩⟩)
 rw[i];exact⟨.ref _,_,I.lnew (r.rep k.toNat) (by rw[Kj,nR];exact j),rfl,q _ I.fresh⟩
end
end L2
namespace Att
open PySem PySem.W PySem.Calls PyProof.Rows
theorem Pr{P:Params}{h:ba}:∀(ns:List Int)(vs:List aI),WellAll P h vs (ns.map nh)->i7 vs ns:=by
 intro ns
 induction ns with
 | nil=>
  intro vs w;cases w;exact .nil
 | cons n ns ih=>
  intro vs w
  cases w with
  | cons a b=>
   cases a;exact .cons _ _ (ih _ b)
theorem script_of{l:OpenLaw}{n:Nat}(s:l.most=ax n){P:Params}{h:ba}{b:List WData}{e:List aI}
  (c:l.row.toRowW.claim.pre b=aC) (k:WellAll P h e b) :
  ∃a vs ns,e=[jW a]/\b=[WData.list (ns.map nh)]/\h.get? a=ax { cls:=.type "list",data:=.seq vs.toArray }/\i7 vs ns/\ns.length<=n:=by
 have j:=(pre_splitW c).1;have q:=(pre_splitW c).2;obtain⟨d,r,rfl,p,m⟩:=hasAllW_cons j;obtain rfl:=hasAllW_nil m;obtain⟨xs,rfl,o⟩:=hasW_list p;obtain⟨ns,rfl⟩:=items_int o
 have f:ns.length<=n:=by
  have g:(WTm.not (.lt (.lit (.int (n:Int))) (.len (.arg 0)))).holds [] { args:=[.list (ns.map .int)] }=aC:=by have g:=(holds_andW q).1;rw[s] at g;exact g
  have i:=condW_of g (w_not (w_lt w_lit (w_len_list (w_arg rfl))))
  first
   | (rw[decide_eq_true q'] at i;exact absurd i rfl)
   | (simp at i;omega)
 cases k with
 | cons w1 w2=>
  cases w2
  cases w1 with
  | list ho hall=>exact⟨_,_,ns,rfl,rfl,ho,Pr ns _ hall,f⟩
theorem post_true(l:OpenLaw)(a:List WData):l.row.toRowW.claim.post a (.bool aC) a=aC:=
 postW_of
  (show WShape.has [] (.bool aC) .bool=aC by first | rfl | decide | simp[WShape.arms])
  (w_eq_bool (w_res rfl) w_lit) rfl
end Att
namespace L2
open PySem PySem.Spec PyProof.Rows
section
variable {κ:Type} [DecidableEq κ]
noncomputable def S7(p4:List (κ×V))(k:κ):Option V:=(p4.find? λkv=>decide (kv.1=k)).map (·.2)
noncomputable def UQ(p4:List (κ×V))(k:κ)(v:V):List (κ×V):=
 if(p4.any λkv=>decide (kv.1=k))=aC then p4.map (λkv=>if kv.1=k then(kv.1,v) else kv) else p4++[(k,v)]
theorem S8{p:κ×V}{r:List (κ×V)}{k:κ}(e:p.1=k):S7 (p::r) k=ax p.2:=by simp[S7,e]
theorem S9{p:κ×V}{r:List (κ×V)}{k:κ}(e:¬p.1=k):S7 (p::r) k=S7 r k:=by simp[S7,e]
theorem J3(k:κ):∀p4:List (κ×V),(p4.any λa=>decide (a.1=k))=(S7 p4 k).isSome
 | []=>rfl
 | p::r=>by
  rw[mZ];by_cases e:p.1=k
  ·simp only[S8 e,decide_eq_true e,Bool.true_or,Option.isSome_some]
  ·rw[S9 e,decide_eq_false e,Bool.false_or];exact J3 k r
theorem UY(a:List (κ×V))(k:κ)(v:V):(UQ a k v).length<=a.length+1:=by
 unfold UQ;split
 ·rw[aJ];omega
 ·rw[aT,az,jE];omega
theorem RelO.isSome_eq{o:Option V}{u:Option aI}(r:RelO o u):o.isSome=u.isSome:=by
 cases o with
 | none=>cases u with
  | none=>rfl
  | some _=>exact(r).elim
 | some _=>cases u with
  | none=>exact(r).elim
  | some _=>rfl
theorem RelO.getD{o:Option V}{u:Option aI}{d:V}{a:aI}(r:RelO o u)(b:RelV d a):RelV (o.getD d) (u.getD a):=by
 cases o with
 | none=>cases u with
  | none=>exact b
  | some _=>exact(show False from r).elim
 | some _=>cases u with
  | none=>exact(show False from r).elim
  | some _=>exact r
theorem KV.val{d:List (κ×V)}{vs:List (κ×aI)}(r:KV d vs)(k:κ):RelO (S7 d k) (nS vs k):=by
 induction r with
 | nil=>exact b8
 | @cons p q ps qs h t ih=>
  obtain⟨c,f⟩:=h;by_cases e:p.1=k
  ·have a:=c.symm.trans e;have b:nS (q::qs) k=ax q.2:=by simp[nS,a]
   rw[S8 e,b];exact f
  ·have a:¬q.1=k:=λz=>e (c.trans z);have b:nS (q::qs) k=nS qs k:=by simp[nS,a]
   rw[S9 e,b];exact ih
theorem KV.any{b:List (κ×V)}{vs:List (κ×aI)}(r:KV b vs)(k:κ):(b.any λa=>decide (a.1=k))=vs.any λa=>decide (a.1=k):=by
 unfold KV at r
 induction r with
 | nil=>rfl
 | cons h t ih=>rw[mZ,mZ,ih,h.1]
theorem KV.repl{c:List (κ×V)}{vs:List (κ×aI)}(r:KV c vs)(k:κ){y:V}{u:aI}(d:RelV y u) :
  KV (c.map λa=>if a.1=k then(a.1,y) else a) (vs.map λa=>if a.1=k then(a.1,u) else a):=by
 induction r with
 | nil=>exact .nil
 | @cons p q ps qs h t ih=>
  rw[af,af];refine .cons ?_ ih;obtain⟨b,f⟩:=h;by_cases e:p.1=k
  ·rw[p9 e,p9 (b.symm.trans e)];exact⟨b,d⟩
  ·rw[pW e,pW (λz=>e (b.trans z))];exact⟨b,f⟩
theorem KV.put{b:List (κ×V)}{vs:List (κ×aI)}(r:KV b vs)(k:κ){y:V}{u:aI}(a:RelV y u):KV (UQ b k y) (stored vs k u):=by
 unfold UQ stored;rw[r.any k];by_cases e:(vs.any λc=>decide (c.1=k))=aC
 ·rw[p9 e,p9 e];exact r.repl k a
 ·rw[pW e,pW e];exact Paired.snoc r ⟨rfl,a⟩
theorem KV.length{a:List (κ×V)}{vs:List (κ×aI)}(r:KV a vs):a.length=vs.length:=Paired.length r
end
theorem Lf{P:bM}{w:bc}{k:Y8}{u:aI}(r:RelV (kV k) u):(Yv P w).is k u=aC:=by
 cases k with
 | inl i=>obtain⟨t,e⟩:=(r);subst e;exact JR P w i t
 | inr x=>obtain⟨t,e⟩:=(r);subst e;exact JS P w x t
theorem Lg{P:bM}{w:bc}:∀{ks:List Y8}{us:List aI},Vals (ks.map kV) us->ItemsAre (Yv P w) ks us
 | [],_,r=>by rw[fX] at r;cases r;exact .nil
 | k::ks,_,r=>by
  rw[af] at r
  cases r with
  | cons h t=>exact .cons (Lf h) (Lg t)
abbrev KT(H:Hp):List (List Y8×V)->List (List Y8×aL×aI)->Prop:=Paired λp q=>p.1=q.1/\H q.2.1=ax (.tup (p.1.map kV))/\RelV p.2 q.2.2
theorem KT.val{H:Hp}{d:List (List Y8×V)}{xs:List (List Y8×aL×aI)}(r:KT H d xs)(k:List Y8):RelO (S7 d k) ((o8 xs k).map (·.2)):=by
 induction r with
 | nil=>exact b8
 | @cons p q ps qs h t ih=>
  obtain⟨c,_,f⟩:=h;by_cases e:p.1=k
  ·have a:=c.symm.trans e;have b:o8 (q::qs) k=ax q.2:=by simp[o8,a]
   rw[S8 e,b];exact f
  ·have a:¬q.1=k:=λz=>e (c.trans z);have b:o8 (q::qs) k=o8 qs k:=by simp[o8,a]
   rw[S9 e,b];exact ih
theorem KT.repl{H:Hp}{c:List (List Y8×V)}{xs:List (List Y8×aL×aI)}(r:KT H c xs)(k:List Y8){y:V}{u:aI}(f:RelV y u) :
  KT H (c.map λb=>if b.1=k then(b.1,y) else b) (xs.map (putAt k u)):=by
 induction r with
 | nil=>exact .nil
 | @cons p q ps qs h t ih=>
  rw[af];refine .cons ?_ ih;obtain⟨a,d,g⟩:=h;unfold putAt;by_cases e:p.1=k
  ·rw[p9 e,p9 (a.symm.trans e)];exact⟨a,d,f⟩
  ·rw[pW e,pW (λz=>e (a.trans z))];exact⟨a,d,g⟩
theorem KT.put{H:Hp}{a:List (List Y8×V)}{xs:List (List Y8×aL×aI)}(r:KT H a xs)(k:List Y8){b:aL}{y:V}{u:aI}(f:H b=ax (.tup (k.map kV)))(c:RelV y u) :
  KT H (UQ a k y) (storedH xs k b u):=by
 have e:(a.any λd=>decide (d.1=k))=(o8 xs k).isSome:=by rw[J3,(r.val k).isSome_eq,nT]
 unfold UQ storedH;rw[e];by_cases q:(o8 xs k).isSome=aC
 ·rw[p9 q,p9 q];exact r.repl k c
 ·rw[pW q,pW q];exact Paired.snoc r ⟨rfl,f,c⟩
theorem KT.keeps{H a:Hp}{c:List (List Y8×V)}{xs:List (List Y8×aL×aI)}(r:KT H c xs)(d:∀b ys,H b=ax (.tup ys)->a b=ax (.tup ys)):KT a c xs:=
 Paired.mapP r λ_ _ z=>⟨z.1,d _ _ z.2.1,z.2.2⟩
section
variable {P:bM} {w:bc} {H:Hp} {h:ba} {a:aL}
theorem Zg1{u:HO}(ok:HOk P w H h)(e:Rd H a u):ObjOk P w H h a u:=e.ok ok
theorem Lh{b:List (Y8×V)}(ok:HOk P w H h)(e:Rd H a (.dK b)):b.length<=sizeLine/\(a==fG)=aB/\∃vs,KV b vs/\h.DictOf (Yv P w) a vs:=
 Zg1 ok e
theorem Zg2{b:List (Y8×V)}(ok:HOk P w H h)(e:H a=ax (.dK b)):b.length<=sizeLine/\(a==fG)=aB/\∃vs,KV b vs/\h.DictOf (Yv P w) a vs:=Lh ok (.inl e)
theorem OE{b:List Y8}(ok:HOk P w H h)(e:H a=ax (.tup (b.map kV))):(kM (Yv P w)).is h b a:=by obtain⟨_,d,r,o,c,f,n,g⟩:=(ok a _ e);exact⟨o,d.toArray,n,c,f,g,by simpa using Lg r⟩
theorem Li{c:List (List Y8×V)}(ok:HOk P w H h)(e:Rd H a (.dT c)):c.length<=sizeLine/\(a==fG)=aB/\
  ∃xs,KT H c xs/\h.DictOfH (kM (Yv P w)) a xs:=by
 obtain⟨z,y,xs,r,o,k,ep,j,g,i,f,d⟩:=(Zg1 ok e);refine⟨z,y,xs,r,o,k,ep,j,g,i,f,λx b=>?_,d⟩
 have all:∀{l:List (List Y8×V)}{m:List (List Y8×aL×aI)},KT H l m->∀x∈m,(kM (Yv P w)).is h x.1 x.2.1:=by
  intro l m q
  induction q with
  | nil=>intro x b;exact nomatch b
  | @cons p q ps qs hq t ih=>
   intro x b;rcases aa.mp b with e | b
   ·subst e;exact OE ok (by rw[<-hq.1];exact hq.2.1)
   ·exact ih x b
 exact all r x b
theorem Zld{b:List (List Y8×V)}(ok:HOk P w H h)(e:H a=ax (.dT b)):b.length<=sizeLine/\(a==fG)=aB/\
  ∃xs,KT H b xs/\h.DictOfH (kM (Yv P w)) a xs:=Li ok (.inl e)
end
noncomputable def J4(H:Hp)(a:aL)(y:V)(r:Option V):Prop:=
 (∃p4 k,Rd H a (.dK p4)/\y=kV k/\r=S7 p4 k)\/∃p4 k b,Rd H a (.dT p4)/\y = .ref b/\H b=ax (.tup (k.map kV))/\r=S7 p4 k
noncomputable def Zle(H:Hp)(a:aL)(y v:V)(H':Hp):Prop:=
 (∃p4 k,H a=ax (.dK p4)/\y=kV k/\p4.length<sizeLine/\H'=upd H a (.dK (UQ p4 k v)))\/
 ∃p4 k b,H a=ax (.dT p4)/\y = .ref b/\H b=ax (.tup (k.map kV))/\p4.length<sizeLine/\H'=upd H a (.dT (UQ p4 k v))
section
variable {X:Cx} {p0:List (aL×dU)} {σ:St} {H:Hp} {s:aO} {a:aL} {y v:V} {u r:aI} {o:Option V} {A:bq} {E:aI->aO->Prop}
theorem Inv.big(I:Inv X p0 σ H s):fG<s.heap.objs.size:=by have h:=(I.mod.glob.keeps I.bk).lt;exact nU (by decide) h
theorem DM{Q:aI->aO->Prop}(t:A.units+1<dz)(I:Inv X p0 σ H s)(g:J4 H a y (ax v))(n:RelV y u)(h:∀d s',Inv X p0 σ H s'->RelV v d->Q d s') :
  bJ (model X.prog X.w) A (k9 (.ref a) u) Q E s:=by
 rcases g with⟨q,k,e,m,l⟩ | ⟨q,k,b,e,m,w,l⟩
 ·subst m;obtain⟨z,hd,vs,c,j⟩:=Lh I.hok e;obtain⟨d,i,Xp⟩:=RelO.some_of (by rw[l];exact c.val k);exact wpAny_getItem_of (Lf n) j.mapOf i (h d _ (I.tok _) Xp)
 ·subst m;cases (n);obtain⟨z,hd,xs,c,j⟩:=Li I.hok e;obtain⟨d,i,Xp⟩:=RelO.some_of (by rw[l];exact c.val k);obtain⟨p,o,f⟩:=ke.mp i;refine wpAny_getItem_heap (iA t) (OE I.hok w) j o ?_;rw[f];exact h d _ (I.tok _) Xp
theorem Zdo{Q:aI->aO->Prop}(m:A.units+1<dz)(I:Inv X p0 σ H s)(g:J4 H a y o)(i:RelV y u)(h:∀s',Inv X p0 σ H s'->Q (.bool (!o.isSome)) s') :
  bJ (model X.prog X.w) A (dH .NotIn u (.ref a)) Q E s:=by
 rcases g with⟨j,k,e,f,l⟩ | ⟨j,k,b,e,f,n,l⟩
 ·subst f;obtain⟨z,hd,vs,c,d⟩:=Lh I.hok e;refine wpAny_notIn_of (Lf i) hd d.mapOf ?_;rw[<-(c.val k).isSome_eq,<-l];exact h _ (I.tok _)
 ·subst f;cases (i);obtain⟨z,hd,xs,c,d⟩:=Li I.hok e;refine wpAny_notIn_heap (iA m) (OE I.hok n) hd d ?_;have q:=(c.val k).isSome_eq;rw[nT] at q;rw[<-q,<-l];exact h _ (I.tok _)
theorem Kk{h':ba}{t':Nat}{c:HO}(I:Inv X p0 σ H s)(g:UU (H a))(d:cP a s.heap h')(f:∃q,h'.get? a=ax q)(new:ObjOk X.prog X.w (upd H a c) h' a c) :
  Inv X p0 σ (upd H a c) { s with heap:=h',toks:=t' }:=
 I.write g (.inl rfl) (λb q e z=>(d.2 b e).trans z) f new
theorem BV{P:bM}{w:bc}{e:Hp}{h':ba}{b:List (Y8×V)}{vs:List (Y8×aI)}(z:b.length<=sizeLine)(hd:(a==fG)=aB)(c:KV b vs)(d:h'.DictOf (Yv P w) a vs) :
  ObjOk P w e h' a (.dK b):=⟨z,hd,vs,c,d⟩
theorem DN{B:Hp}{Q:Unit->aO->Prop}(O:A.units+1<dz)(I:Inv X p0 σ H s)(g:Zle H a y v B)(w:RelV y u)(x:RelV v r)(h:∀s',Inv X p0 σ B s'->Q () s') :
  bJ (model X.prog X.w) A (setItem (.ref a) u r) Q E s:=by
 rcases g with⟨i,k,e,t,l,n⟩ | ⟨i,k,b,e,t,D,l,n⟩
 ·subst t n;obtain⟨z,hd,vs,d,p⟩:=Zg2 I.hok e;have N:vs.length<=sizeLine:=by rw[<-d.length];exact z
  have m:(UQ i k v).length<=sizeLine:=by have:=UY i k v;omega
  refine wpAny_setItem_pairs (Lf w) p λh' f o=>h _ ?_;have G:∃q,h'.get? a=ax q:=let⟨q,_,_,j,_⟩:=f;⟨q,j⟩;exact Kk I (by rw[e];exact b8) o G (BV m hd (d.put k x) f)
 ·subst t n;cases (w);obtain⟨z,hd,xs,d,p⟩:=Zld I.hok e;have N:xs.length<=sizeLine:=by rw[<-Paired.length d];exact z
  have m:(UQ i k v).length<=sizeLine:=by have:=UY i k v;omega
  refine wpAny_setItem_heap (iA O) (OE I.hok D) p λh' f o=>h _ ?_;obtain⟨q,P,ep,j,L,M,J,_,F⟩:=f;refine Kk I (by rw[e];exact b8) o ⟨q,j⟩ ⟨m,hd,_,(d.put k D x).keeps λc R C=>?_,q,P,ep,j,L,M,J,F⟩;rw[upd_ne (Zki C e (λz=>nomatch z))];exact C
end
noncomputable def Zim(i:bO):Prop:=∀ov iv,subscripted i aB ov iv=operate [ov,iv] (k9 ov iv)
theorem Zdp{prog:bM}{w:bc}{A:bq}{E:aI->aO->Prop}{s:aO}{env:ma}{b a:bO}{pos:dw}{T id:String}{Q:aI->aO->Prop}
  (l:typeLookup (.type T) "__getitem__" = pure (ax (.builtin id))) (m:Zim a)
  (h:bJ (model prog w) A (eval b env) (λo f=>bJ (model prog w) A (eval a env) (λi c=>c.TypeIs o T/\bJ (model prog w) A (k9 o i) Q E c) E f) E s) :
  bJ (model prog w) A (eval (.Subscript b a pos) env) Q E s:=by
 refine o7 (cU h (λo f h₁=>cU h₁ (λi c d=>?_) λ_ _ x=>x) λ_ _ x=>x);obtain⟨k,d⟩:=d;refine aG ?_;refine aG (wpAny_specialOf k l ?_);have g:bJ (model prog w) A (subscripted a aB o i) (λr e=>bJ (model prog w) A (letTemporaryGo b o r >>= λ_=>pure r) Q E e) E c:=by rw[m o i];exact wpAny_operating (cU d (λr e j=>aG (wpAny_letTemporaryGo (aW j))) λ_ _ x=>x)
 first
  | exact aW (aG g)
  | exact aG (aW (aG g))
  | exact aG g
theorem J5{X:Cx}{f:List (aL×dU)}{h:St}{H:Hp}{s:aO}{a:aL}{y:V}{o:Option V}(I:Inv X f h H s)(g:J4 H a y o):s.TypeIs (.ref a) "dict":=by
 rcases g with⟨d,k,e,_,_⟩ | ⟨d,k,b,e,_,_,_⟩
 ·obtain⟨_,_,vs,_,c⟩:=Lh I.hok e;exact c.typeIs
 ·obtain⟨_,_,xs,_,c⟩:=Li I.hok e;exact c.typeIs
noncomputable def Zg3(td ty:TE):TE:=λσ H Q=>td σ H λx H1=>ty σ H1 λy H2=>∃a v,x = .ref a/\J4 H2 a y (ax v)/\Q v H2
noncomputable def Ed(ty td:TE):TE:=λσ H Q=>ty σ H λy H1=>td σ H1 λx H2=>∃a o,x = .ref a/\J4 H2 a y o/\Q (.bl (!o.isSome)) H2
noncomputable def sDPut(td ty tv:TE):TS:=λD σ H=>tv σ H λv H1=>td σ H1 λx H2=>ty σ H2 λy H3=>∃a H4,x = .ref a/\Zle H3 a y v H4/\D.nx σ H4
section
variable {X:Cx} {o i e value:bO} {pos pos' tpos:dw} {td ty tv:TE}
theorem Zdq(A:X.A.units+1<dz)(z:PE X o td)(n:PE X i ty)(w:Zim i):PE X (.Subscript o i pos) (Zg3 td ty):=by intro d s b H Q I h;refine Zdp PySem.F.slot_dict_getitem.lookup w (Yo (z d s b H _ I h) λu s1 ⟨x,t,q,k,l⟩=>Yo (n d s1 b t _ q l) λB s2 ⟨y,m,c,j,a,v,e,g,f⟩=>?_);subst e;obtain rfl:=k;exact⟨J5 c g,DM A c g j λC D p Xp=>⟨v,m,p,Xp,f⟩⟩
theorem DO(z:X.A.units+1<dz)(n:PE X i ty)(w:PE X o td):PC X .NotIn i o (Ed ty td):=by intro c s b H Q I h;refine Yo (n c s b H _ I h) λA s1 ⟨y,t,q,f,k⟩=>Yo (w c s1 b t _ q k) λu s2 ⟨x,m,v,j,a,l,d,g,e⟩=>?_;subst d;obtain rfl:=j;exact Zdo z v g f λB p=>⟨.bl (!l.isSome),m,p,rfl,e⟩
theorem Ee(G:X.A.units+1<dz)(F:PE X o td)(q:PE X i ty)(A:PE X value tv)(C:iC value (ax (.Subscript o i pos')) pos.line X.env=pure aB) :
  PS X (.Assign [.Subscript o i pos'] value pos) (sDPut td ty tv):=by
 intro c s b H D I h;refine wpAny_Assign_Subscript (Yo (A c s b H _ I h) λr s1 ⟨v,B,w,l,m⟩=>Yo (F c s1 b B _ w m) λu s2 ⟨x,n,E,k,e⟩=>Yo (q c s2 b n _ E e) λM N ⟨y,J,t,j,a,z,d,g,p⟩=>?_) C;subst d;obtain rfl:=k;exact DN G t g j l λL f=>⟨b,z,f,p⟩
end
theorem BW{P:bM}{w:bc}{H:Hp}(h:ba)(a:fG<h.objs.size):ObjOk P w H (h.push { cls:=.type "dict",data:=.dict #[] }) h.objs.size (.dK []):=
 ⟨dq _,beq_eq_false_iff_ne.mpr (bX (bN a)),[],.nil,ba.DictOf.new h⟩
theorem BX{P:bM}{w:bc}{H:Hp}(h:ba)(a:fG<h.objs.size):ObjOk P w H (h.push { cls:=.type "dict",data:=.dict #[] }) h.objs.size (.dT []):=
 ⟨dq _,beq_eq_false_iff_ne.mpr (bX (bN a)),[],.nil,_,#[],0,ak _ rfl,⟨rfl,rfl,rfl⟩,rfl,rfl,cH⟩
noncomputable def Zin:TE:=λ_ H Q=>∀p,H p=aA->Q (.ref p) (upd H p (.dT []))
section
variable {X:Cx} {pos:dw}
theorem BY:PE X (.Dict [] [] pos) Zin:=λb s c H Q I h=>
 wpAny_Dict_empty ⟨.ref s.heap.objs.size,_,I.laid (a:=s.heap.objs.size) (o:=.dT []) (t':=s.toks) (λ_ _ q=>aK _ q) (aZ _) (BX s.heap I.big),rfl,h _ (I.hok.fresh (aZ _))⟩
end
noncomputable def Gf:List (TE×TE)->St->Hp->(List (V×V)->Hp->Prop)->Prop
 | [],_,H,Q=>Q [] H
 | (tk,tv)::r,σ,H,Q=>tk σ H λx H1=>tv σ H1 λy H2=>Gf r σ H2 λps H3=>Q ((x,y)::ps) H3
abbrev VV:List (V×V)->List (aI×aI)->Prop:=Paired λp q=>RelV p.1 q.1/\RelV p.2 q.2
noncomputable def PPs(X:Cx)(pos:dw)(keys:List (Option bO))(values:List bO)(trs:List (TE×TE)):Prop:=
 ∀(p0:List (aL×dU))(s:aO)(σ:St)(H:Hp)(Q:List (V×V)->Hp->Prop),Inv X p0 σ H s->Gf trs σ H Q->
  bJ (model X.prog X.w) X.A (evalPairs (pairTrees keys values X.env pos)) (λvs s'=>∃ps H',Inv X p0 σ H' s'/\VV ps vs/\Q ps H') X.xe s
theorem Zdr{X:Cx}{pos:dw}:PPs X pos [] [] []:=λa s b H Q I h=>pairTrees_nil_walk ⟨[],H,I,.nil,h⟩
theorem BZ{X:Cx}{pos:dw}{k v:bO}{e:List (Option bO)}{vs:List bO}{tk f:TE}{a:List (TE×TE)}(z:PE X k tk)(A:PE X v f)(m:PPs X pos e vs a) :
  PPs X pos (ax k::e) (v::vs) ((tk,f)::a):=λc s b H Q I h=>
 pairTrees_cons_walk (Yo (z c s b H _ I h) λu s1 ⟨x,B,w,n,o⟩=>Yo (A c s1 b B _ w o) λD s2 ⟨y,p,C,l,j⟩=>
  Yo (m c s2 b p _ C j) λF E ⟨g,i,t,d,q⟩=>⟨(x,y)::g,i,t,.cons ⟨n,l⟩ d,q⟩)
noncomputable def OF(p4 more:List (Y8×V)):List (Y8×V):=more.foldl (λacc kv=>UQ acc kv.1 kv.2) p4
theorem KV.merge:∀{more:List (Y8×V)}{b:List (Y8×aI)}{a:List (Y8×V)}{vs:List (Y8×aI)},KV more b->KV a vs->KV (OF a more) (merged vs b):=by
 intro more b a vs r
 induction r generalizing a vs with
 | nil=>intro q;exact q
 | @cons p q ps qs h t ih=>
  intro c;have e:KV (UQ a p.1 p.2) (stored vs q.1 q.2):=by have:=c.put p.1 h.2;rw[<-h.1];exact this
  exact ih e
theorem Ss:∀(more p4:List (Y8×V)),(OF p4 more).length<=p4.length+more.length
 | [],p4=>by show p4.length<=p4.length+0;omega
 | p::r,p4=>by have a:=Ss r (UQ p4 p.1 p.2);have b:=UY p4 p.1 p.2;show(OF (UQ p4 p.1 p.2) r).length<=_;rw[az];omega
theorem OG{P:bM}{w:bc}:∀{p4:List (Y8×V)}{ws:List (aI×aI)},VV (p4.map λe=>(kV e.1,e.2)) ws->∃d,Carries (Yv P w) ws d/\KV p4 d
 | [],_,r=>by rw[fX] at r;cases r;exact⟨[],b8,.nil⟩
 | p::p4,_,r=>by
  rw[af] at r
  cases r with
  | @cons a b as bs h t=>
   obtain⟨d,c,q⟩:=OG (P:=P) (w:=w) t;obtain⟨b1,f⟩:=b;exact⟨(p.1,f)::d,⟨Lf h.1,rfl,c⟩,.cons ⟨rfl,h.2⟩ q⟩
noncomputable def Zlf(trs:List (TE×TE)):TE:=λσ H Q=>∀p,H p=aA->Gf trs σ (upd H p (.dK [])) λps H2=>H2 p=ax (.dK [])/\∃p4:List (Y8×V),ps=p4.map (λkv=>(kV kv.1,kv.2))/\p4.length<=15/\Q (.ref p) (upd H2 p (.dK (OF [] p4)))
theorem Zds{X:Cx}{pos:dw}{a:List (Option bO)}{b:List bO}{f:List (TE×TE)}(h:PPs X pos a b f)(g:a.all (·.isSome)=aC)(n:a.length=b.length)(u:a≠[])
  (i:a.length<=15):PE X (.Dict a b pos) (Zlf f):=by
 intro E s A H Q I q;have B:=I.hok.fresh (aZ s.heap.objs.size);have x:=I.laid (t':=s.toks) (λ_ _ q=>aK _ q) (aZ _) (BW s.heap I.big);refine wpAny_Dict_walk (knd:=Yv X.prog X.w) g n u i (Yo (h E _ A _ _ x (q _ B)) λN s2 ⟨J,L,l,j,e,k,ep,M,t⟩=>?_);subst ep;obtain⟨G,c,o⟩:=OG j;obtain⟨z,hd,w,C,F⟩:=Zg2 l.hok e;cases C;refine⟨G,c,F,λh' d D=>⟨.ref s.heap.objs.size,_,?_,rfl,t⟩⟩;have y:(OF [] k).length<=sizeLine:=by have v:=Ss k [];rw[jE] at v;rw[fT];omega
 have p:∃q,h'.get? s.heap.objs.size=ax q:=let⟨q,_,_,m,_⟩:=d;⟨q,m⟩;exact Kk l (by rw[e];exact b8) D p (BV y hd (o.merge .nil) d)
structure M2(X:Cx)(o:bO)(m:bH)(apos:dw)(e f:bO)(p5:dw):Prop where
 base:mY o m X.env (eval o X.env)=eval o X.env
 few:((dC p5 (aP [e,f] X.env)).all (λx=>!x.1)&&(o4 p5 (lZ [] X.env)).all (λx=>x.1.isSome)
  &&decide (([e,f]:List bO).length+([]:List mN).length+(if([]:List mN).isEmpty then 0 else 1)<30))=aC
 line:(apos.endLine==p5.line)=aC
 trees:dC p5 (aP [e,f] X.env)=[(aB,eval e X.env),(aB,eval f X.env)]
noncomputable def IsD(H:Hp)(a:aL):Prop:=(∃p4,Rd H a (.dK p4))\/∃p4,Rd H a (.dT p4)
theorem Zio{X:Cx}{k:List (aL×dU)}{j:St}{H:Hp}{s:aO}{a:aL}(I:Inv X k j H s)(d:IsD H a) :
  s.TypeIs (.ref a) "dict"/\(∀b,jW a = .ref b->∃c,s.heap.get? b=ax c/\c.dict=aA)/\(a==fG)=aB:=by
 rcases d with⟨i,e⟩ | ⟨i,e⟩
 ·obtain⟨_,hd,vs,_,f⟩:=Lh I.hok e;refine⟨f.typeIs,λb q=>?_,hd⟩;cases q;obtain⟨c,_,_,h,g,_⟩:=f;exact⟨c,h,g.2.1⟩
 ·obtain⟨_,hd,xs,_,f⟩:=Li I.hok e;refine⟨f.typeIs,λb q=>?_,hd⟩;cases q;obtain⟨c,_,_,h,g,_⟩:=f;exact⟨c,h,g.2.1⟩
section
variable {X:Cx} {p0:List (aL×dU)} {σ:St} {H:Hp} {s:aO} {a:aL} {y d:V} {u r:aI} {o:Option V} {A:bq} {E:aI->aO->Prop}
theorem Ziq{Q:aI->aO->Prop}(p:A.units+1<dz)(I:Inv X p0 σ H s)(g:J4 H a y o)(j:RelV y u)(m:RelV d r)(h:∀w' s',Inv X p0 σ H s'->RelV (o.getD d) w'->Q w' s') :
  bJ (model X.prog X.w) A (call (.builtin "dict.get") [.ref a,u,r]) Q E s:=by
 rcases g with⟨n,k,e,i,l⟩ | ⟨n,k,b,e,i,q,l⟩
 ·subst i;obtain⟨z,hd,vs,c,f⟩:=Lh I.hok e;refine call_meetsIn iV f.typeIs kf (kQ _ _ _) (meets_dict_get_default (Yv X.prog X.w) a (Lf j) hd r) ⟨_,f.mapOf,h _ _ (I.tok _) ?_⟩;rw[l];exact(c.val k).getD m
 ·subst i;cases (show u=jW b from j);obtain⟨z,hd,xs,c,f⟩:=Li I.hok e;refine call_meetsIn iV f.typeIs kf (kQ _ _ _) (meetsH_dict_get_default (kM (Yv X.prog X.w)) a b hd r) ⟨iA p,k,xs,OE I.hok q,f,h _ _ (I.tok _) ?_⟩;rw[l];exact(c.val k).getD m
end
noncomputable def B1(td ty tx:TE):TE:=λσ H Q=>td σ H λx H1=>∃a,x = .ref a/\IsD H1 a/\ty σ H1 λy H2=>tx σ H2 λz H3=>∃o,J4 H3 a y o/\Q (o.getD z) H3
section
variable {X:Cx} {o e f:bO} {apos p5:dw} {td ty tx:TE}
theorem B2(L:X.A.units+1<dz)(J:PE X o td)(k:PE X e ty)(v:PE X f tx)(m:M2 X o "get" apos e f p5):PE X (.Call (.Attribute o "get" apos) [e,f] [] p5) (B1 td ty tx):=by
 intro c s b H Q I h;refine wpAny_Call_method m.base m.few m.line PySem.F.plainAttrs_dict iV PySem.F.type_dict_get (Yo (J c s b H _ I h) λu s1 ⟨x,F,i,t,a,j,d,w⟩=>?_);subst j;obtain rfl:u=jW a:=t;obtain⟨A,M,_⟩:=Zio i d;refine⟨A,M,?_⟩;rw[m.trees]
 refine kd rfl (l6 (eB (Yo (k c s1 b F _ i w) λO s2 ⟨y,B,G,q,n⟩=>
  eB (Yo (v c s2 b B _ G n) λfv S ⟨z,l,D,E,P,g,C⟩=>gK ?_))))
 exact Ziq L D g q E λR N p Xp=>⟨_,l,p,Xp,C⟩
end
theorem Lj:∀{vs:List aI}{ns:List Int},i7 vs ns->Vals (ns.map V.int) vs
 | _,_,.nil=>.nil
 | _,_,.cons n t h=>.cons ⟨t,rfl⟩ (Lj h)
noncomputable def Xm(s:cB):mO:=match s with
 | .FunctionDef _ a _ _ _ _ _ _ _ _=>a
 | _=>{ posonlyargs:=[],args:=[],vararg:=aA,kwonlyargs:=[],kw_defaults:=[],kwarg:=aA,defaults:=[] }
noncomputable def Yy(s:cB):List cB:=match s with
 | .FunctionDef _ _ b _ _ _ _ _ _ _=>b
 | _=>[]
noncomputable def Zf(s:cB):gC:=match s with
 | .FunctionDef _ _ _ _ _ _ sc _ _ _=>sc
 | _=>{ kind:=.function,names:=[],isGenerator:=aB,isCoroutine:=aB }
abbrev J6:CXT:=λ_ _ _ _ _ _=>False
abbrev E0:XK:=λ_ _ _=>False
theorem Zlg{X:Cx}:Ga J6 X E0:=λ_ _ _ _ _ _ _ h=>h.elim
structure Fun(K:aH)(x qual:bH)(st:cB)(f:aL)(fd:fL):Prop where
 ex:∃(oc:aI) (od:Option aL) (kV doc pm:aI) (an:Option aL) (cdv ct:aI) (osl:Array (Option aI)),
  fd=dO x qual (Xm st) (Yy st) (Zf st) .none kV doc pm an cdv ct/\K.lookup f=ax ⟨oc,od,.func fd,osl⟩/\dM K cdv qual=aC
 kp:iM K (.ref f)=aC
section
variable {P:bM} {w:bc} {K:aH} {mg:bH->Option aI} {base:ba}
theorem Fun.ok{x b:bH}{st:cB}{f:aL}{l:fL}{N e:List bH}{k:Nat}{j:Sp}(F:Fun K x b st f l)(S:Zq N e (Zf st))(len:∀vs H Q E,j vs H Q E->vs.length=e.length)
  (d:∀(c:aI)(A:bq)(a:List ma)(s:aO)(H:Hp)(vs:List V)(Q:VK)(E:XK),Room k (A.deeper (iZ b (Zf st) s.heap.objs.size f c))->j vs H Q E->
   ∃t,PSs (OC J6 P w K mg base N b (Zf st) f c A a s H E).nox (Yy st) t/\t { nx:=λ_ p=>Q .non p,rt:=Q } (start N vs) H):Pq P w K mg base J6 (k+1) f l e j:=by
 obtain⟨z,B,kV,o,y,v,c,ct,m,rfl,u,i⟩:=F.ex;refine XX u i S len λA a s H vs Q E n g=>?_;obtain⟨t,h,q⟩:=d c A a s H vs Q E n g;exact⟨t,h.nox,q⟩
theorem Fun.binds{x a:bH}{st:cB}{f:aL}{i:fL}{d:List bH}(F:Fun K x a st f i)
  (h:∀(kV b g:aI)(e:Option aL)(c ct:aI)(us:List aI),us.length=d.length->j4 (dO x a (Xm st) (Yy st) (Zf st) .none kV b g e c ct) ⟨us,[]⟩=pure (d.zip us)):Binds K i d []:=by
 obtain⟨l,m,kV,b,g,e,c,ct,j,rfl,n,k⟩:=F.ex;exact .all (h kV b g e c ct)
theorem Zir{x a:bH}{st:cB}{f:aL}{i:aI}{j g:Option aL}{e:Array (Option aI)}{kV d h b ct:aI}(l:K.lookup f=ax ⟨i,j,.func (dO x a (Xm st) (Yy st) (Zf st) .none kV d h g b ct),e⟩)
  (c:dM K b a=aC) (k:iM K (.ref f)=aC):Fun K x a st f (dO x a (Xm st) (Yy st) (Zf st) .none kV d h g b ct):=⟨⟨i,j,kV,d,h,g,b,ct,e,rfl,l,c⟩,k⟩
end
theorem Lk{A:bq}{k:Nat}(a:Room k A):A.units+1<dz:=fZ (Nat.add_le_add_left (by simp) _) a.units
section
variable {X:Cx}
theorem pv(i:Nat){x:bH}{pos:dw}(b:X.N[i]?=ax x:=by rfl)(c:Vis X.env.scope x:=by first | exact j5 rfl | exact mq (j5 rfl) | exact mq (mq rfl))(hd:(x==("__debug__" : bH))=aB:=by decide)
  (a:(x==("__classdict__" : bH))=aB:=by decide):PE X (.Name x pos) (Pp i):=BC b c hd a
end
theorem Zlh{A B:Prop}(h:B):if aB=aC then A else B:=by rw[pW bx];exact h
theorem Zli{A B:Prop}(h:A):if aC=aC then A else B:=by rw[p9 rfl];exact h
noncomputable def Same(H H':Hp):Prop:=∀b o,H b=ax o->H' b=ax o
theorem Same.refl(H:Hp):Same H H:=λ_ _ h=>h
theorem Same.trans{H e d:Hp}(a:Same H e)(b:Same e d):Same H d:=λc o h=>b c o (a c o h)
theorem Same.free{H a:Hp}(e:Same H a){l:aL}(h:a l=pT):H l=pT:=by
 cases q:H l with
 | none=>rfl
 | some o=>
  rw[e l o q] at h;cases h
end L2
set_option maxHeartbeats 4000000
namespace L2
open PySem PySem.Spec PyProof.Rows
noncomputable def VC(cells:List (bH×aL)):List (bH×fM)->List (bH×aL)->List (bH×aL)
 | [],acc=>acc
 | (n,k)::r,acc=>VC cells r (if(k==cI)=aC then(n,(cells.lookup n).getD 0)::acc else acc)
theorem Su{env:ma}:∀(names:List (bH×fM))(acc:List (bH×aL)),(∀y∈names,y.2 = .free->(env.cells.lookup y.1).isSome=aC)->
  (forIn (m:=Sem) names acc λ(x:bH×fM) (e:List (bH×aL))=>
   match x with
   | (name,kind)=>if(kind==cI)=aC then do
     let c <-cellOf env name
     pure (gD ((name,c)::e))
    else pure (gD e))=pure (VC env.cells names acc)
 | [],acc,_=>rfl
 | (n,k)::r,acc,h=>by
  rw[List.forIn_cons];have d:=λa=>Su r a λy i=>h y (aN _ i)
  cases hk:(k==cI) with
  | true=>
   have f:=h (n,k) ag (by simpa using hk);obtain⟨c,b⟩:=cT.mp f;have b:env.cells.lookup n=ax c:=b;have g:cellOf env n=pure c:=by unfold cellOf;rw[b]
   dsimp only
   rw[hk,p9 rfl,g];refine Eq.trans (d ((n,c)::acc)) ?_;show _=pure (VC env.cells r (if(k==cI)=aC then(n,(env.cells.lookup n).getD 0)::acc else acc));rw[p9 hk,b];rfl
  | false=>
   dsimp only
   rw[hk,pW bx];refine Eq.trans (d acc) ?_;show _=pure (VC env.cells r (if(k==cI)=aC then(n,(env.cells.lookup n).getD 0)::acc else acc));rw[pW (by rw[hk];exact bx)]
theorem Sv{a:gC}{env:ma}(h:∀y∈a.names,y.2 = .free->(env.cells.lookup y.1).isSome=aC):kg a env=pure (VC env.cells a.names []):=by
 have e:=Su a.names [] h;unfold kg
 dsimp only
 rw[e];rfl
theorem Qb{a:List (bH×aL)}{x:bH}{c:aL}:∀(names:List (bH×fM))(acc:List (bH×aL)),(∀y∈names,y.2 = .free->(a.lookup y.1).isSome=aC)->(acc.lookup x=ax c->a.lookup x=ax c)->
  (VC a names acc).lookup x=ax c->a.lookup x=ax c
 | [],_,_,h,e=>h e
 | (n,k)::r,acc,hf,h,e=>by
  refine Qb r _ (λy g=>hf y (aN _ g)) ?_ e;intro q;by_cases b:(k==cI)=aC
  ·rw[p9 b,bh] at q
   cases hx:x==n with
   | true=>
    rw[hx] at q;have f:x=n:=by simpa using hx
    obtain⟨d,hd⟩:=cT.mp (hf (n,k) ag (by simpa using b));have hd:a.lookup n=ax d:=hd;rw[hd] at q;rw[f,hd];exact q
   | false=>rw[hx] at q;exact h q
  ·rw[pW b] at q;exact h q
theorem OH{a:List (bH×aL)}{x:bH}:∀(names:List (bH×fM))(acc:List (bH×aL)),(acc.lookup x).isSome=aC->((VC a names acc).lookup x).isSome=aC
 | [],_,h=>h
 | (n,k)::r,acc,h=>by
  refine OH r _ ?_;split
  ·rw[bh];split<;>simp_all
  ·exact h
theorem Qc{a:List (bH×aL)}{x:bH}:∀(names:List (bH×fM))(acc:List (bH×aL)),(x,cI)∈names->((VC a names acc).lookup x).isSome=aC
 | (n,k)::r,acc,h=>by
  rcases aa.mp h with e | h
  ·cases e;refine OH r _ ?_;rw[p9 (by decide),bh];simp
  ·exact Qc r _ h
structure CompScope(N:List bH)(around scope:gC)(own fr:List bH)(ix:List Nat):Prop where
 kind:scope.kind = .function
 nocell:∀y∈scope.names,y.2≠.cell
 names:∀y∈scope.names,y.2 = .local->scope.names.lookup y.1=ax .local
 frees:∀y∈scope.names,y.2 = .free->(around.names.lookup y.1=ax .cell\/around.names.lookup y.1=ax .free)
 slots:fr.map ax=ix.map (λi=>N[i]?)
 outs:∀x∈fr,(x,cI)∈scope.names
 apart:∀x∈fr,scope.names.lookup x≠ax .local
noncomputable def ZI(X:Cx)(N':List bH)(scope:gC)(cl:List (bH×aL))(C:aL)(s:aO)(H:Hp)(ex:List aL):Cx:=
 { X with N:=N',s₀:=s,H₀:=H,env:=lu scope cl C X.env,outer:=X.stack,ex:=ex,fn:=λ_=>aB,pn:=[],xe:=λ_ _=>False }
noncomputable def Yj(n:Nat)(ix:List Nat)(σ:St):St:=aS n aA++ix.map (λi=>(σ[i]?).join)
theorem Wx{env:ma}{x:bH}:∀{names:List (bH×fM)}{k:fM},names.lookup x=ax k->
  (names.map λ(n,k)=>if(k==cI&&env.scope.kind==.function&&env.kindOf n==ax .cell) then(n,gG) else(n,k)).lookup x =
   ax (if(k==cI&&env.scope.kind==.function&&env.kindOf x==ax .cell)=aC then gG else k)
 | [],_,h=>by simp at h
 | (n,k')::r,k,h=>by
  show List.lookup x ((if(k'==cI&&env.scope.kind==.function&&env.kindOf n==ax .cell)=aC then(n,gG) else(n,k'))::_)=_
  cases hx:x==n with
  | true=>
   simp only[bh,hx] at h;cases h;have e:x=n:=by simpa using hx
   subst e;split
   ·simp[bh]
   ·simp[bh]
  | false=>
   simp only[bh,hx] at h;split
   ·simp only[bh,hx];exact Wx h
   ·simp only[bh,hx];exact Wx h
theorem Ud{env:ma}{x:bH}:∀{names:List (bH×fM)}{k':fM},
  (names.map λ(n,k)=>if(k==cI&&env.scope.kind==.function&&env.kindOf n==ax .cell) then(n,gG) else(n,k)).lookup x=ax k'->∃k,names.lookup x=ax k
 | [],_,h=>by simp at h
 | (n,k0)::r,k',h=>by
  have h:List.lookup x ((if(k0==cI&&env.scope.kind==.function&&env.kindOf n==ax .cell)=aC then(n,gG) else(n,k0))::_)=ax k':=h
  cases hx:x==n with
  | true=>exact⟨k0,by simp[bh,hx]⟩
  | false=>
   have:∃k,r.lookup x=ax k:=by
    apply Ud (env:=env) (k':=k');split at h<;>simpa [bh,hx] using h
   obtain⟨k,e⟩:=this;exact⟨k,by simp[bh,hx,e]⟩
section
variable {X:Cx} {p0:List (aL×dU)} {σ:St} {H:Hp} {s:aO} {own fr:List bH} {ix:List Nat} {scope:gC}
theorem CompScope.clos(S:CompScope X.N X.env.scope scope own fr ix)(I:Inv X p0 σ H s):∀y∈scope.names,y.2 = .free->(X.env.cells.lookup y.1).isSome=aC:=λy a b=>by obtain⟨c,e⟩:=I.ok.has y.1 (S.frees y a b);rw[e];rfl
end
theorem Kl{prog:bM}{w:bc}{A:bq}{R:pQ->aO->Prop}{s:aO}{q a y:bO}{z:List bO}{o:gC}{pos:dw}{C acc:aI}{env:ma}(I:Nat->aO->Prop)
  (turn:∀n s,I n s->bJ (model prog w) A (jv C) (λr g=>match r with
   | none=>R (.ok .next) g
   | some v=>bJ (model prog w) A (lC a C v) (λ_ d=>bJ (model prog w) A (assign a env v) (λ_ l=>
     bJ (model prog w) A (forIn z aC λc r=>if r=aC then do let ok <-md c env (eval c env);pure (gD ok) else pure (gD r)) (λok b=>
      if ok=aC then bJ (model prog w) A (eval q env) (λx j=>
       bJ (model prog w) A (call (.builtin "list.append") [acc,x]) (λ_ k=>∃m,m<n/\I m k) (mP (model prog w) A env λe f=>R (.error e) f) j) (mP (model prog w) A env λe f=>R (.error e) f) b
      else ∃m,m<n/\I m b) (mP (model prog w) A env λe f=>R (.error e) f) l) (mP (model prog w) A env λe f=>R (.error e) f) d) (mP (model prog w) A env λe f=>R (.error e) f) g) (mP (model prog w) A env λe f=>R (.error e) f) s)
  (n:Nat) (h:I n s) :
  jQ (model prog w) A (.compLoop (.ListComp q [⟨a,y,z,0⟩] o pos) 0 C acc env) R s:=by
 refine codeAny_loop rfl I (λn s D=>?_) n h;refine wpAny_noted ?_;refine aG (mW (aG (cU (turn n s D) (λr g h₁=>?_) λ_ _ h'=>h')))
 cases r with
 | none=>exact aW h₁
 | some v=>
  refine aG (cU h₁ (λ_ d p=>?_) λ_ _ h'=>h');refine aG (cU p (λ_ l t=>aG (cU t (λok b i=>?_) λ_ _ h'=>h')) λ_ _ h'=>h')
  cases ok with
  | false=>exact aW ⟨rfl,i⟩
  | true=>
   exact aG (aG (cU i (λx j u=>aG (cU u (λ_ k B=>aW (aW ⟨rfl,B⟩)) λ_ _ h'=>h')) λ_ _ h'=>h'))
noncomputable def Bw(X:Cx)(ifs:List bO)(t:TT):Prop:=
 ∀(p0:List (aL×dU))(s:aO)(σ:St)(H:Hp)(Q:Bool->Hp->Prop),Inv X p0 σ H s->t σ H Q->
  bJ (model X.prog X.w) X.A (forIn ifs aC λc r=>if r=aC then do let ok <-md c X.env (eval c X.env);pure (gD ok) else pure (gD r)) (TP X p0 σ Q) X.xe s
noncomputable def Zlj:TT:=λ_ H Q=>Q aC H
theorem Zdt{X:Cx}:Bw X [] Zlj:=λ_ _ _ H _ I h=>wpAny_tests_nil ⟨H,I,h⟩
theorem Zdu{X:Cx}{c:bO}{t:TT}(h:PT X c t):Bw X [c] t:=λd s a H Q I b=>wpAny_tests_one (h d s a H Q I b)
noncomputable def Zlk(n:Nat)(ix:List Nat)(g:TG)(tt:TT)(te:TE)(σ:St)(Q:VK)(J:It)(H1:Hp):Prop:=
 ∃W:Nat->Nat->List V->Hp->Prop,(∃m,W 0 m [] H1)/\∀i m ys H,W i m ys H->ys.length<=sizeLine/\
  ((J.stop i H/\∀p,H p=aA->Q (.ref p) (upd H p (.lst ys)))\/
   (J.go i H/\∃N:List V->Hp->Prop,(∀ys' H',N ys' H'->∃m',m'<m/\W (i+1) m' ys' H')/\
    ∀x H',J.yld i H x H'->g x (Yj n ix σ) H' λσ2 H2=>σ2.drop n=(Yj n ix σ).drop n/\tt σ2 H2 λb H3=>if b=aC then te σ2 H3 λy H4=>N (ys++[y]) H4 else N ys H3))
noncomputable def Ll(n:Nat)(ix:List Nat)(wi:TI)(g:TG)(tt:TT)(te:TE):TE:=λσ H Q=>wi σ H λJ H1=>Zlk n ix g tt te σ Q J H1
theorem DP{n:Nat}{b:List Nat}{d a:St}(hd:a.drop n=(Yj n b d).drop n):∀(i:Nat) v,(Yj n b d)[i]?=ax (ax v)->a[i]?=ax (ax v):=λi v e=>by
 by_cases c:i<n
 ·unfold Yj at e;rw[aj (by simpa using c),b7] at e;rw[p9 c] at e;cases e
 ·have q:=congrArg (λl=>l[i-n]?) hd;simp only[fg] at q;rw[show n+(i-n)=i by omega] at q;rw[q];exact e
section
variable {X:Cx} {tg elt iter:bO} {ifs:List bO} {scope:gC} {pos:dw} {own fr:List bH} {ix:List Nat} {wi:TI} {g:TG} {tt:TT} {te:TE}
theorem B3{p0:List (aL×dU)}{B:St}{F:Hp}{s2:aO}{E:List aL}{h₁:ba}{tk:Nat}{C:aL}(S:CompScope X.N X.env.scope scope own fr ix)(d:Inv X p0 B F s2)(H:∀b∈E,Sk X p0 F b)(O:∀b∈E,b<s2.heap.objs.size)
  (L:s2.heap.objs.size<=C) (M:h₁.Ns C λ_=>aA) (s:∀b o,s2.heap.get? b=ax o->h₁.get? b=ax o) :
  Inv (ZI X (own++fr) scope (VC X.env.cells scope.names []) C s2 F E) [] (Yj own.length ix B) F { s2 with heap:=h₁,toks:=tk }:=by
 have cs:=S.clos d;have sub:∀x c,(VC X.env.cells scope.names []).lookup x=ax c->X.env.cells.lookup x=ax c:=λx c e=>Qb scope.names [] cs (λh=>by simp at h) e;have T:=d.stkSub
 have R:(ZI X (own++fr) scope (VC X.env.cells scope.names []) C s2 F E).Ok:=by
  refine⟨d.ok.mod,S.kind,d.ok.glob,d.ok.blt,L,λx y c t f=>d.ok.inj x y c (sub x c t) (sub y c f),λx hx=>?_,λx c h _=>?_,d.ok.hd,d.ok.frames,.inl rfl,λb A=>⟨?_,λx c e=>?_⟩,d.bs,?_,λb o e A=>?_,λb A z=>?_,d.stack,d.stkFree,d.ok.tab.un d.base,λ_ z=>absurd rfl z⟩
  ·-- the cells of the block's free names
   have P:(x,cI)∈scope.names:=by
    have:∃k',(relabel scope X.env).names.lookup x=ax k'/\(k' = .cell\/k' = .free):=by
     rcases hx with h | h
     ·exact⟨_,h,.inl rfl⟩
     ·exact⟨_,h,.inr rfl⟩
    obtain⟨k',e,Q⟩:=this;obtain⟨k,D⟩:=Ud e;have J:=Wx (env:=X.env) D;have e:(scope.names.map λ(n,k)=>if(k==cI&&X.env.scope.kind==.function&&X.env.kindOf n==ax .cell) then(n,gG) else(n,k)).lookup x=ax k':=e;rw[J] at e;have m:=cu D
    cases k with
    | free=>exact m
    | cell=>exact absurd rfl (S.nocell _ m)
    | _=>simp at e;subst e;rcases Q with z | z<;>cases z
   exact cT.mp (Qc _ _ P)
  ·cases h
  ·-- E differs from the frame
   exact bN (bB (O b A) L)
  ·exact(H b A).2.2.2.2.1 x c (sub x c e)
  ·exact cD d.ok.bsz d.sz
  ·rcases(H b A).2.2.2.1 with z | z
   ·exact d.ok.noex b o e z
   ·exact absurd (bB (a9 (d.ok.bs b o e).1) z) (cS _)
  ·rcases aa.mp (T b z) with e | e
   ·exact(H b A).2.1 e
   ·exact(H b A).2.2.1 e
 have sl:fr.length=ix.length:=by simpa using congrArg df S.slots
 refine⟨R,rfl,d.bare,Un.kept s,⟨_,M,λi x v t f g=>?_⟩,λx c e=>?_,d.hok.fresh L,λx c e=>d.freeC x c (sub x c e),λp hp=>absurd (show p∈([]:List (aL×dU)) from hp) (by simp),d.hok.kept s,?_⟩
 ·-- a name of the def around
  have t:(own++fr)[i]?=ax x:=t;have I:¬i<own.length:=λI=>by unfold Yj at f;rw[aj (by simpa using I),b7,p9 I] at f;cases f
  rw[bA (by omega)] at t;unfold Yj at f;rw[bA (by simpa using I),cL,aX] at f
  cases ej:ix[i-own.length]? with
  | none=>rw[ej] at f;cases f
  | some j=>
   rw[ej] at f;have f:(B[j]?).join=ax v:=by simpa using f
   have f:B[j]?=ax (ax v):=by
    cases q:B[j]? with
    | none=>rw[q] at f;cases f
    | some z=>rw[q] at f;exact congrArg ax f
   have hN:X.N[j]?=ax x:=by have q:=congrArg (λl=>l[i-own.length]?) S.slots;simp only[aX,t,ej] at q;exact(bC q).symm
   have Z:=S.outs x (av t);have Y:=S.frees _ Z rfl;obtain⟨m,hn,hl⟩:=d.loc;obtain⟨u,r,l⟩:=hl j x v hN f (by rcases Y with k | k;exact .inr (.inl k);exact .inr (.inr k));refine⟨u,r,?_⟩;rcases l with⟨k,_⟩ | ⟨_,c,hc,w⟩
   ·have k:X.env.scope.names.lookup x=ax .local:=k;rcases Y with q | q<;>rw[k] at q<;>cases q
   ·obtain⟨c',G⟩:=cT.mp (Qc _ [] Z);have ec:=sub x c' G;rw[hc] at ec;cases ec;refine .inr ⟨?_,c,G,?_⟩
    ·have g:=g;rcases g with g | g
     ·obtain⟨W,D⟩:=Ud g;have J:=Wx (env:=X.env) D;have g:(scope.names.map λ(n,k)=>if(k==cI&&X.env.scope.kind==.function&&X.env.kindOf n==ax .cell) then(n,gG) else(n,k)).lookup x=ax .local:=g;rw[J] at g
      have N:W = .local:=by
       cases W<;>simp at g ⊢
       split at g<;>cases g
      subst N;exact absurd D (S.apart x (av t))
     ·exact g
    ·obtain⟨o,U,hd⟩:=w;exact⟨o,s _ _ U,hd⟩
 ·obtain⟨v,o,U,hd⟩:=d.cell x c (sub x c e);exact⟨v,o,s _ _ U,hd⟩
 ·show(Yj own.length ix B).length=(own++fr).length;unfold Yj;rw[aT,cL,aJ,aT,sl]
noncomputable def cxG(fv:bH->Bool)(X:Cx)(N':List bH)(scope:gC)(cl:List (bH×aL))(C:aL)(s:aO)(H:Hp)(ex:List aL):Cx:=
 { X with N:=N',s₀:=s,H₀:=H,env:=lu scope cl C X.env,outer:=X.stack,ex:=ex,fn:=fv,pn:=[],xe:=λ_ _=>False }
theorem DQ{fv:bH->Bool}{N:List bH}{cl:List (bH×aL)}{Z:Nat}{C D:aL}{h₁:ba}{tk:Nat}{p0:List (aL×dU)}{σ:St}{w:Hp}{s2:aO}{k:List aL}{it:aL}{tn:Nat->ba->Prop}{J:It}{Fin:List V->Hp->Prop}{RR:aI->aL->pQ->aO->Prop}
  (E:X.calm=aC) (hg:PG (cxG fv X N scope cl C s2 w k) tg g) (ht:Bw (cxG fv X N scope cl C s2 w k) ifs tt) (he:PE (cxG fv X N scope cl C s2 w k) elt te)
  (I2:Inv X p0 σ w s2) (T:JV X.prog X.w X.K tg J k it tn) (st2:tn 0 s2.heap) (f2:∀b∈k,Sk X p0 w b)
  {W:Nat->Nat->List V->Hp->Prop} {m0:Nat} (w0:W 0 m0 [] w)
  (turn:∀i m f H,W i m f H->f.length<=sizeLine/\
   ((J.stop i H/\Fin f H)\/
    (J.go i H/\∃N:List V->Hp->Prop,(∀ys' h,N ys' h->∃m',m'<m/\W (i+1) m' ys' h)/\
     ∀x h,J.yld i H x h->g x (Yj Z ix σ) h λσ2 w=>σ2.drop Z=(Yj Z ix σ).drop Z/\tt σ2 w λb t=>if b=aC then te σ2 t λy H4=>N (f++[y]) H4 else N f t)))
  (hRR:∀(D C:aL)(oC:dU)(m:bH->Option aI)(M:aO)(h:Hp)(f:List V),Inv X (p0++[(C,oC)]) σ (upd h D (.lst f)) M->M.heap.get? C=ax oC->M.heap.Ns C m->Sk X p0 (upd h D (.lst f)) C->h D=aA->Fin f h->RR (.ref D) C (.ok .next) M)
  (hfp:∀b∈k,b<s2.heap.objs.size) (hC:@Eq Nat C (D+1)) (hDD:@Eq Nat s2.heap.objs.size D) (old:∀b o,s2.heap.get? b=ax o->h₁.get? b=ax o) (hacc:h₁.get? D=ax { cls:=.type "list",data:=.seq ([]:List aI).toArray 0 })
  (I0:∀tk,Inv (cxG fv X N scope cl C s2 w k) [] (Yj Z ix σ) w { s2 with heap:=h₁,toks:=tk }) (hcl:∀x c,cl.lookup x=ax c->c≠D) :
  jQ (model X.prog X.w) X.A (.compStart (.ListComp elt [⟨tg,iter,ifs,0⟩] scope pos) 0 (.ref it) (.ref D) (lu scope cl C X.env)) (RR (.ref D) C) { s2 with heap:=h₁,toks:=tk }:=by
 have hDC:@Ne Nat D C:=by omega
 have j:∀b,b<s2.heap.objs.size->b≠C/\b≠D:=λb a=>by rw[hDD] at a;exact⟨bN (by omega),bN a⟩
 have loop:jQ (model X.prog X.w) X.A (.compLoop (.ListComp elt [⟨tg,iter,ifs,0⟩] scope pos) 0 (.ref it) (.ref D) (lu scope cl C X.env)) (RR (.ref D) C) { s2 with heap:=h₁,toks:=tk }:=by
  generalize s:cxG fv X N scope cl C s2 w k=Y at I0 hg ht he
  have F:∀{h:Hp}{pn:List (aL×dU)},(∀b∈k,h b=aA)->(∀p∈pn,∀b∈k,p.1≠b)->∀b∈k,Sk Y pn h b:=λ{h pn} hn B b a=>by
   subst s;refine⟨hn b a,(j b (hfp b a)).1,λz=>?_,.inl a,λx c e=>?_,λp hp'=>B p hp' b a⟩
   ·exact(I0 0).ok.exfs b a z
   ·exact((I0 0).ok.exf b a).2 x c e
  have dfp:=λb a=>bX (j b (hfp b a)).2;have Q:∀x c,Y.env.cells.lookup x=ax c->c≠D:=by subst s;exact hcl
  have hfsD:D∉Y.fs:=λz=>by subst s;obtain⟨_,o,ho,_⟩:=(I0 0).ok.funs.mem z;have:=a9 ho;have:D<s2.heap.objs.size:=this;exact cS _ (Nat.lt_of_lt_of_eq this hDD)
  have eL:Y.env.locals=C:=by subst s;rfl
  have eS:Y.s₀=s2:=by subst s;rfl
  have eP:Y.pn=[]:=by subst s;rfl
  refine Kl (λn M=>∃i f A G h,Inv Y [] (Yj Z ix σ) h M/\tn i M.heap/\(∀b∈k,h b=aA)/\M.heap.get? D=ax { cls:=.type "list",data:=.seq A G }/\Vals f A.toList/\h D=aA/\W i n f h) ?_ m0
   ⟨0,[],#[],0,w,I0 _,T.keep _ _ _ st2 λb _ o e=>old b o e,λb a=>(f2 b a).1,hacc,.nil,I2.hok.fresh (by omega),w0⟩
  rintro n s3 ⟨i,f,A,G,t,I3,st3,fr3,oD,vD,nD,w3⟩;obtain⟨hlen,P⟩:=turn i n f t w3;have hsize:A.size<=sizeLine:=by have:=vD.length;simp only[cM] at this;omega
  have pD:Inv Y [(D,{ cls:=.type "list",data:=.seq A G })] (Yj Z ix σ) t s3:=I3.pins_of λp B=>by rw[aM.mp B];exact⟨oD,nD,by rw[eL];exact hDC,hfsD,λv z=>by cases z⟩
  have YP:Y.prog=X.prog:=by subst s;rfl
  have Yw:Y.w=X.w:=by subst s;rfl
  have YK:Y.K=X.K:=by subst s;rfl
  have YA:Y.A=X.A:=by subst s;rfl
  have Yx:Y.xe=λ_ _=>False:=by subst s;rfl
  have Ye:Y.env=lu scope cl C X.env:=by subst s;rfl
  have ne1:∀p∈[((D,{ cls:=.type "list",data:=.seq A G }):aL×dU)],∀b∈k,p.1≠b:=λp B b a=>by rw[aM.mp B];exact dfp b a
  rcases P with⟨stop,qn⟩ | ⟨go,N,hN,step⟩
  ·have d:=T.done Y YP Yw YK (by subst s;exact E) i _ s3 _ t (mP (model X.prog X.w) X.A (lu scope cl C X.env) λe M=>RR (.ref D) C (.error e) M) pD (F fr3 ne1) st3 stop;rw[YA] at d;refine Yo d λr s4 ⟨hr,I4⟩=>?_;subst hr;obtain⟨oD4,l,_⟩:=I4.pin (D,_) (by rw[eP];exact ag);obtain⟨m,hn,_⟩:=I4.loc;rw[eL] at hn;obtain⟨oC,es,ep,hoC,hdC,hrest⟩:=id hn;have S:t C=aA:=by have:=I4.free;rw[eL] at this;exact this
   have un:Un (Kc X.stack) k w t s2.heap s4.heap:=by have:=I4.base;subst s;exact this
   have lt2:∀b o,s2.heap.get? b=ax o->b≠D:=λb o e=>(j b (a9 e)).2
   have un':Un (Kc X.stack) k w (upd t D (.lst f)) s2.heap s4.heap:=by
    refine⟨un.keep,un.slot,λb o e n hx=>?_,un.there,λb xs e=>?_,λb o u e=>?_,λb ps e=>?_⟩
    ·rw[upd_ne (lt2 b o e)];exact un.free b o e n hx
    ·have q:=un.tups b xs e;rw[upd_ne (Zr q l)];exact q
    ·have q:=un.frzs b o u e;rw[upd_ne (Zr q l)];exact q
    ·obtain⟨more,q⟩:=un.tbls b ps e;exact⟨more,by rw[upd_ne (Zr q l)];exact q⟩
   have hok4:HOk X.prog X.w t s4.heap:=by have:=I4.hok;rw[YP,Yw] at this;exact this
   have hok':HOk X.prog X.w (upd t D (.lst f)) s4.heap:=λb u q=>by
    by_cases a:b=D
    ·subst a;rw[Zk] at q;cases q;exact⟨hlen,A.toList,G,vD,by simpa using oD4⟩
    ·rw[upd_ne a] at q;exact(hok4 b u q).stay (λc v _ z=>z) (λc z=>by rw[upd_ne (Zr z l)];exact z) (λc xs z=>by rw[upd_ne (Zr z l)];exact z) λc u z=>by rw[upd_ne (Zr z l)];exact z
   have os4:s4.os=s2.os:=by rw[I4.os,eS]
   have I5:=I2.call' os4 un' hok' I4.bare λb a=>⟨(f2 b a).2.2.2.1,(f2 b a).2.1,(f2 b a).2.2.2.2.1,(f2 b a).2.2.2.2.2⟩;have CL:C≠X.env.locals:=λz=>by exact(j _ I2.lt).1 z.symm
   have O:Sk X p0 (upd t D (.lst f)) C:=I2.fpOk (by omega) (by rw[upd_ne (bX hDC)];exact S);refine hRR D C oC m s4 t f (I5.pins_of λp B=>?_) hoC hn O l qn;rcases aV.mp B with z | z
   ·exact I5.pin p (ah _ z)
   ·rw[aM.mp z];exact⟨hoC,O.1,O.2.1,O.2.2.1,λv z=>by rw[hdC] at z;cases z⟩
  ·have d:=T.item Y YP Yw YK (by subst s;exact E) i _ s3 _ t (λ_ _=>False) pD (F fr3 ne1) st3 go;rw[YA] at d;refine cU d (λr s4 ⟨u,hr,h4⟩=>?_) λ_ _ z=>z.elim;subst hr;refine cU h4 (λ_ s5 ⟨x,H5,I5,r5,y5,st5,fr5⟩=>?_) λ_ _ z=>z.elim;have I5':=I5.pinned (F fr5 ne1) (T.obj _ _ st5);have a6:=hg _ s5 _ H5 x u _ I5' r5 (step x H5 y5);rw[YP,Yw,YA,Ye,Yx] at a6;refine cU a6 (λ_ s6 ⟨R,H6,I6,dr,q6⟩=>?_) λ_ _ z=>z.elim;have a7:=ht _ s6 R H6 _ I6 q6;rw[YP,Yw,YA,Ye,Yx] at a7;refine cU a7 (λok s7 ⟨H7,I7,q7⟩=>?_) λ_ _ z=>z.elim
   have back:∀{L:Hp}{I:aO},Inv Y ([((D,{ cls:=.type "list",data:=.seq A G }):aL×dU)]++R7 k s5.heap) R L I->
     I.heap.get? D=ax { cls:=.type "list",data:=.seq A G }/\L D=aA/\tn (i+1) I.heap/\(∀b∈k,L b=aA):=λ{L I} U=>by
    obtain⟨e1,e2,_⟩:=U.pin (D,{ cls:=.type "list",data:=.seq A G }) (by simp);refine⟨e1,e2,T.keep _ _ _ st5 λb a o e=>(U.pin (b,o) (by rw[eP];exact aN _ (Ub a e))).1,λb a=>?_⟩;obtain⟨o,e,_⟩:=T.obj _ _ st5 b a;exact(U.pin (b,o) (by rw[eP];exact aN _ (Ub a e))).2.1
   have unp:∀{L:Hp}{I:aO},Inv Y ([((D,{ cls:=.type "list",data:=.seq A G }):aL×dU)]++R7 k s5.heap) R L I->Inv Y [] (Yj Z ix σ) L I:=λ{L I} U=>
    (U.pins_of λp B=>absurd B (by simp)).weak (by
     have e1:=(I0 0).len;have e2:=U.len;rw[e1,e2]) (DP dr)
   cases ok with
   | false=>
    obtain⟨e1,e2,e3,e4⟩:=back I7;obtain⟨m',hm,w7⟩:=hN _ _ q7;exact⟨m',hm,i+1,f,A,G,H7,unp I7,e3,e4,e1,vD,e2,w7⟩
   | true=>
    have a8:=he _ s7 R H7 _ I7 q7;rw[YP,Yw,YA,Ye,Yx] at a8;refine cU a8 (λyv I ⟨y,L,U,ry,q8⟩=>?_) λ_ _ z=>z.elim;obtain⟨e1,e2,e3,e4⟩:=back U;obtain⟨m',hm,w8⟩:=hN _ _ q8;refine append_at e1 (λh9 hs9 hD9=>?_) hsize;have I9:=(unp U).turned (t':=I.toks) (λb o a e=>hs9.extBut b o a e) e2 (by rw[eL];exact hDC) (.inr (by rw[eS];omega)) Q (λp B=>absurd (show p∈([]:List (aL×dU)) by rw[eP] at B;exact B) (by simp));refine⟨m',hm,i+1,f++[y],A.push yv,G+1,L,I9,T.keep _ _ _ e3 λb a o e=>hs9.extBut b o (bX (dfp b a)) e,e4,hD9,?_,e2,w8⟩;rw[iO];exact vD.append (.cons ry .nil)
 exact codeAny_compStart_list loop (T.self X.A 0 _ _ _ (T.keep _ _ _ st2 λb _ o e=>old b o e) loop)
theorem OI{O:List (aL×dU)}{L:St}{F:Hp}{s2:aO}{Q:List aL}{it:aL}{tn:Nat->ba->Prop}{J:It}{Fin:List V->Hp->Prop}{RR:aI->aL->pQ->aO->Prop}{E:aI->aO->Prop}
  (l:X.calm=aC) (S:CompScope X.N X.env.scope scope own fr ix)
  (hg:∀cl C s H ex,PG (ZI X (own++fr) scope cl C s H ex) tg g) (ht:∀cl C s H ex,Bw (ZI X (own++fr) scope cl C s H ex) ifs tt) (he:∀cl C s H ex,PE (ZI X (own++fr) scope cl C s H ex) elt te)
  (M:Inv X O L F s2) (T:JV X.prog X.w X.K tg J Q it tn) (I:tn 0 s2.heap) (Z:∀b∈Q,Sk X O F b)
  {W:Nat->Nat->List V->Hp->Prop} {m0:Nat} (w0:W 0 m0 [] F)
  (turn:∀i m ys H,W i m ys H->ys.length<=sizeLine/\
   ((J.stop i H/\Fin ys H)\/
    (J.go i H/\∃N:List V->Hp->Prop,(∀ys' H',N ys' H'->∃m',m'<m/\W (i+1) m' ys' H')/\
     ∀x H',J.yld i H x H'->g x (Yj own.length ix L) H' λt F=>t.drop own.length=(Yj own.length ix L).drop own.length/\tt t F λb H3=>if b=aC then te t H3 λy H4=>N (ys++[y]) H4 else N ys H3)))
  (Y:∀(D C:aL)(oC:dU)(m:bH->Option aI)(s':aO)(H':Hp)(ys:List V),Inv X (O++[(C,oC)]) L (upd H' D (.lst ys)) s'->s'.heap.get? C=ax oC->s'.heap.Ns C m->Sk X O (upd H' D (.lst ys)) C->H' D=aA->Fin ys H'->RR (.ref D) C (.ok .next) s') :
  bJ (model X.prog X.w) X.A (newList []) (λacc A=>bJ (model X.prog X.w) X.A (newFunctionEnv scope X.env.globals (VC X.env.cells scope.names []) [] X.env.qual aA .none (ax X.env)) (λk u=>
   jQ (model X.prog X.w) X.A (.compStart (.ListComp elt [⟨tg,iter,ifs,0⟩] scope pos) 0 (.ref it) acc { k with scope:=relabel scope X.env }) (RR acc k.locals) u) E A) E s2:=by
 have G:∀b∈Q,b<s2.heap.objs.size:=λb P=>by obtain⟨o,e,_⟩:=T.obj 0 s2.heap I b P;exact a9 e
 refine cy (lx S.nocell (by simp) (λh₁ d a=>?_) S.kind);generalize p:s2.heap.push { cls:=.type "list",dict:=aA,data:=.seq ([]:List aI).toArray }=G2 at d a ⊢;have R:G2.objs.size=s2.heap.objs.size+1:=by rw[<-p,cR]
 generalize hCC:G2.objs.size=C at d a R ⊢;generalize n:s2.heap.objs.size=D at R ⊢;have U:D≠C:=by omega
 have j:∀b,b<s2.heap.objs.size->b≠C/\b≠D:=λb P=>by rw[n] at P;exact⟨bN (by omega),bN P⟩
 have B:=λb o e=>a.extBut b o (j b (a9 e)).1 (aK _ (p▸aK _ e))
 have w:h₁.get? D=ax { cls:=.type "list",data:=.seq ([]:List aI).toArray 0 }:=by
  have e0:G2.get? D=ax { cls:=.type "list",data:=.seq ([]:List aI).toArray 0 }:=by rw[<-p,<-n];exact ak _ rfl
  exact a.extBut _ _ U (aK _ e0)
 have f:h₁.Ns C λ_=>aA:=by simpa using d
 have I0:=λtk=>B3 (tk:=tk) S M Z G (by omega) f B;refine DQ (s2:=s2) (h₁:=h₁) (fv:=λ_=>aB) (N:=own++fr) (C:=C) (D:=D) (cl:=VC X.env.cells scope.names []) l (hg _ _ _ _ _) (ht _ _ _ _ _) (he _ _ _ _ _) M T I Z w0 turn Y G R n B w I0 λx c e z=>?_;obtain⟨v,q⟩:=M.cell x c (Qb scope.names [] (S.clos M) (λh=>by simp at h) e);exact(j c q.lt).2 z
theorem Zdv(c:X.calm=aC)(w:PI X tg iter wi)(S:CompScope X.N X.env.scope scope own fr ix)
  (E:∀cl C s H ex,PG (ZI X (own++fr) scope cl C s H ex) tg g) (n:∀cl C s H ex,Bw (ZI X (own++fr) scope cl C s H ex) ifs tt) (k:∀cl C s H ex,PE (ZI X (own++fr) scope cl C s H ex) elt te)
  (F:∀x,cK iter X.env x=pure x:=by intro _;rfl):PE X (.ListComp elt [⟨tg,iter,ifs,0⟩] scope pos) (Ll own.length ix wi g tt te):=by
 intro N s z H Q I h;refine jw rfl F (Sv (S.clos I)) S.kind S.names (Yo (w N s z H _ I h) λv s1 q=>Yo q λl s2 p=>?_);obtain⟨R,P,Z,J,Y,e,G,T,i,j,W,⟨U,M⟩,turn⟩:=p;subst e;refine OI c S E n k G T i j M turn ?_;intro D C oC m s' A t y L B a u f;refine⟨m,B,λh' d=>⟨.ref D,upd A D (.lst t),?_,rfl,f D u⟩⟩;exact(y.unpinned).turned (λb o O e=>d.extBut b o O e) a.1 a.2.1 a.2.2.2.1 a.2.2.2.2.1 a.2.2.2.2.2
theorem Zdw{i:Nat}{y:bH}{u c:dw}(hN:X.N.Nodup)(hy:X.N[i]?=ax y)(d:X.env.scope.names.lookup y=ax .local)(f:X.calm=aC)(O:PI X tg iter wi)(S:CompScope X.N X.env.scope scope own fr ix)
  (Z:∀cl C s H ex,PG (ZI X (own++fr) scope cl C s H ex) tg g) (F:∀cl C s H ex,Bw (ZI X (own++fr) scope cl C s H ex) ifs tt) (B:∀cl C s H ex,PE (ZI X (own++fr) scope cl C s H ex) elt te)
  (n:iC (.ListComp elt [⟨tg,iter,ifs,0⟩] scope pos) (ax (.Name y u)) c.line X.env=pure aC:=by rfl)
  (hs:∀x,cK iter X.env x=pure x:=by intro _;rfl):PS X (.Assign [.Name y u] (.ListComp elt [⟨tg,iter,ifs,0⟩] scope pos) c) (Ke (Ll own.length ix wi g tt te) (Sq i)):=by
 intro p0 s Q H D0 I h;rw[exec_Assign_Name_used _ _ _ _ n];refine aG (mW (aG ?_))
 refine aG (cU (jw rfl hs (Sv (S.clos I)) S.kind S.names
  (Yo (O p0 s Q H _ I h) λv s1 L=>Yo L λE s2 G=>?_)) (λ_ s' A=>aW (aW A)) λ_ _ e=>e)
 obtain⟨it,fp,tn,J,H2,e,I2,T,q,z,W,⟨m0,w0⟩,turn⟩:=G;subst e;refine OI f S Z F B I2 T q z w0 turn ?_;intro D C w m s' R M P p U a N l;refine wpAny_assign_Name (S6 P hN hy (.inl d) (v:=.ref D) rfl (λs6 t=>?_) (.inr d));obtain⟨e6,_⟩:=t.pin (C,w) (ah _ (ah _ ag));obtain⟨o',es,ep,j,Y⟩:=U;rw[p] at j;cases j;refine⟨m,⟨w,es,ep,e6,Y⟩,λh' k=>⟨_,upd R D (.lst M),?_,l D N⟩⟩;exact(t.unpinned).turned (λb o hb e=>k.extBut b o hb e) a.1 a.2.1 a.2.2.2.1 a.2.2.2.2.1 a.2.2.2.2.2
end
open AutoSeq1 (wpAny_loadPart')
section
variable {prog:bM} {w:bc} {A:bq} {E:aI->aO->Prop} {s:aO}
theorem Ra{b l:aL}{i:Nat}{items}{x:aI}{Q:aI->aO->Prop}(a:s.heap.IsTupleIter b l i)
  (h:s.heap.IsTuple l items) (j:items[i]?=ax x)
  (f:∀h',h'.IsTupleIter b l (i+1)->cP b s.heap h'->Q x { s with heap:=h' }) :
  bJ (model prog w) A (jf (.ref b)) Q E s:=by
 obtain⟨o,c,g,hd⟩:=id a;obtain⟨k,d,_,m,e⟩:=h
 refine aG (cV a.typeIs F.slot_tuple_iterator_next
  (cj F.slot_tuple_iterator_next a.typeIs F.entry_tuple_iterator_next ?_ (F.args_tuple_iterator_next_1 _)))
 show bJ _ _ (field (.ref b) 0 >>= _) _ _ s;refine aG (cx c hd rfl ?_);refine aG (cx c hd rfl ?_);refine aG (eI d e ?_);simp only[bV,j];refine aG (iP c hd (by simp) (aW ⟨x,rfl,aW (f _ ?_ (cw ..))⟩));exact⟨_,eO _ c (iW (eJ hd _)),(jj ..).trans g,by rw[eJ hd];simp[gJ]⟩
theorem Qd{b l:aL}{i:Nat}{items}{Q:aI->aO->Prop}(g:A.handled=aA)
  (a:s.heap.IsTupleIter b l i) (h:s.heap.IsTuple l items) (j:items[i]?=aA)
  (k:∀h' e,mB b s.heap h'->(∃o,h'.get? e=ax o/\o.cls = .type "StopIteration")->E (.ref e) { s with heap:=h' }) :
  bJ (model prog w) A (jf (.ref b)) Q E s:=by
 obtain⟨o,d,n,hd⟩:=id a;obtain⟨p,c,_,q,f⟩:=h
 refine aG (cV a.typeIs F.slot_tuple_iterator_next
  (cj F.slot_tuple_iterator_next a.typeIs F.entry_tuple_iterator_next ?_ (F.args_tuple_iterator_next_1 _)))
 show bJ _ _ (field (.ref b) 0 >>= _) _ _ s;refine aG (cx d hd rfl ?_);refine aG (cx d hd rfl ?_);refine aG (eI c f ?_);simp only[bV,j];refine aG (mw (aG (iP d hd (by simp) ?_)));refine aG ?_;refine aG (m:=mC _ _) (oJ rfl ?_);refine cy ?_ (by size_fits);refine aG (wpAny_handled ?_)
 first | rw[g] | rw[g]
 refine aG (aW (wpAny_throw ?_));exact k _ _ (((cw ..).extBut.push _).push _) ⟨_,ak _ rfl,rfl⟩
end
noncomputable def SeqB(b:Bool)(h:ba)(a:aL)(p8:Array aI):Prop:=if b=aC then h.IsList a p8 else h.IsTuple a p8
noncomputable def IterB(b:Bool)(h:ba)(it a:aL)(i:Nat):Prop:=if b=aC then h.IsListIter it a i else h.IsTupleIter it a i
noncomputable def MH(b:Bool)(K:aH)(H:Hp)(a:aL)(xs:List V):Prop:=if b=aC then SqL K H a xs else SqT K H a xs
noncomputable def UJ(b:Bool)(a:aL):dU:={ cls:=.type (if b=aC then "list_iterator" else "tuple_iterator"),data:=.fields #[.ref a,.int 0 0] }
theorem SeqB.at{b:Bool}{h h':ba}{a:aL}{c:Array aI}(x:SeqB b h a c)(k:∀o,h.get? a=ax o->h'.get? a=ax o):SeqB b h' a c:=by
 cases b with
 | true=>obtain⟨o,e,r⟩:=(x);exact⟨o,k o e,r⟩
 | false=>obtain⟨o,e,r⟩:=(x);exact⟨o,k o e,r⟩
theorem SeqB.has{b:Bool}{h:ba}{a:aL}{c:Array aI}(x:SeqB b h a c):∃o,h.get? a=ax o:=by
 cases b with
 | true=>obtain⟨o,e,r⟩:=(x);exact⟨o,e⟩
 | false=>obtain⟨o,e,r⟩:=(x);exact⟨o,e⟩
theorem IterB.at{b:Bool}{h h':ba}{c a:aL}{i:Nat}(x:IterB b h c a i)(k:∀o,h.get? c=ax o->h'.get? c=ax o):IterB b h' c a i:=by
 cases b with
 | true=>obtain⟨o,e,r⟩:=(x);exact⟨o,k o e,r⟩
 | false=>obtain⟨o,e,r⟩:=(x);exact⟨o,k o e,r⟩
theorem IterB.has{b:Bool}{h:ba}{c a:aL}{i:Nat}(x:IterB b h c a i):∃o,h.get? c=ax o/\∀v,o.data≠.cell v:=by
 cases b with
 | true=>obtain⟨o,e,_,d⟩:=(x);exact⟨o,e,λv z=>by rw[d] at z;cases z⟩
 | false=>obtain⟨o,e,_,d⟩:=(x);exact⟨o,e,λv z=>by rw[d] at z;cases z⟩
theorem IterB.new{b:Bool}{h:ba}{c a:aL}(e:h.get? c=ax (UJ b a)):IterB b h c a 0:=by
 cases b with
 | true=>exact⟨_,e,rfl,rfl⟩
 | false=>exact⟨_,e,rfl,rfl⟩
section
variable {X:Cx} {p0:List (aL×dU)} {σ:St} {H:Hp} {s:aO} {a:aL} {xs ys:List V} {b:Bool}
theorem Inv.seqB(I:Inv X p0 σ H s)(h:MH b X.K H a xs):∃c:List aI,Vals xs c/\SeqB b s.heap a c.toArray/\xs.length<=sizeLine:=by
 cases b with
 | true=>
  obtain⟨c,r,p,z⟩:=I.list (h);exact⟨c,r,p.isList,z⟩
 | false=>
  obtain⟨c,r,p,z⟩:=I.tuple (h);exact⟨c,r,p,z⟩
theorem Inv.seqB_inj(I:Inv X p0 σ H s)(h:MH b X.K H a xs)(h':MH b X.K H a ys):xs=ys:=by
 cases b with
 | true=>exact I.list_inj (h) (h')
 | false=>exact I.tuple_inj (h) (h')
end
theorem Draws.seq{prog:bM}{w:bc}{A:bq}(b:Bool)(n:A.handled=aA)(f l:aL)(d:l≠f)(items:Array aI) :
  Draws prog w A f [f,l] items.size (λi v=>items[i]?=ax v) (λi h=>IterB b h f l i/\SeqB b h l items) where
 live:=λ_ _ st=>let⟨o,p,_⟩:=st.1.has;⟨o,p⟩
 frame:=λ_ _ _ st m=>⟨st.1.at λo e=>m f (by simp) o e,st.2.at λo e=>m l (by simp) o e⟩
 item:=λi s Q E g st j=>by
  cases b with
  | true=>
   refine wpAny_nextOf_list_item (st.1) (st.2) (x:=items[i]) (by simp[g]) λh' c a=>?_;exact j _ h' s.toks (by simp[g]) ⟨c,st.2.at λo e=>a.extBut l o d e⟩ a
  | false=>
   refine Ra (st.1) (st.2) (x:=items[i]) (by simp[g]) λh' c a=>?_;exact j _ h' s.toks (by simp[g]) ⟨c,st.2.at λo e=>a.extBut l o d e⟩ a
 done:=λs Q E st k=>by
  cases b with
  | true=>exact wpAny_nextOf_list_end n (st.1) (st.2) (by simp) k
  | false=>exact Qd n (st.1) (st.2) (by simp) k
theorem YQ{prog:bM}{w:bc}{A:bq}{E:aI->aO->Prop}{s:aO}{b:Bool}{a:aL}{d:Array aI}{Q:aI->aO->Prop}(h:SeqB b s.heap a d)
  (c:Q (.ref s.heap.objs.size) { s with heap:=s.heap.push (UJ b a) }):bJ (model prog w) A (nY (.ref a)) Q E s:=by
 cases b with
 | true=>exact wpAny_pyIter_list (h) c
 | false=>exact j3 (h) c
set_option maxHeartbeats 4000000 in
theorem OJ(b:Bool)(l:aL)(items:Array aI) :
  Meets (fj.«enumerate.__new__» ⟨[.type "enumerate",.ref l],[]⟩) (λ_ R s=>SeqB b s.heap l items/\
   R (.ok (.ret (.ref (s.heap.push (UJ b l)).objs.size)))
    { s with heap:=(s.heap.push (UJ b l)).push { cls:=.type "enumerate",data:=.fields #[.none,.bool aB,.ref s.heap.objs.size,gJ 0,.none,.none] } }):=
 .of_wp λprog w A R s h=>by
  obtain⟨j,g,d,tk,os⟩:=s;obtain⟨f,h⟩:=h;have i:=sub_enumerate;obtain⟨o,a⟩:=f.has;have e:SeqB b (pU ⟨j,g,d,tk,os⟩) l items:=f
  wp_walk using jF a
  refine wpAny_stack_any λst=>aW ?_;split
  ·rename_i c _ _ _ _ _;cases (c==kY "enumerate")
   ·wp_walk using jF a,YQ e
    exact⟨_,rfl,h⟩
   ·wp_walk using jF a,YQ e
    exact⟨_,rfl,h⟩
  ·wp_walk using jF a,YQ e
   exact⟨_,rfl,h⟩
section
variable {prog:bM} {w:bc} {A:bq} {E:aI->aO->Prop} {s:aO}
theorem ML{b:Bool}{l:aL}{items:Array aI}{Q:aI->aO->Prop}(e:SeqB b s.heap l items)
  (h:∀h',IsEnum h' (s.heap.objs.size+1) s.heap.objs.size 0 .none->IterB b h' s.heap.objs.size l 0->h'.objs.size=s.heap.objs.size+2->
   (∀b o,s.heap.get? b=ax o->h'.get? b=ax o)->Q (.ref (s.heap.objs.size+1)) { s with heap:=h' }) :
  bJ (model prog w) A (call (.type "enumerate") [.ref l]) Q E s:=by
 refine callType_new F.called_enumerate rfl (F.typeCall_enumerate_1 _) (F.newCall_enumerate_1 _) (λa=>F.args_object_init_2 a _) F.entry_enumerate_new
  (OJ b l items) ⟨e,?_⟩
 have c:(s.heap.push (UJ b l)).objs.size=s.heap.objs.size+1:=cR ..;rw[c]
 have d:IsEnum ((s.heap.push (UJ b l)).push
   { cls:=.type "enumerate",data:=.fields #[.none,.bool aB,.ref s.heap.objs.size,gJ 0,.none,.none] }) (s.heap.objs.size+1) s.heap.objs.size 0 .none:=by
  have:=ak (s.heap.push (UJ b l))
   (o:={ cls:=.type "enumerate",data:=.fields #[.none,.bool aB,.ref s.heap.objs.size,gJ 0,.none,.none] }) rfl
  rw[c] at this;exact this
 refine⟨⟨_,d,rfl⟩,h _ d (IterB.new (aK _ (ak _ rfl))) (by simp) λb o x=>aK _ (aK _ x)⟩
end
noncomputable def Ite(b:Bool)(K:aH)(a:aL):It:=
  ⟨λi H=>∃xs x,MH b K H a xs/\xs[i]?=ax x,
   λi H v H'=>∃p x,H p=aA/\v = .ref p/\H'=upd H p (.tup [.int i,x])/\∀xs,MH b K H a xs->xs[i]?=ax x,
   λi H=>∃xs,MH b K H a xs/\xs.length=i⟩
theorem DR{P:bM}{w:bc}{K:aH}{elts:List bO}{k:Nat}{pos:dw}(b:Bool)(a e t:aL)(R:e≠t) :
  JV P w K (.Tuple elts k pos) (Ite b K a) [e,t] e (λi h=>(∃C,IsEnum h e t i C)/\IterB b h t a i) where
 mem:=by simp
 obj:=λi h st c N=>by
  rcases aa.mp N with rfl | N
  ·obtain⟨⟨C,q⟩,_⟩:=st;exact⟨_,q,λv z=>by cases z⟩
  ·rw[aM.mp N];exact st.2.has
 keep:=λi h h' st M=>⟨let⟨C,q⟩:=st.1;⟨C,M e (by simp) _ q⟩,st.2.at λo q=>M t (by simp) o q⟩
 item:=by
  intro X hP hw hK N i p0 s σ H E I T st hg;subst hP hw hK;obtain⟨xs,x,hq,hx⟩:=hg;obtain⟨U,rv,p,hz⟩:=I.seqB hq;obtain⟨u,hu,ru⟩:=rv.get hx;obtain⟨⟨C,J⟩,l⟩:=st;have fe:=T e (by simp);have fi:=T t (by simp);obtain⟨oa,S⟩:=p.has
  -- the sequence is neither record
  have j:∀c,Sk X p0 H c->(∃oc,s.heap.get? c=ax oc/\∃n vs,oc.cls = .type n/\oc.data = .fields vs)->a≠c:=λc _ ⟨oc,hoc,n,vs,hn,hv⟩ z=>by
   subst z;rw[S] at hoc;cases hoc
   cases b with
   | true=>obtain⟨o,G,_,m,d⟩:=(p);rw[S] at G;cases G;rw[hv] at d;cases d
   | false=>obtain⟨o,G,_,m,d⟩:=(p);rw[S] at G;cases G;rw[hv] at d;cases d
  have ae:=j e fe ⟨_,J,_,_,rfl,rfl⟩
  have ai:=j t fi (by
   cases b with
   | true=>obtain⟨o,G,c1,d1⟩:=(l);exact⟨o,G,_,_,c1,d1⟩
   | false=>obtain⟨o,G,c1,d1⟩:=(l);exact⟨o,G,_,_,c1,d1⟩)
  have D:=Draws.seq (prog:=X.prog) (w:=X.w) (A:=X.A.in1) b (I.ok.hd N) t a ai U.toArray;have hlt:i<U.toArray.size:=by have:=(aR.mp hu).1;simpa using this
  refine wpAny_pyNext_enum_itemD D J ⟨l,p⟩ hlt R (by simp[R,bX ae]) λy h' tk hPy ho hs' hT hsz hk=>?_
  have ey:y=u:=by
   have q1:=hPy;have q2:U.toArray[i]?=ax u:=by simpa using hu
   rw[q1] at q2;exact bC q2
  subst ey;refine⟨_,rfl,wpAny_letOwnedTupleGo_enum ho λh2 he2 L=>?_⟩;have Tne:=fW (a9 J);have B:=I.hok.fresh (aZ _);have M:∀c o,c∉[e,t]->s.heap.get? c=ax o->h2.get? c=ax o:=λc o g q=>L.extBut c o (λz=>g (by simp[z])) (hk c o (λz=>g (by simp[z])) (λz=>g (by simp[z])) q);have Y:=L.extBut _ _ Tne hT;have hcs:∀c∈[e,t],(c∈X.ex\/X.s₀.heap.objs.size<=c)/\c≠X.env.locals/\(∀x d,X.env.cells.lookup x=ax d->d≠c)/\∀p∈X.pn++p0,p.1≠c:=λc g=>by have f:=T c g;exact⟨f.2.2.2.1,f.2.1,f.2.2.2.2.1,f.2.2.2.2.2⟩
  have nfp:∀c O,H c=ax O->c∉[e,t]:=λc O q g=>by rw[(T c g).1] at q;cases q
  have hok0:=λc O q=>(I.hok c O q).stay (λd v hd q'=>M d v (by
    rcases hd with z | z
    ·rw[z];exact nfp c O q
    ·exact nfp d _ z) q') (λ_ z=>z) (λ_ _ z=>z) λ_ _ z=>z
  have new:ObjOk X.prog X.w (upd H s.heap.objs.size (.tup [.int i,x])) h2 s.heap.objs.size (.tup [.int i,x]):=
   ⟨⟨by show 2<=sizeLine;decide,λo e=>by rw[Y] at e;cases e;rfl⟩,[.int i tk,y],.cons ⟨tk,rfl⟩ (.cons ru .nil),⟨_,Y,rfl,_,rfl⟩⟩
  have hok1:HOk X.prog X.w (upd H s.heap.objs.size (.tup [.int i,x])) h2:=λc O q=>by
   by_cases hb:c=s.heap.objs.size
   ·subst hb;rw[Zk] at q;cases q;exact new
   ·rw[upd_ne hb] at q;exact(hok0 c O q).stay (λd v _ q'=>q') (λd z=>by rw[upd_ne (Zr z B)];exact z) (λd zs z=>by rw[upd_ne (Zr z B)];exact z) λd u z=>by rw[upd_ne (Zr z B)];exact z
  have un:Un (Kc X.stack) [e,t] H (upd H s.heap.objs.size (.tup [.int i,x])) s.heap h2:=by
   refine⟨λc o q _ _ F=>M c o F q,λc o q _ _ F=>⟨o.slots,M c o F q⟩,λc o q n _=>?_,λc o q F=>⟨o,M c o F q⟩,λc zs q=>?_,λc o zs q=>?_,λc ps q=>⟨#[],?_⟩⟩
   ·rw[upd_ne (bN (a9 q))];exact n
   ·rw[upd_ne (Zr q B)];exact q
   ·rw[upd_ne (Zr q B)];exact q
   ·rw[upd_ne (Zr q B),q];simp
  have I2:Inv X p0 σ (upd H s.heap.objs.size (.tup [.int i,x])) { s with heap:=h2,toks:=tk+1 }:=I.call un hok1 I.bare hcs;refine⟨.ref s.heap.objs.size,upd H s.heap.objs.size (.tup [.int i,x]),I2,rfl,⟨_,x,B,rfl,rfl,λzs hzs=>by rw[I.seqB_inj hzs hq];exact hx⟩,⟨⟨y,by simpa using he2⟩,?_⟩,λc g=>?_⟩
  ·exact hs'.1.at λo q=>L.extBut t o (bX R) q
  ·rw[upd_ne (bN (by
    rcases aa.mp g with rfl | g
    ·exact a9 J
    ·rw[aM.mp g];obtain⟨o,q,_⟩:=l.has;exact a9 q))]
   exact(T c g).1
 done:=by
  intro X hP hw hK N i p0 s σ H E I T st hg;subst hP hw hK;obtain⟨xs,hq,hx⟩:=hg;obtain⟨U,rv,p,hz⟩:=I.seqB hq;obtain⟨⟨C,J⟩,l⟩:=st;have fi:=T t (by simp)
  have ai:a≠t:=λz=>by
   subst z
   cases b with
   | true=>
    obtain⟨o,G,_,m,d⟩:=(p);obtain⟨o',Z,_,W⟩:=(l);rw[G] at Z;cases Z;rw[d] at W;cases W
   | false=>
    obtain⟨o,G,_,m,d⟩:=(p);obtain⟨o',Z,_,W⟩:=(l);rw[G] at Z;cases Z;rw[d] at W;cases W
  have D:=Draws.seq (prog:=X.prog) (w:=X.w) (A:=X.A.in1) b (I.ok.hd N) t a ai U.toArray;have hl:=rv.length;have hi:i=U.toArray.size:=by simp;omega
  refine wpAny_pyNext_enum_endD D J (by rw[<-hi];exact⟨l,p⟩) λh' F=>⟨rfl,?_⟩;obtain⟨f0,f1,f2,f3,f4,f5⟩:=fi;exact I.turned (λc o hb q=>F c o hb q) f0 f1 f3 f4 f5
 self:=λA i s Q E st hQ=>by obtain⟨⟨C,J⟩,_⟩:=st;exact wpAny_pyIter_enum J hQ
end L2
namespace L2
open PySem PySem.Spec PyProof.Rows
section
variable {X:Cx}
noncomputable def Zlm(b:Bool)(K:aH)(ta:TA):TI:=λσ H R=>ta σ H λvs H1=>∃a,vs=[.ref a]/\(∃xs,MH b K H1 a xs)/\R (Ite b K a) H1
theorem Zdx{f:List bO}{k:Nat}{i:dw}(b:Bool){a:bO}{m:TA}{p pos:dw}(B:Gl X "enumerate")(x:X.mg "enumerate" = aA)(u:PA X [a] m)(C:aP [a] X.env=[(aB,eval a X.env)]:=by rfl) :
  PI X (.Tuple f k i) (.Call (.Name "enumerate" p) [a] [] pos) (Zlm b X.K m):=by
 intro E s y H R I h;refine pL (XZ I B x rfl (bg (Yo (u pos E s y H _ I h) λF s1 ⟨vs,A,d,z,v⟩=>?_) C rfl));obtain⟨a,e,⟨xs,t⟩,q⟩:=v;subst e
 cases z with
 | cons r rr=>
  cases rr;cases r;obtain⟨J,G,g,L⟩:=d.seqB t;refine ML g λh' n j o w=>?_;refine wpAny_pyIter_enum n ?_;have D:=d.kept (t':=s1.toks) w;have ne:s1.heap.objs.size+1≠s1.heap.objs.size:=fW (dt _);refine⟨s1.heap.objs.size+1,[s1.heap.objs.size+1,s1.heap.objs.size],_,_,A,rfl,D,DR b a (s1.heap.objs.size+1) s1.heap.objs.size ne,⟨⟨.none,n⟩,j⟩,λc l=>?_,q⟩;rcases aa.mp l with rfl | l
  ·exact d.fpOk (iG _) (d.hok.fresh (iG _))
  ·rw[aM.mp l];exact d.fpOk (aZ _) (d.hok.fresh (aZ _))
end
section
variable {prog:bM} {w:bc} {A:bq} {E:aI->aO->Prop} {s:aO}
structure Ln(z TI TO i1 i2:aL)(fp1 fp2:List aL):Prop where
 TIz:TI≠z
 TOz:TO≠z
 i1z:i1≠z
 i2z:i2≠z
 TITO:TI≠TO
 TIi1:TI≠i1
 TIi2:TI≠i2
 TOi1:TO≠i1
 TOi2:TO≠i2
 i12:i1≠i2
 z1:z∉fp1
 TO1:TO∉fp1
 i21:i2∉fp1
 z2:z∉fp2
 TO2:TO∉fp2
 i12':i1∉fp2
theorem B4{z TI TO i1 i2:aL}{fp1 fp2:List aL}{n1 n2 k:Nat}{P1 P2:Nat->aI->Prop}{S U:Nat->ba->Prop}{a b:aI}{Q:aI->aO->Prop}(D:Ln z TI TO i1 i2 fp1 fp2)
  (D1:Draws prog w A i1 fp1 n1 P1 S) (D2:Draws prog w A i2 fp2 n2 P2 U)
  (hz:lH s.heap z TI TO .none) (hTI:gU s.heap TI (.ref i1) (.ref i2)) (hTO:gU s.heap TO a b)
  (h1:S k s.heap) (h2:U k s.heap) (hx:k<n1) (hy:k<n2)
  (hQ:∀x y h' tk,P1 k x->P2 k y->lH h' z TI TO (gJ s.heap.objs.size)->gU h' TO x y->S (k+1) h'->U (k+1) h'->gU h' s.heap.objs.size x y->h'.objs.size=s.heap.objs.size+1->
   (∀c o,c≠z->c≠TO->c≠i1->c≠i2->s.heap.get? c=ax o->h'.get? c=ax o)->Q (.ref s.heap.objs.size) { s with heap:=h',toks:=tk }) :
  bJ (model prog w) A (fj.«zip.__next__» ⟨[.ref z],[]⟩) (λfin s'=>∃v,fin = .done (.ret v)/\Q v s') E s:=by
 show bJ _ _ (field (.ref z) 2 >>= _) _ _ _;refine aG (cx hz rfl rfl ?_);refine aG (cx hz rfl rfl ?_);refine aG (eI hTI rfl ?_);refine aG ?_;refine aG (cx hz rfl rfl (aW ?_));refine aG (mw ?_);refine aG (cx hz rfl rfl ?_);refine aG (eK hz (by simp) λh₁ C l=>?_)
 replace C:lH h₁ z TI TO .ellipsis:=C
 refine aG ?_;refine aG (aG (jx ?_));have st1:=D1.frame _ _ _ h1 λc B o e=>l.extBut c o (λq=>D.z1 (q▸B)) e;refine aG (D1.item k _ _ _ hx st1 λx M tk₂ hPx R h=>aW ?_)
 replace h:cP i1 h₁ M:=h
 have F:=h.extBut _ _ D.TOi1 (l.extBut _ _ D.TOz hTO);refine aG (eI F rfl ?_);refine aG (ie F λJ m d=>?_)
 replace m:gU J TO x b:=m
 replace d:cP TO M J:=d
 refine aG (oK (aW ?_));refine aG (aG (jx ?_));have st2:=D2.frame _ _ _ h2 λc B o e=>d.extBut c o (λq=>D.TO2 (q▸B)) (h.extBut c o (λq=>D.i12' (q▸B)) (l.extBut c o (λq=>D.z2 (q▸B)) e));refine aG (D2.item k _ _ _ hy st2 λy N X hPy W f=>aW ?_)
 replace f:cP i2 J N:=f
 have G:=f.extBut _ _ D.TOi2 m;refine aG (eI G rfl ?_);refine aG (ie G λi j g=>?_)
 replace j:gU i TO x y:=j
 replace g:cP TO N i:=g
 refine aG (oK (aW (aW ?_)));refine aG (eI j rfl ?_);refine aG (wpAny_newTuple ?_);have hsz:i.objs.size=s.heap.objs.size:=by rw[g.1,f.1,d.1,h.1,l.1]
 have L:=g.extBut _ _ D.TOz.symm (f.extBut _ _ D.i2z.symm (d.extBut _ _ D.TOz.symm (h.extBut _ _ D.i1z.symm C)))
 have P:∀c o,c≠z->c≠TO->c≠i1->c≠i2->s.heap.get? c=ax o->i.get? c=ax o:=λc o c1 c2 c3 c4 e=>
  g.extBut _ _ c2 (f.extBut _ _ c4 (d.extBut _ _ c2 (h.extBut _ _ c3 (l.extBut _ _ c1 e))))
 have T:=D1.frame _ _ _ R λc B o e=>g.extBut c o (λq=>D.TO1 (q▸B)) (f.extBut c o (λq=>D.i21 (q▸B)) (d.extBut c o (λq=>D.TO1 (q▸B)) e));have Y:=D2.frame _ _ _ W λc B o e=>g.extBut c o (λq=>D.TO2 (q▸B)) e;have O:=a9 L;refine aG ?_;have Z:lH (i.push { cls:=.type "tuple",data:=.seq #[x,y] }) z TI TO .ellipsis:=aK _ L;refine aG (eK Z (by simp) λh₇ u t=>?_)
 replace u:lH h₇ z TI TO (gJ i.objs.size):=u
 refine eK u (by simp) λH n p=>?_
 replace n:lH H z TI TO (gJ i.objs.size):=n
 have up:∀c o,c≠z->i.get? c=ax o->H.get? c=ax o:=λc o c1 e=>p.extBut _ _ c1 (t.extBut _ _ c1 (aK _ e));have I:=p.extBut _ _ (fW O) (t.extBut _ _ (fW O) (ak _ rfl));have hz8:H.objs.size=i.objs.size+1:=by rw[p.1,t.1,cR]
 rw[hsz] at n I hz8;refine aW ⟨_,rfl,?_⟩;rw[hsz];exact hQ x y H X hPx hPy n (up _ _ D.TOz j) (D1.frame _ _ _ T λc B o e=>up c o (λq=>D.z1 (q▸B)) e) (D2.frame _ _ _ Y λc B o e=>up c o (λq=>D.z2 (q▸B)) e) I hz8 λc o c1 c2 c3 c4 e=>up c o c1 (P c o c1 c2 c3 c4 e)
theorem Zdy{z TI TO G P:aL}{I L:List aL}{n1 n2 k:Nat}{P1 P2:Nat->aI->Prop}{J H:Nat->ba->Prop}{a b:aI}{Q:PySem.Fin->aO->Prop}(D:Ln z TI TO G P I L)
  (T:Draws prog w A G I n1 P1 J) (D2:Draws prog w A P L n2 P2 H)
  (N:lH s.heap z TI TO .none) (X:gU s.heap TI (.ref G) (.ref P)) (Y:gU s.heap TO a b)
  (h1:J k s.heap) (h2:H k s.heap) (O:k=n1\/(k<n1/\k=n2))
  (hE:∀h' tk e,(∀c o,c≠z->c≠TO->c≠G->c≠P->s.heap.get? c=ax o->h'.get? c=ax o)->(∃o,h'.get? e=ax o/\o.cls = .type "StopIteration")->E (.ref e) { s with heap:=h',toks:=tk }) :
  bJ (model prog w) A (fj.«zip.__next__» ⟨[.ref z],[]⟩) Q E s:=by
 show bJ _ _ (field (.ref z) 2 >>= _) _ _ _;refine aG (cx N rfl rfl ?_);refine aG (cx N rfl rfl ?_);refine aG (eI X rfl ?_);refine aG ?_;refine aG (cx N rfl rfl (aW ?_));refine aG (mw ?_);refine aG (cx N rfl rfl ?_);refine aG (eK N (by simp) λh₁ j g=>?_)
 replace j:lH h₁ z TI TO .ellipsis:=j
 replace g:cP z s.heap h₁:=g
 refine aG ?_;refine aG (aG (jx ?_));have F:=T.frame _ _ _ h1 λc M o e=>g.extBut c o (λq=>D.z1 (q▸M)) e;rcases O with Z | ⟨hx,Z⟩
 ·rw[Z] at F;refine aG (T.done _ _ _ F λl e d W=>?_)
  replace d:mB G h₁ l:=d
  obtain⟨oe,n,v⟩:=W;have t:=d _ _ D.i1z.symm j;have C:e≠z:=λx=>by subst x;rw[t] at n;cases n;simp at v
  refine eK t (by simp) λm _ f=>?_
  replace f:cP z l m:=f
  exact hE m _ e (λc o c1 _ c3 _ x=>f.extBut _ _ c1 (d _ _ c3 (g.extBut _ _ c1 x))) ⟨oe,f.extBut _ _ C n,v⟩
 ·refine aG (T.item k _ _ _ hx F λx l U hPx h1₂ d=>aW ?_)
  replace d:cP G h₁ l:=d
  have p:=d.extBut _ _ D.TOi1 (g.extBut _ _ D.TOz Y);refine aG (eI p rfl ?_);refine aG (ie p λm S f=>?_)
  replace f:cP TO l m:=f
  refine aG (oK (aW ?_));refine aG (aG (jx ?_));have R:=D2.frame _ _ _ h2 λc M o e=>f.extBut c o (λq=>D.TO2 (q▸M)) (d.extBut c o (λq=>D.i12' (q▸M)) (g.extBut c o (λq=>D.z2 (q▸M)) e));rw[Z] at R;refine aG (D2.done _ _ _ R λy e h W=>?_)
  replace h:mB P m y:=h
  obtain⟨oe,n,v⟩:=W;have u:=h _ _ D.i2z.symm (f.extBut _ _ D.TOz.symm (d.extBut _ _ D.i1z.symm j));have C:e≠z:=λx=>by subst x;rw[u] at n;cases n;simp at v
  refine eK u (by simp) λB _ i=>?_
  replace i:cP z y B:=i
  exact hE B _ e (λc o c1 c2 c3 c4 x=>i.extBut _ _ c1 (h _ _ c4 (f.extBut _ _ c2 (d.extBut _ _ c3 (g.extBut _ _ c1 x))))) ⟨oe,i.extBut _ _ C n,v⟩
theorem Pu{z TI TO i h:aL}{f g:List aL}{u t k:Nat}{p n:Nat->aI->Prop}{e d:Nat->ba->Prop}{a b:aI}{Q:Option aI->aO->Prop}(D:Ln z TI TO i h f g)
  (B:Draws prog w A.in1 i f u p e) (C:Draws prog w A.in1 h g t n d)
  (q:lH s.heap z TI TO .none) (j:gU s.heap TI (.ref i) (.ref h)) (l:gU s.heap TO a b)
  (O:e k s.heap) (L:d k s.heap) (J:k<u) (T:k<t)
  (H:∀x y h' tk,p k x->n k y->lH h' z TI TO (gJ s.heap.objs.size)->gU h' TO x y->e (k+1) h'->d (k+1) h'->gU h' s.heap.objs.size x y->h'.objs.size=s.heap.objs.size+1->
   (∀c o,c≠z->c≠TO->c≠i->c≠h->s.heap.get? c=ax o->h'.get? c=ax o)->Q (ax (.ref s.heap.objs.size)) { s with heap:=h',toks:=tk }) :
  bJ (model prog w) A (jv (.ref z)) Q E s:=by
 have m:s.TypeIs (.ref z) "zip":=⟨_,q,rfl⟩
 exact aG (jy (cV m F.slot_zip_next
  (cj F.slot_zip_next m F.entry_zip_next
   (B4 D B C q j l O L J T λx y h' tk G p2 v S R M I N P=>aW (H x y h' tk G p2 v S R M I N P)) (F.args_zip_next_1 _))))
theorem OK{z TI TO l j:aL}{f h:List aL}{p u k:Nat}{H x:Nat->aI->Prop}{g d:Nat->ba->Prop}{a b:aI}{Q:Option aI->aO->Prop}(D:Ln z TI TO l j f h)
  (v:Draws prog w A.in1 l f p H g) (B:Draws prog w A.in1 j h u x d)
  (t:lH s.heap z TI TO .none) (m:gU s.heap TI (.ref l) (.ref j)) (n:gU s.heap TO a b)
  (I:g k s.heap) (G:d k s.heap) (i:k=p\/(k<p/\k=u))
  (C:∀h' tk,(∀c o,c≠z->c≠TO->c≠l->c≠j->s.heap.get? c=ax o->h'.get? c=ax o)->Q aA { s with heap:=h',toks:=tk }):bJ (model prog w) A (jv (.ref z)) Q E s:=by
 have q:s.TypeIs (.ref z) "zip":=⟨_,t,rfl⟩
 refine aG (jy (cV q F.slot_zip_next
  (cj F.slot_zip_next q F.entry_zip_next (Zdy D v B t m n I G i λh' tk e L y=>?_) (F.args_zip_next_1 _))))
 obtain⟨o,M,J⟩:=y;refine aG (kR ⟨o,M,J⟩ isSubtype_stop ?_);exact aW (C _ tk L)
end
abbrev zq1(h:ba)(b1:Bool)(l1:aL):ba:=h.push (UJ b1 l1)
abbrev zq2(h:ba)(b1 b2:Bool)(l1 l2:aL):ba:=(zq1 h b1 l1).push (UJ b2 l2)
abbrev zq3(h:ba)(b1 b2:Bool)(l1 l2:aL):ba:=(zq2 h b1 b2 l1 l2).push { cls:=.type "tuple",data:=.seq #[.ref h.objs.size,.ref (zq1 h b1 l1).objs.size] }
abbrev zq4(h:ba)(b1 b2:Bool)(l1 l2:aL):ba:=(zq3 h b1 b2 l1 l2).push { cls:=.type "tuple",data:=.seq #[.none,.none] }
abbrev zq5(h:ba)(b1 b2:Bool)(l1 l2:aL):ba:=(zq4 h b1 b2 l1 l2).push { cls:=.type "zip",data:=.fields #[.none,.bool aB,.bool aB,.ref (zq2 h b1 b2 l1 l2).objs.size,.ref (zq3 h b1 b2 l1 l2).objs.size] }
theorem MM(b1 c:Bool)(b a:aL)(xs l:Array aI) :
  Meets (fj.«zip.__new__» ⟨[.type "zip",.ref b,.ref a],[]⟩) (λ_ R s=>SeqB b1 s.heap b xs/\SeqB c s.heap a l/\
   R (.ok (.ret (.ref (zq4 s.heap b1 c b a).objs.size))) { s with heap:=zq5 s.heap b1 c b a }):=
 .of_wp λprog w A R s h=>by
  obtain⟨n,g,d,tk,os⟩:=s;obtain⟨f,k,h⟩:=h;have m:=sub_zip;have j:=f;have i:SeqB c (pU ⟨n.push (UJ b1 b),g,d,tk,os⟩) a l:=k.at λo e=>aK _ e
  wp_walk using YQ j,YQ i
  exact⟨_,rfl,h⟩
section
variable {prog:bM} {w:bc} {A:bq} {E:aI->aO->Prop} {s:aO}
theorem Km{b1 d:Bool}{a b:aL}{xs n:Array aI}{Q:aI->aO->Prop}(e:SeqB b1 s.heap a xs)(k:SeqB d s.heap b n)
  (h:∀h',lH h' (s.heap.objs.size+4) (s.heap.objs.size+2) (s.heap.objs.size+3) .none->gU h' (s.heap.objs.size+2) (.ref s.heap.objs.size) (.ref (s.heap.objs.size+1))->
   gU h' (s.heap.objs.size+3) .none .none->IterB b1 h' s.heap.objs.size a 0->IterB d h' (s.heap.objs.size+1) b 0->h'.objs.size=s.heap.objs.size+5->
   (∀c o,s.heap.get? c=ax o->h'.get? c=ax o)->Q (.ref (s.heap.objs.size+4)) { s with heap:=h' }) :
  bJ (model prog w) A (call (.type "zip") [.ref a,.ref b]) Q E s:=by
 refine callType_new F.called_zip rfl (F.typeCall_zip_2 _ _) (F.newCall_zip_2 _ _) (λj=>F.args_object_init_3 j _ _) F.entry_zip_new
  (MM b1 d a b xs n) ⟨e,k,?_⟩
 have l:(zq1 s.heap b1 a).objs.size=s.heap.objs.size+1:=cR ..;have i:(zq2 s.heap b1 d a b).objs.size=s.heap.objs.size+2:=by rw[cR,l]
 have f:(zq3 s.heap b1 d a b).objs.size=s.heap.objs.size+3:=by rw[cR,i]
 have g:(zq4 s.heap b1 d a b).objs.size=s.heap.objs.size+4:=by rw[cR,f]
 have u:(zq5 s.heap b1 d a b).objs.size=s.heap.objs.size+5:=by rw[cR,g]
 have m:(zq5 s.heap b1 d a b).get? (zq4 s.heap b1 d a b).objs.size=ax _:=ak _ rfl;have t:(zq5 s.heap b1 d a b).get? (zq3 s.heap b1 d a b).objs.size=ax _:=aK _ (ak _ rfl);have q:(zq5 s.heap b1 d a b).get? (zq2 s.heap b1 d a b).objs.size=ax _:=aK _ (aK _ (ak _ rfl));have p:(zq5 s.heap b1 d a b).get? (zq1 s.heap b1 a).objs.size=ax (UJ d b):=aK _ (aK _ (aK _ (ak _ rfl)));have v:(zq5 s.heap b1 d a b).get? s.heap.objs.size=ax (UJ b1 a):=aK _ (aK _ (aK _ (aK _ (ak _ rfl))));rw[i,f,g] at m;rw[l,i] at q;rw[f] at t;rw[l] at p;rw[g]
 exact⟨⟨_,m,rfl⟩,h _ m q t (IterB.new v) (IterB.new p) u λc o x=>
  aK _ (aK _ (aK _ (aK _ (aK _ x))))⟩
end
theorem Inv.newTup{X:Cx}{y:List (aL×dU)}{G:St}{H:Hp}{s:aO}{k:List aL}{j:ba}{tk n:Nat}{C:List aI}{xs:List V}(I:Inv X y G H s)(F:∀b∈k,Sk X y H b)
  (w:∀c o,c∉k->s.heap.get? c=ax o->j.get? c=ax o) (D:j.get? s.heap.objs.size=ax { cls:=.type "tuple",data:=.seq C.toArray n }) (L:Vals xs C) (M:xs.length<=sizeLine) :
  Inv X y G (upd H s.heap.objs.size (.tup xs)) { s with heap:=j,toks:=tk }:=by
 have a:=I.hok.fresh (aZ _);have B:∀c∈k,(c∈X.ex\/X.s₀.heap.objs.size<=c)/\c≠X.env.locals/\(∀x d,X.env.cells.lookup x=ax d->d≠c)/\∀p∈X.pn++y,p.1≠c:=λc i=>by have f:=F c i;exact⟨f.2.2.2.1,f.2.1,f.2.2.2.2.1,f.2.2.2.2.2⟩
 have t:∀c h,H c=ax h->c∉k:=λc h q i=>by rw[(F c i).1] at q;cases q
 have m:=λc h q=>(I.hok c h q).stay (λd v hd A=>w d v (by
   rcases hd with z | z
   ·rw[z];exact t c h q
   ·exact t d _ z) A) (λ_ z=>z) (λ_ _ z=>z) λ_ _ z=>z
 have new:ObjOk X.prog X.w (upd H s.heap.objs.size (.tup xs)) j s.heap.objs.size (.tup xs):=
  ⟨⟨M,λo e=>by rw[D] at e;cases e;rfl⟩,C,L,⟨_,D,rfl,_,rfl⟩⟩
 have l:HOk X.prog X.w (upd H s.heap.objs.size (.tup xs)) j:=λc h q=>by
  by_cases J:c=s.heap.objs.size
  ·subst J;rw[Zk] at q;cases q;exact new
  ·rw[upd_ne J] at q;exact(m c h q).stay (λd v _ A=>A) (λd z=>by rw[upd_ne (Zr z a)];exact z) (λd E z=>by rw[upd_ne (Zr z a)];exact z) λd u z=>by rw[upd_ne (Zr z a)];exact z
 have un:Un (Kc X.stack) k H (upd H s.heap.objs.size (.tup xs)) s.heap j:=by
  refine⟨λc o q _ _ g=>w c o g q,λc o q _ _ g=>⟨o.slots,w c o g q⟩,λc o q n _=>?_,λc o q g=>⟨o,w c o g q⟩,λc E q=>?_,λc o E q=>?_,λc N q=>⟨#[],?_⟩⟩
  ·rw[upd_ne (bN (a9 q))];exact n
  ·rw[upd_ne (Zr q a)];exact q
  ·rw[upd_ne (Zr q a)];exact q
  ·rw[upd_ne (Zr q a),q];simp
 exact I.call un l I.bare B
theorem Inv.turnedL{X:Cx}{l:List (aL×dU)}{w:St}{H:Hp}{s:aO}{g:List aL}{t:ba}{tk:Nat}(I:Inv X l w H s)(u:∀b∈g,Sk X l H b)
  (k:∀c o,c∉g->s.heap.get? c=ax o->t.get? c=ax o):Inv X l w H { s with heap:=t,toks:=tk }:=by
 have m:∀c∈g,(c∈X.ex\/X.s₀.heap.objs.size<=c)/\c≠X.env.locals/\(∀x d,X.env.cells.lookup x=ax d->d≠c)/\∀p∈X.pn++l,p.1≠c:=λc e=>by have f:=u c e;exact⟨f.2.2.2.1,f.2.1,f.2.2.2.2.1,f.2.2.2.2.2⟩
 have j:∀c i,H c=ax i->c∉g:=λc i q e=>by rw[(u c e).1] at q;cases q
 have h:=λc i q=>(I.hok c i q).stay (λd v hd y=>k d v (by
   rcases hd with z | z
   ·rw[z];exact j c i q
   ·exact j d _ z) y) (λ_ z=>z) (λ_ _ z=>z) λ_ _ z=>z
 have un:Un (Kc X.stack) g H H s.heap t:=
  ⟨λc o q _ _ a=>k c o a q,λc o q _ _ a=>⟨o.slots,k c o a q⟩,λc o q n _=>n,λc o q a=>⟨o,k c o a q⟩,λc A q=>q,λc o A q=>q,λc B q=>⟨#[],by rw[q];simp⟩⟩
 exact I.call un h I.bare m
theorem SeqB.ne_rec{b:Bool}{h:ba}{a c:aL}{j:Array aI}{o:dU}{vs:Array aI}(p:SeqB b h a j)(e:h.get? c=ax o)(d:o.data = .fields vs):a≠c:=λz=>by
 subst z
 cases b with
 | true=>obtain⟨i,f,_,m,g⟩:=(p);rw[e] at f;cases f;rw[d] at g;cases g
 | false=>obtain⟨i,f,_,m,g⟩:=(p);rw[e] at f;cases f;rw[d] at g;cases g
theorem IterB.rec{b:Bool}{h:ba}{c a:aL}{i:Nat}(x:IterB b h c a i):∃o,h.get? c=ax o/\∃vs,o.data = .fields vs:=by
 cases b with
 | true=>obtain⟨o,e,_,d⟩:=(x);exact⟨o,e,_,d⟩
 | false=>obtain⟨o,e,_,d⟩:=(x);exact⟨o,e,_,d⟩
structure Zit(a1 a2 TO TI:aL):Prop where
 a:a1≠TO
 b:a2≠TO
 c:a1≠TI
 d:a2≠TI
noncomputable def Itz(b1 b2:Bool)(K:aH)(a1 a2:aL):It:=
  ⟨λi H=>∃xs ys x y,MH b1 K H a1 xs/\MH b2 K H a2 ys/\xs[i]?=ax x/\ys[i]?=ax y,
   λi H v H'=>∃p x y,H p=aA/\v = .ref p/\H'=upd H p (.tup [x,y])/\(∀xs,MH b1 K H a1 xs->xs[i]?=ax x)/\∀ys,MH b2 K H a2 ys->ys[i]?=ax y,
   λi H=>∃xs ys,MH b1 K H a1 xs/\MH b2 K H a2 ys/\(i=xs.length\/(i<xs.length/\i=ys.length))⟩
theorem B5{P:bM}{w:bc}{K:aH}{elts:List bO}{k:Nat}{pos:dw}(b1 b2:Bool)(a1 a2 z TI TO J G:aL)(d:[z,TI,TO,J,G].Nodup) :
  JV P w K (.Tuple elts k pos) (Itz b1 b2 K a1 a2) [z,TI,TO,J,G] z
   (λi h=>lH h z TI TO .none/\gU h TI (.ref J) (.ref G)/\(∃u v,gU h TO u v/\Zit a1 a2 TO TI)/\IterB b1 h J a1 i/\IterB b2 h G a2 i) where
 mem:=by simp
 obj:=λi h st c Z=>by
  obtain⟨C,b,⟨u,v,m,_⟩,R,Y⟩:=st;simp only[aa,br,or_false] at Z;rcases Z with rfl | rfl | rfl | rfl | rfl
  ·exact⟨_,C,λv q=>by cases q⟩
  ·exact⟨_,b,λv q=>by cases q⟩
  ·exact⟨_,m,λv q=>by cases q⟩
  ·exact R.has
  ·exact Y.has
 keep:=λi h h' st kk=>by obtain⟨C,b,⟨u,v,m,f⟩,R,Y⟩:=st;exact⟨kk z (by simp) _ C,kk TI (by simp) _ b,⟨u,v,kk TO (by simp) _ m,f⟩,R.at λo q=>kk J (by simp) o q,Y.at λo q=>kk G (by simp) o q⟩
 item:=by
  intro X hP hw hK Z i p0 s σ H E I hf st hg;subst hP hw hK;obtain⟨xs,ys,x,y,T,N,hx,hy⟩:=hg;obtain⟨g,rv1,U,hz1⟩:=I.seqB T;obtain⟨l,rv2,p2,hz2⟩:=I.seqB N;obtain⟨u,hu,ru⟩:=rv1.get hx;obtain⟨v,hv,rv⟩:=rv2.get hy;obtain⟨C,b,⟨q1,q2,m,f⟩,R,Y⟩:=st;obtain⟨o1,e1,vs1,d1⟩:=R.rec;obtain⟨o2,e2,vs2,d2⟩:=Y.rec;have A1z:=U.ne_rec C rfl;have A2z:=p2.ne_rec C rfl;have A11:=U.ne_rec e1 d1;have A12:=U.ne_rec e2 d2;have A21:=p2.ne_rec e1 d1;have A22:=p2.ne_rec e2 d2;simp only[aq,aa,br,not_or,cH,and_true,not_false_eq_true] at d;obtain⟨⟨n,t,B,F⟩,⟨S,O,W⟩,⟨L,M⟩,p⟩:=d;obtain⟨f1,f2,f3,f4⟩:=f;have D:Ln z TI TO J G [J,a1] [G,a2]:=⟨bX n,bX t,bX B,bX F,S,O,W,L,M,p,by simp[B,bX A1z],by simp[L,bX f1],by simp[bX p,bX A12],by simp[F,bX A2z],by simp[M,bX f2],by simp[p,bX A21]⟩;have D1:=Draws.seq (prog:=X.prog) (w:=X.w) (A:=X.A.in1) b1 (I.ok.hd Z) J a1 A11 g.toArray;have D2:=Draws.seq (prog:=X.prog) (w:=X.w) (A:=X.A.in1) b2 (I.ok.hd Z) G a2 A22 l.toArray;have l1:i<g.toArray.size:=by simpa using(aR.mp hu).1
  have l2:i<l.toArray.size:=by simpa using(aR.mp hv).1
  refine Pu D D1 D2 C b m ⟨R,U⟩ ⟨Y,p2⟩ l1 l2 λx' y' h' tk hPx hPy c1 c2 c3 c4 c5 c6 hk=>?_
  have ex':x'=u:=by
   have w1:=hPx;have w2:g.toArray[i]?=ax u:=by simpa using hu
   rw[w1] at w2;exact bC w2
  have ey':y'=v:=by
   have w1:=hPy;have w2:l.toArray[i]?=ax v:=by simpa using hv
   rw[w1] at w2;exact bC w2
  subst ex' ey';refine⟨_,rfl,wpAny_letOwnedTupleGo_zip c1 λh3 hz3 j=>?_⟩
  replace j:cP z h' h3:=j
  have kk:∀c o,c∉[z,TI,TO,J,G]->s.heap.get? c=ax o->h3.get? c=ax o:=λc o a q=>
   j.extBut c o (λe=>a (by simp[e])) (hk c o (λe=>a (by simp[e])) (λe=>a (by simp[e])) (λe=>a (by simp[e])) (λe=>a (by simp[e])) q)
  have hTn:=I.hok.fresh (aZ _);have hT3:=j.extBut _ _ (fW (a9 C)) c5;have I2:=I.newTup (tk:=tk) hf kk hT3 (.cons ru (.cons rv .nil)) (by show 2<=sizeLine;decide);refine⟨.ref s.heap.objs.size,_,I2,rfl,⟨_,x,y,hTn,rfl,rfl,λzs hzs=>by rw[I.seqB_inj hzs T];exact hx,λzs hzs=>by rw[I.seqB_inj hzs N];exact hy⟩,⟨hz3,j.extBut _ _ (bX n) (hk _ _ (bX n) S O W b),⟨_,_,j.extBut _ _ (bX t) c2,f1,f2,f3,f4⟩,c3.1.at λo q=>j.extBut _ o (bX B) q,c4.1.at λo q=>j.extBut _ o (bX F) q⟩,λc a=>?_⟩;rw[upd_ne (bN ?_)]
  ·exact(hf c a).1
  ·simp only[aa,br,or_false] at a;rcases a with rfl | rfl | rfl | rfl | rfl
   ·exact a9 C
   ·exact a9 b
   ·exact a9 m
   ·exact a9 e1
   ·exact a9 e2
 done:=by intro X hP hw hK Z i p0 s σ H E I hf st hg;subst hP hw hK;obtain⟨xs,ys,T,N,hx⟩:=hg;obtain⟨g,rv1,U,hz1⟩:=I.seqB T;obtain⟨l,rv2,p2,hz2⟩:=I.seqB N;obtain⟨C,b,⟨q1,q2,m,f⟩,R,Y⟩:=st;obtain⟨o1,e1,vs1,d1⟩:=R.rec;obtain⟨o2,e2,vs2,d2⟩:=Y.rec;have A1z:=U.ne_rec C rfl;have A2z:=p2.ne_rec C rfl;have A11:=U.ne_rec e1 d1;have A12:=U.ne_rec e2 d2;have A21:=p2.ne_rec e1 d1;have A22:=p2.ne_rec e2 d2;simp only[aq,aa,br,not_or,cH,and_true,not_false_eq_true] at d;obtain⟨⟨n,t,B,F⟩,⟨S,O,W⟩,⟨L,M⟩,p⟩:=d;obtain⟨f1,f2,f3,f4⟩:=f;have D:Ln z TI TO J G [J,a1] [G,a2]:=⟨bX n,bX t,bX B,bX F,S,O,W,L,M,p,by simp[B,bX A1z],by simp[L,bX f1],by simp[bX p,bX A12],by simp[F,bX A2z],by simp[M,bX f2],by simp[p,bX A21]⟩;have D1:=Draws.seq (prog:=X.prog) (w:=X.w) (A:=X.A.in1) b1 (I.ok.hd Z) J a1 A11 g.toArray;have D2:=Draws.seq (prog:=X.prog) (w:=X.w) (A:=X.A.in1) b2 (I.ok.hd Z) G a2 A22 l.toArray;have n1:=rv1.length;have n2:=rv2.length;refine OK D D1 D2 C b m ⟨R,U⟩ ⟨Y,p2⟩ (by simp only[aU];omega) λh' tk hk=>⟨rfl,?_⟩;exact I.turnedL hf λc o a q=>hk c o (λe=>a (by simp[e])) (λe=>a (by simp[e])) (λe=>a (by simp[e])) (λe=>a (by simp[e])) q
 self:=λA i s Q E st hQ=>wpAny_pyIter_zip st.1 hQ
section
variable {X:Cx}
noncomputable def Znw(b1 b2:Bool)(K:aH)(ta:TA):TI:=λσ H R=>ta σ H λvs H1=>∃a1 a2,vs=[.ref a1,.ref a2]/\(∃xs,MH b1 K H1 a1 xs)/\(∃ys,MH b2 K H1 a2 ys)/\R (Itz b1 b2 K a1 a2) H1
theorem Ziu{g:List bO}{k:Nat}{o:dw}(b1 z:Bool){a b:bO}{y:TA}{p pos:dw}(W:Gl X "zip")(P:X.mg "zip" = aA)(G:PA X [a,b] y)
  (Y:aP [a,b] X.env=[(aB,eval a X.env),(aB,eval b X.env)]:=by rfl) (f:aP [b] X.env=[(aB,eval b X.env)]:=by rfl) :
  PI X (.Tuple g k o) (.Call (.Name "zip" p) [a,b] [] pos) (Znw b1 z X.K y):=by
 intro p0 s Q H R I h;refine pL (XZ I W P boot_zip (bg (Yo (G pos p0 s Q H _ I h) λus s1 ⟨vs,T,m,S,L⟩=>?_) (by rw[Y,f]) (by rw[f];rfl)));obtain⟨v,x,e,⟨xs,w⟩,⟨ys,u⟩,q⟩:=L;subst e
 cases S with
 | cons r rr=>
  cases rr with
  | cons r' rr=>
   cases rr;cases r;cases r';obtain⟨F,M,A,_⟩:=m.seqB w;obtain⟨D,O,p2,_⟩:=m.seqB u;refine Km A p2 λh' c1 c2 c3 c4 c5 c6 N=>?_;refine wpAny_pyIter_zip c1 ?_;have Z:=m.kept (t':=s1.toks) N;have E:=let⟨_,e⟩:=A.has;a9 e;have C:=let⟨_,e⟩:=p2.has;a9 e;generalize U:s1.heap.objs.size=n at *;have ne:∀(a:aL)(j:Nat),a<n->a≠n+j:=λa j h=>bN (bB h (fQ _ _));have J:([n+4,n+2,n+3,n,n+1]:List aL).Nodup:=by have d:∀(i j:Nat),i≠j->(n+i:Nat)≠n+j:=λi j h e=>h (mR e);have t:∀(i:Nat),i≠0->(n+i:Nat)≠n:=λi h e=>h (mR (e.trans (jR n).symm));simp only[aq,aa,br,not_or,cH,and_true,not_false_eq_true];exact⟨⟨d 4 2 (by decide),d 4 3 (by decide),t 4 (by decide),d 4 1 (by decide)⟩,⟨d 2 3 (by decide),t 2 (by decide),d 2 1 (by decide)⟩,⟨t 3 (by decide),d 3 1 (by decide)⟩,(t 1 (by decide)).symm⟩
   refine⟨n+4,[n+4,n+2,n+3,n,n+1],_,_,T,rfl,Z,B5 b1 z v x (n+4) (n+2) (n+3) n (n+1) J,⟨c1,c2,⟨_,_,c3,ne v 3 E,ne x 3 C,ne v 2 E,ne x 2 C⟩,c4,c5⟩,λc B=>?_,q⟩
   have l:s1.heap.objs.size<=c:=by
    rw[U];simp only[aa,br,or_false] at B;rcases B with rfl | rfl | rfl | rfl | rfl
    ·exact fQ _ _
    ·exact fQ _ _
    ·exact fQ _ _
    ·exact aZ _
    ·exact fQ _ _
   exact m.fpOk l (m.hok.fresh l)
end
theorem Walks.seqB{prog:bM}{w:bc}{A:bq}(b:Bool)(d:A.handled=aA)(I a:aL)(c:a≠I)(items:Array aI) :
  Walks prog w A I [I,a] [I] items.size (λi v=>items[i]?=ax v) (λi h=>IterB b h I a i/\SeqB b h a items):=by
 cases b with
 | true=>exact Walks.list d I a c items
 | false=>exact Walks.tuple d I a c items
section
variable {X:Cx}
theorem X0(D:X.calm=aC):XW X (.builtin "sum") (λxs H Q=>∃(b:Bool) (p:aL) (ns:List Int),xs=[.ref p]/\MH b X.K H p (ns.map V.int)/\Q (.int ns.sum) H):=by
 intro N s M H xs J Q I r h;obtain⟨b,p,ns,rfl,B,q⟩:=h;obtain⟨u,rfl,C⟩:=Sr r;cases C;obtain⟨m,l,a,L⟩:=I.seqB B;have w:=let⟨_,e⟩:=a.has;a9 e;refine call_sum_walkG (YQ a ?_);refine⟨_,_,_,_,_,_,λi=>ns.getD i 0,rfl,Walks.seqB (A:=X.A.in1) b (I.ok.hd D) s.heap.objs.size p (bN w) m.toArray,⟨IterB.new (ak _ rfl),a.at λo e=>aK _ e⟩,λc d=>?_,λi v g=>?_,λh' tk t' y=>?_⟩
 ·show c<(s.heap.push _).objs.size;rw[cR];rcases aa.mp d with rfl | d
  ·exact dt _
  ·rw[aM.mp d];exact cz w
 ·have g:=g;have g:m[i]?=ax v:=by simpa using g
  have j:=l.length;rw[aJ] at j;have E:i<ns.length:=by rw[j];exact(aR.mp g).1
  obtain⟨u,z,G⟩:=l.get (i:=i) (x:=.int ns[i]) (by simp);rw[g] at z;cases z;obtain⟨t,rfl⟩:=G;refine⟨t,?_⟩;show di ns[i] t=di (ns.getD i 0) t;rw[aF,aE E];rfl
 ·have e:preSum (λi=>ns.getD i 0) m.toArray.size=ns.sum:=by
   have j:=l.length;rw[aJ] at j;rw[aU,<-j]
   have n:∀k,k<=ns.length->preSum (λi=>ns.getD i 0) k=(ns.take k).sum:=by
    intro k
    induction k with
    | zero=>intro _;simp[preSum]
    | succ k ih=>
     intro y;rw[preSum,ih (by omega),List.take_add_one,aF,aE (by omega),gE];simp
   rw[n _ (aZ _),ck]
  rw[e];refine⟨.int ns.sum,H,I.kept (λc o f=>y c o ?_ (aK _ f)),⟨_,rfl⟩,q⟩;intro F;rw[aM.mp F] at f;exact absurd (a9 f) (cS _)
theorem Lo(B:X.calm=aC):XW X (.builtin "all") (λxs H Q=>∃(b:Bool) (p:aL) (bs:List Bool),xs=[.ref p]/\MH b X.K H p (bs.map V.bl)/\Q (.bl (bs.all id)) H):=by
 intro N s M H xs G Q I r h;obtain⟨b,p,bs,rfl,n,q⟩:=h;obtain⟨u,rfl,y⟩:=Sr r;cases y;obtain⟨k,l,a,L⟩:=I.seqB n;have t:=let⟨_,e⟩:=a.has;a9 e;have j:=l.length;rw[aJ] at j;refine call_all_walk (YQ a ?_);refine⟨_,_,_,_,_,_,λi=>bs.getD i aC,rfl,Walks.seqB (A:=X.A.in1) b (I.ok.hd B) s.heap.objs.size p (bN t) k.toArray,⟨IterB.new (ak _ rfl),a.at λo e=>aK _ e⟩,λi v O J F g w=>?_,λh' tk C=>?_⟩
 ·have g:=g;have g:k[i]?=ax v:=by simpa using g
  have d:i<bs.length:=by rw[j];exact(aR.mp g).1
  obtain⟨u,m,E⟩:=l.get (i:=i) (x:=.bl bs[i]) (by simp);rw[g] at m;cases m;cases E;refine dN ?_;have e:bs.getD i aC=bs[i]:=by rw[aF,aE d];rfl
  rw[<-e];exact w
 ·have e:(aD k.toArray.size).all (λi=>bs.getD i aC)=bs.all id:=by
   rw[aU,<-j,jG,bK,bK];constructor
   ·intro h x z;obtain⟨i,d,rfl⟩:=ig.mp z;have:=h i (aY.mpr d);rw[aF,aE d] at this;exact this
   ·intro h i d;have d:=aY.mp d;rw[aF,aE d];exact h _ (bQ d)
  rw[e];refine⟨.bl (bs.all id),H,I.kept (λc o f=>C c o ?_ (aK _ f)),rfl,q⟩;intro D;rw[aM.mp D] at f;exact absurd (a9 f) (cS _)
theorem Vg:XW X (.builtin "isinstance") (λxs H Q=>∃x T t b,xs=[x,.ty T]/\TyOf X.K H x t/\dc X.K t (.type T)=ax b/\Q (.bl b) H):=by intro i s g H xs f Q I r h;obtain⟨x,T,t,b,rfl,a,d,q⟩:=h;obtain⟨u,v,rfl,e,c⟩:=Zgy r;cases c;exact DI I e a d λtk=>⟨.bl b,H,I.tok tk,rfl,q⟩
theorem J7{K:aH}:dc K (.type "int") (.type "int")=ax aC:=rfl
theorem Kn{K:aH}:dc K (.type "int") (.type "bool")=ax aB:=rfl
theorem J8{K:aH}:dc K (.type "tuple") (.type "tuple")=ax aC:=rfl
theorem MN{K:aH}:dc K (.type "list") (.type "list")=ax aC:=rfl
theorem J9{K:aH}:dc K (.type "str") (.type "str")=ax aC:=rfl
noncomputable def Ef:V->List V->Hp->VK->Prop:=λx vs H Q=>∃l xs k y,x = .ref l/\vs=[.int k,y]/\H l=ax (.lst xs)/\0<=k/\k<2^63/\xs.length<sizeLine/\Q .non (upd H l (.lst (xs.take k.toNat++y::xs.drop k.toNat)))
theorem Lp:MtM X "list.insert" Ef:=by
 intro E s C H x vs v A Q I g i h;obtain⟨l,xs,k,y,rfl,rfl,f,w,m,B,q⟩:=h;cases g;obtain⟨D,d,rfl,o,p⟩:=i.two;obtain⟨t,rfl⟩:=o;obtain⟨z,a,n,r,u,e⟩:=I.lstM f;have b:¬(!Builtin.List.listFitsIndex k)=aC:=by rw[l8 (by omega) m];exact bx
 refine fY F.slot_list_insert ⟨_,e,rfl⟩ F.entry_list_insert (F.args_list_insert_3 _ _ _) (AutoListH.list_insert_list_int_val_1 l a.toArray n k t d b (by rw[aU];omega)) ⟨e,?_⟩;refine⟨.non,_,I.lset f e ?_ ((r.take k.toNat).append (.cons p (r.drop k.toNat))) ?_,rfl,q⟩
 ·show(have j:=if k<0 then(k+((a.toArray.size:Nat):Int)).toNat else min k.toNat a.toArray.size;(a.toArray.extract 0 j).push d++a.toArray.extract j)=_;rw[pW (by omega)];by_cases c:k.toNat<=a.length
  ·rw[eV (by rw[aU];exact c)];simp;rw[bY (by simp)]
  ·rw[kS (by rw[aU];omega)];rw[bY (by omega),iQ (by omega)];simp
 ·rw[aT,az,bG,bU];omega
end
noncomputable def TK(H H':Hp):Prop:=∀b xs,H b=ax (.tup xs)->H' b=ax (.tup xs)
theorem Same.tk{H a:Hp}(s:Same H a):TK H a:=λb xs h=>s b _ h
theorem Same.new{H:Hp}{p:aL}(h:H p=aA)(o:HO):Same H (upd H p o):=λb u q=>by rw[upd_ne (Zr q h)];exact q
structure Def(K:aH)(mg:bH->Option aI)(x:bH)(st:cB):Prop where
 ex:∃f fd,mg x=ax (.ref f)/\Fun K x x st f fd
theorem def_mk{K:aH}{h:ba}{mg:bH->Option aI}{x:bH}{st:cB}{f:aL}{j:aI}{m g:Option aL}{d:Array (Option aI)}{kV e i b ct:aI}(X:K.In h)(G:h.Ns cO mg)
  (a:jS K cO x=ax (ax (.ref f))) (l:K.lookup f=ax ⟨j,m,.func (dO x x (Xm st) (Yy st) (Zf st) .none kV e i g b ct),d⟩)
  (c:dM K b x=aC) (k:iM K (.ref f)=aC):Def K mg x st:=⟨f,_,pE X G a,Zir l c k⟩
structure Xi(P:bM)(w:bc)(K:aH)(mg:bH->Option aI)(base:ba)(x:bH)(ps:List bH)(sp:Sp)(k:Nat):Prop where
 ex:∃f fd,mg x=ax (.ref f)/\iM K (.ref f)=aC/\Binds K fd ps []/\Pq P w K mg base J6 k f fd ps sp
section
variable {P:bM} {w:bc} {K:aH} {mg:bH->Option aI} {base:ba}
theorem Def.cal{x:bH}{st:cB}{N d:List bH}{k:Nat}{e:Sp}(D:Def K mg x st)(S:Zq N d (Zf st))
  (m:∀(kV doc pm:aI)(an:Option aL)(b ct:aI)(us:List aI),us.length=d.length->j4 (dO x x (Xm st) (Yy st) (Zf st) .none kV doc pm an b ct) ⟨us,[]⟩=pure (d.zip us))
  (len:∀vs H Q E,e vs H Q E->vs.length=d.length)
  (c:∀(f:aL)(b:aI)(A:bq)(a:List ma)(s:aO)(H:Hp)(vs:List V)(Q:VK)(E:XK),Room k (A.deeper (iZ x (Zf st) s.heap.objs.size f b))->e vs H Q E->
   ∃t,PSs (OC J6 P w K mg base N x (Zf st) f b A a s H E).nox (Yy st) t/\t { nx:=λ_ l=>Q .non l,rt:=Q } (start N vs) H):Xi P w K mg base x d e (k+1):=by
 obtain⟨f,i,j,F⟩:=D.ex;exact⟨f,i,j,F.kp,F.binds m,F.ok S len λb A a s H vs Q E g h=>c f b A a s H vs Q E g h⟩
end
section
variable {X:Cx} {x:bH} {ps:List bH} {sp:Sp} {k:Nat} {e:bO} {es:List bO} {t:TA} {p pos:dw}
theorem Ziv(C:Xi X.prog X.w X.K X.mg X.base x ps sp k)(l:Room k X.A)(j:Gl X x)(i:PA X (e::es) t)
  (g:(x==("__debug__" : bH))=aB:=by decide) (m:aP (e::es) X.env=(aB,eval e X.env)::aP es X.env:=by rfl) (h:(dC pos (aP es X.env)).any (·.1)=aB:=by rfl) :
  PE X (.Call (.Name x p) (e::es) [] pos) (Zg0 sp [] E0 t):=by
 obtain⟨f,n,a,b,c,d⟩:=C.ex;exact Zdi d l j a b c .nil Zlg i g m h
end
noncomputable def Ue(N:List bH)(around scope:gC)(own fr:List bH)(ix:List Nat):Bool:=
 (match scope.kind with | .function=>aC | _=>aB)&&scope.names.all (λy=>y.2 != .cell)&&scope.names.all (λy=>y.2 != .local || scope.names.lookup y.1==ax .local)&&
 scope.names.all (λy=>y.2 != .free || (around.names.lookup y.1==ax .cell || around.names.lookup y.1==ax .free))&&(fr.map ax==ix.map (λi=>N[i]?))&&
 fr.all (λx=>scope.names.contains (x,cI))&&fr.all (λx=>scope.names.lookup x != ax .local)
theorem Lq{N:List bH}{a b:gC}{own fr:List bH}{g:List Nat}(h:Ue N a b own fr g=aC):CompScope N a b own fr g:=by
 unfold Ue at h;simp only[aw] at h;obtain⟨⟨⟨⟨⟨⟨f,k⟩,l⟩,j⟩,i⟩,m⟩,n⟩:=h;refine⟨?_,λy c=>?_,λy c e=>?_,λy c e=>?_,by simpa using i,λx d=>?_,λx d=>?_⟩
 ·split at f
  ·assumption
  ·cases f
 ·simpa using bK.mp k y c
 ·have:=bK.mp l y c;rw[e] at this;simpa using this
 ·have:=bK.mp j y c;rw[e] at this;simpa using this
 ·simpa using bK.mp m x d
 ·simpa using bK.mp n x d
section
variable {X:Cx} {tg elt iter:bO} {ifs:List bO} {scope:gC} {pos:dw} {wi:TI} {g:TG} {tt:TT} {te:TE}
theorem Ia(own fr:List bH)(b:List Nat)(a:X.calm=aC)(c:PI X tg iter wi)(S:Ue X.N X.env.scope scope own fr b=aC)
  (d:∀cl C s H ex,PG (ZI X (own++fr) scope cl C s H ex) tg g) (f:∀cl C s H ex,Bw (ZI X (own++fr) scope cl C s H ex) ifs tt) (h:∀cl C s H ex,PE (ZI X (own++fr) scope cl C s H ex) elt te)
  (e:∀x,cK iter X.env x=pure x:=by intro _;rfl):PE X (.ListComp elt [⟨tg,iter,ifs,0⟩] scope pos) (Ll own.length b wi g tt te):=
 Zdv a c (Lq S) d f h e
theorem B6(own fr:List bH)(e:List Nat){i:Nat}{y:bH}{f a:dw}(n:X.N.Nodup)(o:X.N[i]?=ax y)(c:X.env.scope.names.lookup y=ax .local)(b:X.calm=aC)(k:PI X tg iter wi)(S:Ue X.N X.env.scope scope own fr e=aC)
  (l:∀cl C s H ex,PG (ZI X (own++fr) scope cl C s H ex) tg g) (j:∀cl C s H ex,Bw (ZI X (own++fr) scope cl C s H ex) ifs tt) (h:∀cl C s H ex,PE (ZI X (own++fr) scope cl C s H ex) elt te)
  (d:iC (.ListComp elt [⟨tg,iter,ifs,0⟩] scope pos) (ax (.Name y f)) a.line X.env=pure aC:=by rfl)
  (m:∀x,cK iter X.env x=pure x:=by intro _;rfl):PS X (.Assign [.Name y f] (.ListComp elt [⟨tg,iter,ifs,0⟩] scope pos) a) (Ke (Ll own.length e wi g tt te) (Sq i)):=
 Zdw n o c b k (Lq S) l j h d m
end
structure XQ(mg:bH->Option aI):Prop where
 «len» : mg "len" = aA
 «sum» : mg "sum" = aA
 «range» : mg "range" = aA
 «enumerate» : mg "enumerate" = aA
 «zip» : mg "zip" = aA
 «tuple» : mg "tuple" = aA
 «list» : mg "list" = aA
 «all» : mg "all" = aA
 «any» : mg "any" = aA
 «isinstance» : mg "isinstance" = aA
 «int» : mg "int" = aA
 «bool» : mg "bool" = aA
 «str» : mg "str" = aA
 «min» : mg "min" = aA
 «max» : mg "max" = aA
 «sorted» : mg "sorted" = aA
 «abs» : mg "abs" = aA
 «ValueError» : mg "ValueError" = aA
 «reversed» : mg "reversed" = aA
 «set» : mg "set" = aA
abbrev Znx(g:TG)(tb:TS)(D:Y9)(σ:St)(J:It)(H:Hp):Prop:=
 ∃W:Nat->Nat->St->Hp->Prop,(∃m,W 0 m σ H)/\∀i m σ H,W i m σ H->
   (J.stop i H/\D.nx σ H)\/(J.go i H/\∃N:St->Hp->Prop,(∀σ' H',N σ' H'->∃m',m'<m/\W (i+1) m' σ' H')/\∀x H',J.yld i H x H'->g x σ H' λσ2 H2=>tb { D with nx:=N,ct:=N,bk:=D.nx } σ2 H2)
noncomputable def Zl(l:List Int)(i:Nat):Int:=l.getD i 0
theorem Qe(l:List Int):(aD l.length).map (Zl l)=l:=by
 apply gM;intro i;rw[aX];by_cases h:i<l.length
 ·rw[aE (by simpa using h)];simp[Zl,aE h]
 ·rw[bw (by simpa using h),bw (by omega)];rfl
theorem ZF{f:Nat->Int}{n i:Nat}(h:i<n):Zl ((aD n).map f) i=f i:=by unfold Zl;rw[aF,aX,cC h];rfl
noncomputable def ZA(w:List (List Int))(i:Nat):List Int:=w.getD i []
theorem OL{w:List (List Int)}{i:Nat}(h:i<w.length):w[i]?=ax (ZA w i):=by unfold ZA;rw[aF,aE h];rfl
noncomputable def ZM(w:List (List Int))(i j:Nat):Int:=Zl (ZA w i) j
structure Zt(w:List (List Int)):Prop where
 pos:1<=w.length
 few:w.length<=7
 sq:∀i,i<w.length->(ZA w i).length=w.length
 lo:∀i j,i<w.length->j<w.length->0<=ZM w i j
 hi:∀i j,i<w.length->j<w.length->ZM w i j<=9
 sym:∀i j,i<w.length->j<w.length->ZM w i j=ZM w j i
 dia:∀i,i<w.length->ZM w i i=0
noncomputable def Ziw(K:aH):List V->Hp->VK->Prop:=λxs H Q=>∃p ys,xs=[.ref p]/\((SqL K H p ys/\∀l,H l=aA->Q (.ref l) (upd H l (.tup ys)))\/(SqT K H p ys/\Q (.ref p) H))
noncomputable def Zdz(K:aH):List V->Hp->VK->Prop:=λxs H Q=>∃p ys,xs=[.ref p]/\(SqL K H p ys\/SqT K H p ys)/\∀l,H l=aA->Q (.ref l) (upd H l (.lst ys))
theorem Same.off{H a:Hp}{p:aL}(s:Same H a)(n:a p=aA):H p=aA:=s.free n
abbrev Tie:=Nat×Nat×Int
noncomputable def Qf(M:List (List Int))(a b:Nat)(t:Int):List (List Int):=M.set a ((ZA M a).set b t)
structure MatOk(n:Nat)(M:List (List Int)):Prop where
 len:M.length=n
 row:∀i,i<n->(ZA M i).length=n
 lo:∀i j,i<n->j<n->0<=ZM M i j
 hi:∀i j,i<n->j<n->ZM M i j<=9
 sym:∀i j,i<n->j<n->ZM M i j=ZM M j i
 dia:∀i,i<n->ZM M i i=0
theorem Lr{M:List (List Int)}{a i:Nat}{r:List Int}(b:a<M.length):ZA (M.set a r) i=if a=i then r else ZA M i:=by
 unfold ZA;by_cases h:a=i
 ·subst h;simp[b]
 ·simp[h]
theorem nth_set{l:List Int}{b j:Nat}{t:Int}(a:b<l.length):Zl (l.set b t) j=if b=j then t else Zl l j:=by
 unfold Zl;by_cases h:b=j
 ·subst h;simp[a]
 ·simp[h]
theorem OM{n:Nat}{M:List (List Int)}{a b i j:Nat}{t:Int}(f:M.length=n)(d:∀i,i<n->(ZA M i).length=n)(c:a<n)(e:b<n):ZM (Qf M a b t) i j=if a=i/\b=j then t else ZM M i j:=by
 show Zl (ZA (M.set a ((ZA M a).set b t)) i) j=_;rw[Lr (by omega)];by_cases h:a=i
 ·subst h;rw[p9 rfl,nth_set (by rw[d a c];exact e)];by_cases q:b=j
  ·rw[p9 q,p9 ⟨rfl,q⟩]
  ·rw[pW q,pW (λz=>q z.2)];rfl
 ·rw[pW h,pW (λz=>h z.1)];rfl
theorem WT{n:Nat}{M:List (List Int)}{a b:Nat}{t:Int}(f:M.length=n)(c:∀i,i<n->(ZA M i).length=n)(d:a<n):(Qf M a b t).length=n/\∀i,i<n->(ZA (Qf M a b t) i).length=n:=by
 refine⟨by unfold Qf;rw[cG];exact f,λi e=>?_⟩;show(ZA (M.set a ((ZA M a).set b t)) i).length=n;rw[Lr (by omega)];split
 ·rw[cG];exact c a d
 ·exact c i e
theorem MatOk.zero(n:Nat):MatOk n (aS n (aS n 0)):=by
 have r:∀i,i<n->ZA (aS n (aS n (0:Int))) i=aS n 0:=λi a=>by unfold ZA;rw[aF,b7,p9 a];rfl
 have z:∀i j,i<n->j<n->ZM (aS n (aS n (0:Int))) i j=0:=λi j a b=>by show Zl (ZA _ i) j=0;rw[r i a];unfold Zl;rw[aF,b7,p9 b];rfl
 exact⟨by simp,λi a=>by rw[r i a];simp,λi j a b=>by rw[z i j a b];omega,λi j a b=>by rw[z i j a b];omega,λi j a b=>by rw[z i j a b,z j i b a],λi a=>z i i a a⟩
theorem MatOk.web{n:Nat}{M:List (List Int)}(h:MatOk n M)(a:1<=n)(b:n<=7):Zt M:=by have e:=h.len;subst e;exact⟨a,b,h.row,h.lo,h.hi,h.sym,h.dia⟩
theorem Z7(f:Nat->Int)(n:Nat):((aD (n+1)).map f).sum=((aD n).map f).sum+f n:=by rw[eY];simp
theorem Yt{f g:Nat->Int}{n:Nat}(h:∀i,i<n->f i=g i):((aD n).map f).sum=((aD n).map g).sum:=by congr 1;apply au;intro i a;exact h i (aY.mp a)
theorem Eg(f g:Nat->Int)(n:Nat):((aD n).map λi=>f i+g i).sum=((aD n).map f).sum+((aD n).map g).sum:=by
 induction n with
 | zero=>simp
 | succ n ih=>rw[Z7,Z7,Z7,ih];omega
theorem Eh(f g:Nat->Int)(n:Nat):((aD n).map λi=>f i-g i).sum=((aD n).map f).sum-((aD n).map g).sum:=by
 induction n with
 | zero=>simp
 | succ n ih=>rw[Z7,Z7,Z7,ih];omega
theorem DS(c:Int)(n:Nat):((aD n).map λ_=>c).sum=n*c:=by
 induction n with
 | zero=>simp
 | succ n ih=>rw[Z7,ih];rw[show((n+1:Nat):Int)=(n:Int)+1 by omega,mD];omega
theorem Ko(l:List Int):((aD l.length).map (Zl l)).sum=l.sum:=by rw[Qe]
theorem B7(e:Nat->Nat->Int)(n:Nat)(c:∀i j,i<n->j<n->e i j=e j i)(hd:∀i,i<n->e i i=0) :
  ((aD n).map λi=>((aD n).map λj=>e i j).sum).sum=2*((aD n).map λa=>((aD (n-(a+1))).map λj=>e a (a+1+j)).sum).sum:=by
 induction n with
 | zero=>simp
 | succ n d=>
  have d:=d (λi j b k=>c i j (by omega) (by omega)) λi b=>hd i (by omega);rw[Z7,Z7,Z7];have g:((aD n).map λi=>((aD (n+1)).map λj=>e i j).sum).sum=((aD n).map λi=>((aD n).map λj=>e i j).sum).sum+((aD n).map λi=>e i n).sum:=by rw[<-Eg];apply Yt;intro i _;rw[Z7]
  have h:((aD n).map λa=>((aD (n+1-(a+1))).map λj=>e a (a+1+j)).sum).sum=((aD n).map λa=>((aD (n-(a+1))).map λj=>e a (a+1+j)).sum).sum+((aD n).map λi=>e i n).sum:=by rw[<-Eg];apply Yt;intro i b;rw[show n+1-(i+1)=(n-(i+1))+1 by omega,Z7,show i+1+(n-(i+1))=n by omega]
  have f:((aD n).map λj=>e n j).sum=((aD n).map λi=>e i n).sum:=by apply Yt;intro i b;exact c n i (by omega) (by omega)
  rw[g,h,f,hd n (by omega)];simp;omega
theorem Ib{a:Type}(n:Nat)(x:a):(aS n [x]).flatten=aS n x:=by simp
structure NamesOk(i:Nat)(l:List Int):Prop where
 len:l.length=i
 nd:l.Nodup
 lo:∀x∈l,0<=x
 hi:∀x∈l,x<i
theorem NamesOk.nil:NamesOk 0 []:=⟨rfl,cH,λ_ h=>by simp at h,λ_ h=>by simp at h⟩
theorem NamesOk.ins{i:Nat}{l:List Int}(h:NamesOk i l)(k:Nat):NamesOk (i+1) (l.take k++(i:Int)::l.drop k):=by
 have b:(l.take k++(i:Int)::l.drop k).Perm ((i:Int)::l):=by have:=nj (a:=(i:Int)) (l₁:=l.take k) (l₂:=l.drop k);rw[lO] at this;exact this
 refine⟨by rw[b.length_eq,az,h.len],?_,λx c=>?_,λx c=>?_⟩
 ·rw[b.nodup_iff,aq];exact⟨λd=>by have:=h.hi _ d;omega,h.nd⟩
 ·rcases aa.mp (b.mem_iff.mp c) with e | e
  ·omega
  ·exact h.lo x e
 ·rcases aa.mp (b.mem_iff.mp c) with e | e
  ·omega
  ·have:=h.hi x e;omega
theorem NamesOk.at{i:Nat}{l:List Int}(h:NamesOk i l){x:Nat}(a:x<i):0<=Zl l x/\Zl l x<i:=by
 have e:Zl l x=l[x]'(by rw[h.len];exact a):=by unfold Zl;rw[aF,aE (by rw[h.len];exact a)];rfl
 rw[e];exact⟨h.lo _ (bQ _),h.hi _ (bQ _)⟩
theorem NamesOk.ne{i:Nat}{l:List Int}(h:NamesOk i l){x y:Nat}(a:x<i)(b:y<i)(n:x≠y):Zl l x≠Zl l y:=by
 have c:Zl l x=l[x]'(by rw[h.len];exact a):=by unfold Zl;rw[aF,aE (by rw[h.len];exact a)];rfl
 have d:Zl l y=l[y]'(by rw[h.len];exact b):=by unfold Zl;rw[aF,aE (by rw[h.len];exact b)];rfl
 rw[c,d];intro e;exact n ((kO h.nd).mp e)
theorem lt_size{n:Nat}(h:n<=10000):n<sizeLine:=fZ h (by decide)
end L2
namespace VL
open PySem PySem.Spec PyProof.Rows L2
variable {K:aH}
noncomputable def NsO(od:dU)(f:bH)(u:aI):Prop:=∀(hp:ba)(dx:aL),hp.get? dx=ax od->hp.Ns1 dx (λn=>if n=f then ax u else aA)
noncomputable def Zd0(n:bH):bH:=if n = "NoWeb" then "place" else if n = "Apart" then "houses" else if n = "TooMany" then "most" else "total"
structure Lam where
 qual:bH
 params:mO
 body:bO
 scope:gC
 free:bH
inductive PV where
 | non | bl (b:Bool) | int (i:Int) | str (x:bH) | ty (n:String) | exc (n:bH) | exf (n:bH) (l:PV) | clo (L:Lam) (l:PV)
 | tup (l:List PV) | lst (l:List PV) | cst (l:List PV)
 | dK (ks:List Y8) (vs:List PV) | dT (ks:List (List Y8)) (vs:List PV)
instance:Inhabited PV:=⟨.non⟩
mutual
/-- nothing in it can be changed -/
def ZO:PV->Bool
 | .tup l=>ZC l
 | .cst l=>ZC l
 | .lst _=>aB
 | .dK _ _=>aB
 | .dT _ _=>aB
 | .non=>aC
 | .bl _=>aC
 | .int _=>aC
 | .str _=>aC
 | .ty _=>aC
 | .exc _=>aC
 | .exf _ _=>aC
 | .clo _ l=>ZO l
def ZC:List PV->Bool
 | []=>aC
 | x::r=>ZO x&&ZC r
end
theorem X1:∀l:List PV,ZC l=l.all ZO
 | []=>rfl
 | x::r=>by rw[jz,<-X1 r];rfl
noncomputable def KL(K:aH)(a:aL)(xs:List V):Prop:=
 ∃(o:dU) (p8:Array aI) (n:Nat),K.lookup a=ax o/\o.cls = .type "list"/\o.dict=aA/\o.data = .seq p8 n/\p8.size<=sizeLine/\Vals xs p8.toList
noncomputable def CsK(K:aH)(H:Hp)(p:aL)(xs:List V):Prop:=(∃o,H p=ax (.frz o (.lst xs)))\/KL K p xs
theorem CsK.sq{K:aH}{H:Hp}{p:aL}{xs:List V}(h:CsK K H p xs):SqL K H p xs:=by
 rcases h with h | h
 ·exact .inl (.inr h)
 ·exact .inr h
noncomputable def CloAt(H:Hp)(L:Lam)(v:V)(u:aI):Prop:=∃f fo c oc e eo pm ct,v = .ref f/\H f=ax (.frz fo (.own 0))/\fo.data = .func (gV "<lambda>" L.qual L.params L.body L.scope [(L.free,e)] pm (.ref c) ct)/\H c=ax (.frz oc (.own 0))/\HU oc L.qual/\H e=ax (.frz eo (.own 1))/\eo.data = .cell (ax u)
mutual
/-- v is the tree l in the heap H;fp: the addresses of p8 lists and dicts -/
def Is(K:aH)(H:Hp):PV->V->List aL->Prop
 | .non,v,fp=>v = .non/\fp=[]
 | .bl b,v,fp=>v = .bl b/\fp=[]
 | .int i,v,fp=>v = .int i/\fp=[]
 | .str x,v,fp=>v = .str x/\fp=[]
 | .ty n,v,fp=>v = .ty n/\fp=[]
 | .exc n,v,fp=>(∃e o x C,v = .ref e/\H e=ax (.frz o (.own x))/\o.cls = .ref C/\jS K cO n=ax (ax (.ref C))/\o.dict=aA/\∃vs,o.data = .fields vs)/\fp=[]
 | .exf n l,v,fp=>(∃e o x C dx od u z,v = .ref e/\H e=ax (.frz o (.own x))/\o.cls = .ref C/\jS K cO n=ax (ax (.ref C))/\o.dict=ax dx/\(∃vs,o.data = .fields vs)/\H dx=ax (.frz od (.own dx))/\NsO od (Zd0 n) u/\RelV z u/\Is K H l z [])/\fp=[]
 | .clo L l,v,fp=>∃u x,CloAt H L v u/\RelV x u/\Is K H l x fp
 | .tup l,v,fp=>∃p xs,v = .ref p/\H p=ax (.tup xs)/\Iss K H l xs fp
 | .lst l,v,fp=>∃p xs fq,v = .ref p/\H p=ax (.lst xs)/\Iss K H l xs fq/\fp=p::fq
 | .cst l,v,fp=>∃p xs,v = .ref p/\CsK K H p xs/\Iss K H l xs fp
 | .dK ks l,v,fp=>∃p p4 fq,v = .ref p/\Rd H p (.dK p4)/\p4.map (·.1)=ks/\Iss K H l (p4.map (·.2)) fq/\fp=p::fq
 | .dT ks l,v,fp=>∃p p4 fq,v = .ref p/\Rd H p (.dT p4)/\p4.map (·.1)=ks/\Iss K H l (p4.map (·.2)) fq/\fp=p::fq
def Iss(K:aH)(H:Hp):List PV->List V->List aL->Prop
 | [],xs,fp=>xs=[]/\fp=[]
 | l::ls,xs,fp=>∃x r f1 f2,xs=x::r/\Is K H l x f1/\Iss K H ls r f2/\fp=f1++f2
end
noncomputable def RdK(H H':Hp)(p:aL):Prop:=(∀xs,H p=ax (.lst xs)->H' p=ax (.lst xs))/\(∀p4,Rd H p (.dK p4)->Rd H' p (.dK p4))/\∀p4,Rd H p (.dT p4)->Rd H' p (.dT p4)
theorem RdK.of{H a:Hp}{p:aL}(h:∀o,H p=ax o->a p=ax o):RdK H a p:=by
 have r:∀u,Rd H p u->Rd a p u:=λu q=>by
  rcases q with q | ⟨o,q⟩
  ·exact .inl (h _ q)
  ·exact .inr ⟨o,h _ q⟩
 exact⟨λ_=>h _,λ_=>r _,λ_=>r _⟩
structure TK2(H H':Hp):Prop where
 tup:TK H H'
 frz:∀b o xs,H b=ax (.frz o (.lst xs))->H' b=ax (.frz o (.lst xs))
 exc:∀b o x,H b=ax (.frz o (.own x))->H' b=ax (.frz o (.own x))
theorem Same.tk2{H a:Hp}(s:Same H a):TK2 H a:=⟨s.tk,λb o xs h=>s b _ h,λb o x h=>s b _ h⟩
theorem CsK.tr{K:aH}{H a:Hp}(t:TK2 H a){p:aL}{xs:List V}(h:CsK K H p xs):CsK K a p xs:=by
 rcases h with⟨o,h⟩ | h
 ·exact .inl ⟨o,t.frz p o xs h⟩
 ·exact .inr h
theorem CloAt.tr{H g:Hp}(t:TK2 H g){L:Lam}{v:V}{u:aI}(h:CloAt H L v u):CloAt g L v u:=by obtain⟨f,a,c,d,e,b,o,ct,m,k,l,j,i,n,p⟩:=h;exact⟨f,a,c,d,e,b,o,ct,m,t.exc f a 0 k,l,t.exc c d 0 j,i,t.exc e b 1 n,p⟩
mutual
theorem Is.tr{H w:Hp}(f:TK2 H w):∀(l:PV)(v:V)(fp:List aL),(∀p∈fp,RdK H w p)->Is K H l v fp->Is K w l v fp
 | .non,_,_,_,h=>by simpa only[Is] using h
 | .bl _,_,_,_,h=>by simpa only[Is] using h
 | .int _,_,_,_,h=>by simpa only[Is] using h
 | .str _,_,_,_,h=>by simpa only[Is] using h
 | .ty _,_,_,_,h=>by simpa only[Is] using h
 | .exc _,_,_,_,h=>by simp only[Is] at h ⊢;obtain⟨⟨e,o,x,C,a,b,c⟩,d⟩:=h;exact⟨⟨e,o,x,C,a,f.exc e o x b,c⟩,d⟩
 | .exf _ l,_,_,_,h=>by simp only[Is] at h ⊢;obtain⟨⟨e,o,x,C,m,y,u,z,a,b,c1,c2,c3,c4,c5,E,D,B⟩,d⟩:=h;exact⟨⟨e,o,x,C,m,y,u,z,a,f.exc e o x b,c1,c2,c3,c4,f.exc m y m c5,E,D,Is.tr f l z [] (λp n=>by simp at n) B⟩,d⟩
 | .clo L l,v,fp,hm,h=>by simp only[Is] at h ⊢;obtain⟨u,x,A,i,g⟩:=h;exact⟨u,x,A.tr f,i,Is.tr f l x fp hm g⟩
 | .tup l,v,fp,hm,h=>by simp only[Is] at h ⊢;obtain⟨p,xs,e,n,g⟩:=h;exact⟨p,xs,e,f.tup p xs n,Iss.tr f l xs fp hm g⟩
 | .lst l,v,fp,hm,h=>by simp only[Is] at h ⊢;obtain⟨p,xs,j,e,i,g,rfl⟩:=h;exact⟨p,xs,j,e,(hm p ag).1 _ i,Iss.tr f l xs j (λq k=>hm q (aN _ k)) g,rfl⟩
 | .cst l,v,fp,hm,h=>by simp only[Is] at h ⊢;obtain⟨p,xs,e,i,g⟩:=h;exact⟨p,xs,e,i.tr f,Iss.tr f l xs fp hm g⟩
 | .dK ks l,v,fp,hm,h=>by simp only[Is] at h ⊢;obtain⟨p,s,j,e,i,t,g,rfl⟩:=h;exact⟨p,s,j,e,(hm p ag).2.1 _ i,t,Iss.tr f l _ j (λq k=>hm q (aN _ k)) g,rfl⟩
 | .dT ks l,v,fp,hm,h=>by simp only[Is] at h ⊢;obtain⟨p,s,j,e,i,t,g,rfl⟩:=h;exact⟨p,s,j,e,(hm p ag).2.2 _ i,t,Iss.tr f l _ j (λq k=>hm q (aN _ k)) g,rfl⟩
theorem Iss.tr{H b:Hp}(d:TK2 H b):∀(l:List PV)(xs:List V)(fp:List aL),(∀p∈fp,RdK H b p)->Iss K H l xs fp->Iss K b l xs fp
 | [],_,_,_,h=>by simpa only[Iss] using h
 | l::ls,xs,fp,hm,h=>by simp only[Iss] at h ⊢;obtain⟨x,r,f1,c,e,f,g,rfl⟩:=h;exact⟨x,r,f1,c,e,Is.tr d l x f1 (λq a=>hm q (ao _ a)) f,Iss.tr d ls r c (λq a=>hm q (ah _ a)) g,rfl⟩
end
theorem Is.mono{H b:Hp}(s:Same H b){l:PV}{v:V}{a:List aL}(h:Is K H l v a):Is K b l v a:=Is.tr (Same.tk2 s) l v a (λp _=>RdK.of λo q=>s p o q) h
theorem Iss.mono{H b:Hp}(s:Same H b){l:List PV}{v:List V}{a:List aL}(h:Iss K H l v a):Iss K b l v a:=Iss.tr (Same.tk2 s) l v a (λp _=>RdK.of λo q=>s p o q) h
mutual
theorem Is.pure{H:Hp}:∀(l:PV)(v:V)(fp:List aL),ZO l=aC->Is K H l v fp->fp=[]
 | .non,_,_,_,h=>by simp only[Is] at h;exact h.2
 | .bl _,_,_,_,h=>by simp only[Is] at h;exact h.2
 | .int _,_,_,_,h=>by simp only[Is] at h;exact h.2
 | .str _,_,_,_,h=>by simp only[Is] at h;exact h.2
 | .ty _,_,_,_,h=>by simp only[Is] at h;exact h.2
 | .exc _,_,_,_,h=>by simp only[Is] at h;exact h.2
 | .exf _ _,_,_,_,h=>by simp only[Is] at h;exact h.2
 | .clo L l,v,fp,hp,h=>by simp only[Is] at h;obtain⟨u,x,b,c,a⟩:=h;exact Is.pure l x fp (by simpa only[ZO] using hp) a
 | .tup l,v,fp,hp,h=>by simp only[Is] at h;obtain⟨p,xs,e,_,a⟩:=h;exact Iss.pure l xs fp (by simpa only[ZO] using hp) a
 | .lst l,v,fp,hp,h=>by simp[ZO] at hp
 | .cst l,v,fp,hp,h=>by simp only[Is] at h;obtain⟨p,xs,e,_,a⟩:=h;exact Iss.pure l xs fp (by simpa only[ZO] using hp) a
 | .dK ks l,v,fp,hp,h=>by simp[ZO] at hp
 | .dT ks l,v,fp,hp,h=>by simp[ZO] at hp
theorem Iss.pure{H:Hp}:∀(l:List PV)(xs:List V)(fp:List aL),ZC l=aC->Iss K H l xs fp->fp=[]
 | [],_,_,_,h=>by simp only[Iss] at h;exact h.2
 | l::ls,xs,fp,hp,h=>by simp only[Iss] at h;simp only[ZC,aw] at hp;obtain⟨x,r,f1,c,e,a,b,rfl⟩:=h;rw[Is.pure l x f1 hp.1 a,Iss.pure ls r c hp.2 b];rfl
end
section
variable {H H':Hp}
theorem Iss.len:∀{l:List PV}{xs:List V}{fp:List aL},Iss K H l xs fp->xs.length=l.length
 | [],xs,fp,h=>by simp only[Iss] at h;rw[h.1];rfl
 | l::ls,xs,fp,h=>by simp only[Iss] at h;obtain⟨x,r,f1,b,rfl,_,a,_⟩:=h;rw[az,az,a.len]
theorem Iss.get:∀{l:List PV}{xs:List V}{fp:List aL}{i:Nat}{a:PV},Iss K H l xs fp->l[i]?=ax a->∃x f1,xs[i]?=ax x/\Is K H a x f1/\∀p∈f1,p∈fp
 | [],xs,fp,i,a,h,e=>by simp at e
 | l::ls,xs,fp,0,a,h,e=>by simp only[Iss] at h;obtain⟨x,r,f1,f,rfl,c,_,rfl⟩:=h;simp at e;subst e;exact⟨x,f1,rfl,c,λp b=>ao _ b⟩
 | l::ls,xs,fp,i+1,a,h,e=>by simp only[Iss] at h;obtain⟨x,r,f1,f,rfl,_,d,rfl⟩:=h;obtain⟨y,g,m,k,j⟩:=d.get (i:=i) (a:=a) (by simpa using e);exact⟨y,g,by simpa using m,k,λp b=>ah _ (j p b)⟩
theorem Iss.get'{l:List PV}{xs:List V}{d:List aL}{i:Nat}{x:V}(h:Iss K H l xs d)(e:xs[i]?=ax x):∃a f1,l[i]?=ax a/\Is K H a x f1/\∀p∈f1,p∈d:=by
 have c:i<l.length:=by rw[<-h.len];exact(aR.mp e).1
 obtain⟨y,f1,b,f,g⟩:=h.get (aE c);rw[e] at b;cases b;exact⟨_,f1,aE c,f,g⟩
theorem Iss.nil:Iss K H [] [] []:=by simp[Iss]
theorem Iss.cons{l:PV}{ls:List PV}{x:V}{xs:List V}{f1 a:List aL}(b:Is K H l x f1)(c:Iss K H ls xs a):Iss K H (l::ls) (x::xs) (f1++a):=by exact⟨x,xs,f1,a,rfl,b,c,rfl⟩
theorem Iss.inv{l:PV}{ls:List PV}{xs:List V}{a:List aL}(h:Iss K H (l::ls) xs a):∃x r f1 f2,xs=x::r/\Is K H l x f1/\Iss K H ls r f2/\a=f1++f2:=by simpa only[Iss] using h
theorem Iss.append:∀{l m:List PV}{xs ys:List V}{f1 f2:List aL},Iss K H l xs f1->Iss K H m ys f2->Iss K H (l++m) (xs++ys) (f1++f2)
 | [],m,xs,ys,f1,f2,h,h'=>by simp only[Iss] at h;rw[h.1,h.2];exact h'
 | l::ls,m,xs,ys,f1,f2,h,h'=>by obtain⟨x,r,d,c,rfl,a,b,rfl⟩:=h.inv;rw[dj];exact Iss.cons a (b.append h')
theorem Iss.one{l:PV}{x:V}{f:List aL}(h:Is K H l x f):Iss K H [l] [x] f:=by
 have:=Iss.cons h (Iss.nil)
 rwa [dW] at this
theorem Iss.take:∀{l:List PV}{xs:List V}{fp:List aL}(n:Nat),Iss K H l xs fp->∃f1,Iss K H (l.take n) (xs.take n) f1/\∀p∈f1,p∈fp
 | l,xs,fp,0,h=>⟨[],by rw[o9,o9];exact Iss.nil,λp c=>by simp at c⟩
 | [],xs,fp,n+1,h=>by simp only[Iss] at h;rw[h.1];exact⟨[],by rw[pH,pH];exact Iss.nil,λp c=>by simp at c⟩
 | l::ls,xs,fp,n+1,h=>by
  obtain⟨x,r,f1,g,rfl,d,e,rfl⟩:=h.inv;obtain⟨f,a,b⟩:=e.take n;refine⟨f1++f,Iss.cons d a,λp c=>?_⟩;rcases aV.mp c with h | h
  ·exact ao _ h
  ·exact ah _ (b p h)
theorem Iss.drop:∀{l:List PV}{xs:List V}{fp:List aL}(n:Nat),Iss K H l xs fp->∃f1,Iss K H (l.drop n) (xs.drop n) f1/\∀p∈f1,p∈fp
 | l,xs,fp,0,h=>⟨fp,h,λp c=>c⟩
 | [],xs,fp,n+1,h=>by simp only[Iss] at h;rw[h.1];exact⟨[],by rw[pI,pI];exact Iss.nil,λp c=>by simp at c⟩
 | l::ls,xs,fp,n+1,h=>by obtain⟨x,r,f1,g,rfl,f,d,rfl⟩:=h.inv;obtain⟨e,a,b⟩:=d.drop n;exact⟨e,a,λp c=>ah _ (b p c)⟩
theorem Iss.setP:∀{l:List PV}{xs:List V}{a:PV}{x:V}(i:Nat),ZC l=aC->ZO a=aC->Iss K H l xs []->Is K H a x []->Iss K H (l.set i a) (xs.set i x) []
 | [],xs,a,x,i,_,_,h,_=>by simp only[Iss] at h;rw[h.1];simp only[List.set_nil];exact Iss.nil
 | l::ls,xs,a,x,0,hp,_,h,ha=>by simp only[ZC,aw] at hp;obtain⟨y,r,f1,f,rfl,_,b,e⟩:=h.inv;have c:=Iss.pure _ _ _ hp.2 b;subst c;exact Iss.cons (f1:=[]) ha b
 | l::ls,xs,a,x,i+1,hp,hq,h,ha=>by simp only[ZC,aw] at hp;obtain⟨y,r,f1,f,rfl,d,b,e⟩:=h.inv;have g:=Is.pure _ _ _ hp.1 d;have c:=Iss.pure _ _ _ hp.2 b;subst g c;exact Iss.cons (f1:=[]) d (Iss.setP i hp.2 hq b ha)
theorem Is.int_inv{i:Int}{v:V}{a:List aL}(h:Is K H (.int i) v a):v = .int i/\a=[]:=by simpa only[Is] using h
theorem Is.int(i:Int):Is K H (.int i) (.int i) []:=by simp[Is]
theorem Is.bl(i:Bool):Is K H (.bl i) (.bl i) []:=by simp[Is]
theorem Is.non:Is K H .non .non []:=by simp[Is]
theorem Is.str(x:bH):Is K H (.str x) (.str x) []:=by simp[Is]
theorem Is.ty(n:String):Is K H (.ty n) (.ty n) []:=by simp[Is]
theorem Is.bl_inv{i:Bool}{v:V}{a:List aL}(h:Is K H (.bl i) v a):v = .bl i/\a=[]:=by simpa only[Is] using h
theorem Is.str_inv{i:bH}{v:V}{a:List aL}(h:Is K H (.str i) v a):v = .str i/\a=[]:=by simpa only[Is] using h
theorem Is.non_inv{v:V}{a:List aL}(h:Is K H .non v a):v = .non/\a=[]:=by simpa only[Is] using h
theorem Is.ty_inv{n:String}{v:V}{a:List aL}(h:Is K H (.ty n) v a):v = .ty n/\a=[]:=by simpa only[Is] using h
theorem Is.tup_inv{l:List PV}{v:V}{a:List aL}(h:Is K H (.tup l) v a):∃p xs,v = .ref p/\H p=ax (.tup xs)/\Iss K H l xs a:=by simpa only[Is] using h
theorem Is.tup{l:List PV}{p:aL}{xs:List V}{a:List aL}(h:H p=ax (.tup xs))(b:Iss K H l xs a):Is K H (.tup l) (.ref p) a:=by simp only[Is];exact⟨p,xs,rfl,h,b⟩
theorem Is.lst_inv{l:List PV}{v:V}{a:List aL}(h:Is K H (.lst l) v a):∃p xs fq,v = .ref p/\H p=ax (.lst xs)/\Iss K H l xs fq/\a=p::fq:=by simpa only[Is] using h
theorem Is.lst{l:List PV}{p:aL}{xs:List V}{a:List aL}(h:H p=ax (.lst xs))(b:Iss K H l xs a):Is K H (.lst l) (.ref p) (p::a):=by simp only[Is];exact⟨p,xs,a,rfl,h,b,rfl⟩
theorem Is.cst_inv{l:List PV}{v:V}{a:List aL}(h:Is K H (.cst l) v a):∃p xs,v = .ref p/\CsK K H p xs/\Iss K H l xs a:=by simpa only[Is] using h
theorem Is.cst{l:List PV}{p:aL}{xs:List V}{a:List aL}(h:CsK K H p xs)(b:Iss K H l xs a):Is K H (.cst l) (.ref p) a:=by simp only[Is];exact⟨p,xs,rfl,h,b⟩
theorem Is.dT_inv{b:List (List Y8)}{l:List PV}{v:V}{a:List aL}(h:Is K H (.dT b l) v a):∃p p4 fq,v = .ref p/\Rd H p (.dT p4)/\p4.map (·.1)=b/\Iss K H l (p4.map (·.2)) fq/\a=p::fq:=by simpa only[Is] using h
theorem Is.dT{c:List (List Y8)}{l:List PV}{p:aL}{a:List (List Y8×V)}{b:List aL}(h:H p=ax (.dT a))(e:a.map (·.1)=c)(d:Iss K H l (a.map (·.2)) b):Is K H (.dT c l) (.ref p) (p::b):=by simp only[Is];exact⟨p,a,b,rfl,.inl h,e,d,rfl⟩
theorem Is.dK_inv{b:List Y8}{l:List PV}{v:V}{a:List aL}(h:Is K H (.dK b l) v a):∃p p4 fq,v = .ref p/\Rd H p (.dK p4)/\p4.map (·.1)=b/\Iss K H l (p4.map (·.2)) fq/\a=p::fq:=by simpa only[Is] using h
theorem Is.dK{c:List Y8}{l:List PV}{p:aL}{a:List (Y8×V)}{b:List aL}(h:H p=ax (.dK a))(e:a.map (·.1)=c)(d:Iss K H l (a.map (·.2)) b):Is K H (.dK c l) (.ref p) (p::b):=by simp only[Is];exact⟨p,a,b,rfl,.inl h,e,d,rfl⟩
end
abbrev iL(l:List Int):List PV:=l.map PV.int
theorem ZY(l:List Int):ZC (iL l)=aC:=by rw[X1,bK];intro x a;obtain⟨i,_,rfl⟩:=ar.mp a;rfl
theorem Iss.iL{H:Hp}:∀{l:List Int}{xs:List V}{fp:List aL},Iss K H (VL.iL l) xs fp->xs=l.map V.int/\fp=[]
 | [],xs,fp,h=>by simpa only[VL.iL,fX,Iss] using h
 | i::l,xs,fp,h=>by obtain⟨x,r,f1,c,rfl,a,b,rfl⟩:=Iss.inv (show Iss K H (PV.int i::VL.iL l) xs fp from h);obtain⟨rfl,rfl⟩:=a.int_inv;obtain⟨rfl,rfl⟩:=b.iL;exact⟨rfl,rfl⟩
theorem Iss.ofInts{H:Hp}:∀(l:List Int),Iss K H (VL.iL l) (l.map V.int) []
 | []=>Iss.nil
 | i::l=>Iss.cons (f1:=[]) (Is.int i) (Iss.ofInts l)
end VL
namespace VL
open PySem PySem.Spec PyProof.Rows L2
variable {K:aH}
abbrev Pw:=L2.St
abbrev ZG:=List (Option PV)
abbrev XE:=ZG->Option PV
structure EnvIs(K:aH)(Rm:aL->Prop)(H:Hp)(s:ZG)(σ:Pw):Prop where
 is:∀(i:Nat) l,s[i]?=ax (ax l)->∃v fp,σ[i]?=ax (ax v)/\Is K H l v fp/\∀p∈fp,¬Rm p
theorem EnvIs.mono{f:aL->Prop}{H d:Hp}{s:ZG}{g:Pw}(h:EnvIs K f H s g)(e:Same H d):EnvIs K f d s g:=⟨λi l q=>by
 obtain⟨v,j,a,b,c⟩:=h.is i l q;exact⟨v,j,a,b.mono e,c⟩⟩
theorem EnvIs.free{f:aL->Prop}{H:Hp}{s:ZG}{d:Pw}(h:EnvIs K f H s d):EnvIs K (λ_=>False) H s d:=⟨λi l q=>by
 obtain⟨v,e,a,b,c⟩:=h.is i l q;exact⟨v,e,a,b,λ_ _ z=>z⟩⟩
theorem Same.mut{H a:Hp}(e:Same H a){p:aL}(h:UU (H p)):UU (a p):=by
 cases q:H p with
 | none=>rw[q] at h;exact h.elim
 | some o=>rw[e p o q,<-q];exact h
theorem Xn{H:Hp}{p:aL}(h:UU (H p)):H p≠aA:=λz=>by rw[z] at h;exact h
noncomputable def tF(K:aH)(f:XE):TE:=λσ H Q=>∃(Rm:aL->Prop) (s:ZG) (l:PV),(∀p,Rm p->UU (H p))/\EnvIs K Rm H s σ/\f s=ax l/\∀v H' fp,Same H H'->Is K H' l v fp->(∀p∈fp,¬Rm p)->Q v H'
noncomputable def tM(K:aH)(f:XE):TE:=λσ H Q=>∃(s:ZG) (l:PV),EnvIs K (λ_=>False) H s σ/\f s=ax l/\∀v H' fp,Same H H'->Is K H' l v fp->fp.Nodup->(∀p∈fp,H p=aA/\UU (H' p))->Q v H'
noncomputable def VE(X:Cx)(e:bO)(f:XE):Prop:=PE X e (tF X.K f)
noncomputable def VM(X:Cx)(e:bO)(f:XE):Prop:=PE X e (tM X.K f)
section
variable {X:Cx} {e:bO} {f g:XE} {t t':TE}
theorem PE.imp(h:PE X e t)(i:∀a H Q,t' a H Q->t a H Q):PE X e t':=λb s a H Q I q=>h b s a H Q I (i a H Q q)
theorem VM.ve(h:VM X e f):VE X e f:=PE.imp h λj H Q ⟨g,s,l,hd,env,e,k⟩=>
 ⟨s,l,env.free,e,λv d a c i _ n=>k v d a c i λp b z=>Xn (hd p z) (n p b).1⟩
noncomputable def eP(f:XE):XE:=λs=>(f s).bind λl=>if ZO l=aC then ax l else aA
theorem Zd1{s:ZG}{l:PV}(h:eP f s=ax l):f s=ax l/\ZO l=aC:=by
 unfold eP at h
 cases q:f s with
 | none=>rw[q] at h;cases h
 | some a=>
  rw[q] at h;simp only[aQ] at h;split at h
  ·cases h;exact⟨rfl,by assumption⟩
  ·cases h
theorem VE.pure(h:VE X e f):VM X e (eP f):=PE.imp h λm H Q ⟨s,l,env,e,k⟩=>by
 obtain⟨b,a⟩:=Zd1 e;refine⟨λ_=>False,s,l,λ_ z=>z.elim,env,b,λv j c g i n=>?_⟩;have:=Is.pure l v c a i;subst this;exact k v j [] g i cH λp d=>by simp at d
end
noncomputable def Za(i:Nat):XE:=λs=>(s[i]?).join
noncomputable def eC(l:PV):XE:=λ_=>ax l
theorem Ls{i:Nat}{s:ZG}{l:PV}(h:Za i s=ax l):s[i]?=ax (ax l):=by
 unfold Za at h
 cases q:s[i]? with
 | none=>rw[q] at h;cases h
 | some o=>rw[q] at h;cases o with
  | none=>cases h
  | some a=>cases h;rfl
section
variable {X:Cx} {pos:dw}
theorem Rc{e:bO}{i:Nat}(h:PE X e (Pp i)):VE X e (Za i):=PE.imp h λg H Q ⟨f,s,l,hd,env,e,k⟩=>by obtain⟨v,d,a,b,c⟩:=env.is i l (Ls e);exact⟨v,a,k v H d (Same.refl H) b c⟩
theorem B8{e:bO}{v:V}{l:PV}(h:PE X e (tC v))(b:∀H,Is X.K H l v []):VE X e (eC l):=PE.imp h λf H Q ⟨d,s,c,hd,env,e,k⟩=>by
 cases e;exact k v H [] (Same.refl H) (b H) λp a=>by simp at a
theorem Zh{i j}:VE X (.Constant (.int i) j pos) (eC (.int i)):=B8 Zhr λ_=>Is.int i
theorem Ei{i j}:VE X (.Constant (.bool i) j pos) (eC (.bl i)):=B8 Zkj λ_=>Is.bl i
theorem UZ{j}:VE X (.Constant .none j pos) (eC .non):=B8 Zhs λ_=>Is.non
end
noncomputable def RB(K:aH)(r:R2)(g:PV->PV->Option PV):Prop:=∀(H:Hp)(x y:V)(a b l:PV)(fa fb:List aL),Is K H a x fa->Is K H b y fb->g a b=ax l->∀Q:VK,
 (∀v H' fp,Same H H'->Is K H' l v fp->(∀p∈fp,p∈fa\/p∈fb\/H p=aA)->Q v H')->r x y H Q
noncomputable def Zm(g:PV->PV->Option PV)(a b:XE):XE:=λs=>(a s).bind λx=>(b s).bind λy=>g x y
theorem VD{g:PV->PV->Option PV}{a b:XE}{s:ZG}{l:PV}(h:Zm g a b s=ax l):∃x y,a s=ax x/\b s=ax y/\g x y=ax l:=by
 unfold Zm at h
 cases q:a s with
 | none=>rw[q] at h;cases h
 | some x=>cases q2:b s with
  | none=>rw[q,q2] at h;cases h
  | some y=>rw[q,q2] at h;exact⟨x,y,rfl,rfl,h⟩
section
variable {X:Cx} {a b:bO} {fa fb:XE} {pos:dw}
theorem Ej{r:R2}{g:PV->PV->Option PV}(q:RB K r g):∀b H Q,tF K (Zm g fa fb) b H Q->tOp r (tF K fa) (tF K fb) b H Q:=λb H Q ⟨f,s,l,hd,env,e,k⟩=>by
 obtain⟨d,c,m,E,e⟩:=VD e;refine⟨f,s,d,hd,env,m,λx F f1 s1 B A=>⟨f,s,c,λp a=>Same.mut s1 (hd p a),env.mono s1,E,λy t i s2 C w=>?_⟩⟩;refine q t x y d c l f1 i (B.mono s2) C e Q λv n j D o u=>k v n j (s1.trans (s2.trans D)) o λp a z=>?_;rcases u p a with h | h | h
 ·exact A p h z
 ·exact w p h z
 ·exact Xn (Same.mut (s1.trans s2) (hd p z)) h
theorem UK{op:oX}{r:R2}{g:PV->PV->Option PV}(d:TH X (dy op) r)(e:RB X.K r g)(c:VE X a fa)(f:VE X b fb):VE X (.BinOp a op b pos) (Zm g fa fb):=
 PE.imp (F6 d c f) (Ej e)
theorem Kp{op:nK}{r:R2}{g:PV->PV->Option PV}(d:TH X (dH op) r)(e:RB X.K r g)(c:VE X a fa)(f:VE X b fb)(h:cY op b=aB):VE X (.Compare a [op] [b] pos) (Zm g fa fb):=
 PE.imp (Zdf d c f h) (Ej e)
theorem Zln{r:R2}{g:PV->PV->Option PV}(e:IxR X r)(f:RB X.K r g)(c:VE X a fa)(h:VE X b fb)(d:Kh b):VE X (.Subscript a b pos) (Zm g fa fb):=
 PE.imp (J1 e c h d) (Ej f)
end
noncomputable def gI(g:Int->Int->Int):PV->PV->Option PV
 | .int i,.int j=>ax (.int (g i j))
 | _,_=>aA
noncomputable def gB(g:Int->Int->Bool):PV->PV->Option PV
 | .int i,.int j=>ax (.bl (g i j))
 | _,_=>aA
noncomputable def gIC(C:Int->Int->Prop)[∀i j,Decidable (C i j)](g:Int->Int->Int):PV->PV->Option PV
 | .int i,.int j=>if C i j then ax (.int (g i j)) else aA
 | _,_=>aA
theorem Ek{g:Int->Int->Int}{a b l:PV}(h:gI g a b=ax l):∃i j,a = .int i/\b = .int j/\l = .int (g i j):=by
 unfold gI at h;split at h
 ·cases h;exact⟨_,_,rfl,rfl,rfl⟩
 ·cases h
theorem Zd2{g:Int->Int->Bool}{a b l:PV}(h:gB g a b=ax l):∃i j,a = .int i/\b = .int j/\l = .bl (g i j):=by
 unfold gB at h;split at h
 ·cases h;exact⟨_,_,rfl,rfl,rfl⟩
 ·cases h
theorem B9{C:Int->Int->Prop}[∀i j,Decidable (C i j)]{g:Int->Int->Int}{a b l:PV}(h:gIC C g a b=ax l):∃i j,a = .int i/\b = .int j/\C i j/\l = .int (g i j):=by
 unfold gIC at h;split at h
 ·split at h
  ·cases h;exact⟨_,_,rfl,rfl,by assumption,rfl⟩
  ·cases h
 ·cases h
theorem Zlo(g:Int->Int->Int):RB K (rI0 λi j=>.int (g i j)) (gI g):=λH x y a b l h fb c d e Q k=>by obtain⟨i,j,rfl,rfl,rfl⟩:=Ek e;exact⟨i,j,c.int_inv.1,d.int_inv.1,k _ H [] (Same.refl H) (Is.int _) λp f=>by simp at f⟩
theorem Gg(g:Int->Int->Bool):RB K (rI0 λi j=>.bl (g i j)) (gB g):=λH x y a b l h fb c d e Q k=>by obtain⟨i,j,rfl,rfl,rfl⟩:=Zd2 e;exact⟨i,j,c.int_inv.1,d.int_inv.1,k _ H [] (Same.refl H) (Is.bl _) λp f=>by simp at f⟩
theorem Ic(C:Int->Int->Prop)[∀i j,Decidable (C i j)](g:Int->Int->Int):RB K (rI C λi j=>.int (g i j)) (gIC C g):=λH x y a b l m fb f h e Q k=>by obtain⟨i,j,rfl,rfl,c,rfl⟩:=B9 e;exact⟨i,j,f.int_inv.1,h.int_inv.1,c,k _ H [] (Same.refl H) (Is.int _) λp d=>by simp at d⟩
instance (i j:Int):Decidable (CMul i j):=by unfold CMul;infer_instance
instance (i j:Int):Decidable (BI i j):=by unfold BI;infer_instance
instance (i j:Int):Decidable (Zgw i j):=by unfold Zgw;infer_instance
instance (i j:Int):Decidable (Zk1 i j):=by unfold Zk1;infer_instance
abbrev YJ:=gI (· + ·)
abbrev Wi:=gI (· - ·)
abbrev Px:=gIC CMul (· * ·)
abbrev SD:=gIC BI (· / ·)
abbrev Ve:=gIC (λ_ j=>0<j) (· % ·)
abbrev MO:=gB (λi j=>decide (i<j))
abbrev oLe:=gB (λi j=>decide (i<=j))
abbrev El:=gB (λi j=>decide (j<i))
abbrev oGe:=gB (λi j=>decide (j<=i))
section
variable {X:Cx} {a b:bO} {fa fb:XE} {pos:dw}
theorem Yb(c:VE X a fa)(d:VE X b fb):VE X (.BinOp a .Add b pos) (Zm YJ fa fb):=UK Zh9 (Zlo _) c d
theorem Y1(c:VE X a fa)(d:VE X b fb):VE X (.BinOp a .Sub b pos) (Zm Wi fa fb):=UK Zia (Zlo _) c d
theorem SE(c:VE X a fa)(d:VE X b fb):VE X (.BinOp a .Mult b pos) (Zm Px fa fb):=UK Zib (Ic _ _) c d
theorem Xo(c:VE X a fa)(d:VE X b fb):VE X (.BinOp a .FloorDiv b pos) (Zm SD fa fb):=UK Zde (Ic _ _) c d
theorem Xq(c:VE X a fa)(d:VE X b fb):VE X (.BinOp a .Mod b pos) (Zm Ve fa fb):=UK Zic (Ic _ _) c d
theorem Zg5(c:VE X a fa)(d:VE X b fb):VE X (.Compare a [.Lt] [b] pos) (Zm MO fa fb):=Kp BJ (Gg _) c d (UX _)
theorem Aa(c:VE X a fa)(d:VE X b fb):VE X (.Compare a [.Gt] [b] pos) (Zm El fa fb):=Kp Zgx (Gg _) c d (UX _)
end
noncomputable def ZR:PV->PV->Option PV
 | .lst l,.int i=>R9 l i
 | .cst l,.int i=>R9 l i
 | .tup l,.int i=>R9 l i
 | .str z,.int i=>if z.length<=sizeLine then(R9 z.cps.toList i).map λc=>.str ⟨#[c]⟩ else aA
 | _,_=>aA
theorem Gh{l:List PV}{xs:List V}{H:Hp}{b:List aL}{i:Int}{a:PV}(h:Iss K H l xs b)(e:R9 l i=ax a):∃x f1,R9 xs i=ax x/\Is K H a x f1/\∀p∈f1,p∈b:=by
 unfold R9 at e ⊢;rw[h.len]
 cases q:J0 l.length i with
 | none=>rw[q] at e;cases e
 | some j=>rw[q] at e;exact h.get e
theorem Zlq:RB K (rIx K) ZR:=λH x y a b l s fb m n e Q k=>by
 unfold ZR at e;split at e
 ·obtain⟨p,xs,o,rfl,d,j,rfl⟩:=m.lst_inv;obtain⟨z,f1,i,g,h⟩:=Gh j e;exact .inl ⟨p,xs,_,z,rfl,n.int_inv.1,SqL.of d,i,k z H f1 (Same.refl H) g λq f=>.inl (aN _ (h q f))⟩
 ·obtain⟨p,xs,rfl,d,j⟩:=m.cst_inv;obtain⟨z,f1,i,g,h⟩:=Gh j e;exact .inl ⟨p,xs,_,z,rfl,n.int_inv.1,d.sq,i,k z H f1 (Same.refl H) g λq f=>.inl (h q f)⟩
 ·obtain⟨p,xs,rfl,d,j⟩:=m.tup_inv;obtain⟨z,f1,i,g,h⟩:=Gh j e;exact .inr (.inl ⟨p,xs,_,z,rfl,n.int_inv.1,SqT.of d,i,k z H f1 (Same.refl H) g λq f=>.inl (h q f)⟩)
 ·split at e
  ·cases q:R9 _ _ with
   | none=>rw[q] at e;cases e
   | some c=>
    rw[q] at e;cases e;exact .inr (.inr ⟨_,_,c,m.str_inv.1,n.int_inv.1,by assumption,q,k _ H [] (Same.refl H) (Is.str _) λp d=>by simp at d⟩)
  ·cases e
 ·cases e
section
variable {X:Cx} {a b:bO} {fa fb:XE} {pos:dw}
theorem Zj(c:VE X a fa)(e:VE X b fb)(d:Kh b:=by exact λ_ _=>rfl):VE X (.Subscript a b pos) (Zm ZR fa fb):=Zln Zij Zlq c e d
end
abbrev XT:=ZG->Option Bool
noncomputable def HR(K:aH)(f:XT):TT:=λσ H Q=>∃(Rm:aL->Prop) (s:ZG) (c:Bool),(∀p,Rm p->UU (H p))/\EnvIs K Rm H s σ/\f s=ax c/\∀H',Same H H'->Q c H'
noncomputable def VT(X:Cx)(e:bO)(f:XT):Prop:=PT X e (HR X.K f)
noncomputable def VW(X:Cx)(e:bO)(f:XT):Prop:=PW X e (HR X.K f)
section
variable {X:Cx} {e:bO} {f:XT}
theorem PT.imp{t t':TT}(h:PT X e t)(i:∀a H Q,t' a H Q->t a H Q):PT X e t':=λb s a H Q I q=>h b s a H Q I (i a H Q q)
theorem PW.imp{t t':TT}(h:PW X e t)(i:∀b H Q,t' b H Q->t b H Q):PW X e t':=λa c s b H Q I q=>h a c s b H Q I (i b H Q q)
theorem VW.vt(h:VW X e f):VT X e f:=PW.pt h
end
noncomputable def xB(f:XE):XT:=λs=>match f s with | some (.bl c)=>ax c | _=>aA
theorem Rf{f:XE}{s:ZG}{c:Bool}(h:xB f s=ax c):f s=ax (.bl c):=by
 unfold xB at h;split at h
 ·cases h;assumption
 ·cases h
noncomputable def Zlr:PV->Option Bool
 | .non=>ax aB
 | .bl b=>ax b
 | .int i=>ax (i != 0)
 | .str y=>if y.length<=sizeLine then ax ((y.length:Int) != 0) else aA
 | .lst l=>ax !l.isEmpty
 | .cst l=>ax !l.isEmpty
 | .tup l=>ax !l.isEmpty
 | _=>aA
noncomputable def xV(f:XE):XT:=λs=>(f s).bind Zlr
section
variable {X:Cx} {a b c:bO} {YC:List bO} {fa fb:XE} {ga gb:XT} {pos:dw}
theorem U0(h:VE X a fa)(b:∀whole,md a X.env whole=(do let v <-whole;oT a.pos;holding [v] (truthy v)):=by intro _;rfl):VT X a (xB fa):=
 PT.imp (Zhu h b) λl H Q ⟨f,s,c,hd,env,e,k⟩=>⟨f,s,.bl c,hd,env,Rf e,λv g j d i n=>⟨c,i.bl_inv.1,k g d⟩⟩
theorem Ac:∀a H Q,HR K (xB fa) a H Q->F7 (tF K fa) a H Q:=λa H Q ⟨f,s,c,hd,env,e,k⟩=>⟨f,s,.bl c,hd,env,Rf e,λv b g d i n=>⟨c,i.bl_inv.1,k b d⟩⟩
theorem Gi{t t':TE}(i:∀a H Q,t' a H Q->t a H Q):∀a H Q,F7 t' a H Q->F7 t a H Q:=λa H Q h=>i a H _ h
theorem SF{op:nK}{r:R2}{g:PV->PV->Option PV}(e:TH X (dH op) r)(f:RB X.K r g)(d:VE X a fa)(i:VE X b fb)(j:cY op b=aB):VT X (.Compare a [op] [b] pos) (xB (Zm g fa fb)):=
 PT.imp (Zdg e d i j) λc H Q h=>Gi (Ej f) c H Q (Ac c H Q h)
theorem ON(c:VE X a fa)(d:VE X b fb):VT X (.Compare a [.Lt] [b] pos) (xB (Zm MO fa fb)):=SF BJ (Gg _) c d (UX _)
theorem Ad(c:VE X a fa)(d:VE X b fb):VT X (.Compare a [.Gt] [b] pos) (xB (Zm El fa fb)):=SF Zgx (Gg _) c d (UX _)
theorem Zls(c:VE X a fa)(d:VE X b fb):VT X (.Compare a [.GtE] [b] pos) (xB (Zm oGe fa fb)):=SF Zk3 (Gg _) c d (UX _)
noncomputable def OO(a b:XT):XT:=λs=>(a s).bind λc=>if c=aC then b s else ax aB
noncomputable def Gj(a b:XT):XT:=λs=>(a s).bind λc=>if c=aC then ax aC else b s
noncomputable def Py(a:XT):XT:=λs=>(a s).map not
theorem Zd3:∀a H Q,HR K (OO ga gb) a H Q->Zkl (HR K ga) (HR K gb) a H Q:=λa H Q ⟨b,s,c,hd,env,e,k⟩=>by
 unfold OO at e
 cases q:ga s with
 | none=>rw[q] at e;cases e
 | some d=>
  rw[q] at e;refine⟨b,s,d,hd,env,q,λf s1=>?_⟩
  cases d with
  | true=>
   exact⟨b,s,c,λp h=>Same.mut s1 (hd p h),env.mono s1,e,λg s2=>k g (s1.trans s2)⟩
  | false=>
   cases e;exact k f s1
theorem Zix:∀a H Q,HR K (Gj ga gb) a H Q->tOr (HR K ga) (HR K gb) a H Q:=λa H Q ⟨b,s,c,hd,env,e,k⟩=>by
 unfold Gj at e
 cases q:ga s with
 | none=>rw[q] at e;cases e
 | some d=>
  rw[q] at e;refine⟨b,s,d,hd,env,q,λf s1=>?_⟩
  cases d with
  | true=>
   cases e;exact k f s1
  | false=>
   exact⟨b,s,c,λp h=>Same.mut s1 (hd p h),env.mono s1,e,λg s2=>k g (s1.trans s2)⟩
theorem P8(b:VT X a ga):VW X (.BoolOp .And [a] pos) ga:=Zc9 b
theorem U1(b:VT X a ga):VW X (.BoolOp .Or [a] pos) ga:=Zhv b
theorem Kq(c:VT X a ga)(d:VW X (.BoolOp .And (b::YC) pos) gb):VW X (.BoolOp .And (a::b::YC) pos) (OO ga gb):=PW.imp (Zhw c d) Zd3
theorem Rh(c:VT X a ga)(d:VW X (.BoolOp .Or (b::YC) pos) gb):VW X (.BoolOp .Or (a::b::YC) pos) (Gj ga gb):=PW.imp (Zkm c d) Zix
theorem SG(b:VT X a ga):VT X (.UnaryOp .Not a pos) (Py ga):=PT.imp (Zhx b) λg H Q ⟨f,s,c,hd,env,e,k⟩=>by
 unfold Py at e
 cases q:ga s with
 | none=>rw[q] at e;cases e
 | some d=>rw[q] at e;cases e;exact⟨f,s,d,hd,env,q,k⟩
theorem Ae(h:VE X a fa)(g:∀whole,md a X.env whole=(do let v <-whole;oT a.pos;holding [v] (truthy v)):=by intro _;rfl):VT X a (xV fa):=
 PT.imp (BM h g) λw H Q ⟨o,s,c,hd,env,e,k⟩=>by
 unfold xV at e
 cases q:fa s with
 | none=>rw[q] at e;cases e
 | some l=>
  rw[q] at e;simp only[aQ] at e;refine⟨o,s,l,hd,env,q,λv t u m i n=>⟨c,?_,k t m⟩⟩
  cases l with
  | non=>rw[i.non_inv.1];cases e;rfl
  | bl b=>rw[i.bl_inv.1];cases e;rfl
  | int j=>rw[i.int_inv.1];cases e;rfl
  | str y=>
   rw[i.str_inv.1];simp only[Zlr] at e;split at e
   ·cases e;exact⟨by assumption,rfl⟩
   ·cases e
  | lst l=>
   obtain⟨p,xs,x,rfl,d,f,_⟩:=i.lst_inv;cases e;refine .inl ⟨xs,SqL.of d,?_⟩;have:=f.len;cases xs<;>cases l<;>simp at this ⊢
  | cst l=>
   obtain⟨p,xs,rfl,d,f⟩:=i.cst_inv;cases e;refine .inl ⟨xs,d.sq,?_⟩;have:=f.len;cases xs<;>cases l<;>simp at this ⊢
  | tup l=>
   obtain⟨p,xs,rfl,d,f⟩:=i.tup_inv;cases e;refine .inr (.inl ⟨xs,SqT.of d,?_⟩);have:=f.len;cases xs<;>cases l<;>simp at this ⊢
  | ty n=>cases e
  | exc C=>cases e
  | exf C l=>cases e
  | clo C l=>cases e
  | dK ks l=>cases e
  | dT ks l=>cases e
end
section
variable {X:Cx} {a b c:bO} {YC:List bO} {fa fb:XE} {gc:XT} {pos:dw}
noncomputable def Kr(a b:XE):XE:=λs=>(xB a s).bind λc=>if c=aC then b s else ax (.bl aB)
noncomputable def eOr(a b:XE):XE:=λs=>(xB a s).bind λc=>if c=aC then ax (.bl aC) else b s
noncomputable def Zd4(a:XE):XE:=λs=>(xB a s).map λc=>.bl !c
noncomputable def OP(c:XT)(a b:XE):XE:=λs=>(c s).bind λk=>if k=aC then a s else b s
theorem Ks{op}(h:VE X a fa):VE X (.BoolOp op [a] pos) fa:=Zhy h
theorem OQ(i:VE X a fa)(u:VE X (.BoolOp .And (b::YC) pos) fb):VE X (.BoolOp .And (a::b::YC) pos) (Kr fa fb):=PE.imp (Zhz i u) λx H Q ⟨g,s,l,hd,env,e,k⟩=>by
 unfold Kr at e
 cases q:xB fa s with
 | none=>rw[q] at e;cases e
 | some d=>
  rw[q] at e;refine⟨g,s,.bl d,hd,env,Rf q,λv n w s1 o _=>⟨d,o.bl_inv.1,?_⟩⟩
  cases d with
  | true=>
   exact⟨g,s,l,λp c=>Same.mut s1 (hd p c),env.mono s1,e,λh j f s2 t m=>k h j f (s1.trans s2) t m⟩
  | false=>
   cases e;exact k _ n [] s1 (Is.bl aB) λp c=>by simp at c
theorem Ziy(c:VE X a fa):VE X (.UnaryOp .Not a pos) (Zd4 fa):=PE.imp (Zh0 c) λj H Q ⟨f,s,l,hd,env,e,k⟩=>by
 unfold Zd4 at e
 cases q:xB fa s with
 | none=>rw[q] at e;cases e
 | some d=>
  rw[q] at e;cases e;exact⟨f,s,.bl d,hd,env,Rf q,λv g i s1 h _=>⟨d,h.bl_inv.1,k _ g [] s1 (Is.bl _) λp b=>by simp at b⟩⟩
theorem Sw(t:VT X c gc)(o:VE X a fa)(u:VE X b fb):VE X (.IfExp c a b pos) (OP gc fa fb):=PE.imp (BE t o u) λv H Q ⟨j,s,l,hd,env,e,k⟩=>by
 unfold OP at e
 cases q:gc s with
 | none=>rw[q] at e;cases e
 | some d=>
  rw[q] at e;refine⟨j,s,d,hd,env,q,λw s1=>?_⟩
  cases d with
  | true=>
   exact⟨j,s,l,λp h=>Same.mut s1 (hd p h),env.mono s1,e,λg i f s2 n m=>k g i f (s1.trans s2) n m⟩
  | false=>
   exact⟨j,s,l,λp h=>Same.mut s1 (hd p h),env.mono s1,e,λg i f s2 n m=>k g i f (s1.trans s2) n m⟩
end
section
variable {X:Cx} {a b c:bO} {fa fb fc:XE} {pos:dw}
noncomputable def Af(neg:Bool):PV->Option PV
 | .non=>ax (.bl !neg)
 | _=>ax (.bl neg)
noncomputable def Gk:PV->Bool
 | .non=>aC
 | _=>aB
theorem OR{H:Hp}{l:PV}{v:V}{d:List aL}(i:Is K H l v d):decide (v=V.non)=Gk l:=by
 cases l with
 | non=>rw[i.non_inv.1];rfl
 | bl b=>rw[i.bl_inv.1];rfl
 | int j=>rw[i.int_inv.1];rfl
 | str y=>rw[i.str_inv.1];rfl
 | ty n=>rw[i.ty_inv.1];rfl
 | exc C=>obtain⟨⟨e,o,x,C,rfl,_⟩,_⟩:=i;rfl
 | exf C l=>obtain⟨⟨e,o,x,C,g,s,u,z,rfl,_⟩,_⟩:=i;rfl
 | clo C l=>obtain⟨u,x,⟨f,h,c,q,e,k,m,ct,rfl,_⟩,_⟩:=i;rfl
 | lst l=>obtain⟨p,xs,a,rfl,_⟩:=i.lst_inv;rfl
 | cst l=>obtain⟨p,xs,rfl,_⟩:=i.cst_inv;rfl
 | tup l=>obtain⟨p,xs,rfl,_⟩:=i.tup_inv;rfl
 | dK ks l=>obtain⟨p,xs,a,rfl,_⟩:=i.dK_inv;rfl
 | dT ks l=>obtain⟨p,xs,a,rfl,_⟩:=i.dT_inv;rfl
noncomputable def Rj(neg:Bool)(a:XE):XE:=λs=>(a s).bind (Af neg)
theorem Zd5:∀a H Q,tF K (Rj aB fa) a H Q->Zkk (tF K fa) a H Q:=λa H Q ⟨f,s,l,hd,env,e,k⟩=>by
 unfold Rj at e
 cases q:fa s with
 | none=>rw[q] at e;cases e
 | some m=>
  rw[q] at e;simp only[aQ] at e;refine⟨f,s,m,hd,env,q,λv b g s1 c _=>?_⟩;show Q _ b;rw[OR c];have:l = .bl (Gk m):=by cases m<;>cases e<;>rfl
  subst this;exact k _ b [] s1 (Is.bl _) λp d=>by simp at d
theorem Ag:∀a H Q,tF K (Rj aC fa) a H Q->Zgs (tF K fa) a H Q:=λa H Q ⟨f,s,l,hd,env,e,k⟩=>by
 unfold Rj at e
 cases q:fa s with
 | none=>rw[q] at e;cases e
 | some m=>
  rw[q] at e;refine⟨f,s,m,hd,env,q,λv b g s1 c _=>?_⟩;show Q _ b;rw[OR c];have:l = .bl (!Gk m):=by cases m<;>cases e<;>rfl
  subst this;exact k _ b [] s1 (Is.bl _) λp d=>by simp at d
theorem Ah:∀a H Q,HR K (xB fa) a H Q->tB (tF K fa) a H Q:=λa H Q ⟨f,s,c,hd,env,e,k⟩=>⟨f,s,.bl c,hd,env,Rf e,λv b g d i n=>⟨c,i.bl_inv.1,k b d⟩⟩
theorem Kt{t t':TE}(i:∀a H Q,t' a H Q->t a H Q):∀a H Q,tB t' a H Q->tB t a H Q:=λa H Q h=>i a H _ h
theorem Ziz{j pos'}(c:VE X a fa):VT X (.Compare a [.Is] [.Constant .none j pos'] pos) (xB (Rj aB fa)):=PT.imp (HV (Zht c)) λb H Q h=>Kt Zd5 b H Q (Ah b H Q h)
theorem P9{j pos'}(c:VE X a fa):VT X (.Compare a [.IsNot] [.Constant .none j pos'] pos) (xB (Rj aC fa)):=PT.imp (HV (Zc8 c)) λb H Q h=>Kt Ag b H Q (Ah b H Q h)
noncomputable def Ie:PV->Option PV
 | .int i=>ax (.int (-i))
 | _=>aA
noncomputable def Pz(g:PV->Option PV)(a:XE):XE:=λs=>(a s).bind g
theorem Ku(c:VE X a fa):VE X (.UnaryOp .USub a pos) (Pz Ie fa):=PE.imp (Zky Zid c) λi H Q ⟨d,s,l,hd,env,e,k⟩=>by
 unfold Pz at e
 cases q:fa s with
 | none=>rw[q] at e;cases e
 | some m=>
  rw[q] at e;simp only[aQ] at e;unfold Ie at e;split at e
  ·cases e;exact⟨d,s,_,hd,env,q,λv f h s1 g _=>⟨_,g.int_inv.1,k _ f [] s1 (Is.int _) λp b=>by simp at b⟩⟩
  ·cases e
end
end VL
namespace VL
open PySem PySem.Spec PyProof.Rows L2
variable {K:aH}
noncomputable def PB:List XE->ZG->Option (List PV)
 | [],_=>ax []
 | f::fs,s=>(f s).bind λx=>(PB fs s).map (x::·)
theorem OS{f:XE}{fs:List XE}{s:ZG}{ls:List PV}(h:PB (f::fs) s=ax ls):∃x r,f s=ax x/\PB fs s=ax r/\ls=x::r:=by
 unfold PB at h
 cases q:f s with
 | none=>rw[q] at h;cases h
 | some x=>cases q2:PB fs s with
  | none=>rw[q,q2] at h;cases h
  | some r=>rw[q,q2] at h;cases h;exact⟨x,r,rfl,rfl,rfl⟩
theorem Ug:∀{fs:List XE}{s:ZG}{ls:List PV},PB fs s=ax ls->ls.length=fs.length
 | [],_,_,h=>by cases h;rfl
 | f::fs,s,ls,h=>by obtain⟨x,r,_,a,rfl⟩:=OS h;rw[az,az,Ug a]
noncomputable def tFA(K:aH)(fs:List XE):TA:=λσ H Q=>∃(Rm:aL->Prop) (s:ZG) (ls:List PV),(∀p,Rm p->UU (H p))/\EnvIs K Rm H s σ/\PB fs s=ax ls/\∀vs H' fp,Same H H'->Iss K H' ls vs fp->(∀p∈fp,¬Rm p)->Q vs H'
noncomputable def tMA(K:aH)(fs:List XE):TA:=λσ H Q=>∃(s:ZG) (ls:List PV),EnvIs K (λ_=>False) H s σ/\PB fs s=ax ls/\∀vs H' fp,Same H H'->Iss K H' ls vs fp->fp.Nodup->(∀p∈fp,H p=aA/\UU (H' p))->Q vs H'
noncomputable def VA(X:Cx)(es:List bO)(fs:List XE):Prop:=PA X es (tFA X.K fs)
noncomputable def VMA(X:Cx)(es:List bO)(fs:List XE):Prop:=PA X es (tMA X.K fs)
section
variable {X:Cx} {e:bO} {es:List bO} {f:XE} {fs:List XE} {pos:dw} {k:Nat}
theorem PA.imp{t t':TA}(h:PA X es t)(i:∀a H Q,t' a H Q->t a H Q):PA X es t':=λpos b s a H Q I q=>h pos b s a H Q I (i a H Q q)
theorem Qg:VA X [] []:=PA.imp Y0 λc H Q ⟨b,s,ls,hd,env,e,k⟩=>by
 cases e;exact k [] H [] (Same.refl H) Iss.nil λp a=>by simp at a
theorem Wy(d:VE X e f)(g:VA X es fs)(q:aP (e::es) X.env=(aB,eval e X.env)::aP es X.env:=by rfl):VA X (e::es) (f::fs):=PA.imp (Z2 d g q) λw H Q ⟨b,s,ls,hd,env,e,k⟩=>by
 obtain⟨m,v,j,i,rfl⟩:=OS e;refine⟨b,s,m,hd,env,j,λx y f1 s1 t o=>⟨b,s,v,λp a=>Same.mut s1 (hd p a),env.mono s1,i,λxs l c s2 u n=>?_⟩⟩;refine k _ l (f1++c) (s1.trans s2) (Iss.cons (t.mono s2) u) λp a=>?_;rcases aV.mp a with h | h
 ·exact o p h
 ·exact n p h
theorem YS:VMA X [] []:=PA.imp Y0 λb H Q ⟨s,ls,env,e,k⟩=>by
 cases e;exact k [] H [] (Same.refl H) Iss.nil cH λp a=>by simp at a
theorem Wj(c:VM X e f)(m:VMA X es fs)(v:aP (e::es) X.env=(aB,eval e X.env)::aP es X.env:=by rfl):VMA X (e::es) (f::fs):=PA.imp (Z2 c m v) λC H Q ⟨s,ls,env,e,k⟩=>by
 obtain⟨u,B,o,n,rfl⟩:=OS e;refine⟨s,u,env,o,λx D f1 s1 w q g=>⟨s,B,env.mono s1,n,λxs t i s2 y l d=>?_⟩⟩;refine k _ t (f1++i) (s1.trans s2) (Iss.cons (w.mono s2) y) ?_ λp j=>?_
 ·refine cN.mpr ⟨q,l,λa c b A z=>?_⟩;subst z;exact Xn (g a c).2 (d a A).1
 ·rcases aV.mp j with h | h
  ·exact⟨(g p h).1,Same.mut s2 (g p h).2⟩
  ·exact⟨Same.off s1 (d p h).1,(d p h).2⟩
noncomputable def Wz(fs:List XE):XE:=λs=>(PB fs s).map .tup
noncomputable def WA(fs:List XE):XE:=λs=>(PB fs s).map .lst
theorem map_some{c d:Type}{o:Option c}{g:c->d}{b:d}(h:o.map g=ax b):∃a,o=ax a/\b=g a:=by
 cases o with
 | none=>cases h
 | some a=>cases h;exact⟨a,rfl,rfl⟩
theorem X2(h:VA X es fs)(i:fs.length<=1000:=by decide):VE X (.Tuple es k pos) (Wz fs):=PE.imp (H9 h) λj H Q ⟨f,s,l,hd,env,e,q⟩=>by
 obtain⟨ls,a,rfl⟩:=map_some e;refine⟨f,s,ls,hd,env,a,λvs m d s1 c g=>⟨?_,λp b=>?_⟩⟩
 ·rw[c.len,Ug a];exact cJ (lt_size (by omega))
 ·exact q _ _ d (s1.trans (Same.new b _)) (Is.tup Zk (c.mono (Same.new b _))) g
theorem Zi0(h:VMA X es fs)(m:fs.length<=1000:=by decide):VM X (.Tuple es k pos) (Wz fs):=PE.imp (H9 h) λn H Q ⟨s,l,env,e,q⟩=>by
 obtain⟨ls,c,rfl⟩:=map_some e;refine⟨s,ls,env,c,λvs o i s1 g j f=>⟨?_,λp b=>?_⟩⟩
 ·rw[g.len,Ug c];exact cJ (lt_size (by omega))
 ·exact q _ _ i (s1.trans (Same.new b _)) (Is.tup Zk (g.mono (Same.new b _))) j λa d=>⟨(f a d).1,Same.mut (Same.new b _) (f a d).2⟩
theorem OT(h:VA X es fs)(k:fs.length<=1000:=by decide):VE X (.List es pos) (WA fs):=PE.imp (BO h) λm H Q ⟨i,s,l,hd,env,e,q⟩=>by
 obtain⟨ls,d,rfl⟩:=map_some e;refine⟨i,s,ls,hd,env,d,λvs n g s1 f j=>⟨?_,λp b=>?_⟩⟩
 ·rw[f.len,Ug d];exact cJ (lt_size (by omega))
 ·refine q _ _ (p::g) (s1.trans (Same.new b _)) (Is.lst Zk (f.mono (Same.new b _))) λa c z=>?_;rcases aa.mp c with rfl | c
  ·exact Xn (Same.mut s1 (hd a z)) b
  ·exact j a c z
theorem XA(h:VMA X es fs)(k:fs.length<=1000:=by decide):VM X (.List es pos) (WA fs):=PE.imp (BO h) λm H Q ⟨s,l,env,e,q⟩=>by
 obtain⟨ls,f,rfl⟩:=map_some e;refine⟨s,ls,env,f,λvs n i s1 g j d=>⟨?_,λp b=>?_⟩⟩
 ·rw[g.len,Ug f];exact cJ (lt_size (by omega))
 ·refine q _ _ (p::i) (s1.trans (Same.new b _)) (Is.lst Zk (g.mono (Same.new b _))) (aq.mpr ⟨λz=>Xn (d p z).2 b,j⟩) λa c=>?_;rcases aa.mp c with rfl | c
  ·exact⟨Same.off s1 b,by rw[Zk];exact b8⟩
  ·exact⟨(d a c).1,Same.mut (Same.new b _) (d a c).2⟩
theorem Ai:VM X (.Dict [] [] pos) (eC (.dT [] [])):=PE.imp BY λd H Q ⟨s,l,env,e,q⟩ p b=>by
 cases e;exact q _ _ [p] (Same.new b _) (Is.dT Zk rfl Iss.nil) (by simp) λa c=>by rw[aM.mp c];exact⟨b,by rw[Zk];exact b8⟩
end
noncomputable def Y5(K:aH)(D:List PV->Option PV)(n:Nat):Sp:=λvs H Q _=>vs.length=n/\∃ls fp l,Iss K H ls vs fp/\D ls=ax l/\∀v H' fq,Same H H'->Is K H' l v fq->fq.Nodup->(∀p∈fq,H p=aA/\UU (H' p))->Q v H'
noncomputable def Ze(D:List PV->Option PV)(fs:List XE):XE:=λs=>(PB fs s).bind D
theorem Zc{c d:Type}{o:Option c}{g:c->Option d}{b:d}(h:o.bind g=ax b):∃a,o=ax a/\g a=ax b:=by
 cases o with
 | none=>cases h
 | some a=>exact⟨a,rfl,h⟩
section
variable {X:Cx} {x:bH} {ps:List bH} {k:Nat} {e:bO} {es:List bO} {fs:List XE} {p pos:dw}
theorem Em{D:List PV->Option PV}{n:Nat}(C:Xi X.prog X.w X.K X.mg X.base x ps (Y5 X.K D n) k)(t:Room k X.A)(B:Gl X x)(b:VA X (e::es) fs)(w:fs.length=n:=by rfl)
  (d:(x==("__debug__" : bH))=aB:=by decide) (m:aP (e::es) X.env=(aB,eval e X.env)::aP es X.env:=by rfl) (c:(dC pos (aP es X.env)).any (·.1)=aB:=by rfl) :
  VM X (.Call (.Name x p) (e::es) [] pos) (Ze D fs):=PE.imp (Ziv C t B b d m c) λF H Q ⟨s,l,env,e,q⟩=>by
 obtain⟨ls,f,i⟩:=Zc e;refine⟨λ_=>False,s,ls,λ_ z=>z.elim,env,f,λvs y j s1 h G=>?_⟩;show Y5 X.K D n (vs++[]) y Q E0;rw[dW];exact⟨by rw[h.len,Ug f,w],ls,j,l,h,i,λv u A s2 E o g=>q v u A (s1.trans s2) E o λa b=>⟨Same.off s1 (g a b).1,(g a b).2⟩⟩
end
noncomputable def RC(K:aH)(r:List V->Hp->VK->Prop)(g:List PV->Option PV):Prop:=∀(H:Hp)(vs:List V)(ls:List PV)(l:PV)(fp:List aL),Iss K H ls vs fp->g ls=ax l->∀Q:VK,
 (∀v H' fq,Same H H'->Is K H' l v fq->(∀p∈fq,p∈fp\/H p=aA)->Q v H')->r vs H Q
noncomputable def RCM(K:aH)(r:List V->Hp->VK->Prop)(g:List PV->Option PV):Prop:=∀(H:Hp)(vs:List V)(ls:List PV)(l:PV)(fp:List aL),Iss K H ls vs fp->g ls=ax l->∀Q:VK,
 (∀v H' fq,Same H H'->Is K H' l v fq->fq.Nodup->(∀p∈fq,H p=aA/\UU (H' p))->Q v H')->r vs H Q
theorem Zg6{r:List V->Hp->VK->Prop}{g:List PV->Option PV}{fs:List XE}(i:RC K r g):∀a H Q,tF K (Ze g fs) a H Q->tCB r (tFA K fs) a H Q:=λa H Q ⟨m,s,l,hd,env,e,k⟩=>by
 obtain⟨ls,c,b⟩:=Zc e;refine⟨m,s,ls,hd,env,c,λvs o d s1 u q=>i o vs ls l d u b Q λv j t s2 w n=>k v j t (s1.trans s2) w λp f z=>?_⟩;rcases n p f with h | h
 ·exact q p h z
 ·exact Xn (Same.mut s1 (hd p z)) h
theorem Zg7{r:List V->Hp->VK->Prop}{g:List PV->Option PV}{fs:List XE}(j:RCM K r g):∀a H Q,tM K (Ze g fs) a H Q->tCB r (tFA K fs) a H Q:=λa H Q ⟨s,l,env,e,k⟩=>by obtain⟨ls,f,d⟩:=Zc e;exact⟨λ_=>False,s,ls,λ_ z=>z.elim,env,f,λvs n h s1 q u=>j n vs ls l h q d Q λv m o s2 t i c=>k v m o (s1.trans s2) t i λp b=>⟨Same.off s1 (c p b).1,(c p b).2⟩⟩
section
variable {X:Cx} {x:bH} {k:Nat} {e:bO} {es:List bO} {fs:List XE} {p pos:dw} {id T:String} {r:List V->Hp->VK->Prop} {g:List PV->Option PV}
theorem Ig(d:XW X (.builtin id) r)(h:RC X.K r g)(f:Gl X x)(j:X.mg x=aA)(k:dB x=ax (.builtin id))(c:VA X (e::es) fs)(l:x≠"__name__":=by decide)(a:(x==("__debug__" : bH))=aB:=by decide)
  (i:aP (e::es) X.env=(aB,eval e X.env)::aP es X.env:=by rfl) (b:(dC pos (aP es X.env)).any (·.1)=aB:=by rfl):VE X (.Call (.Name x p) (e::es) [] pos) (Ze g fs):=
 PE.imp (JY d f j k c l a i b) (Zg6 h)
theorem Aj(d:XW X (.builtin id) r)(h:RCM X.K r g)(f:Gl X x)(j:X.mg x=aA)(k:dB x=ax (.builtin id))(c:VA X (e::es) fs)(l:x≠"__name__":=by decide)(a:(x==("__debug__" : bH))=aB:=by decide)
  (i:aP (e::es) X.env=(aB,eval e X.env)::aP es X.env:=by rfl) (b:(dC pos (aP es X.env)).any (·.1)=aB:=by rfl):VM X (.Call (.Name x p) (e::es) [] pos) (Ze g fs):=
 PE.imp (JY d f j k c l a i b) (Zg7 h)
theorem ZK(d:XW X (.type T) r)(h:RC X.K r g)(f:Gl X x)(j:X.mg x=aA)(k:dB x=ax (.type T))(c:VA X (e::es) fs)(l:x≠"__name__":=by decide)(a:(x==("__debug__" : bH))=aB:=by decide)
  (i:aP (e::es) X.env=(aB,eval e X.env)::aP es X.env:=by rfl) (b:(dC pos (aP es X.env)).any (·.1)=aB:=by rfl):VE X (.Call (.Name x p) (e::es) [] pos) (Ze g fs):=
 PE.imp (Lb d f j k c l a i b) (Zg6 h)
theorem Qh(d:XW X (.type T) r)(h:RCM X.K r g)(f:Gl X x)(j:X.mg x=aA)(k:dB x=ax (.type T))(c:VA X (e::es) fs)(l:x≠"__name__":=by decide)(a:(x==("__debug__" : bH))=aB:=by decide)
  (i:aP (e::es) X.env=(aB,eval e X.env)::aP es X.env:=by rfl) (b:(dC pos (aP es X.env)).any (·.1)=aB:=by rfl):VM X (.Call (.Name x p) (e::es) [] pos) (Ze g fs):=
 PE.imp (Lb d f j k c l a i b) (Zg7 h)
end
theorem Iss.one_inv{H:Hp}{l:PV}{vs:List V}{c:List aL}(h:Iss K H [l] vs c):∃v,vs=[v]/\Is K H l v c:=by obtain⟨x,r,f1,d,rfl,a,b,rfl⟩:=h.inv;rw[b.1,b.2,dW];exact⟨x,rfl,a⟩
theorem Iss.two_inv{H:Hp}{l m:PV}{vs:List V}{e:List aL}(h:Iss K H [l,m] vs e):∃v w f1 d,vs=[v,w]/\Is K H l v f1/\Is K H m w d/\e=f1++d:=by obtain⟨x,r,f1,d,rfl,a,b,rfl⟩:=h.inv;obtain⟨y,rfl,c⟩:=b.one_inv;exact⟨x,y,f1,d,rfl,a,c,rfl⟩
noncomputable def PD:PV->Option (List PV)
 | .lst l=>ax l
 | .cst l=>ax l
 | .tup l=>ax l
 | _=>aA
theorem Uh{H:Hp}{l:PV}{v:V}{f:List aL}{m:List PV}(h:Is K H l v f)(e:PD l=ax m):∃p xs d,v = .ref p/\(SqL K H p xs\/SqT K H p xs)/\Iss K H m xs d/\∀q∈d,q∈f:=by
 cases l with
 | lst l=>
  cases e;obtain⟨p,xs,d,rfl,c,a,rfl⟩:=h.lst_inv;exact⟨p,xs,d,rfl,.inl (SqL.of c),a,λq b=>aN _ b⟩
 | cst l=>
  cases e;obtain⟨p,xs,rfl,c,a⟩:=h.cst_inv;exact⟨p,xs,f,rfl,.inl c.sq,a,λq b=>b⟩
 | tup l=>
  cases e;obtain⟨p,xs,rfl,c,a⟩:=h.tup_inv;exact⟨p,xs,f,rfl,.inr (SqT.of c),a,λq b=>b⟩
 | _=>cases e
noncomputable def ZN:List PV->Option PV
 | [.str z]=>if z.length<=sizeLine then ax (.int z.length) else aA
 | [l]=>(PD l).map λm=>.int m.length
 | _=>aA
theorem Zi1:RC K (λxs H Q=>∃x n,xs=[x]/\Zk5 K x H n/\Q (.int n) H) ZN:=λH vs ls l d h e Q k=>by
 unfold ZN at e;split at e
 ·split at e
  ·cases e;obtain⟨v,rfl,i⟩:=h.one_inv;exact⟨v,_,rfl,by rw[i.str_inv.1];exact⟨by assumption,rfl⟩,k _ H [] (Same.refl H) (Is.int _) λp a=>by simp at a⟩
  ·cases e
 ·obtain⟨m,b,rfl⟩:=map_some e;obtain⟨v,rfl,i⟩:=h.one_inv;obtain⟨p,xs,f,rfl,a,c,_⟩:=Uh i b;refine⟨_,xs.length,rfl,?_,?_⟩
  ·rcases a with a | a
   ·exact .inl ⟨xs,a,rfl⟩
   ·exact .inr ⟨xs,a,rfl⟩
  ·rw[c.len];exact k _ H [] (Same.refl H) (Is.int _) λp a=>by simp at a
 ·cases e
noncomputable def Z1:List PV->Option PV
 | [l]=>(PD l).map .tup
 | _=>aA
theorem ZW:RC K (Ziw K) Z1:=λH vs ls l j h e Q k=>by
 unfold Z1 at e;split at e
 ·obtain⟨m,f,rfl⟩:=map_some e;obtain⟨v,rfl,i⟩:=h.one_inv;rename_i n
  cases n with
  | tup l=>
   cases f;obtain⟨p,xs,rfl,c,g⟩:=id i.tup_inv;exact⟨p,xs,rfl,.inr ⟨SqT.of c,k _ H j (Same.refl H) i λa d=>.inl d⟩⟩
  | lst l=>
   cases f;obtain⟨p,xs,o,rfl,c,g,rfl⟩:=i.lst_inv;exact⟨p,xs,rfl,.inl ⟨SqL.of c,λq b=>k _ _ o (Same.new b _) (Is.tup Zk (g.mono (Same.new b _))) λa d=>.inl (aN _ d)⟩⟩
  | cst l=>
   cases f;obtain⟨p,xs,rfl,c,g⟩:=i.cst_inv;exact⟨p,xs,rfl,.inl ⟨c.sq,λq b=>k _ _ j (Same.new b _) (Is.tup Zk (g.mono (Same.new b _))) λa d=>.inl d⟩⟩
  | _=>cases f
 ·cases e
noncomputable def Vs:List PV->Option PV
 | [l]=>(PD l).bind λm=>if ZC m=aC then ax (.lst m) else aA
 | _=>aA
theorem OU:RCM K (Zdz K) Vs:=λH vs ls l n h e Q k=>by
 unfold Vs at e;split at e
 ·obtain⟨m,f,b⟩:=Zc e;split at b
  ·cases b;obtain⟨v,rfl,i⟩:=h.one_inv;obtain⟨p,xs,o,rfl,g,d,s⟩:=Uh i f;have:=Iss.pure _ _ _ (by assumption) d;subst this;refine⟨p,xs,rfl,g,λq c=>k _ _ [q] (Same.new c _) (Is.lst Zk (d.mono (Same.new c _))) (by simp) λa j=>?_⟩;rw[aM.mp j];exact⟨c,by rw[Zk];exact b8⟩
  ·cases b
 ·cases e
noncomputable def Ys:List PV->Option (List Int)
 | []=>ax []
 | .int i::r=>(Ys r).map (i::·)
 | _=>aA
theorem Yc:∀l:List Int,Ys (iL l)=ax l
 | []=>rfl
 | i::r=>by show(Ys (iL r)).map (i::·)=_;rw[Yc r];rfl
theorem Yd:∀{m:List PV}{l:List Int},Ys m=ax l->m=iL l
 | [],l,h=>by cases h;rfl
 | .int i::r,l,h=>by obtain⟨a,e,rfl⟩:=map_some (show(Ys r).map (i::·)=ax l from h);rw[Yd e];rfl
 | .non::_,_,h=>by cases h
 | .bl _::_,_,h=>by cases h
 | .str _::_,_,h=>by cases h
 | .ty _::_,_,h=>by cases h
 | .exc _::_,_,h=>by cases h
 | .exf _ _::_,_,h=>by cases h
 | .clo _ _::_,_,h=>by cases h
 | .tup _::_,_,h=>by cases h
 | .lst _::_,_,h=>by cases h
 | .cst _::_,_,h=>by cases h
 | .dK _ _::_,_,h=>by cases h
 | .dT _ _::_,_,h=>by cases h
abbrev bL(l:List Bool):List PV:=l.map PV.bl
noncomputable def TL:List PV->Option (List Bool)
 | []=>ax []
 | .bl i::r=>(TL r).map (i::·)
 | _=>aA
theorem Sx:∀l:List Bool,TL (bL l)=ax l
 | []=>rfl
 | i::r=>by show(TL (bL r)).map (i::·)=_;rw[Sx r];rfl
theorem Rk:∀{m:List PV}{l:List Bool},TL m=ax l->m=bL l
 | [],l,h=>by cases h;rfl
 | .bl i::r,l,h=>by obtain⟨a,e,rfl⟩:=map_some (show(TL r).map (i::·)=ax l from h);rw[Rk e];rfl
 | .non::_,_,h=>by cases h
 | .int _::_,_,h=>by cases h
 | .str _::_,_,h=>by cases h
 | .ty _::_,_,h=>by cases h
 | .exc _::_,_,h=>by cases h
 | .exf _ _::_,_,h=>by cases h
 | .clo _ _::_,_,h=>by cases h
 | .tup _::_,_,h=>by cases h
 | .lst _::_,_,h=>by cases h
 | .cst _::_,_,h=>by cases h
 | .dK _ _::_,_,h=>by cases h
 | .dT _ _::_,_,h=>by cases h
theorem Iss.bL{H:Hp}:∀{l:List Bool}{xs:List V}{fp:List aL},Iss K H (VL.bL l) xs fp->xs=l.map V.bl/\fp=[]
 | [],xs,fp,h=>by simpa only[VL.bL,fX,Iss] using h
 | i::l,xs,fp,h=>by obtain⟨x,r,f1,c,rfl,a,b,rfl⟩:=Iss.inv (show Iss K H (PV.bl i::VL.bL l) xs fp from h);obtain⟨rfl,rfl⟩:=a.bl_inv;obtain⟨rfl,rfl⟩:=b.bL;exact⟨rfl,rfl⟩
theorem Gm{H:Hp}{p:aL}{xs:List V}(h:SqL K H p xs\/SqT K H p xs):∃b,MH b K H p xs:=by
 rcases h with h | h
 ·exact⟨aC,h⟩
 ·exact⟨aB,h⟩
noncomputable def Rq:List PV->Option PV
 | [l]=>(PD l).bind λm=>(Ys m).map λns=>.int ns.sum
 | _=>aA
noncomputable def Kv:List PV->Option PV
 | [l]=>(PD l).bind λm=>(TL m).map λbs=>.bl (bs.all id)
 | _=>aA
theorem SH:RC K (λxs H Q=>∃(b:Bool) (p:aL) (ns:List Int),xs=[.ref p]/\MH b K H p (ns.map V.int)/\Q (.int ns.sum) H) Rq:=λH vs ls l o h e Q k=>by
 unfold Rq at e;split at e
 ·obtain⟨m,d,c⟩:=Zc e;obtain⟨ns,j,rfl⟩:=map_some c;obtain⟨v,rfl,i⟩:=h.one_inv;obtain⟨p,xs,q,rfl,a,f,s⟩:=Uh i d;have g:=Yd j;subst g;obtain⟨rfl,rfl⟩:=f.iL;obtain⟨b,n⟩:=Gm a;exact⟨b,p,ns,rfl,n,k _ H [] (Same.refl H) (Is.int _) λp a=>by simp at a⟩
 ·cases e
theorem Ak:RC K (λxs H Q=>∃(b:Bool) (p:aL) (bs:List Bool),xs=[.ref p]/\MH b K H p (bs.map V.bl)/\Q (.bl (bs.all id)) H) Kv:=λH vs ls l o h e Q k=>by
 unfold Kv at e;split at e
 ·obtain⟨m,d,c⟩:=Zc e;obtain⟨ns,j,rfl⟩:=map_some c;obtain⟨v,rfl,i⟩:=h.one_inv;obtain⟨p,xs,q,rfl,a,f,s⟩:=Uh i d;have g:=Rk j;subst g;obtain⟨rfl,rfl⟩:=f.bL;obtain⟨b,n⟩:=Gm a;exact⟨b,p,ns,rfl,n,k _ H [] (Same.refl H) (Is.bl _) λp a=>by simp at a⟩
 ·cases e
noncomputable def Zlu:List PV->Option PV
 | [.int i,.int j]=>ax (.int (if j<i then j else i))
 | _=>aA
noncomputable def En:List PV->Option PV
 | [.int i,.int j]=>ax (.int (if j>i then j else i))
 | _=>aA
noncomputable def OV:List PV->Option PV
 | [.int i]=>ax (.int i)
 | [.bl c]=>ax (.int (if c then 1 else 0))
 | _=>aA
theorem Zd6:RC K (λxs H Q=>∃i j,xs=[.int i,.int j]/\Q (.int (if j>i then j else i)) H) En:=λH vs ls l f h e Q k=>by
 unfold En at e;split at e
 ·cases e;obtain⟨v,w,f1,d,rfl,a,b,rfl⟩:=h.two_inv;exact⟨_,_,by rw[a.int_inv.1,b.int_inv.1],k _ H [] (Same.refl H) (Is.int _) λp c=>by simp at c⟩
 ·cases e
theorem Zd7:RC K (λxs H Q=>(∃i,xs=[.int i]/\Q (.int i) H)\/∃k,xs=[.bl k]/\Q (.int (if k then 1 else 0)) H) OV:=λH vs ls l c h e Q k=>by
 unfold OV at e;split at e
 ·cases e;obtain⟨v,rfl,a⟩:=h.one_inv;exact .inl ⟨_,by rw[a.int_inv.1],k _ H [] (Same.refl H) (Is.int _) λp b=>by simp at b⟩
 ·cases e;obtain⟨v,rfl,a⟩:=h.one_inv;exact .inr ⟨_,by rw[a.bl_inv.1],k _ H [] (Same.refl H) (Is.int _) λp b=>by simp at b⟩
 ·cases e
section
variable {X:Cx} {e:bO} {es:List bO} {fs:List XE} {p pos:dw}
noncomputable def UL:List PV->Option PV
 | [.int _,.ty "int"]=>ax (.bl aC)
 | [.int _,.ty "bool"]=>ax (.bl aB)
 | [.bl _,.ty "bool"]=>ax (.bl aC)
 | [.tup _,.ty "tuple"]=>ax (.bl aC)
 | [.lst _,.ty "list"]=>ax (.bl aC)
 | [.str _,.ty "str"]=>ax (.bl aC)
 | _=>aA
theorem MP:dc K (.type "bool") (.type "bool")=ax aC:=rfl
theorem Oa:RC K (λxs H Q=>∃x T t b,xs=[x,.ty T]/\TyOf K H x t/\dc K t (.type T)=ax b/\Q (.bl b) H) UL:=λH vs ls l g h e Q k=>by
  have c:∀b:Bool,l = .bl b->Q (.bl b) H:=λb z=>by subst z;exact k _ H [] (Same.refl H) (Is.bl _) λp d=>by simp at d
  unfold UL at e
  split at e<;>first
    | (cases e
       obtain⟨v,w,f1,f,rfl,a,b,rfl⟩:=h.two_inv
       first
         | (obtain⟨rfl,_⟩:=a.int_inv;first
             | exact⟨_,_,_,_,by rw[b.ty_inv.1],TyOf.int _,J7,c _ rfl⟩
             | exact⟨_,_,_,_,by rw[b.ty_inv.1],TyOf.int _,Kn,c _ rfl⟩)
         | (obtain⟨rfl,_⟩:=a.bl_inv;exact⟨_,_,_,_,by rw[b.ty_inv.1],TyOf.bl _,MP,c _ rfl⟩)
         | (obtain⟨rfl,_⟩:=a.str_inv;exact⟨_,_,_,_,by rw[b.ty_inv.1],TyOf.str _,J9,c _ rfl⟩)
         | (obtain⟨q,xs,rfl,d,_⟩:=a.tup_inv;exact⟨_,_,_,_,by rw[b.ty_inv.1],TyOf.tup d,J8,c _ rfl⟩)
         | (obtain⟨q,xs,i,rfl,d,_⟩:=a.lst_inv
            exact⟨_,_,_,_,by rw[b.ty_inv.1],TyOf.lst d,MN,c _ rfl⟩))
    | cases e
theorem Eo{x:bH}{n:String}(a:Gl X x)(b:X.mg x=aA)(c:dB x=ax (.type n))(d:x≠"__name__":=by decide)(hd:(x==("__debug__" : bH))=aB:=by decide):VE X (.Name x pos) (eC (.ty n)):=
 B8 (Zc7 a b c (v:=.ty n) rfl d hd) λ_=>Is.ty n
end
end VL
namespace VL
open PySem PySem.Spec PyProof.Rows L2
variable {K:aH}
open Classical in
instance:DecidableEq PV:=λa b=>propDecidable (a=b)
noncomputable def Wk:Nat->PV->PV->Bool
 | _+1,.non,.non=>aC
 | _+1,.bl _,.bl _=>aC
 | _+1,.int _,.int _=>aC
 | _+1,.str _,.str _=>aC
 | n+1,.tup l,.tup m=>(l.zip m).all λz=>Wk n z.1 z.2
 | n+1,.lst l,.lst m=>(l.zip m).all λz=>Wk n z.1 z.2
 | _,_,_=>aB
theorem Rr{d c:Type}{p:d×c->Bool}{a:d}{b:c}{l:List d}{m:List c}(h:((a::l).zip (b::m)).all p=aC):p (a,b)=aC/\(l.zip m).all p=aC:=by rw[dG,jz,aw] at h;exact h
theorem Iss.inj'{n:Nat}{H:Hp}(c:∀a b v fa fb,Wk n a b=aC->Is K H a v fa->Is K H b v fb->a=b):∀{l m:List PV}{xs:List V}{fa fb:List aL},(l.zip m).all (λz=>Wk n z.1 z.2)=aC->Iss K H l xs fa->Iss K H m xs fb->l=m
 | [],m,xs,fa,fb,_,h,h'=>by
  simp only[Iss] at h;rw[h.1] at h';have:=h'.len
  cases m with
  | nil=>rfl
  | cons _ _=>simp at this
 | a::l,m,xs,fa,fb,hc,h,h'=>by
  obtain⟨x,r,f1,k,rfl,j,f,rfl⟩:=h.inv
  cases m with
  | nil=>have:=h'.len;simp at this
  | cons b m=>
   obtain⟨p,q,i,o,e,g,d,rfl⟩:=h'.inv;cases e;obtain⟨c1,c2⟩:=Rr hc;rw[c a b x f1 i c1 j g,Iss.inj' c c2 f d]
theorem Is.inj'{H:Hp}:∀(n:Nat)(a b:PV)(v:V)(fa fb:List aL),Wk n a b=aC->Is K H a v fa->Is K H b v fb->a=b
 | 0,a,b,v,fa,fb,hc,_,_=>by unfold Wk at hc;simp at hc
 | n+1,a,b,v,fa,fb,hc,ha,hb=>by
  cases a<;>cases b<;>first
   | (exfalso;revert hc;unfold Wk;simp;done)
   | skip
  ·rfl
  ·rw[ha.bl_inv.1] at hb;have:=hb.bl_inv.1;cases this;rfl
  ·rw[ha.int_inv.1] at hb;have:=hb.int_inv.1;cases this;rfl
  ·rw[ha.str_inv.1] at hb;have:=hb.str_inv.1;cases this;rfl
  ·obtain⟨p,xs,rfl,g,f⟩:=ha.tup_inv;obtain⟨i,h,e,c,d⟩:=hb.tup_inv;cases e;rw[g] at c;cases c;unfold Wk at hc;rw[Iss.inj' (Is.inj' n) hc f d]
  ·obtain⟨p,xs,k,rfl,g,f,_⟩:=ha.lst_inv;obtain⟨i,h,j,e,c,d,_⟩:=hb.lst_inv;cases e;rw[g] at c;cases c;unfold Wk at hc;rw[Iss.inj' (Is.inj' n) hc f d]
section
variable {X:Cx} {p0:List (aL×dU)} {σ:Pw} {H:Hp} {s:aO} {A:bq}
theorem Gn{n:Nat}(i:∀a b x y fa fb u w,Wk n a b=aC->Is K H a x fa->Is K H b y fb->RelV x u->RelV y w->∃r,kh A s u w r/\(r=aC↔a=b)) :
  ∀{l m:List PV}{xs ys:List V}{fa fb:List aL}{us ws:List aI},(l.zip m).all (λz=>Wk n z.1 z.2)=aC->Iss K H l xs fa->Iss K H m ys fb->Vals xs us->Vals ys ws->
  ∃e:Nat->Bool,(∀j (c:j<us.length) (d:j<ws.length),kh A s us[j] ws[j] (e j))/\((aD (min us.length ws.length)).all e=aC↔l.take (min us.length ws.length)=m.take (min us.length ws.length))
 | [],m,xs,ys,fa,fb,us,ws,_,h,_,r,_=>by simp only[Iss] at h;obtain⟨rfl,_⟩:=h;cases r;exact⟨λ_=>aC,λj c=>by simp at c,by simp⟩
 | a::l,[],xs,ys,fa,fb,us,ws,_,_,h,_,r=>by simp only[Iss] at h;obtain⟨rfl,_⟩:=h;cases r;exact⟨λ_=>aC,λj c d=>by simp at d,by simp⟩
 | a::l,b::m,xs,ys,fa,fb,us,ws,hc,h,h',r,r'=>by
  obtain⟨x,I,f1,E,rfl,c,d,rfl⟩:=h.inv;obtain⟨y,F,D,G,rfl,C,p,rfl⟩:=h'.inv;obtain⟨c1,c2⟩:=Rr hc
  cases r with
  | cons q v=>cases r' with
   | cons q' v'=>
    obtain⟨t,B,f⟩:=i a b x y f1 D _ _ c1 c C q q';obtain⟨e,o,g⟩:=Gn i c2 d p v v';refine⟨λj=>match j with | 0=>t | k+1=>e k,λj c d=>?_,?_⟩
    ·cases j with
     | zero=>exact B
     | succ k=>exact o k (by simpa using c) (by simpa using d)
    ·simp only[az,Nat.succ_min_succ,fu,jz,jT,aw,List.take_succ_cons,oN];exact and_congr f g
theorem Iss.same'{l m:List PV}{xs e:List V}{f fb:List aL}{c d:List aI}(h:Iss K H l xs f)(h':Iss K H m e fb)(r:Vals xs c)(g:Vals e d) :
  (l.take (min c.length d.length)=m.take (min c.length d.length)/\c.length=d.length)↔l=m:=by
 have j:=h.len;have i:=h'.len;have n:=r.length;have k:=g.length;constructor
 ·rintro⟨a,b⟩;rw[bY (by omega),bY (by omega)] at a;exact a
 ·intro a;subst a;exact⟨rfl,by omega⟩
noncomputable def Zg8(A:bq)(s:aO)(u w:aI)(r:Bool):Prop:=SeqAt.RcAt A s u w r/\SeqAt.RcNeAt A s u w !r
theorem OW(I:Inv X p0 σ H s):∀(n:Nat)(A:bq)(a b:PV)(x y:V)(B fb:List aL)(u w:aI),A.units+2*n+2<dz->Wk n a b=aC->Is K H a x B->Is K H b y fb->RelV x u->RelV y w->
  (∃r,kh A s u w r/\(r=aC↔a=b))/\∃r,Zg8 A s u w r/\(r=aC↔a=b)
 | 0,A,a,b,x,y,B,fb,u,w,hu,hc,_,_,_,_=>by unfold Wk at hc;simp at hc
 | n+1,A,a,b,x,y,B,fb,u,w,hu,hc,ha,hb,ru,Xp=>by
  cases a<;>cases b<;>first
   | (exfalso;revert hc;unfold Wk;simp;done)
   | skip
  ·rw[ha.non_inv.1] at ru;rw[hb.non_inv.1] at Xp;cases ru;cases Xp;exact⟨⟨aC,lI _,by simp⟩,aC,⟨SeqAt.RcAt.none_none,SeqAt.RcNeAt.none_none⟩,by simp⟩
  ·rw[ha.bl_inv.1] at ru;rw[hb.bl_inv.1] at Xp;cases ru;cases Xp;exact⟨⟨_,kh.bool_bool _ _,by simp⟩,_,⟨SeqAt.RcAt.bool_bool _ _,SeqAt.RcNeAt.bool_bool _ _⟩,by simp⟩
  ·rw[ha.int_inv.1] at ru;rw[hb.int_inv.1] at Xp;obtain⟨t,rfl⟩:=ru;obtain⟨t',rfl⟩:=Xp;exact⟨⟨_,mx _ _ _ _,by simp⟩,_,⟨SeqAt.RcAt.int_int _ _ _ _,SeqAt.RcNeAt.int_int _ _ _ _⟩,by simp⟩
  ·rw[ha.str_inv.1] at ru;rw[hb.str_inv.1] at Xp;obtain⟨t,rfl⟩:=ru;obtain⟨t',rfl⟩:=Xp;exact⟨⟨_,kh.str_str _ _ _ _,by simp⟩,_,⟨SeqAt.RcAt.str_str _ _ _ _,SeqAt.RcNeAt.str_str _ _ _ _⟩,by simp⟩
  ·rename_i S L;obtain⟨p,xs,rfl,M,J⟩:=id ha.tup_inv;obtain⟨C,Z,rfl,z,i⟩:=id hb.tup_inv;cases ru;cases Xp;have k:=hc;unfold Wk at k;obtain⟨D,F,q,_⟩:=I.tuple (SqT.of M);obtain⟨E,h,m,_⟩:=I.tuple (SqT.of z);obtain⟨f,G,l⟩:=Gn (A:=A.in1) (λa b x y B fb u w c R Q O P=>(OW I n A.in1 a b x y B fb u w (by show A.units+1+2*n+2<dz;omega) c R Q O P).1) k J i F h;have U:=SeqAt.RcAt.tuples (A:=A) (e:=f) (show s.heap.IsTuple p D.toArray from q) (show s.heap.IsTuple C E.toArray from m) (by omega) (λj v o=>G j (by simpa using v) (by simpa using o));have Y:=SeqAt.RcNeAt.tuples (A:=A) (e:=f) (show s.heap.IsTuple p D.toArray from q) (show s.heap.IsTuple C E.toArray from m) (by omega) (λj v o=>G j (by simpa using v) (by simpa using o));have g:(((aD (min D.toArray.size E.toArray.size)).all f&&D.toArray.size==E.toArray.size)=aC)↔PV.tup S=PV.tup L:=by simp only[aU,aw,beq_iff_eq,PV.tup.injEq];rw[l];exact Iss.same' J i F h
   refine⟨?_,_,⟨U,Y⟩,g⟩;by_cases e:p=C
   ·subst e;exact⟨aC,lI _,by simp[Is.inj' (n+1) _ _ _ _ _ hc ha hb]⟩
   ·exact⟨_,my e U,g⟩
  ·rename_i S L;obtain⟨p,xs,fq,rfl,M,J,_⟩:=id ha.lst_inv;obtain⟨C,Z,fq',rfl,z,i,_⟩:=id hb.lst_inv;cases ru;cases Xp;have k:=hc;unfold Wk at k;obtain⟨D,F,q,_⟩:=I.list (SqL.of M);obtain⟨E,h,m,_⟩:=I.list (SqL.of z);obtain⟨f,G,l⟩:=Gn (A:=A.in1) (λa b x y B fb u w c R Q O P=>(OW I n A.in1 a b x y B fb u w (by show A.units+1+2*n+2<dz;omega) c R Q O P).1) k J i F h
   have N:∃r,Zg8 A s (.ref p) (.ref C) r/\(r=aC↔PV.lst S=PV.lst L):=by
    have g:=Iss.same' J i F h;by_cases d:D.length=E.length
    ·refine⟨_,⟨SeqAt.RcAt.lists (e:=f) q.isList m.isList (by simpa using d) (by omega) (λj v o=>G j (by simpa using v) (by simpa using o)),SeqAt.RcNeAt.lists (e:=f) q.isList m.isList (by simpa using d) (by omega) (λj v o=>G j (by simpa using v) (by simpa using o))⟩,?_⟩;rw[d,Nat.min_self] at l g;simp only[aU,PV.lst.injEq];rw[d,l,<-g];simp
    ·refine⟨aB,⟨SeqAt.RcAt.lists_lengths q.isList m.isList (by simpa using d) (by omega),SeqAt.RcNeAt.lists_lengths q.isList m.isList (by simpa using d) (by omega)⟩,?_⟩;rw[PV.lst.injEq,<-g];simp[d]
   obtain⟨r,T,W⟩:=N;refine⟨?_,r,T,W⟩;by_cases e:p=C
   ·subst e;exact⟨aC,lI _,by simp[Is.inj' (n+1) _ _ _ _ _ hc ha hb]⟩
   ·exact⟨r,my e T.1,W⟩
end
noncomputable def Zi2(K:aH)(neg:Bool):R2:=λx y H Q=>∃a b fa fb,Is K H a x fa/\Is K H b y fb/\Wk 8 a b=aC/\∀r:Bool,(r=aC↔a=b)->Q (.bl (if neg then !r else r)) H
section
variable {X:Cx}
theorem Al(m:X.A.units+64<dz):TH X (dH .Eq) (Zi2 X.K aB):=by intro n s l H x y v u Q I e d h;obtain⟨a,b,j,fb,c,k,g,q⟩:=h;obtain⟨_,r,f,i⟩:=OW I 8 X.A a b x y j fb v u (by omega) g c k e d;exact f.1 X.prog X.w X.xe _ ⟨.bl r,H,I,rfl,q r i⟩
theorem Zi3(m:X.A.units+64<dz):TH X (dH .NotEq) (Zi2 X.K aC):=by intro n s l H x y v u Q I e d h;obtain⟨a,b,j,fb,c,k,g,q⟩:=h;obtain⟨_,r,f,i⟩:=OW I 8 X.A a b x y j fb v u (by omega) g c k e d;exact f.2 X.prog X.w X.xe _ ⟨.bl !r,H,I,rfl,q r i⟩
end
noncomputable def Xz(neg:Bool):PV->PV->Option PV:=λa b=>if Wk 8 a b=aC then ax (.bl (if neg then !decide (a=b) else decide (a=b))) else aA
theorem Gp(c:Bool):RB K (Zi2 K c) (Xz c):=λH x y a b l h fb g i e Q k=>by
 unfold Xz at e;split at e
 ·cases e;refine⟨a,b,h,fb,g,i,by assumption,λr d=>?_⟩
  have:r=decide (a=b):=by
   cases r with
   | true=>exact(decide_eq_true (d.mp rfl)).symm
   | false=>exact(decide_eq_false λz=>bx (d.mpr z)).symm
  subst this;exact k _ H [] (Same.refl H) (Is.bl _) λp f=>by simp at f
 ·cases e
noncomputable def Zi4(K:aH)(neg:Bool):R2:=λx y H Q=>∃a b m fa fb,Is K H a x fa/\Is K H b y fb/\PD b=ax m/\(m.all λz=>Wk 8 z a)=aC/\∀r:Bool,(r=aC↔a∈m)->Q (.bl (if neg then !r else r)) H
section
variable {X:Cx} {p0:List (aL×dU)} {σ:Pw} {H:Hp} {s:aO}
theorem Ob{a:PV}{x:V}{C:List aL}{u:aI}{A:bq}(I:Inv X p0 σ H s)(W:A.units+18<dz)(E:Is K H a x C)(G:RelV x u):∀{m:List PV}{xs:List V}{fb:List aL}{i:List aI},(m.all λz=>Wk 8 z a)=aC->Iss K H m xs fb->Vals xs i->
  ∃e:aI->Bool,(∀y∈i,kh A s y u (e y))/\(i.any e=aC↔a∈m):=λ{m xs fb i} L h r=>by
 -- c one's answer
 have c:∀y∈i,∃t:Bool,kh A s y u t/\(t=aC↔∃b,b∈m/\b=a/\∃z f,Is K H b z f/\RelV z y):=λy d=>by obtain⟨j,n,e⟩:=ig.mp d;have U:=r.length;have l:xs[j]?=ax xs[j]:=aE (by omega);obtain⟨b,f,o,p,_⟩:=h.get' l;obtain⟨w,q,Xp⟩:=r.get l;rw[aE n] at q;cases q;rw[e] at Xp;have k:=av o;have B:=bK.mp L b k;obtain⟨⟨t,J,P⟩,_⟩:=OW I 8 A b a xs[j] x f C y u (by omega) B p E Xp G;refine⟨t,J,P.trans ⟨λz=>⟨b,k,z,xs[j],f,p,Xp⟩,λ⟨M,N,D,z,Y,R,T⟩=>?_⟩⟩;have O:=T.inj Xp;subst O;subst D;exact Is.inj' 8 b M _ _ _ B p R
 classical
 refine⟨λy=>if d:y∈i then(c y d).choose else aB,λy d=>?_,?_⟩
 ·simp only[dif_pos d];exact(c y d).choose_spec.1
 ·rw[g6];constructor
  ·rintro⟨y,d,e⟩;rw[dif_pos d] at e;obtain⟨b,o,rfl,_⟩:=(c y d).choose_spec.2.mp e;exact o
  ·intro v;obtain⟨j,n,e⟩:=ig.mp v;obtain⟨z,f,Q,S,_⟩:=h.get (aE n);obtain⟨y,d,F⟩:=r.get Q;have g:=av d;refine⟨y,g,?_⟩;rw[dif_pos g];exact(c y g).choose_spec.2.mpr ⟨a,v,rfl,z,f,e▸S,F⟩
end
section
variable {X:Cx}
theorem Am(F:X.A.units+64<dz):TH X (dH .In) (Zi4 X.K aB):=by
 intro J s D H x y v u Q I l z h;obtain⟨a,b,m,G,fb,k,C,B,n,q⟩:=h;obtain⟨p,xs,E,rfl,c,o,_⟩:=Uh C B;cases z;rcases c with c | c
 ·obtain⟨d,g,t,_⟩:=I.list c;obtain⟨e,f,j⟩:=Ob (A:=X.A.in1) I (by show X.A.units+1+18<dz;omega) k l n o g;refine SeqAt.in_listAt e t.isList (λw i=>f w (by simpa using i)) ⟨.bl _,H,I,rfl,?_⟩;rw[show d.toArray.any e=d.any e by simp];exact q _ j
 ·obtain⟨d,g,t,_⟩:=I.tuple c;obtain⟨e,f,j⟩:=Ob (A:=X.A.in1) I (by show X.A.units+1+18<dz;omega) k l n o g;refine SeqAt.in_tupleAt e t (λw i=>f w (by simpa using i)) ⟨.bl _,H,I,rfl,?_⟩;rw[show d.toArray.any e=d.any e by simp];exact q _ j
theorem DT(F:X.A.units+64<dz):TH X (dH .NotIn) (Zi4 X.K aC):=by
 intro J s D H x y v u Q I l z h;obtain⟨a,b,m,G,fb,k,C,B,n,q⟩:=h;obtain⟨p,xs,E,rfl,c,o,_⟩:=Uh C B;cases z;rcases c with c | c
 ·obtain⟨d,g,t,_⟩:=I.list c;obtain⟨e,f,j⟩:=Ob (A:=X.A.in1) I (by show X.A.units+1+18<dz;omega) k l n o g;refine SeqAt.notIn_listAt e t.isList (λw i=>f w (by simpa using i)) ⟨.bl _,H,I,rfl,?_⟩;rw[show d.toArray.any e=d.any e by simp];exact q _ j
 ·obtain⟨d,g,t,_⟩:=I.tuple c;obtain⟨e,f,j⟩:=Ob (A:=X.A.in1) I (by show X.A.units+1+18<dz;omega) k l n o g;refine SeqAt.notIn_tupleAt e t (λw i=>f w (by simpa using i)) ⟨.bl _,H,I,rfl,?_⟩;rw[show d.toArray.any e=d.any e by simp];exact q _ j
end
noncomputable def PF(neg:Bool):PV->PV->Option PV:=λa b=>(PD b).bind λm=>if(m.all λz=>Wk 8 z a)=aC then ax (.bl (if neg then !decide (a∈m) else decide (a∈m))) else aA
theorem Gq(c:Bool):RB K (Zi4 K c) (PF c):=λH x y a b l i fb g j e Q k=>by
 obtain⟨m,h,e⟩:=Zc e;split at e
 ·cases e;refine⟨a,b,m,i,fb,g,j,h,by assumption,λr d=>?_⟩
  have:r=decide (a∈m):=by
   cases r with
   | true=>exact(decide_eq_true (d.mp rfl)).symm
   | false=>exact(decide_eq_false λz=>bx (d.mpr z)).symm
  subst this;exact k _ H [] (Same.refl H) (Is.bl _) λp f=>by simp at f
 ·cases e
end VL
namespace VL
open PySem PySem.Spec PyProof.Rows L2
variable {K:aH}
mutual
theorem Is.dom{H:Hp}:∀(l:PV)(v:V)(fp:List aL),Is K H l v fp->∀p∈fp,H p≠aA
 | .non,_,_,h=>by simp only[Is] at h;rw[h.2];simp
 | .bl _,_,_,h=>by simp only[Is] at h;rw[h.2];simp
 | .int _,_,_,h=>by simp only[Is] at h;rw[h.2];simp
 | .str _,_,_,h=>by simp only[Is] at h;rw[h.2];simp
 | .ty _,_,_,h=>by simp only[Is] at h;rw[h.2];simp
 | .exc _,_,_,h=>by simp only[Is] at h;rw[h.2];simp
 | .exf _ _,_,_,h=>by simp only[Is] at h;rw[h.2];simp
 | .clo L l,v,fp,h=>by simp only[Is] at h;obtain⟨u,x,_,_,a⟩:=h;exact Is.dom l x fp a
 | .tup l,v,fp,h=>by obtain⟨p,xs,_,_,a⟩:=h.tup_inv;exact Iss.dom l xs fp a
 | .lst l,v,fp,h=>by
  obtain⟨p,xs,c,_,d,a,rfl⟩:=h.lst_inv;intro q b;rcases aa.mp b with rfl | b
  ·rw[d];simp
  ·exact Iss.dom l xs c a q b
 | .cst l,v,fp,h=>by obtain⟨p,xs,_,_,a⟩:=h.cst_inv;exact Iss.dom l xs fp a
 | .dK ks l,v,fp,h=>by
  obtain⟨p,f,c,_,d,_,a,rfl⟩:=h.dK_inv;intro q b;rcases aa.mp b with rfl | b
  ·rcases d with e | ⟨o,e⟩<;>rw[e]<;>simp
  ·exact Iss.dom l _ c a q b
 | .dT ks l,v,fp,h=>by
  obtain⟨p,f,c,_,d,_,a,rfl⟩:=h.dT_inv;intro q b;rcases aa.mp b with rfl | b
  ·rcases d with e | ⟨o,e⟩<;>rw[e]<;>simp
  ·exact Iss.dom l _ c a q b
theorem Iss.dom{H:Hp}:∀(l:List PV)(xs:List V)(fp:List aL),Iss K H l xs fp->∀p∈fp,H p≠aA
 | [],_,_,h=>by simp only[Iss] at h;rw[h.2];simp
 | l::ls,xs,fp,h=>by
  obtain⟨x,r,f1,d,_,b,c,rfl⟩:=h.inv;intro q a;rcases aV.mp a with a | a
  ·exact Is.dom l x f1 b q a
  ·exact Iss.dom ls r d c q a
end
noncomputable def Ab(Rm:aL->Prop)(H H':Hp):Prop:=∀b o,H b=ax o->¬Rm b->H' b=ax o
theorem Same.ab{c:aL->Prop}{H a:Hp}(s:Same H a):Ab c H a:=λb o h _=>s b o h
theorem Ab.tk{c:aL->Prop}{H d:Hp}(a:Ab c H d)(hd:∀p,c p->UU (H p)):TK2 H d:=⟨λb xs h=>a b _ h λz=>by
 have:=hd b z
 rw[h] at this;exact this,λb o xs h=>a b _ h λz=>by
 have:=hd b z
 rw[h] at this;exact this,λb o x h=>a b _ h λz=>by
 have:=hd b z;rw[h] at this;exact this⟩
theorem Is.ab{c:aL->Prop}{H d:Hp}(a:Ab c H d)(hd:∀p,c p->UU (H p)){l:PV}{v:V}{b:List aL}(n:∀p∈b,¬c p)(h:Is K H l v b):Is K d l v b:=
 Is.tr (a.tk hd) l v b (λp e=>RdK.of λo q=>a p o q (n p e)) h
structure JIs(K:aH)(Rm:aL->Prop)(H1:Hp)(J:It)(ls:List PV):Prop where
 stop:∀H',Ab Rm H1 H'->J.stop ls.length H'
 go:∀H' (i:Nat) l,Ab Rm H1 H'->ls[i]?=ax l->J.go i H'
 yld:∀H' (i:Nat) l x H'',Ab Rm H1 H'->ls[i]?=ax l->J.yld i H' x H''->Same H' H''/\∃fp,Is K H'' l x fp/\∀p∈fp,H1 p≠aA/\¬Rm p
abbrev XL:=ZG->Option (List PV)
noncomputable def iF(K:aH)(f:XL):TI:=λσ H R=>∃(Rm:aL->Prop) (s:ZG) (ls:List PV),(∀p,Rm p->UU (H p))/\EnvIs K Rm H s σ/\f s=ax ls/\∀J H1,Same H H1->JIs K Rm H1 J ls->R J H1
noncomputable def VI(X:Cx)(tg e:bO)(f:XL):Prop:=PI X tg e (iF X.K f)
section
variable {X:Cx} {tg e:bO} {es:List bO}
theorem PI.imp{t t':TI}(h:PI X tg e t)(i:∀a H R,t' a H R->t a H R):PI X tg e t':=λb s a H R I q=>h b s a H R I (i a H R q)
noncomputable def asS:PV->Option (List PV)
 | .lst m=>ax m
 | .cst m=>ax m
 | _=>aA
noncomputable def YL(f:XE):XL:=λs=>(f s).bind asS
noncomputable def U2(f:XE):XL:=λs=>match f s with | some (.tup m)=>ax m | _=>aA
theorem An{a:PV}{m:List PV}(h:asS a=ax m):a = .lst m\/a = .cst m:=by
 unfold asS at h;split at h
 ·cases h;exact .inl rfl
 ·cases h;exact .inr rfl
 ·cases h
theorem DU{f:XE}{s:ZG}{m:List PV}(h:U2 f s=ax m):f s=ax (.tup m):=by
 unfold U2 at h;split at h
 ·cases h;assumption
 ·cases h
theorem Yp{f:XE}(h:VE X e f):VI X tg e (YL f):=PI.imp (Zdc h) λJ H R ⟨B,s,ls,hd,env,e,k⟩=>by
 obtain⟨l,F,E⟩:=Zc e;refine⟨B,s,l,hd,env,F,λv m z s1 D C=>?_⟩;have o:=λp b=>Same.mut s1 (hd p b)
 have d:∀a xs t,v = .ref a->SqL X.K m a xs->(∀c,Ab B m c->SqL X.K c a xs)->Iss X.K m ls xs t->(∀p∈t,p∈z)->∃a,v = .ref a/\(∃xs,SqL X.K m a xs)/\R (Itl X.K a) m:=by
  rintro a xs t rfl g keep j sub;refine⟨a,rfl,⟨xs,g⟩,k _ m s1 ⟨λc ab=>⟨xs,keep c ab,by rw[j.len];exact aZ _⟩,λc i l ab u=>?_,λc i l x G ab u y=>?_⟩⟩
  ·obtain⟨x,f1,w,_,_⟩:=j.get u;exact⟨xs,x,keep c ab,w⟩
  ·obtain⟨rfl,y⟩:=y;obtain⟨I,f1,w,A,q⟩:=j.get u;have:=y xs (keep _ ab);rw[w] at this;cases this;have n:=λp b=>C p (sub p (q p b));exact⟨Same.refl _,f1,A.ab ab o n,λp b=>⟨Is.dom _ _ _ A p b,n p b⟩⟩
 rcases An E with rfl | rfl
 ·obtain⟨a,xs,t,rfl,g,j,rfl⟩:=D.lst_inv;exact d a xs t rfl (SqL.of g) (λc ab=>SqL.of (ab a _ g (C a ag))) j λp b=>aN _ b
 ·obtain⟨a,xs,rfl,g,j⟩:=D.cst_inv;exact d a xs z rfl g.sq (λc ab=>(g.tr (ab.tk o)).sq) j λp b=>b
theorem Qi{f:XE}(h:VE X e f):VI X tg e (U2 f):=PI.imp (Zh6 h) λD H R ⟨t,s,ls,hd,env,e,k⟩=>by
 refine⟨t,s,.tup ls,hd,env,DU e,λv u B s1 A z=>?_⟩;obtain⟨a,xs,rfl,o,n⟩:=A.tup_inv;have g:=λp c=>Same.mut s1 (hd p c);have keep:∀b,Ab t u b->SqT X.K b a xs:=λb ab=>SqT.of ((ab.tk g).tup a xs o);refine⟨a,rfl,⟨xs,SqT.of o⟩,k _ u s1 ⟨λb ab=>⟨xs,keep b ab,by rw[n.len];exact aZ _⟩,λb i l ab j=>?_,λb i l x w ab j y=>?_⟩⟩
 ·obtain⟨x,f1,m,_,_⟩:=n.get j;exact⟨xs,x,keep b ab,m⟩
 ·obtain⟨rfl,y⟩:=y;obtain⟨C,f1,m,q,sub⟩:=n.get j;have:=y xs (keep _ ab);rw[m] at this;cases this;have d:=λp c=>z p (sub p c);exact⟨Same.refl _,f1,q.ab ab g d,λp c=>⟨Is.dom _ _ _ q p c,d p c⟩⟩
noncomputable def Kw(n:Nat):List PV:=(aD n).map λ(i:Nat)=>PV.int (i:Int)
noncomputable def SI(lo:Int)(n:Nat):List PV:=(aD n).map λ(i:Nat)=>PV.int (lo+(i:Int))
noncomputable def Yk(fs:List XE):XL:=λs=>match PB fs s with | some [.int j]=>if -1000000<=j/\j<=1000000 then ax (Kw j.toNat) else aA | _=>aA
noncomputable def VF(fs:List XE):XL:=λs=>match PB fs s with | some [.int i,.int j]=>if -1000000<=i/\i<=1000000/\-1000000<=j/\j<=1000000 then ax (SI i (j-i).toNat) else aA | _=>aA
theorem Ep{f:aL->Prop}{d:Hp}(lo:Int)(n:Nat):JIs K f d (Itr lo n) (SI lo n):=by
 refine⟨λc _=>by unfold SI;rw[aJ,bt];exact aZ n,λc i l _ a=>?_,λc i l x g _ a y=>?_⟩
 ·have:=(aR.mp a).1;unfold SI at this;rw[aJ,bt] at this;exact this
 ·obtain⟨rfl,rfl⟩:=y;have b:=(aR.mp a).1;unfold SI at b a;rw[aJ,bt] at b;rw[aX,cC b] at a;cases a;exact⟨Same.refl _,[],Is.int _,λp e=>by simp at e⟩
theorem Zd8(n:Nat):Kw n=SI 0 n:=by apply au;intro i _;rw[Int.zero_add]
theorem DV{a:bO}{fs:List XE}{p pos:dw}(h:Gl X "range")(d:X.mg "range" = aA)(c:VA X [a] fs)(l:aP [a] X.env=[(aB,eval a X.env)]:=by rfl):VI X tg (.Call (.Name "range" p) [a] [] pos) (Yk fs):=
 PI.imp (DC h d c l) λo H R ⟨f,s,ls,hd,env,e,k⟩=>by
 unfold Yk at e;split at e
 ·split at e
  ·cases e;rename_i j b q;refine⟨f,s,_,hd,env,b,λvs g n s1 m _=>?_⟩;obtain⟨v,rfl,i⟩:=m.one_inv;refine⟨j,by rw[i.int_inv.1],by omega,by omega,k _ g s1 ?_⟩;rw[Zd8];exact Ep _ _
  ·cases e
 ·cases e
theorem DW{a b:bO}{fs:List XE}{p pos:dw}(o:Gl X "range")(l:X.mg "range" = aA)(f:VA X [a,b] fs)(q:aP [a,b] X.env=[(aB,eval a X.env),(aB,eval b X.env)]:=by rfl)(c:aP [b] X.env=[(aB,eval b X.env)]:=by rfl):VI X tg (.Call (.Name "range" p) [a,b] [] pos) (VF fs):=
 PI.imp (DD o l f q c) λy H R ⟨m,s,ls,hd,env,e,k⟩=>by
 unfold VF at e;split at e
 ·split at e
  ·cases e;rename_i i j d z;refine⟨m,s,_,hd,env,d,λvs n x s1 t _=>?_⟩;obtain⟨v,w,f1,u,rfl,h,g,_⟩:=t.two_inv;exact⟨i,j,by rw[h.int_inv.1,g.int_inv.1],⟨by omega,by omega,by omega,by omega⟩,k _ n s1 (Ep _ _)⟩
  ·cases e
 ·cases e
noncomputable def Xt(m:List PV):List PV:=m.zipIdx.map λz=>.tup [.int (z.2:Nat),z.1]
noncomputable def Qj(m n:List PV):List PV:=(m.zip n).map λz=>.tup [z.1,z.2]
theorem Lu{m:List PV}{i:Nat}{l:PV}(h:(Xt m)[i]?=ax l):∃a,m[i]?=ax a/\l = .tup [.int (i:Nat),a]:=by
 unfold Xt at h;rw[aX,List.getElem?_zipIdx] at h
 cases q:m[i]? with
 | none=>rw[q] at h;cases h
 | some a=>rw[q] at h;cases h;exact⟨a,rfl,by simp⟩
theorem WK(m:List PV):(Xt m).length=m.length:=by unfold Xt;rw[aJ,List.length_zipIdx]
theorem Ih{m n:List PV}{i:Nat}{l:PV}(h:(Qj m n)[i]?=ax l):∃a b,m[i]?=ax a/\n[i]?=ax b/\l = .tup [a,b]:=by
 unfold Qj at h;rw[aX] at h
 cases q:(m.zip n)[i]? with
 | none=>rw[q] at h;cases h
 | some z=>
  rw[q] at h;cases h;obtain⟨d,c⟩:=jh.mp q;exact⟨z.1,z.2,d,c,rfl⟩
theorem Ii(m n:List PV):(Qj m n).length=min m.length n.length:=by unfold Qj;rw[aJ,List.length_zip]
noncomputable def seqB:Bool->PV->Option (List PV)
 | true,.lst l=>ax l
 | true,.cst l=>ax l
 | false,.tup l=>ax l
 | _,_=>aA
theorem Kx{H:Hp}{b:Bool}{l:PV}{v:V}{d:List aL}{m:List PV}(h:Is K H l v d)(e:seqB b l=ax m):∃p xs j,v = .ref p/\Iss K H m xs j/\(∀q∈j,q∈d)/\∀(a:aL->Prop) i,Ab a H i->(∀p,a p->UU (H p))->(∀p∈d,¬a p)->MH b K i p xs:=by
 cases b with
 | true=>cases l with
  | lst l=>
   cases e;obtain⟨p,xs,j,rfl,f,g,rfl⟩:=h.lst_inv;exact⟨p,xs,j,rfl,g,λq c=>aN _ c,λa i ab _ n=>SqL.of (ab p _ f (n p ag))⟩
  | cst l=>
   cases e;obtain⟨p,xs,rfl,f,g⟩:=h.cst_inv;exact⟨p,xs,d,rfl,g,λq c=>c,λa i ab hd _=>(f.tr (ab.tk hd)).sq⟩
  | _=>cases e
 | false=>cases l with
  | tup l=>
   cases e;obtain⟨p,xs,rfl,f,g⟩:=h.tup_inv;exact⟨p,xs,d,rfl,g,λq c=>c,λa i ab hd _=>SqT.of ((ab.tk hd).tup p xs f)⟩
  | _=>cases e
noncomputable def Xf(b:Bool)(fs:List XE):XL:=λs=>match PB fs s with | some [l]=>(seqB b l).map Xt | _=>aA
noncomputable def MQ(b1 b2:Bool)(fs:List XE):XL:=λs=>match PB fs s with | some [l,r]=>(seqB b1 l).bind λm=>(seqB b2 r).map λn=>Qj m n | _=>aA
theorem XB{g:List bO}{k:Nat}{n:dw}(b:Bool){a:bO}{fs:List XE}{p pos:dw}(O:Gl X "enumerate")(N:X.mg "enumerate" = aA)(L:VA X [a] fs)(P:aP [a] X.env=[(aB,eval a X.env)]:=by rfl) :
  VI X (.Tuple g k n) (.Call (.Name "enumerate" p) [a] [] pos) (Xf b fs):=PI.imp (Zdx b O N L P) λU H R ⟨E,s,ls,hd,env,e,k⟩=>by
 unfold Xf at e;split at e
 ·rename_i l J;obtain⟨m,G,rfl⟩:=map_some e;refine⟨E,s,_,hd,env,J,λvs B S s1 Q F=>?_⟩;obtain⟨v,rfl,i⟩:=Q.one_inv;have j:=λp d=>Same.mut s1 (hd p d);obtain⟨a,xs,W,rfl,A,sub,keep⟩:=Kx i G;have o:=λf ab=>keep E f ab j F;refine⟨a,rfl,⟨xs,o B (Same.ab (Same.refl B))⟩,k _ B s1 ⟨λf ab=>⟨xs,o f ab,by rw[WK,A.len]⟩,λf i l ab t=>?_,λf i l x M ab t y=>?_⟩⟩
  ·obtain⟨c,w,rfl⟩:=Lu t;obtain⟨x,f1,u,_,_⟩:=A.get w;exact⟨xs,x,o f ab,u⟩
  ·obtain⟨c,w,rfl⟩:=Lu t;obtain⟨T,f1,u,D,I⟩:=A.get w;obtain⟨q,z,C,rfl,rfl,y⟩:=y;have:=y xs (o _ ab);rw[u] at this;cases this;have h:=λp d=>F p (sub p (I p d));refine⟨Same.new C _,f1,Is.tup Zk ?_,λp d=>⟨Is.dom _ _ _ D p d,h p d⟩⟩;exact Iss.cons (Is.int _) (Iss.one ((D.ab ab j h).mono (Same.new C _)))
 ·cases e
theorem Ky{G:List bO}{k:Nat}{B:dw}(b1 b2:Bool){a b:bO}{fs:List XE}{p pos:dw}(hg:Gl X "zip")(hm:X.mg "zip" = aA)(ha:VA X [a,b] fs)
  (hs:aP [a,b] X.env=[(aB,eval a X.env),(aB,eval b X.env)]:=by rfl) (L:aP [b] X.env=[(aB,eval b X.env)]:=by rfl) :
  VI X (.Tuple G k B) (.Call (.Name "zip" p) [a,b] [] pos) (MQ b1 b2 fs):=PI.imp (Ziu b1 b2 hg hm ha hs L) λσ H R ⟨U,s,ls,hd,env,e,k⟩=>by
 unfold MQ at e;split at e
 ·rename_i l r he;obtain⟨m,e1,e⟩:=Zc e;obtain⟨n,e2,rfl⟩:=map_some e;refine⟨U,s,_,hd,env,he,λvs E fp s1 i1 Z=>?_⟩;obtain⟨v,w,g1,g2,rfl,iv,iw,rfl⟩:=i1.two_inv;have j:=λp f=>Same.mut s1 (hd p f);have A:=λp f=>Z p (ao _ f);have F:=λp f=>Z p (ah _ f);obtain⟨a1,xs,fq,rfl,Q,sub,keep⟩:=Kx iv e1;obtain⟨a2,J,fr,rfl,N,C,o⟩:=Kx iw e2;have I:=λg ab=>keep U g ab j A;have h:=λg ab=>o U g ab j F;refine⟨a1,a2,rfl,⟨xs,I E (Same.ab (Same.refl E))⟩,⟨J,h E (Same.ab (Same.refl E))⟩,k _ E s1 ⟨λg ab=>⟨xs,J,I g ab,h g ab,?_⟩,λg i l ab M=>?_,λg i l x H'' ab M y=>?_⟩⟩
  ·rw[Ii,Q.len,N.len];omega
  ·obtain⟨c,d,P,t,rfl⟩:=Ih M;obtain⟨x,f1,O,_,_⟩:=Q.get P;obtain⟨y,Y,S,_,_⟩:=N.get t;exact⟨xs,J,x,y,I g ab,h g ab,O,S⟩
  ·obtain⟨c,d,P,t,rfl⟩:=Ih M;obtain⟨x',f1,O,ix,sb⟩:=Q.get P;obtain⟨y',Y,S,iy,W⟩:=N.get t;obtain⟨q,z,z',T,rfl,rfl,y1,y2⟩:=y;have:=y1 xs (I _ ab);rw[O] at this;cases this;have:=y2 J (h _ ab);rw[S] at this;cases this;have u:=λp f=>A p (sub p (sb p f));have D:=λp f=>F p (C p (W p f));refine⟨Same.new T _,f1++Y,Is.tup Zk ?_,λp f=>?_⟩
   ·exact Iss.cons ((ix.ab ab j u).mono (Same.new T _)) (Iss.one ((iy.ab ab j D).mono (Same.new T _)))
   ·rcases aV.mp f with f | f
    ·exact⟨Is.dom _ _ _ ix p f,u p f⟩
    ·exact⟨Is.dom _ _ _ iy p f,D p f⟩
 ·cases e
end
inductive Tgt where
 | one (i:Nat) | many (is:List Nat)
noncomputable def Tgt.slots:Tgt->List Nat
 | .one i=>[i]
 | .many is=>is
noncomputable def setAll:List Nat->List PV->ZG->ZG
 | i::is,l::ls,s=>setAll is ls (s.set i (ax l))
 | _,_,s=>s
noncomputable def Xb:List Nat->List V->Pw->Pw
 | i::is,l::ls,s=>Xb is ls (s.set i (ax l))
 | _,_,s=>s
noncomputable def Xg:Tgt->PV->ZG->Option ZG
 | .one i,l,s=>ax (s.set i (ax l))
 | .many is,.tup ls,s=>if ls.length=is.length then ax (setAll is ls s) else aA
 | _,_,_=>aA
noncomputable def Gr:List Nat->TGs
 | []=>Zkr
 | i::is=>Zgv (Sq i) (Gr is)
noncomputable def gT(K:aH):Tgt->TG
 | .one i=>Sq i
 | .many is=>Zks K is.length (Gr is)
theorem OX:∀{is:List Nat}{vs:List V}{σ:Pw}{H:Hp}{Q:Pw->Hp->Prop},vs.length=is.length->Q (Xb is vs σ) H->Gr is vs σ H Q
 | [],[],_,_,_,_,q=>⟨rfl,q⟩
 | [],_::_,_,_,_,h,_=>by simp at h
 | _::_,[],_,_,_,h,_=>by simp at h
 | i::is,v::vs,σ,H,Q,h,q=>⟨v,vs,rfl,OX (is:=is) (vs:=vs) (by simpa using h) q⟩
theorem Kz{T:Tgt}{l:PV}{v:V}{b:List aL}{s f:ZG}{H:Hp}(h:Is K H l v b)(e:Xg T l s=ax f) :
  ∃ls vs fs,f=setAll T.slots ls s/\Iss K H ls vs fs/\ls.length=T.slots.length/\(∀p∈fs,p∈b)/\∀c (Q:Pw->Hp->Prop),Q (Xb T.slots vs c) H->gT K T v c H Q:=by
 cases T with
 | one i=>
  cases e;exact⟨[l],[v],b,rfl,Iss.one h,rfl,λp a=>a,λc Q q=>q⟩
 | many is=>
  cases l with
  | tup ls=>
   have e:(if ls.length=is.length then ax (VL.setAll is ls s) else aA)=ax f:=e;split at e
   ·cases e;obtain⟨p,xs,rfl,a,d⟩:=h.tup_inv;exact⟨ls,xs,b,rfl,d,by assumption,λp a=>a,λc Q q=>⟨p,xs,rfl,SqT.of a,by rw[d.len];assumption,OX (by rw[d.len];assumption) q⟩⟩
   ·cases e
  | _=>cases e
theorem Ui:∀{is:List Nat}{vs:List V}{σ:Pw}{n:Nat},(∀i∈is,i<n)->(Xb is vs σ).drop n=σ.drop n
 | [],_,_,_,_=>rfl
 | _::_,[],_,_,_=>rfl
 | i::is,v::vs,σ,n,h=>by show(Xb is vs (σ.set i (ax v))).drop n=_;rw[Ui (λj a=>h j (aN _ a))];have:=h i ag;rw[List.drop_set,p9 this]
theorem EnvIs.set{d:aL->Prop}{H:Hp}{s:ZG}{g:Pw}{i:Nat}{l:PV}{v:V}{b:List aL}(h:EnvIs K d H s g)(t:s.length=g.length)(q:Is K H l v b)(n:∀p∈b,¬d p):EnvIs K d H (s.set i (ax l)) (g.set i (ax v)):=⟨λj a e=>by
 rw[bW] at e;by_cases c:i=j
 ·subst c;rw[p9 rfl] at e;split at e
  ·cases e;exact⟨v,b,by rw[bW,p9 rfl,p9 (by omega)],q,n⟩
  ·cases e
 ·rw[pW c] at e;obtain⟨w,f,o,k,m⟩:=h.is j a e;exact⟨w,f,by rw[bW,pW c];exact o,k,m⟩⟩
theorem EnvIs.setAll{a:aL->Prop}{H:Hp}:∀{is:List Nat}{ls:List PV}{vs:List V}{fs:List aL}{s:ZG}{σ:Pw},EnvIs K a H s σ->s.length=σ.length->Iss K H ls vs fs->(∀p∈fs,¬a p)->EnvIs K a H (VL.setAll is ls s) (Xb is vs σ)
 | [],_,_,_,_,_,h,_,_,_=>by unfold VL.setAll Xb;exact h
 | i::is,[],vs,fs,s,σ,h,_,hi,_=>by simp only[Iss] at hi;rw[hi.1];exact h
 | i::is,l::ls,vs,fs,s,σ,h,hl,hi,n=>by obtain⟨x,r,f1,e,rfl,c,d,rfl⟩:=hi.inv;show EnvIs K a H (VL.setAll is ls (s.set i (ax l))) (Xb is r (σ.set i (ax x)));exact EnvIs.setAll (h.set hl c λp b=>n p (ao _ b)) (by rw[cG,cG];exact hl) d λp b=>n p (ah _ b)
noncomputable def ZH(n:Nat)(ix:List Nat)(s:ZG):ZG:=aS n aA++ix.map (λi=>(s[i]?).join)
noncomputable def Vh(T:Tgt)(ft:XT)(fe:XE)(s0:ZG):List PV->Option (List PV)
 | []=>ax []
 | l::r=>(Xg T l s0).bind λs1=>(ft s1).bind λc=>if c=aC then(fe s1).bind λy=>(Vh T ft fe s0 r).map (y::·) else Vh T ft fe s0 r
noncomputable def Zw(n:Nat)(ix:List Nat)(fi:XL)(T:Tgt)(ft:XT)(fe:XE):XE:=λs=>(fi s).bind λls=>if ls.length<=10000 then(Vh T ft fe (ZH n ix s) ls).map .lst else aA
noncomputable def ZD:XT:=λ_=>ax aC
theorem Lv{d:Type}{o:Option (Option d)}{a:d}(h:o.join=ax a):o=ax (ax a):=by
 cases o with
 | none=>cases h
 | some b=>cases b with
  | none=>cases h
  | some c=>cases h;rfl
theorem EnvIs.comp{k:aL->Prop}{H:Hp}{s:ZG}{g:Pw}{n:Nat}{f:List Nat}(h:EnvIs K k H s g):EnvIs K k H (ZH n f s) (Yj n f g):=⟨λi l e=>by
 unfold ZH at e;unfold Yj;by_cases d:i<n
 ·rw[aj (by simpa using d),b7,p9 d] at e;cases e
 ·rw[bA (by simpa using d),cL,aX] at e;rw[bA (by simpa using d),cL,aX]
  cases q:f[i-n]? with
  | none=>rw[q] at e;cases e
  | some j=>
   rw[q] at e;have e:=Lv (bC e);obtain⟨v,m,a,b,c⟩:=h.is j l e;exact⟨v,m,by show ax ((g[j]?).join)=_;rw[a];rfl,b,c⟩⟩
theorem Ij(n:Nat)(a:List Nat)(s:ZG)(b:Pw):(ZH n a s).length=(Yj n a b).length:=by unfold ZH Yj;simp
theorem OY{T:Tgt}{a:XT}{d:XE}{b:ZG}{l:PV}{r f:List PV}(h:Vh T a d b (l::r)=ax f):∃s1 c,Xg T l b=ax s1/\a s1=ax c/\((c=aC/\∃y e,d s1=ax y/\Vh T a d b r=ax e/\f=y::e)\/(c=aB/\Vh T a d b r=ax f)):=by
 obtain⟨s1,i,h⟩:=Zc h;obtain⟨c,g,h⟩:=Zc h;refine⟨s1,c,i,g,?_⟩
 cases c with
 | true=>
  obtain⟨y,k,h⟩:=Zc h;obtain⟨e,j,rfl⟩:=map_some h;exact .inl ⟨rfl,y,e,k,j,rfl⟩
 | false=>
  exact .inr ⟨rfl,h⟩
theorem OZ{b:Type}{l:List b}{i:Nat}{a:b}{r:List b}(h:l.drop i=a::r):l[i]?=ax a/\l.drop (i+1)=r:=by
 constructor
 ·have:=congrArg (λz=>z[0]?) h;simpa [fg] using this
 ·rw[<-List.drop_drop,h];rfl
section
variable {n:Nat} {ix:List Nat} {fi:XL} {T:Tgt} {ft:XT} {fe:XE}
theorem Zd9(hT:∀i∈T.slots,i<n):∀C H Q,tF K (Zw n ix fi T ft fe) C H Q->Ll n ix (iF K fi) (gT K T) (HR K ft) (tF K fe) C H Q:=λC H Q ⟨w,s,L,hd,env,e,k⟩=>by
 obtain⟨ls,e1,e⟩:=Zc e;split at e
 case isFalse=>cases e
 rename_i hlen;obtain⟨ys,e2,rfl⟩:=map_some e;refine⟨w,s,ls,hd,env,e1,λJ H1 s1 g=>?_⟩;have hd1:=λp b=>Same.mut s1 (hd p b)
 refine⟨λi m vs o=>m=ls.length-i/\i<=ls.length/\Same H1 o/\∃j YC u,ys=j++YC/\j.length<=i/\Vh T ft fe (ZH n ix s) (ls.drop i)=ax YC/\Iss K o j vs u/\∀p∈u,¬w p,
  ⟨ls.length,by simp,dq _,Same.refl H1,[],ys,[],rfl,aZ _,e2,Iss.nil,λp b=>by simp at b⟩,?_⟩
 rintro i m vs o ⟨rfl,hi,d,j,YC,u,rfl,G,N,M,Y⟩;refine⟨by rw[M.len];exact cJ (lt_size (by omega)),?_⟩
 cases q:ls.drop i with
 | nil=>
  have Z:i=ls.length:=by have:=congrArg df q;simp at this;omega
  subst Z;rw[q] at N;cases N;refine .inl ⟨g.stop o (Same.ab d),λp b=>k _ _ (p::u) (s1.trans (d.trans (Same.new b _))) ?_ λa R z=>?_⟩
  ·rw[dW];exact Is.lst Zk (M.mono (Same.new b _))
  ·rcases aa.mp R with rfl | R
   ·exact Xn (Same.mut (s1.trans d) (hd a z)) b
   ·exact Y a R z
 | cons l r=>
  obtain⟨O,hr⟩:=OZ q;have E:=(aR.mp O).1;rw[q] at N;obtain⟨sb,c,eb,et,W⟩:=OY N
  refine .inr ⟨g.go o i l (Same.ab d) O,λB U=>Same H1 U/\∃dn' rest' fp',j++YC=dn'++rest'/\dn'.length<=i+1/\Vh T ft fe (ZH n ix s) (ls.drop (i+1))=ax rest'/\Iss K U dn' B fp'/\∀p∈fp',¬w p,
   λB U h'=>⟨ls.length-(i+1),by omega,rfl,E,h'.1,h'.2⟩,λx H2 y=>?_⟩
  obtain⟨s2,fx,P,nx⟩:=g.yld o i l x H2 (Same.ab d) O y;have D:=λp b=>Same.mut (d.trans s2) (hd1 p b);obtain⟨bl,bv,bf,rfl,bi,_,F,A⟩:=Kz P eb;have I:EnvIs K w H2 (ZH n ix s) (Yj n ix C):=(env.mono (s1.trans (d.trans s2))).comp;have f:=I.setAll (is:=T.slots) (Ij n ix s C) bi λp b=>(nx p (F p b)).2;refine A _ _ ⟨Ui hT,w,_,c,D,f,et,λH3 t=>?_⟩;have X:=λp b=>Same.mut t (D p b);rcases W with⟨rfl,y',zs,ey,S,rfl⟩ | ⟨rfl,S⟩
  ·refine Zli ?_;refine⟨w,_,y',X,f.mono t,ey,λv H4 f4 s4 i4 n4=>?_⟩;refine⟨d.trans (s2.trans (t.trans s4)),j++[y'],zs,u++f4,by rw[dj];rfl,by rw[aT];simp;exact G,by rw[hr];exact S,(M.mono (s2.trans (t.trans s4))).append (Iss.one i4),λp b=>?_⟩;rcases aV.mp b with h | h
   ·exact Y p h
   ·exact n4 p h
  ·refine Zlh ?_;exact⟨d.trans (s2.trans t),j,YC,u,rfl,nV G,by rw[hr];exact S,M.mono (s2.trans t),Y⟩
theorem Er(hT:∀i∈T.slots,i<n):∀E H Q,tM K (Zw n ix fi T ft fe) E H Q->Ll n ix (iF K fi) (gT K T) (HR K ft) (tM K fe) E H Q:=λE H Q ⟨s,L,env,e,k⟩=>by
 obtain⟨ls,e1,e⟩:=Zc e;split at e
 case isFalse=>cases e
 rename_i hlen;obtain⟨ys,e2,rfl⟩:=map_some e;have hd:∀(H:Hp) p,(λ_=>False:aL->Prop) p->UU (H p):=λ_ _ z=>z.elim;refine⟨λ_=>False,s,ls,hd H,env,e1,λJ M s1 u=>?_⟩
 refine⟨λi m vs t=>m=ls.length-i/\i<=ls.length/\Same M t/\∃A YC w,ys=A++YC/\A.length<=i/\Vh T ft fe (ZH n ix s) (ls.drop i)=ax YC/\Iss K t A vs w/\w.Nodup/\∀p∈w,M p=aA/\UU (t p),
  ⟨ls.length,by simp,dq _,Same.refl M,[],ys,[],rfl,aZ _,e2,Iss.nil,cH,λp d=>by simp at d⟩,?_⟩
 rintro i m vs t ⟨rfl,hi,f,A,YC,w,rfl,I,P,O,Y,o⟩;refine⟨by rw[O.len];exact cJ (lt_size (by omega)),?_⟩
 cases q:ls.drop i with
 | nil=>
  have hil:i=ls.length:=by have:=congrArg df q;simp at this;omega
  subst hil;rw[q] at P;cases P;refine .inl ⟨u.stop t (Same.ab f),λp d=>k _ _ (p::w) (s1.trans (f.trans (Same.new d _))) ?_ (aq.mpr ⟨λz=>Xn (o p z).2 d,Y⟩) λa B=>?_⟩
  ·rw[dW];exact Is.lst Zk (O.mono (Same.new d _))
  ·rcases aa.mp B with rfl | B
   ·exact⟨Same.off (s1.trans f) d,by rw[Zk];exact b8⟩
   ·exact⟨Same.off s1 (o a B).1,Same.mut (Same.new d _) (o a B).2⟩
 | cons l r=>
  obtain⟨S,hr⟩:=OZ q;have F:=(aR.mp S).1;rw[q] at P;obtain⟨sb,c,eb,et,alt⟩:=OY P
  refine .inr ⟨u.go t i l (Same.ab f) S,λD R=>Same M R/\∃dn' rest' fp',A++YC=dn'++rest'/\dn'.length<=i+1/\Vh T ft fe (ZH n ix s) (ls.drop (i+1))=ax rest'/\Iss K R dn' D fp'/\fp'.Nodup/\∀p∈fp',M p=aA/\UU (R p),
   λD R h'=>⟨ls.length-(i+1),by omega,rfl,F,h'.1,h'.2⟩,λx H2 y=>?_⟩
  obtain⟨s2,fx,W,nx⟩:=u.yld t i l x H2 (Same.ab f) S y;obtain⟨bl,bv,bf,rfl,bi,_,G,C⟩:=Kz W eb;have N:EnvIs K (λ_=>False) H2 (ZH n ix s) (Yj n ix E):=(env.mono (s1.trans (f.trans s2))).comp;have j:=N.setAll (is:=T.slots) (Ij n ix s E) bi λp d=>(nx p (G p d)).2;refine C _ _ ⟨Ui hT,λ_=>False,_,c,hd H2,j,et,λH3 g=>?_⟩;rcases alt with⟨rfl,y',zs,ey,Z,rfl⟩ | ⟨rfl,Z⟩
  ·refine Zli ?_;refine⟨_,y',j.mono g,ey,λv H4 f4 U i4 d4 X=>?_⟩;refine⟨f.trans (s2.trans (g.trans U)),A++[y'],zs,w++f4,by rw[dj];rfl,by rw[aT];simp;exact I,by rw[hr];exact Z,(O.mono (s2.trans (g.trans U))).append (Iss.one i4),cN.mpr ⟨Y,d4,λa B b hb z=>?_⟩,λp d=>?_⟩
   ·subst z;exact Xn (Same.mut (s2.trans g) (o a B).2) (X a hb).1
   ·rcases aV.mp d with h | h
    ·exact⟨(o p h).1,Same.mut (s2.trans (g.trans U)) (o p h).2⟩
    ·exact⟨Same.off (f.trans (s2.trans g)) (X p h).1,(X p h).2⟩
  ·refine Zlh ?_;exact⟨f.trans (s2.trans g),A,YC,w,rfl,nV I,by rw[hr];exact Z,O.mono (s2.trans g),Y,λp d=>⟨(o p d).1,Same.mut (s2.trans g) (o p d).2⟩⟩
end
noncomputable def VTs(X:Cx)(ifs:List bO)(f:XT):Prop:=Bw X ifs (HR X.K f)
section
variable {X:Cx} {tg elt iter c:bO} {ifs:List bO} {scope:gC} {pos:dw} {fi:XL} {T:Tgt} {ft:XT} {fe:XE}
theorem Yq:VTs X [] ZD:=λa s b H Q I ⟨f,d,c,hd,env,e,k⟩=>by cases e;exact Zdt a s b H Q I (k H (Same.refl H))
theorem Rt(h:VT X c ft):VTs X [c] ft:=Zdu h
theorem Wf(own fr:List bH)(c:List Nat)(b:X.calm=aC)(e:VI X tg iter fi)(S:Ue X.N X.env.scope scope own fr c=aC)
  (f:∀cl C s H a,PG (ZI X (own++fr) scope cl C s H a) tg (gT X.K T)) (h:∀cl C s H a,VTs (ZI X (own++fr) scope cl C s H a) ifs ft) (j:∀cl C s H a,VE (ZI X (own++fr) scope cl C s H a) elt fe)
  (d:∀i∈T.slots,i<own.length:=by decide) (g:∀x,cK iter X.env x=pure x:=by intro _;rfl):VE X (.ListComp elt [⟨tg,iter,ifs,0⟩] scope pos) (Zw own.length c fi T ft fe):=
 PE.imp (Ia own fr c b e S f (λcl C s H a=>(show Bw (ZI X (own++fr) scope cl C s H a) ifs (HR X.K ft) from h cl C s H a)) (λcl C s H a=>(show PE (ZI X (own++fr) scope cl C s H a) elt (tF X.K fe) from j cl C s H a)) g) (Zd9 d)
theorem TM(own fr:List bH)(c:List Nat)(b:X.calm=aC)(e:VI X tg iter fi)(S:Ue X.N X.env.scope scope own fr c=aC)
  (f:∀cl C s H a,PG (ZI X (own++fr) scope cl C s H a) tg (gT X.K T)) (h:∀cl C s H a,VTs (ZI X (own++fr) scope cl C s H a) ifs ft) (j:∀cl C s H a,VM (ZI X (own++fr) scope cl C s H a) elt fe)
  (d:∀i∈T.slots,i<own.length:=by decide) (g:∀x,cK iter X.env x=pure x:=by intro _;rfl):VM X (.ListComp elt [⟨tg,iter,ifs,0⟩] scope pos) (Zw own.length c fi T ft fe):=
 PE.imp (Ia own fr c b e S f (λcl C s H a=>(show Bw (ZI X (own++fr) scope cl C s H a) ifs (HR X.K ft) from h cl C s H a)) (λcl C s H a=>(show PE (ZI X (own++fr) scope cl C s H a) elt (tM X.K fe) from j cl C s H a)) g) (Er d)
end
noncomputable def WB(xs:List PV)(lo hi:Option Int):List PV:=(xs.drop (HT.sIx xs.length 0 lo)).take (HT.sIx xs.length xs.length hi-HT.sIx xs.length 0 lo)
theorem Iss.cut{H:Hp}{l:List PV}{xs:List V}{f:List aL}(lo e:Option Int)(h:Iss K H l xs f):∃f1,Iss K H (WB l lo e) (DL xs lo e) f1/\∀p∈f1,p∈f:=by unfold WB DL;rw[h.len];obtain⟨f1,a,b⟩:=h.drop (HT.sIx l.length 0 lo);obtain⟨g,c,d⟩:=a.take (HT.sIx l.length l.length e-HT.sIx l.length 0 lo);exact⟨g,c,λp i=>b p (d p i)⟩
abbrev XO:=ZG->Option (Option Int)
noncomputable def tFO(K:aH)(f:XO):TO:=λσ H Q=>∃(Rm:aL->Prop) (s:ZG) (i:Option Int),(∀p,Rm p->UU (H p))/\EnvIs K Rm H s σ/\f s=ax i/\∀H',Same H H'->Q i H'
noncomputable def VO(X:Cx)(e:Option bO)(f:XO):Prop:=PO X e (tFO X.K f)
noncomputable def MR:XO:=λ_=>ax aA
noncomputable def Qk(f:XE):XO:=λs=>match f s with | some (.int i)=>ax (ax i) | _=>aA
noncomputable def SK(x:PV)(lo hi:Option Int):Option PV:=match x with | .lst l=>ax (.lst (WB l lo hi)) | .cst l=>ax (.lst (WB l lo hi)) | _=>aA
noncomputable def PH(x:PV)(lo hi:Option Int):Option PV:=match x with | .tup l=>if HT.sIx l.length 0 lo=0/\HT.sIx l.length l.length hi=l.length then aA else ax (.tup (WB l lo hi)) | _=>aA
noncomputable def O0(g:PV->Option Int->Option Int->Option PV)(a:XE)(lo hi:XO):XE:=λs=>(a s).bind λx=>(lo s).bind λl=>(hi s).bind λu=>g x l u
theorem DX{l:List PV}(lo a:Option Int)(h:ZC l=aC):ZC (WB l lo a)=aC:=by rw[X1,bK] at *;intro x b;exact h x (dh (cW b))
section
variable {X:Cx} {e:bO} {lo hi:Option bO} {p2 pos:dw} {fa:XE} {fl fh:XO}
theorem Vi:VO X aA MR:=λa s b H Q I ⟨d,c,i,hd,env,e,k⟩=>by cases e;exact Zdk a s b H Q I (k H (Same.refl H))
theorem Wg{e:bO}(h:VE X e fa):VO X (ax e) (Qk fa):=λg s f H Q I ⟨c,l,i,hd,env,e,k⟩=>by
 unfold Qk at e;split at e
 ·cases e;rename_i j a;exact Zdl h g s f H Q I ⟨c,l,.int j,hd,env,a,λv d m b i n=>⟨j,i.int_inv.1,k d b⟩⟩
 ·cases e
theorem WL(y:VE X e fa)(u:VO X lo fl)(B:VO X j fh):VE X (.Subscript e (.Slice lo j aA p2) pos) (O0 SK fa fl fh):=PE.imp (JZ Zdn y u B) λF H Q ⟨m,s,l,hd,env,e,k⟩=>by
 obtain⟨x,w,e⟩:=Zc e;obtain⟨a,t,e⟩:=Zc e;obtain⟨b,A,e⟩:=Zc e;refine⟨m,s,x,hd,env,w,λv G C s1 o n=>⟨m,s,a,λp g=>Same.mut s1 (hd p g),env.mono s1,t,λE s2=>⟨m,s,b,λp g=>Same.mut (s1.trans s2) (hd p g),env.mono (s1.trans s2),A,λD i=>?_⟩⟩⟩
 cases x with
 | lst l=>
  cases e;obtain⟨p,xs,I,rfl,g,j,rfl⟩:=(o.mono (s2.trans i)).lst_inv;obtain⟨f1,c,d⟩:=j.cut a b;refine⟨p,xs,rfl,SqL.of g,λq f=>k _ _ (q::f1) (s1.trans (s2.trans (i.trans (Same.new f _)))) (Is.lst Zk (c.mono (Same.new f _))) λr h z=>?_⟩;rcases aa.mp h with rfl | h
  ·exact Xn (Same.mut (s1.trans (s2.trans i)) (hd r z)) f
  ·exact n r (aN _ (d r h)) z
 | cst l=>
  cases e;obtain⟨p,xs,rfl,g,j⟩:=(o.mono (s2.trans i)).cst_inv;obtain⟨f1,c,d⟩:=j.cut a b;refine⟨p,xs,rfl,g.sq,λq f=>k _ _ (q::f1) (s1.trans (s2.trans (i.trans (Same.new f _)))) (Is.lst Zk (c.mono (Same.new f _))) λr h z=>?_⟩;rcases aa.mp h with rfl | h
  ·exact Xn (Same.mut (s1.trans (s2.trans i)) (hd r z)) f
  ·exact n r (d r h) z
 | _=>cases e
theorem Ql(u:VE X e fa)(o:VO X lo fl)(z:VO X g fh):VE X (.Subscript e (.Slice lo g aA p2) pos) (O0 PH fa fl fh):=PE.imp (JZ Zig u o z) λF H Q ⟨i,s,l,hd,env,e,k⟩=>by
 obtain⟨x,t,e⟩:=Zc e;obtain⟨a,n,e⟩:=Zc e;obtain⟨b,y,e⟩:=Zc e;refine⟨i,s,x,hd,env,t,λv G C s1 B A=>⟨i,s,a,λp f=>Same.mut s1 (hd p f),env.mono s1,n,λE s2=>⟨i,s,b,λp f=>Same.mut (s1.trans s2) (hd p f),env.mono (s1.trans s2),y,λD m=>?_⟩⟩⟩
 cases x with
 | tup l=>
  unfold PH at e;simp only at e;split at e
  ·cases e
  ·rename_i h;cases e;obtain⟨p,xs,rfl,f,g⟩:=(B.mono (s2.trans m)).tup_inv;obtain⟨f1,c,d⟩:=g.cut a b;refine⟨p,xs,rfl,SqT.of f,by rw[g.len];exact h,λq j=>k _ _ f1 (s1.trans (s2.trans (m.trans (Same.new j _)))) (Is.tup Zk (c.mono (Same.new j _))) λr w=>A r (d r w)⟩
 | _=>cases e
end
end VL
namespace VL
open PySem PySem.Spec PyProof.Rows L2
variable {K:aH}
structure Rel(K:aH)(O:List Nat)(H0:Hp)(fps:Nat->List aL)(s:ZG)(σ:Pw)(H:Hp):Prop where
 same:Same H0 H
 len:s.length=σ.length
 is:∀(i:Nat) l,s[i]?=ax (ax l)->∃v,σ[i]?=ax (ax v)/\Is K H l v (fps i)
 emp:∀(i:Nat),(∀l,s[i]?≠ax (ax l))->fps i=[]
 nd:∀i∈O,(fps i).Nodup
 own:∀i∈O,∀p∈fps i,H0 p=aA/\UU (H p)
 dis:∀i∈O,∀j,j≠i->∀p∈fps i,p∉fps j
noncomputable def Ow(O:List Nat)(fps:Nat->List aL)(p:aL):Prop:=∃i∈O,p∈fps i
noncomputable def Xr(O:List Nat)(s:ZG):ZG:=O.foldl (λs i=>s.set i aA) s
theorem O1:∀{O:List Nat}{s:ZG}{i:Nat}{l:PV},(Xr O s)[i]?=ax (ax l)->i∉O/\s[i]?=ax (ax l)
 | [],s,i,l,h=>⟨by simp,h⟩
 | o::O,s,i,l,h=>by
  obtain⟨b,a⟩:=O1 (O:=O) (s:=s.set o aA) h;rw[bW] at a;by_cases e:o=i
  ·rw[p9 e] at a;split at a<;>cases a
  ·rw[pW e] at a;exact⟨by simp only[aa,not_or];exact⟨λz=>e z.symm,b⟩,a⟩
section
variable {O:List Nat} {H0 H H':Hp} {fps:Nat->List aL} {s:ZG} {σ:Pw}
theorem Rel.at(r:Rel K O H0 fps s σ H)(i:Nat){p:aL}(c:p∈fps i):∃l v,s[i]?=ax (ax l)/\σ[i]?=ax (ax v)/\Is K H l v (fps i):=by
 cases q:s[i]? with
 | none=>rw[r.emp i (λl z=>by rw[q] at z;cases z)] at c;simp at c
 | some o=>cases o with
  | none=>rw[r.emp i (λl z=>by rw[q] at z;cases z)] at c;simp at c
  | some l=>
   obtain⟨v,a,b⟩:=r.is i l q;exact⟨l,v,rfl,a,b⟩
theorem Rel.dom(r:Rel K O H0 fps s σ H)(i:Nat):∀p∈fps i,H p≠aA:=λp a=>by obtain⟨l,v,_,_,b⟩:=r.at i a;exact Is.dom _ _ _ b p a
theorem Rel.env(r:Rel K O H0 fps s σ H):EnvIs K (λ_=>False) H s σ:=⟨λi l e=>by
 obtain⟨v,a,b⟩:=r.is i l e;exact⟨v,_,a,b,λ_ _ z=>z⟩⟩
theorem Rel.envO(r:Rel K O H0 fps s σ H):EnvIs K (Ow O fps) H (Xr O s) σ:=⟨λi l e=>by
 obtain⟨n,e⟩:=O1 e;obtain⟨v,a,b⟩:=r.is i l e;exact⟨v,_,a,b,λp f ⟨j,d,c⟩=>r.dis j d i (λz=>n (z▸d)) p c f⟩⟩
theorem Rel.owMut(r:Rel K O H0 fps s σ H):∀p,Ow O fps p->UU (H p):=λp ⟨i,a,b⟩=>(r.own i a p b).2
theorem Rel.grow(r:Rel K O H0 fps s σ H)(e:Same H H'):Rel K O H0 fps s σ H':=
 ⟨r.same.trans e,r.len,λi l q=>by obtain⟨v,a,b⟩:=r.is i l q;exact⟨v,a,b.mono e⟩,r.emp,r.nd,λi c p d=>⟨(r.own i c p d).1,Same.mut e (r.own i c p d).2⟩,r.dis⟩
theorem Rel.less{F:Hp}(r:Rel K O F fps s σ H)(e:Same H0 F):Rel K O H0 fps s σ H:=
 ⟨e.trans r.same,r.len,r.is,r.emp,r.nd,λi a p b=>⟨Same.off e (r.own i a p b).1,(r.own i a p b).2⟩,r.dis⟩
theorem Rel.weak{O':List Nat}(r:Rel K O H0 fps s σ H)(h:∀i∈O',i∈O):Rel K O' H0 fps s σ H:=
 ⟨r.same,r.len,r.is,r.emp,λi a=>r.nd i (h i a),λi a=>r.own i (h i a),λi a=>r.dis i (h i a)⟩
open Classical in
noncomputable def PJ(H:Hp)(Rm:aL->Prop):Hp:=λb=>if Rm b then aA else H b
theorem DY{a:aL->Prop}:Same (PJ H a) H:=λb o h=>by
 unfold PJ at h;split at h
 ·cases h
 ·exact h
theorem Rel.frame(r:Rel K O H0 fps s σ H):Rel K O (PJ H (Ow O fps)) fps s σ H:=
 ⟨DY,r.len,r.is,r.emp,r.nd,λi a p b=>⟨by unfold PJ;rw[p9 ⟨i,a,b⟩],(r.own i a p b).2⟩,r.dis⟩
theorem Rel.under(r:Rel K O H0 fps s σ H):Same H0 (PJ H (Ow O fps)):=λb o h=>by unfold PJ;rw[pW (λ⟨i,a,c⟩=>by rw[(r.own i a b c).1] at h;cases h)];exact r.same b o h
open Classical in
noncomputable def PL(fps:Nat->List aL)(n:Nat)(i:Nat)(fp:List aL):Nat->List aL:=λj=>if j=i/\i<n then fp else fps j
theorem Ya{n i j:Nat}{a:List aL}(h:j≠i):PL fps n i a j=fps j:=by unfold PL;rw[pW (λz=>h z.1)]
theorem Es{n i:Nat}{a:List aL}(h:i<n):PL fps n i a i=a:=by unfold PL;rw[p9 ⟨rfl,h⟩]
theorem Rel.set(r:Rel K O H0 fps s σ H){i:Nat}{l:PV}{v:V}{f:List aL}(u:Is K H l v f)(o:i∈O->f.Nodup/\∀p∈f,H0 p=aA/\UU (H p))
  (hd:∀j,j≠i->(j∈O\/i∈O)->∀p∈f,p∉fps j):Rel K O H0 (PL fps s.length i f) (s.set i (ax l)) (σ.set i (ax v)) H:=by
 by_cases c:i<s.length
 ·have g:PL fps s.length i f i=f:=Es c;refine⟨r.same,by rw[cG,cG];exact r.len,λj a e=>?_,λj h=>?_,λj b=>?_,λj b p d=>?_,λj b k n p d=>?_⟩
  ·rw[bW] at e;by_cases b:i=j
   ·subst b;rw[p9 rfl,p9 c] at e;cases e;rw[g];exact⟨v,by rw[bW,p9 rfl,p9 (by rw[<-r.len];exact c)],u⟩
   ·rw[pW b] at e;obtain⟨w,t,q⟩:=r.is j a e;rw[Ya (bX b)];exact⟨w,by rw[bW,pW b];exact t,q⟩
  ·by_cases b:i=j
   ·subst b;exact absurd (by rw[bW,p9 rfl,p9 c]) (h l)
   ·rw[Ya (bX b)];exact r.emp j λa z=>h a (by rw[bW,pW b];exact z)
  ·by_cases e:j=i
   ·subst e;rw[g];exact(o b).1
   ·rw[Ya e];exact r.nd j b
  ·by_cases e:j=i
   ·subst e;rw[g] at d;exact(o b).2 p d
   ·rw[Ya e] at d;exact r.own j b p d
  ·by_cases e:j=i
   ·subst e;rw[g] at d;rw[Ya n];exact hd k n (.inr b) p d
   ·rw[Ya e] at d;by_cases m:k=i
    ·subst m;rw[g];exact λz=>hd j e (.inl b) p z d
    ·rw[Ya m];exact r.dis j b k n p d
 ·have g:s.set i (ax l)=s:=gs (by omega);have m:σ.set i (ax v)=σ:=gs (by rw[<-r.len];omega);have x:PL fps s.length i f=fps:=by funext j;unfold PL;rw[pW (λz=>c z.2)]
  rw[g,m,x];exact r
theorem Rel.mutate(r:Rel K O H0 fps s σ H){i:Nat}(t:i∈O){p:aL}(n:p∈fps i){o:HO}{A:PV}{v:V}{d:List aL}(J:σ[i]?=ax (ax v))(g:i<s.length)
  (h':Is K (upd H p o) A v d) (D:d.Nodup) (I:∀q∈d,H0 q=aA/\UU (upd H p o q)) (hd:∀j,j≠i->∀q∈d,q∉fps j) (C:UU (ax o)):Rel K O H0 (PL fps s.length i d) (s.set i (ax A)) σ (upd H p o):=by
 have l:=(r.own i t p n).2;have F:=(r.own i t p n).1;have m:PL fps s.length i d i=d:=Es g
 have tk:TK2 H (upd H p o):=⟨λb xs h=>by
  rw[upd_ne (λz=>by rw[z] at h;rw[h] at l;exact l)];exact h,λb o xs h=>by
  rw[upd_ne (λz=>by rw[z] at h;rw[h] at l;exact l)];exact h,λb o x h=>by
  rw[upd_ne (λz=>by rw[z] at h;rw[h] at l;exact l)];exact h⟩
 refine⟨λb u h=>by rw[upd_ne (Zr h F)];exact r.same b u h,by rw[cG];exact r.len,λj a e=>?_,λj h=>?_,λj c=>?_,λj c q f=>?_,λj c k y q f=>?_⟩
 ·rw[bW] at e;by_cases c:i=j
  ·subst c;rw[p9 rfl,p9 g] at e;cases e;rw[m];exact⟨v,J,h'⟩
  ·rw[pW c] at e;obtain⟨w,G,E⟩:=r.is j a e;rw[Ya (bX c)];refine⟨w,G,Is.tr tk _ _ _ (λq f=>RdK.of λu L=>?_) E⟩;have ne:q≠p:=λz=>r.dis i t j (bX c) p n (z▸f);rw[upd_ne ne];exact L
 ·by_cases c:i=j
  ·subst c;exact absurd (by rw[bW,p9 rfl,p9 g]) (h A)
  ·rw[Ya (bX c)];exact r.emp j λa z=>h a (by rw[bW,pW c];exact z)
 ·by_cases e:j=i
  ·subst e;rw[m];exact D
  ·rw[Ya e];exact r.nd j c
 ·by_cases e:j=i
  ·subst e;rw[m] at f;exact I q f
  ·rw[Ya e] at f;refine⟨(r.own j c q f).1,?_⟩;have ne:q≠p:=λz=>r.dis j c i (bX e) q f (z▸n);rw[upd_ne ne];exact(r.own j c q f).2
 ·by_cases e:j=i
  ·subst e;rw[m] at f;rw[Ya y];exact hd k y q f
  ·rw[Ya e] at f;by_cases B:k=i
   ·subst B;rw[m];exact λz=>hd j e q z f
   ·rw[Ya B];exact r.dis j c k y q f
end
noncomputable def Kep(a b:List aL):Prop:=a=b\/a=[]
theorem Kep.refl(a:List aL):Kep a a:=.inl rfl
theorem Kep.trans{a b c:List aL}(h:Kep a b)(k:Kep b c):Kep a c:=by
 rcases h with rfl | h
 ·exact k
 ·exact .inr h
inductive Out where
 | nx (s:ZG) | rt (l:PV) | bk (s:ZG) | ct (s:ZG)
abbrev XS:=ZG->Option Out
noncomputable def OutOk(K:aH)(O W:List Nat)(H0:Hp)(fps:Nat->List aL)(σ:Pw)(D:Y9):Out->Prop
 | .nx s'=>∀p6 σ' H',Rel K O H0 p6 s' σ' H'->(∀j,j∉W->σ'[j]?=σ[j]?/\Kep (p6 j) (fps j))->D.nx σ' H'
 | .bk s'=>∀p6 σ' H',Rel K O H0 p6 s' σ' H'->(∀j,j∉W->σ'[j]?=σ[j]?/\Kep (p6 j) (fps j))->D.bk σ' H'
 | .ct s'=>∀p6 σ' H',Rel K O H0 p6 s' σ' H'->(∀j,j∉W->σ'[j]?=σ[j]?/\Kep (p6 j) (fps j))->D.ct σ' H'
 | .rt l=>∀v fp H',Same H0 H'->Is K H' l v fp->fp.Nodup->(∀p∈fp,H0 p=aA/\UU (H' p))->D.rt v H'
noncomputable def tFS(K:aH)(O W:List Nat)(f:XS):TS:=λD σ H=>∃H0 fps s out,Rel K O H0 fps s σ H/\f s=ax out/\OutOk K O W H0 fps σ D out
noncomputable def VS(X:Cx)(O W:List Nat)(st:cB)(f:XS):Prop:=PS X st (tFS X.K O W f)
noncomputable def VSs(X:Cx)(O W:List Nat)(st:List cB)(f:XS):Prop:=PSs X st (tFS X.K O W f)
theorem OutOk.same{O W i:List Nat}{m:Hp}{fps c:Nat->List aL}{n g:Pw}{D:Y9}{out:Out}(h:OutOk K O i m fps n D out)(k:∀j,j∉i->g[j]?=n[j]?/\Kep (c j) (fps j))(d:∀j,j∉i->j∉W):OutOk K O W m c g D out:=by
 cases out with
 | nx s'=>exact λe b f r q=>h e b f r λj a=>⟨(q j (d j a)).1.trans (k j a).1,(q j (d j a)).2.trans (k j a).2⟩
 | bk s'=>exact λe b f r q=>h e b f r λj a=>⟨(q j (d j a)).1.trans (k j a).1,(q j (d j a)).2.trans (k j a).2⟩
 | ct s'=>exact λe b f r q=>h e b f r λj a=>⟨(q j (d j a)).1.trans (k j a).1,(q j (d j a)).2.trans (k j a).2⟩
 | rt l=>exact h
theorem OutOk.less{O W:List Nat}{g F:Hp}{fps:Nat->List aL}{j:Pw}{D:Y9}{out:Out}(h:OutOk K O W g fps j D out)(e:Same g F):OutOk K O W F fps j D out:=by
 cases out with
 | nx s'=>exact λc a b r q=>h c a b (r.less e) q
 | bk s'=>exact λc a b r q=>h c a b (r.less e) q
 | ct s'=>exact λc a b r q=>h c a b (r.less e) q
 | rt l=>exact λv k b m i d n=>h v k b (e.trans m) i d λp f=>⟨Same.off e (n p f).1,(n p f).2⟩
noncomputable def YE:XS:=λs=>ax (.nx s)
noncomputable def Zn(f g:XS):XS:=λs=>(f s).bind λo=>match o with | .nx s'=>g s' | r=>ax r
noncomputable def Ru(c:XT)(f g:XS):XS:=λs=>(c s).bind λk=>if k=aC then f s else g s
noncomputable def ZQ(f:XE):XS:=λs=>(f s).map .rt
noncomputable def Zs(i:Nat)(f:XE):XS:=λs=>(f s).map λl=>.nx (s.set i (ax l))
section
variable {X:Cx} {O W W1 W2:List Nat} {st:cB} {YC:List cB} {f g:XS} {pos:dw}
theorem PS.imp{t t':TS}(h:PS X st t)(i:∀D a H,t' D a H->t D a H):PS X st t':=λb s a H D I q=>h b s a H D I (i D a H q)
theorem PSs.imp{t t':TS}(h:PSs X YC t)(i:∀D a H,t' D a H->t D a H):PSs X YC t':=λb s a H D I q=>h b s a H D I (i D a H q)
theorem Ao:∀D a H,tFS K O W YE D a H->Zgt D a H:=λD a H ⟨b,fps,s,out,r,e,k⟩=>by cases e;exact k fps a H r λj _=>⟨rfl,Kep.refl _⟩
theorem Yi:VSs X O [] [] YE:=PSs.imp Zda Ao
theorem Zg(h:VS X O W st f):VSs X O W [st] f:=Zdb h
theorem Zd(w:VS X O W1 st f)(v:VSs X O W2 YC g):VSs X O (W1++W2) (st::YC) (Zn f g):=PSs.imp (JU w v) λD A H ⟨q,fps,s,out,r,e,k⟩=>by
 obtain⟨p,t,e⟩:=Zc e;have a:∀j,j∉W1++W2->j∉W1:=λj b z=>b (ao _ z);have d:∀j,j∉W1++W2->j∉W2:=λj b z=>b (ah _ z);refine⟨q,fps,s,p,r,t,?_⟩
 cases p with
 | nx s1=>
  intro h y B x u;exact⟨q,h,s1,out,x,e,k.same (λj b=>u j (a j b)) d⟩
 | bk s1=>cases e;exact λm c n o i=>k m c n o λj b=>i j (a j b)
 | ct s1=>cases e;exact λm c n o i=>k m c n o λj b=>i j (a j b)
 | rt l=>cases e;exact k
theorem Xu{c:bO}{a b:List cB}{l:XT}(p:VT X c l)(o:VSs X O W1 a f)(q:VSs X O W2 b g):VS X O (W1++W2) (.If c a b pos) (Ru l f g):=PS.imp (Zkp p o q) λD t H ⟨m,fps,s,out,r,e,k⟩=>by
 obtain⟨c,n,e⟩:=Zc e;have d:∀j,j∉W1++W2->j∉W1:=λj i z=>i (ao _ z);have h:∀j,j∉W1++W2->j∉W2:=λj i z=>i (ah _ z);refine⟨λ_=>False,s,c,λ_ z=>z.elim,r.env,n,λu s1=>?_⟩
 cases c with
 | true=>
  exact⟨m,fps,s,out,r.grow s1,e,k.same (λj _=>⟨rfl,Kep.refl _⟩) d⟩
 | false=>
  exact⟨m,fps,s,out,r.grow s1,e,k.same (λj _=>⟨rfl,Kep.refl _⟩) h⟩
theorem Zz{e:bO}{b:XE}(g:VM X e b):VS X O [] (.Return (ax e) pos) (ZQ b):=PS.imp (HW g) λD o H ⟨m,fps,s,out,r,e,k⟩=>by obtain⟨l,c,rfl⟩:=map_some e;exact⟨s,l,r.env,c,λv j f h i d n=>k v f j (r.same.trans h) i d λp a=>⟨Same.off r.same (n p a).1,(n p a).2⟩⟩
theorem TN{e:bO}{i:Nat}(f:PE X e (Pp i))(c:i∈O:=by decide):VS X O [] (.Return (ax e) pos) (ZQ (Za i)):=PS.imp (HW f) λD h H ⟨g,fps,s,out,r,e,k⟩=>by obtain⟨l,d,rfl⟩:=map_some e;obtain⟨v,a,b⟩:=r.is i l (Ls d);exact⟨v,a,k v _ H r.same b (r.nd i c) (r.own i c)⟩
theorem Et{t:TE}{i:Nat}{c:XE}(m:∀a H Q,tM K c a H Q->t a H Q):∀D a H,tFS K O [i] (Zs i c) D a H->Ke t (Sq i) D a H:=λD a H ⟨u,fps,s,out,r,e,k⟩=>by
 obtain⟨l,f,rfl⟩:=map_some e;refine m a H _ ⟨s,l,r.env,f,λv o q h is d n=>?_⟩;refine k _ _ o ((r.grow h).set is (λ_=>⟨d,λp b=>⟨Same.off r.same (n p b).1,(n p b).2⟩⟩) λj _ _ p b z=>r.dom j p z (n p b).1) λj g=>?_;have:j≠i:=by simpa using g
 exact⟨by rw[bW,pW (bX this)],.inl (Ya this)⟩
theorem Zi5{i:Nat}{x:bH}{e:bO}{a:XE}{pos':dw}(d:X.N.Nodup)(b:X.N[i]?=ax x)(f:BB X.env.scope x)(g:VM X e a)(c:iC e (ax (.Name x pos')) pos.line X.env=pure aB:=by rfl)(j:X.fn x=aC\/X.env.scope.names.lookup x=ax .local:=by first | exact .inl rfl | exact .inr rfl | assumption) :
  VS X O [i] (.Assign [.Name x pos'] e pos) (Zs i a):=PS.imp (BF d b f g c j) (Et λ_ _ _ h=>h)
end
noncomputable def VG(T:Tgt)(fb:XS):List PV->ZG->Option Out
 | [],s=>ax (.nx s)
 | l::r,s=>(Xg T l s).bind λs1=>(fb s1).bind λo=>match o with | .nx s2=>VG T fb r s2 | .ct s2=>VG T fb r s2 | .bk s2=>ax (.nx s2) | .rt v=>ax (.rt v)
noncomputable def YU(O:List Nat)(fi:XL)(T:Tgt)(fb:XS):XS:=λs=>(fi (Xr O s)).bind λls=>VG T fb ls s
theorem Rel.setAll{O:List Nat}{m H:Hp}:∀{is:List Nat}{ls:List PV}{vs:List V}{fs:List aL}{fps:Nat->List aL}{s:ZG}{σ:Pw},Rel K O m fps s σ H->Iss K H ls vs fs->ls.length=is.length->(∀i∈is,i∉O)->(∀i∈O,∀p∈fps i,p∉fs)->
  ∃k,Rel K O m k (VL.setAll is ls s) (Xb is vs σ) H/\∀j,j∉is->(Xb is vs σ)[j]?=σ[j]?/\Kep (k j) (fps j)
 | [],ls,vs,fs,fps,s,σ,r,_,_,_,_=>⟨fps,by unfold VL.setAll Xb;exact r,λj _=>⟨by unfold Xb;rfl,Kep.refl _⟩⟩
 | i::is,[],vs,fs,fps,s,σ,r,_,hl,_,_=>by simp at hl
 | i::is,l::ls,vs,fs,fps,s,σ,r,hi,hl,hO,hd=>by
  obtain⟨x,w,f1,v,rfl,q,o,rfl⟩:=hi.inv;have g:=hO i ag
  have t:=r.set (i:=i) q (λz=>absurd z g) λj f c p h z=>by
   rcases c with c | c
   ·exact hd j c p z (ao _ h)
   ·exact absurd c g
  obtain⟨k,u,n⟩:=Rel.setAll (is:=is) t o (by simpa using hl) (λj f=>hO j (aN _ f)) λj f p h z=>by have d:j≠i:=λe=>g (by rw[<-e];exact f);rw[Ya d] at h;exact hd j f p h (ah _ z)
  refine⟨k,u,λj f=>?_⟩;have d:j≠i:=λe=>f (e▸ag);obtain⟨a,b⟩:=n j (λz=>f (aN _ z));exact⟨a.trans (by rw[bW,pW (bX d)]),b.trans (.inl (Ya d))⟩
section
variable {O W:List Nat} {T:Tgt} {fb:XS}
theorem Ap{C:Hp}{fps:Nat->List aL}{s:ZG}{F:Pw}{D:Y9}{J:It}{ls:List PV}{out:Out}(r:Rel K O (PJ C (Ow O fps)) fps s F C)(A:JIs K (Ow O fps) C J ls)(e:VG T fb ls s=ax out)(hT:∀i∈T.slots,i∉O)
  (k:OutOk K O (T.slots++W) (PJ C (Ow O fps)) fps F D out):Znx (gT K T) (tFS K O W fb) D F J C:=by
 have t:∀j,j∉T.slots++W->j∉T.slots:=λj a z=>a (ao _ z);have c:∀j,j∉T.slots++W->j∉W:=λj a z=>a (ah _ z)
 refine⟨λi m g G=>m=ls.length-i/\i<=ls.length/\∃P Z,Rel K O (PJ C (Ow O fps)) P Z g G/\VG T fb (ls.drop i) Z=ax out/\∀j,j∉T.slots++W->g[j]?=F[j]?/\Kep (P j) (fps j),
  ⟨ls.length,by simp,dq _,fps,s,r,e,λj _=>⟨rfl,Kep.refl _⟩⟩,?_⟩
 rintro i m g G ⟨rfl,hi,P,Z,R,f,S⟩;have ab:=λb o h n=>R.same b o (by unfold PJ;rw[pW n];exact h)
 cases q:ls.drop i with
 | nil=>
  have X:i=ls.length:=by have:=congrArg df q;simp at this;omega
  subst X;rw[q] at f;cases f;exact .inl ⟨A.stop G ab,k P g G R S⟩
 | cons l rr=>
  obtain⟨U,hr⟩:=OZ q;have N:=(aR.mp U).1;rw[q] at f;obtain⟨sb,eb,f⟩:=Zc f;obtain⟨o,eo,f⟩:=Zc f
  refine .inr ⟨A.go G i l ab U,λE Q=>∃fps2 s2,Rel K O (PJ C (Ow O fps)) fps2 s2 E Q/\VG T fb (ls.drop (i+1)) s2=ax out/\∀j,j∉T.slots++W->E[j]?=F[j]?/\Kep (fps2 j) (fps j),
   λE Q h2=>⟨ls.length-(i+1),by omega,rfl,N,h2⟩,λx Q y=>?_⟩
  obtain⟨s2,fx,ix,nx⟩:=A.yld G i l x Q ab U y;obtain⟨bl,bv,bf,rfl,bi,M,H,L⟩:=Kz ix eb;obtain⟨w,r3,q3⟩:=Rel.setAll (R.grow s2) bi M hT λj a p hp z=>by obtain⟨n1,n2⟩:=nx p (H p z);have:=(R.own j a p hp).1;unfold PJ at this;rw[pW n2] at this;exact n1 this
  refine L _ _ ⟨_,w,_,o,r3,eo,?_⟩;have keep:∀j,j∉T.slots++W->(Xb T.slots bv g)[j]?=F[j]?/\Kep (w j) (fps j):=λj a=>⟨(q3 j (t j a)).1.trans (S j a).1,(q3 j (t j a)).2.trans (S j a).2⟩
  cases o with
  | nx s4=>exact λd B Y I u=>⟨d,s4,I,by rw[hr];exact f,λj a=>⟨(u j (c j a)).1.trans (keep j a).1,(u j (c j a)).2.trans (keep j a).2⟩⟩
  | ct s4=>exact λd B Y I u=>⟨d,s4,I,by rw[hr];exact f,λj a=>⟨(u j (c j a)).1.trans (keep j a).1,(u j (c j a)).2.trans (keep j a).2⟩⟩
  | bk s4=>
   cases f;exact λd B Y I u=>k d B Y I λj a=>⟨(u j (c j a)).1.trans (keep j a).1,(u j (c j a)).2.trans (keep j a).2⟩
  | rt v=>
   cases f;exact k
end
section
variable {X:Cx} {O W:List Nat} {tg iter:bO} {body:List cB} {fi:XL} {T:Tgt} {fb:XS} {pos:dw}
theorem Zi6(d:mM (model X.prog X.w) X.A X.env X.xe)(f:X.calm=aC)(g:VI X tg iter fi)(h:PG X tg (gT X.K T))(l:VSs X O W body fb)(b:∀i∈T.slots,i∉O:=by decide)
  (j:∀x,cK iter X.env x=pure x:=by intro _;rfl):VS X O (T.slots++W) (.For tg iter body [] pos) (YU O fi T fb):=PS.imp (Zh7 d f g h l j) λD n H ⟨m,fps,s,out,r,e,k⟩=>by
 obtain⟨ls,c,e⟩:=Zc e;refine⟨Ow O fps,Xr O s,ls,r.owMut,r.envO,c,λJ o s1 a=>?_⟩;exact Ap (r.grow s1).frame a e b (k.less (r.grow s1).under)
end
noncomputable def YT(c:XT)(fb:XS):Nat->ZG->Option Out
 | 0,_=>aA
 | n+1,s=>(c s).bind λk=>if k=aC then(fb s).bind λo=>match o with | .nx s2=>YT c fb n s2 | .ct s2=>YT c fb n s2 | .bk s2=>ax (.nx s2) | .rt v=>ax (.rt v) else ax (.nx s)
theorem U3{c:XT}{fb:XS}:∀{n:Nat}{s:ZG}{o:Out},YT c fb n s=ax o->YT c fb (n+1) s=ax o
 | 0,_,_,h=>by cases h
 | n+1,s,o,h=>by
  unfold YT at h ⊢;obtain⟨k,b,h⟩:=Zc h;rw[b]
  cases k with
  | false=>exact h
  | true=>
   rw[p9 rfl] at h;obtain⟨d,a,h⟩:=Zc h;simp only[aQ,if_true,a]
   cases d with
   | nx s2=>exact U3 h
   | ct s2=>exact U3 h
   | bk s2=>exact h
   | rt v=>exact h
theorem Lw{c:XT}{fb:XS}{n m:Nat}{s:ZG}{o:Out}(h:YT c fb n s=ax o)(a:n<=m):YT c fb m s=ax o:=by
 induction m with
 | zero=>
  have:n=0:=by omega
  subst this;exact h
 | succ m ih=>
  by_cases e:n=m+1
  ·subst e;exact h
  ·exact U3 (ih (by omega))
open Classical in
noncomputable def XC(c:XT)(fb:XS):XS:=λs=>if h:∃n,(YT c fb n s).isSome=aC then YT c fb h.choose s else aA
theorem Lx{c:XT}{fb:XS}{n:Nat}{s:ZG}{o:Out}(h:YT c fb n s=ax o):XC c fb s=ax o:=by
 have b:∃n,(YT c fb n s).isSome=aC:=⟨n,by rw[h];rfl⟩;unfold XC;rw[dif_pos b];obtain⟨d,e⟩:=cT.mp b.choose_spec;rw[e];rcases Nat.le_total n b.choose with a | a
 ·rw[Lw h a] at e;exact e.symm
 ·rw[Lw e a] at h;exact h
section
variable {X:Cx} {O W:List Nat} {c:bO} {body:List cB} {fc:XT} {fb:XS} {pos:dw}
theorem VH(G:mM (model X.prog X.w) X.A X.env X.xe)(J:VT X c fc)(M:VSs X O W body fb):VS X O W (.While c body [] pos) (XC fc fb):=PS.imp (BG G J M) λD C H ⟨x,fps,s,out,r,e,k⟩=>by
 unfold XC at e;split at e
 case isFalse=>cases e
 rename_i F;generalize F.choose=n at e;refine⟨λm g B=>∃t u,Rel X.K O x t u g B/\YT fc fb m u=ax out/\∀j,j∉W->g[j]?=C[j]?/\Kep (t j) (fps j),⟨n,fps,s,r,e,λj _=>⟨rfl,Kep.refl _⟩⟩,?_⟩;rintro m g B ⟨t,u,A,f,i⟩
 cases m with
 | zero=>cases f
 | succ m=>
  obtain⟨b,E,f⟩:=Zc f;refine⟨λ_=>False,u,b,λ_ z=>z.elim,A.env,E,λw s2=>?_⟩
  cases b with
  | false=>
   cases f;exact k t g w (A.grow s2) i
  | true=>
   obtain⟨o,L,f⟩:=Zc f;refine⟨λp w=>∃fps2 s2,Rel X.K O x fps2 s2 p w/\YT fc fb m s2=ax out/\∀j,j∉W->p[j]?=C[j]?/\Kep (fps2 j) (fps j),λp w I=>⟨m,dt m,I⟩,x,t,u,o,A.grow s2,L,?_⟩
   cases o with
   | nx s4=>exact λa l y q h=>⟨a,s4,q,f,λj d=>⟨(h j d).1.trans (i j d).1,(h j d).2.trans (i j d).2⟩⟩
   | ct s4=>exact λa l y q h=>⟨a,s4,q,f,λj d=>⟨(h j d).1.trans (i j d).1,(h j d).2.trans (i j d).2⟩⟩
   | bk s4=>
    cases f;exact λa l y q h=>k a l y q λj d=>⟨(h j d).1.trans (i j d).1,(h j d).2.trans (i j d).2⟩
   | rt v=>cases f;exact k
end
end VL
namespace VL
open PySem PySem.Spec PyProof.Rows L2
variable {K:aH}
section
variable {O:List Nat} {H0 H H':Hp} {fps:Nat->List aL} {s:ZG} {σ:Pw}
theorem Rel.lst_at(r:Rel K O H0 fps s σ H){i:Nat}(h:i∈O){m:List PV}(e:s[i]?=ax (ax (.lst m))):∃p xs c,σ[i]?=ax (ax (.ref p))/\H p=ax (.lst xs)/\Iss K H m xs c/\fps i=p::c:=by obtain⟨v,a,b⟩:=r.is i _ e;obtain⟨p,xs,c,rfl,d,f,g⟩:=b.lst_inv;exact⟨p,xs,c,a,d,f,g⟩
theorem Rel.dT_at(r:Rel K O H0 fps s σ H){i:Nat}(j:i∈O){h:List (List Y8)}{m:List PV}(e:s[i]?=ax (ax (.dT h m))):∃p p4 d,σ[i]?=ax (ax (.ref p))/\H p=ax (.dT p4)/\p4.map (·.1)=h/\Iss K H m (p4.map (·.2)) d/\fps i=p::d:=by
 obtain⟨v,a,b⟩:=r.is i _ e;obtain⟨p,xs,d,rfl,c,k,l,g⟩:=b.dT_inv;refine⟨p,xs,d,a,?_,k,l,g⟩;have f:=(r.own i j p (by rw[g];exact ag)).2;rcases c with c | ⟨o,c⟩
 ·exact c
 ·rw[c] at f;exact f.elim
theorem Rel.dK_at(r:Rel K O H0 fps s σ H){i:Nat}(j:i∈O){h:List Y8}{m:List PV}(e:s[i]?=ax (ax (.dK h m))):∃p p4 d,σ[i]?=ax (ax (.ref p))/\H p=ax (.dK p4)/\p4.map (·.1)=h/\Iss K H m (p4.map (·.2)) d/\fps i=p::d:=by
 obtain⟨v,a,b⟩:=r.is i _ e;obtain⟨p,xs,d,rfl,c,k,l,g⟩:=b.dK_inv;refine⟨p,xs,d,a,?_,k,l,g⟩;have f:=(r.own i j p (by rw[g];exact ag)).2;rcases c with c | ⟨o,c⟩
 ·exact c
 ·rw[c] at f;exact f.elim
theorem TQ{b:Type}{l:List b}{i:Nat}{a:b}(h:l[i]?=ax a):i<l.length:=(aR.mp h).1
theorem TK.upd'{p:aL}{o:HO}(a:UU (H p)):TK2 H (L2.upd H p o):=⟨λb xs h=>by
 rw[upd_ne (λz=>by rw[z] at h;rw[h] at a;exact a)];exact h,λb o xs h=>by
 rw[upd_ne (λz=>by rw[z] at h;rw[h] at a;exact a)];exact h,λb o x h=>by
 rw[upd_ne (λz=>by rw[z] at h;rw[h] at a;exact a)];exact h⟩
theorem RdK.upd_ne{p q:aL}{o:HO}(ne:q≠p):RdK H (L2.upd H p o) q:=RdK.of λu a=>by rw[L2.upd_ne ne];exact a
theorem Rel.relist(r:Rel K O H0 fps s σ H){i:Nat}(c:i∈O){m u:List PV}(e:s[i]?=ax (ax (.lst m))){p:aL}{t b:List aL}{d:List V}(g:fps i=p::t)(v:σ[i]?=ax (ax (.ref p)))
  (h':Iss K H u d b) (n:(p::b).Nodup) (o:∀q∈b,q∈t\/((H0 q=aA/\UU (H q))/\∀j,q∉fps j)):Rel K O H0 (PL fps s.length i (p::b)) (s.set i (ax (.lst u))) σ (L2.upd H p (.lst d)):=by
 have f:p∈fps i:=by rw[g];exact ag
 have w:=(r.own i c p f).2;have k:=(aq.mp n).1;refine r.mutate c f v (TQ e) (Is.lst Zk (Iss.tr (TK.upd' w) _ _ _ (λq a=>RdK.upd_ne λz=>k (z▸a)) h')) n (λq a=>?_) (λj l q a z=>?_) b8
 ·rcases aa.mp a with rfl | a
  ·exact⟨(r.own i c q f).1,by rw[Zk];exact b8⟩
  ·have ne:q≠p:=λz=>k (z▸a);rw[L2.upd_ne ne];rcases o q a with h | h
   ·exact r.own i c q (by rw[g];exact aN _ h)
   ·exact h.1
 ·rcases aa.mp a with rfl | a
  ·exact r.dis i c j l q f z
  ·rcases o q a with h | h
   ·exact r.dis i c j l q (by rw[g];exact aN _ h) z
   ·exact h.2 j z
end
noncomputable def MI(s:ZG)(i:Nat):Option (List PV):=match s[i]? with | some (ax (.lst m))=>ax m | _=>aA
noncomputable def DZ:PV->Option Int
 | .int k=>ax k
 | _=>aA
noncomputable def asL:PV->Option (List PV)
 | .lst k=>ax k
 | _=>aA
theorem VJ{s:ZG}{i:Nat}{m:List PV}(h:MI s i=ax m):s[i]?=ax (ax (.lst m)):=by
 unfold MI at h;split at h
 ·cases h;assumption
 ·cases h
theorem U4{a:PV}{k:Int}(h:DZ a=ax k):a = .int k:=by
 unfold DZ at h;split at h
 ·cases h;rfl
 ·cases h
theorem Ik{a:PV}{k:List PV}(h:asL a=ax k):a = .lst k:=by
 unfold asL at h;split at h
 ·cases h;rfl
 ·cases h
noncomputable def gd(c:Bool):Option Unit:=if c=aC then ax () else aA
theorem Vj{c:Bool}{u:Unit}(h:gd c=ax u):c=aC:=by
 unfold gd at h;split at h
 ·assumption
 ·cases h
noncomputable def Yz(i:Nat)(f:XE):XS:=λs=>(f s).bind λl=>(MI s i).bind λm=>(gd (decide (m.length<=10000))).bind λ_=>ax (.nx (s.set i (ax (.lst (m++[l])))))
noncomputable def WC(i:Nat)(f:XE):XS:=λs=>(f s).bind λl=>(asL l).bind λn=>(MI s i).bind λm=>(gd (decide (m.length+n.length<=10000))).bind λ_=>ax (.nx (s.set i (ax (.lst (m++n)))))
noncomputable def TR(i:Nat)(fk:XE)(f:XE):XS:=λs=>(fk s).bind λk=>(f s).bind λl=>(DZ k).bind λk=>(MI s i).bind λm=>(gd (ZC m&&ZO l&&decide (0<=k/\k<=1000000/\m.length<=10000))).bind λ_=>ax (.nx (s.set i (ax (.lst (m.take k.toNat++l::m.drop k.toNat)))))
noncomputable def SM(i:Nat)(fk:XE)(f:XE):XS:=λs=>(f s).bind λl=>(fk s).bind λk=>(DZ k).bind λk=>(MI s i).bind λm=>(gd (ZC m&&ZO l)).bind λ_=>(J0 m.length k).map λj=>.nx (s.set i (ax (.lst (m.set j l))))
section
variable {X:Cx} {O:List Nat} {i:Nat} {st:cB} {f fk:XE}
theorem tyL{H:Hp}{p:aL}{xs:List V}(h:H p=ax (.lst xs)):tyV K "list" (.ref p) H:=.inl ⟨rfl,_,SqL.of h⟩
theorem O2{s:ZG}{a:Pw}{fps:Nat->List aL}{b:List aL}:∀j,j∉[i]->a[j]?=a[j]?/\Kep (PL fps s.length i b j) (fps j):=λj c=>⟨rfl,.inl (Ya (by simpa using c))⟩
theorem Xc(h:PS X st (F5 (tBM X.K "list" Eb (Pp i) (Q4 (tM X.K f) DJ))))(n:i∈O:=by decide):VS X O [i] st (Yz i f):=PS.imp h λD N H ⟨M,fps,s,out,r,e,k⟩=>by
 obtain⟨l,A,e⟩:=Zc e;obtain⟨m,c,e⟩:=Zc e;obtain⟨_,E,e⟩:=Zc e;have c:=VJ c;have v:=of_decide_eq_true (Vj E);cases e;obtain⟨p,xs,P,x,t,w,g⟩:=r.lst_at n c;refine⟨.ref p,x,tyL t,s,l,r.env,A,λy J L s2 F B o=>?_⟩;refine⟨p,xs,y,rfl,rfl,s2 _ _ t,by rw[w.len];exact lt_size (by omega),?_⟩;have G:=r.grow s2;have fr:=λq d j z=>r.dom j q z (o q d).1;refine k _ _ _ (G.relist n c g x ((w.mono s2).append (Iss.one F)) ?_ λq d=>?_) O2
 ·have u:=r.nd i n;rw[g] at u;exact cN.mpr ⟨u,B,λa C b I z=>fr b I i (by rw[g,<-z];exact C)⟩
 ·rcases aV.mp d with h | h
  ·exact .inl h
  ·exact .inr ⟨⟨Same.off r.same (o q h).1,(o q h).2⟩,fr q h⟩
theorem Ly(h:PS X st (F5 (tBM X.K "list" Ec (Pp i) (Q4 (tM X.K f) DJ))))(t:i∈O:=by decide):VS X O [i] st (WC i f):=PS.imp h λD T H ⟨S,fps,s,out,r,e,k⟩=>by
 obtain⟨l,w,e⟩:=Zc e;obtain⟨n,L,e⟩:=Zc e;obtain⟨m,c,e⟩:=Zc e;obtain⟨_,M,e⟩:=Zc e;rw[Ik L] at w;have c:=VJ c;have B:=of_decide_eq_true (Vj M);cases e;obtain⟨p,xs,U,F,x,E,g⟩:=r.lst_at t c;refine⟨.ref p,F,tyL x,s,_,r.env,w,λy Q R s2 N I u=>?_⟩;obtain⟨b,G,fb,rfl,v,C,rfl⟩:=N.lst_inv;have o:=v;refine⟨p,b,xs,G,rfl,rfl,s2 _ _ x,o,by rw[E.len,C.len];exact cJ (lt_size (by omega)),?_⟩;have P:=r.grow s2;have fr:=λq d j z=>r.dom j q z (u q (aN _ d)).1;refine k _ _ _ (P.relist t c g F ((E.mono s2).append C) ?_ λq d=>?_) O2
 ·have A:=r.nd i t;rw[g] at A;exact cN.mpr ⟨A,(aq.mp I).2,λa J b v z=>fr b v i (by rw[g,<-z];exact J)⟩
 ·rcases aV.mp d with h | h
  ·exact .inl h
  ·exact .inr ⟨⟨Same.off r.same (u q (aN _ h)).1,(u q (aN _ h)).2⟩,fr q h⟩
theorem Iss.pureEq{H:Hp}{l:List PV}{xs:List V}{a:List aL}(h:Iss K H l xs a)(b:ZC l=aC):Iss K H l xs []:=by have:=Iss.pure _ _ _ b h;subst this;exact h
theorem O3{l:List PV}(n:Nat)(h:ZC l=aC):ZC (l.take n)=aC:=by rw[X1,bK] at *;exact λx a=>h x (cW a)
theorem O4{l:List PV}(n:Nat)(h:ZC l=aC):ZC (l.drop n)=aC:=by rw[X1,bK] at *;exact λx a=>h x (dh a)
theorem Lz(h:PS X st (F5 (tBM X.K "list" Ef (Pp i) (Q4 (tF X.K fk) (Q4 (tF X.K f) DJ)))))(v:i∈O:=by decide):VS X O [i] st (TR i fk f):=PS.imp h λD U H ⟨T,fps,s,out,r,e,k⟩=>by obtain⟨R,o,e⟩:=Zc e;obtain⟨l,E,e⟩:=Zc e;obtain⟨g,I,e⟩:=Zc e;obtain⟨m,c,e⟩:=Zc e;obtain⟨_,L,e⟩:=Zc e;rw[U4 I] at o;have c:=VJ c;have u:=Vj L;simp only[aw,decide_eq_true_eq] at u;obtain⟨⟨n,G⟩,J,Z,w⟩:=u;cases e;obtain⟨p,xs,Y,A,t,x,F⟩:=r.lst_at v c;refine⟨.ref p,A,tyL t,λ_=>False,s,_,λ_ z=>z.elim,r.env,o,λz W P s1 M _=>⟨λ_=>False,s,l,λ_ z=>z.elim,r.env.mono s1,E,λy Q S s2 B _=>?_⟩⟩;have a:=s1.trans s2;obtain⟨rfl,_⟩:=M.int_inv;have:=Is.pure _ _ _ G B;subst this;refine⟨p,xs,g,y,rfl,rfl,a _ _ t,J,by omega,by rw[x.len];exact lt_size (by omega),?_⟩;have b:=(x.mono a).pureEq n;obtain⟨f1,d,_⟩:=b.take g.toNat;obtain⟨N,j,_⟩:=b.drop g.toNat;have d:=d.pureEq (O3 _ n);have j:=j.pureEq (O4 _ n);exact k _ _ _ ((r.grow a).relist v c F A (d.append (Iss.cons B j)) (by simp) λq C=>by simp at C) O2
theorem O5(h:PS X st (Ke (tF X.K f) (Zh2 (Pp i) (tF X.K fk) BQ)))(n:i∈O:=by decide):VS X O [i] st (SM i fk f):=PS.imp h λD Q H ⟨P,fps,s,out,r,e,k⟩=>by obtain⟨l,w,e⟩:=Zc e;obtain⟨N,c,e⟩:=Zc e;obtain⟨B,E,e⟩:=Zc e;obtain⟨m,b,e⟩:=Zc e;obtain⟨_,G,e⟩:=Zc e;rw[U4 E] at c;have b:=VJ b;have g:=Vj G;simp only[aw] at g;obtain⟨o,d⟩:=g;obtain⟨j,F,rfl⟩:=map_some e;obtain⟨p,xs,S,u,A,t,C⟩:=r.lst_at n b;refine⟨λ_=>False,s,l,λ_ z=>z.elim,r.env,w,λy R L s1 v _=>?_⟩;refine⟨.ref p,u,λ_=>False,s,_,λ_ z=>z.elim,r.env.mono s1,c,λz M J s2 I _=>?_⟩;have a:=s1.trans s2;obtain⟨rfl,_⟩:=I.int_inv;have:=Is.pure _ _ _ d v;subst this;refine⟨p,xs,B,j,rfl,rfl,a _ _ A,by rw[t.len];exact F,?_⟩;exact k _ _ _ ((r.grow a).relist n b C u (Iss.setP j o d ((t.mono a).pureEq o) (v.mono s2)) (by simp) λq x=>by simp at x) O2
end
theorem Iss.setRow{H:Hp}{o:List V}:∀{m:List PV}{xs:List V}{fq:List aL}{j:Nat}{n n':List PV}{q:aL},Iss K H m xs fq->m[j]?=ax (.lst n)->xs[j]?=ax (.ref q)->fq.Nodup->UU (H q)->ZC n=aC->Iss K (L2.upd H q (.lst o)) n' o []->
  Iss K (L2.upd H q (.lst o)) (m.set j (.lst n')) xs fq
 | [],_,_,_,_,_,_,_,e,_,_,_,_,_=>by simp at e
 | a::m,xs,fq,0,n,n',q,h,e,ex,nd,mu,pn,h'=>by obtain⟨x,r,f1,l,rfl,f,d,rfl⟩:=h.inv;simp at e ex;subst e ex;obtain⟨s,u,t,e,B,c,rfl⟩:=f.lst_inv;cases e;have:=Iss.pure _ _ _ pn c;subst this;have g:q∉l:=(aq.mp nd).1;exact Iss.cons (Is.lst Zk h') (Iss.tr (TK.upd' mu) _ _ _ (λz c=>RdK.upd_ne λe=>g (e▸c)) d)
 | a::m,xs,fq,j+1,n,n',q,h,e,ex,nd,mu,pn,h'=>by obtain⟨x,r,f1,l,rfl,f,d,rfl⟩:=h.inv;simp at e ex;obtain⟨A,k,i⟩:=cN.mp nd;obtain⟨y,C,p,w,b⟩:=d.get e;rw[ex] at p;cases p;obtain⟨s,u,t,v,_,_,rfl⟩:=w.lst_inv;cases v;have g:q∉f1:=λz=>i q z q (b q ag) rfl;exact Iss.cons (Is.tr (TK.upd' mu) _ _ _ (λz c=>RdK.upd_ne λe=>g (e▸c)) f) (Iss.setRow d e ex k mu pn h')
noncomputable def WD(i:Nat)(fa fb:XE)(f:XE):XS:=λs=>(f s).bind λl=>(fa s).bind λa=>(fb s).bind λb=>(DZ a).bind λa=>(DZ b).bind λb=>(MI s i).bind λm=>(J0 m.length a).bind λj=>(m[j]?).bind λr=>(asL r).bind λn=>
 (gd (ZC n&&ZO l)).bind λ_=>(J0 n.length b).map λc=>.nx (s.set i (ax (.lst (m.set j (.lst (n.set c l))))))
theorem TU{X:Cx}{O:List Nat}{i:Nat}{st:cB}{f fa fb:XE}(h:PS X st (Ke (tF X.K f) (Zh2 (tOp (Zih X.K) (Pp i) (tF X.K fa)) (tF X.K fb) BQ)))(x:i∈O:=by decide):VS X O [i] st (WD i fa fb f):=PS.imp h λD σ H ⟨H0,fps,s,out,r,e,k⟩=>by
 obtain⟨l,e0,e⟩:=Zc e;obtain⟨a,e1,e⟩:=Zc e;obtain⟨b,Z,e⟩:=Zc e;obtain⟨ai,ea,e⟩:=Zc e;obtain⟨bi,eb,e⟩:=Zc e;obtain⟨m,F,e⟩:=Zc e;obtain⟨j,ej,e⟩:=Zc e;obtain⟨Xp,R,e⟩:=Zc e;obtain⟨n,er,e⟩:=Zc e;obtain⟨_,eg,e⟩:=Zc e;rw[U4 ea] at e1;rw[U4 eb] at Z;rw[Ik er] at R;have F:=VJ F;have T:=Vj eg;simp only[aw] at T;obtain⟨Q,pl⟩:=T;obtain⟨c,ec,rfl⟩:=map_some e;obtain⟨p,xs,fq,W,S,N,C⟩:=r.lst_at x F;refine⟨λ_=>False,s,l,λ_ z=>z.elim,r.env,e0,λy H1 fy s1 Y _=>?_⟩;refine⟨.ref p,W,λ_=>False,s,_,λ_ z=>z.elim,r.env.mono s1,e1,λz H2 fz s2 i2 _=>?_⟩;obtain⟨rfl,_⟩:=i2.int_inv;have u:=s1.trans s2;obtain⟨q,f1,t,iq,v⟩:=(N.mono u).get R;obtain⟨o,M,fz',rfl,J,U,rfl⟩:=id iq.lst_inv;refine⟨p,xs,ai,.ref o,rfl,rfl,SqL.of (u _ _ S),?_,λ_=>False,s,_,λ_ z=>z.elim,r.env.mono u,Z,λw H3 fw G i3 _=>?_⟩
 ·unfold R9;rw[N.len,ej];exact t
 obtain⟨rfl,_⟩:=i3.int_inv;have d:=u.trans G;have L:=r.grow d;have A:o∈fps i:=by rw[C];exact aN _ (v o ag)
 have mu:=(L.own i x o A).2;have B:=G _ _ J;have:=Is.pure _ _ _ pl Y;subst this;refine⟨o,M,bi,c,rfl,rfl,B,by rw[U.len];exact ec,?_⟩;have I:=r.nd i x;rw[C] at I;have P:o≠p:=λz=>(aq.mp I).1 (z▸v o ag);have g:Iss X.K (L2.upd H3 o (.lst (M.set c y))) (n.set c l) (M.set c y) []:=Iss.tr (TK.upd' mu) _ _ _ (λq t=>by simp at t) (Iss.setP c Q pl ((U.mono G).pureEq Q) (Y.mono (s2.trans G)));have E:=Iss.setRow (N.mono d) R t (aq.mp I).2 mu Q g;refine k _ _ _ (L.mutate x A W (TQ F) (Is.lst (by rw[L2.upd_ne (bX P)];exact d _ _ S) E) I (λq t=>?_) (λj hj q t z=>r.dis i x j hj q (by rw[C];exact t) z) b8) O2;refine⟨(r.own i x q (by rw[C];exact t)).1,?_⟩;by_cases e:q=o
 ·subst e;rw[Zk];exact b8
 ·rw[L2.upd_ne e];exact(L.own i x q (by rw[C];exact t)).2
noncomputable def Zi7(i:Nat)(g:PV->PV->Option PV)(f:XE):XS:=λs=>match s[i]? with | some (ax a)=>(f s).bind λb=>(g a b).map λl=>.nx (s.set i (ax l)) | _=>aA
theorem Zea{X:Cx}{O:List Nat}{i:Nat}{st:cB}{f:XE}{g:Int->Int->Int}(h:PS X st (Zkt i (tF X.K f) (ipI g))):VS X O [i] st (Zi7 i (gI g) f):=PS.imp h λD C H ⟨B,fps,s,out,r,e,k⟩=>by
 unfold Zi7 at e;split at e
 case h_2=>cases e
 rename_i a ea;obtain⟨b,o,e⟩:=Zc e;obtain⟨l,d,rfl⟩:=map_some e;obtain⟨m,n,rfl,rfl,rfl⟩:=Ek d;obtain⟨v,u,t⟩:=r.is i _ ea;refine⟨v,u,λ_=>False,s,_,λ_ z=>z.elim,r.env,o,λy w A s1 x _=>⟨m,n,t.int_inv.1,x.int_inv.1,?_⟩⟩;refine k _ _ w ((r.grow s1).set (Is.int _) (λ_=>⟨cH,λp c=>by simp at c⟩) λj _ _ p c=>by simp at c) λj q=>?_;have:j≠i:=by simpa using q
 exact⟨by rw[bW,pW (bX this)],.inl (Ya this)⟩
noncomputable def Eu(T:Tgt)(f:XE):XS:=λs=>(f s).bind λl=>if ZO l=aC then(Xg T l s).map .nx else aA
theorem Zeb{X:Cx}{O:List Nat}{st:cB}{f:XE}{T:Tgt}(h:PS X st (Ke (tF X.K f) (gT X.K T)))(d:∀i∈T.slots,i∉O:=by decide):VS X O T.slots st (Eu T f):=PS.imp h λD u H ⟨C,fps,s,out,r,e,k⟩=>by
 obtain⟨l,g,e⟩:=Zc e;split at e
 case isFalse=>cases e
 rename_i o;obtain⟨E,c,rfl⟩:=map_some e;refine⟨λ_=>False,s,l,λ_ z=>z.elim,r.env,g,λv w y s1 b _=>?_⟩;have:=Is.pure _ _ _ o b;subst this;obtain⟨ls,vs,fs,rfl,t,m,sub,a⟩:=Kz b c;obtain⟨q,x,n⟩:=Rel.setAll (r.grow s1) t m d λj B p A z=>by have:=sub p z;simp at this
 exact a u D.nx (k q _ w x n)
end VL
namespace VL
open PySem PySem.Spec PyProof.Rows L2
variable {K:aH}
noncomputable def MS:PV->Option Y8
 | .int i=>ax (.inl i)
 | .str x=>ax (.inr x)
 | _=>aA
noncomputable def LA:List PV->Option (List Y8)
 | []=>ax []
 | a::r=>(MS a).bind λk=>(LA r).map (k::·)
noncomputable def MT:PV->Option (List Y8)
 | .tup l=>LA l
 | _=>aA
theorem Oc{H:Hp}{a:PV}{k:Y8}{v:V}{b:List aL}(e:MS a=ax k)(h:Is K H a v b):v=kV k/\b=[]:=by
 cases a with
 | int i=>cases e;exact h.int_inv
 | str x=>cases e;exact h.str_inv
 | _=>cases e
theorem Il{H:Hp}:∀{l:List PV}{ks:List Y8}{xs:List V}{fp:List aL},LA l=ax ks->Iss K H l xs fp->xs=ks.map kV/\fp=[]
 | [],ks,xs,fp,e,h=>by cases e;simpa only[fX,Iss] using h
 | a::r,ks,xs,fp,e,h=>by obtain⟨k,f,e⟩:=Zc (show(MS a).bind (λk=>(LA r).map (k::·))=ax ks from e);obtain⟨j,d,rfl⟩:=map_some e;obtain⟨x,g,f1,i,rfl,b,c,rfl⟩:=h.inv;obtain⟨rfl,rfl⟩:=Oc f b;obtain⟨rfl,rfl⟩:=Il d c;exact⟨rfl,rfl⟩
theorem Ew{H:Hp}{a:PV}{k:List Y8}{v:V}{d:List aL}(e:MT a=ax k)(h:Is K H a v d):∃b,v = .ref b/\H b=ax (.tup (k.map kV)):=by
 cases a with
 | tup l=>
  obtain⟨p,xs,rfl,f,c⟩:=h.tup_inv;obtain⟨rfl,_⟩:=Il (e) c;exact⟨p,rfl,f⟩
 | _=>cases e
section
variable {κ:Type} [DecidableEq κ]
noncomputable def Vt(ks:List κ)(vs:List PV)(k:κ):Option PV:=((ks.zip vs).find? λz=>decide (z.1=k)).map (·.2)
noncomputable def Q6(ks:List κ)(k:κ):List κ:=if k∈ks then ks else ks++[k]
noncomputable def Q7(ks:List κ)(vs:List PV)(k:κ)(v:PV):List PV:=if k∈ks then(ks.zip vs).map λz=>if z.1=k then v else z.2 else vs++[v]
theorem O6{H:Hp}:∀{p4:List (κ×V)}{l:List PV}{fq:List aL}(k:κ),Iss K H l (p4.map (·.2)) fq->
  (Vt (p4.map (·.1)) l k=aA/\S7 p4 k=aA)\/∃a x f,Vt (p4.map (·.1)) l k=ax a/\S7 p4 k=ax x/\Is K H a x f/\∀p∈f,p∈fq
 | [],l,fq,k,h=>.inl ⟨by unfold Vt;simp,rfl⟩
 | kv::r,[],fq,k,h=>by have:=h.len;simp at this
 | kv::r,a::l,fq,k,h=>by
  obtain⟨x,t,f1,s,e,n,m,rfl⟩:=h.inv;cases e;by_cases c:kv.1=k
  ·refine .inr ⟨a,kv.2,f1,?_,S8 c,n,λp d=>ao _ d⟩;unfold Vt;rw[af,dG,c9];simp[c]
  ·have g:Vt ((kv::r).map (·.1)) (a::l) k=Vt (r.map (·.1)) l k:=by unfold Vt;rw[af,dG,c9];simp[c]
   rw[g,S9 c];rcases O6 (l:=l) k m with z | ⟨b,y,f,q,o,i,j⟩
   ·exact .inl z
   ·exact .inr ⟨b,y,f,q,o,i,λp d=>ah _ (j p d)⟩
theorem any_mem{a:List (κ×V)}{k:κ}:(a.any λb=>decide (b.1=k))=aC↔k∈a.map (·.1):=by simp
theorem Ex{a:List (κ×V)}{k:κ}{x:V}:(UQ a k x).map (·.1)=Q6 (a.map (·.1)) k:=by
 unfold UQ Q6;by_cases h:k∈a.map (·.1)
 ·rw[p9 (any_mem.mpr h),p9 h,bZ];apply au;intro z _;show(if z.1=k then(z.1,x) else z).1=z.1;split<;>rfl
 ·rw[pW (λz=>h (any_mem.mp z)),pW h,ay];rfl
theorem Ey{H:Hp}{c:List (κ×V)}{l:List PV}{k:κ}{a:PV}{x:V}(h:Iss K H l (c.map (·.2)) [])(f:ZC l=aC)(i:Is K H a x [])(s:ZO a=aC):Iss K H (Q7 (c.map (·.1)) l k a) ((UQ c k x).map (·.2)) []:=by
 unfold UQ Q7;by_cases d:k∈c.map (·.1)
 ·rw[p9 (any_mem.mpr d),p9 d];clear d
  induction c generalizing l with
  | nil=>
   have:=h.len
   cases l with
   | nil=>exact Iss.nil
   | cons _ _=>simp at this
  | cons kv r g=>
   cases l with
   | nil=>have:=h.len;simp at this
   | cons b l=>
    obtain⟨y,t,f1,q,e,m,j,p⟩:=h.inv;cases e;simp only[ZC,aw] at f;have o:=Is.pure _ _ _ f.1 m;have n:=Iss.pure _ _ _ f.2 j;subst o n;have g:=g j f.2;rw[af,dG,af,af];by_cases e:kv.1=k
    ·rw[p9 e,p9 e];exact Iss.cons i g
    ·rw[pW e,pW e];exact Iss.cons m g
 ·rw[pW (λz=>d (any_mem.mp z)),pW d,ay];exact h.append (Iss.one i)
end
noncomputable def UM:PV->PV->Option PV
 | .dK ks vs,k=>(MS k).bind λk=>Vt ks vs k
 | .dT ks vs,k=>(MT k).bind λk=>Vt ks vs k
 | _,_=>aA
noncomputable def dIn:PV->PV->Option Bool
 | .dK ks vs,k=>(MS k).map λk=>(Vt ks vs k).isSome
 | .dT ks vs,k=>(MT k).map λk=>(Vt ks vs k).isSome
 | _,_=>aA
theorem KA{H:Hp}{d k:PV}{x y:V}{B C:List aL}(hd:Is K H d x B)(A:Is K H k y C){b:Bool}(e:dIn d k=ax b):∃a o,x = .ref a/\J4 H a y o/\o.isSome=b/\((UM d k=aA/\o=aA)\/∃c v f,UM d k=ax c/\o=ax v/\Is K H c v f/\∀p∈f,p∈B):=by
 cases d with
 | dK ks vs=>
  obtain⟨g,l,rfl⟩:=map_some (e);obtain⟨p,h,D,rfl,s,rfl,m,rfl⟩:=hd.dK_inv;obtain⟨rfl,_⟩:=Oc l A;refine⟨p,S7 h g,rfl,.inl ⟨h,g,s,rfl,rfl⟩,?_,?_⟩
  ·rcases O6 g m with⟨j,i⟩ | ⟨a,v,f,j,i,_⟩<;>rw[j,i]<;>rfl
  ·show(UM (.dK _ vs) k=aA/\_)\/_;have w:UM (.dK (h.map (·.1)) vs) k=Vt (h.map (·.1)) vs g:=by show(MS k).bind _=_;rw[l];rfl
   rw[w];rcases O6 g m with z | ⟨a,v,f,j,i,t,u⟩
   ·exact .inl z
   ·exact .inr ⟨a,v,f,j,i,t,λq n=>aN _ (u q n)⟩
 | dT ks vs=>
  obtain⟨g,l,rfl⟩:=map_some (e);obtain⟨p,h,D,rfl,s,rfl,m,rfl⟩:=hd.dT_inv;obtain⟨b,rfl,E⟩:=Ew l A;refine⟨p,S7 h g,rfl,.inr ⟨h,g,b,s,rfl,E,rfl⟩,?_,?_⟩
  ·rcases O6 g m with⟨j,i⟩ | ⟨a,v,f,j,i,_⟩<;>rw[j,i]<;>rfl
  ·have w:UM (.dT (h.map (·.1)) vs) k=Vt (h.map (·.1)) vs g:=by show(MT k).bind _=_;rw[l];rfl
   rw[w];rcases O6 g m with z | ⟨a,v,f,j,i,t,u⟩
   ·exact .inl z
   ·exact .inr ⟨a,v,f,j,i,t,λq n=>aN _ (u q n)⟩
 | _=>cases e
theorem Zec{d k c:PV}(h:UM d k=ax c):dIn d k=ax aC:=by
 cases d with
 | dK ks vs=>
  obtain⟨b,e,a⟩:=Zc (h);show(MS k).map _=_;rw[e];show ax ((Vt ks vs b).isSome)=_;rw[a];rfl
 | dT ks vs=>
  obtain⟨b,e,a⟩:=Zc (h);show(MT k).map _=_;rw[e];show ax ((Vt ks vs b).isSome)=_;rw[a];rfl
 | _=>cases h
section
variable {X:Cx} {o i e f:bO} {fd fk fx:XE} {pos apos p5:dw}
theorem Aq:∀g H Q,tF K (Zm UM fd fk) g H Q->Zg3 (tF K fd) (tF K fk) g H Q:=λg H Q ⟨i,s,l,hd,env,e,k⟩=>by
 obtain⟨d,t,m,j,b⟩:=VD e;refine⟨i,s,d,hd,env,m,λx G f1 s1 A w=>⟨i,s,t,λp f=>Same.mut s1 (hd p f),env.mono s1,j,λy u D s2 B F=>?_⟩⟩;obtain⟨a,E,rfl,q,_,h⟩:=KA (A.mono s2) B (Zec b);rcases h with⟨z,_⟩ | ⟨c,v,fv,C,rfl,n,o⟩
 ·rw[z] at b;cases b
 ·rw[C] at b;cases b;exact⟨a,v,rfl,q,k v u fv (s1.trans s2) n λp f=>w p (o p f)⟩
theorem Ez(d:X.A.units+1<dz)(c:VE X o fd)(a:VE X i fk)(b:Zim i:=by exact λ_ _=>rfl):VE X (.Subscript o i pos) (Zm UM fd fk):=PE.imp (Zdq d c a b) Aq
noncomputable def Zed(neg:Bool)(fk fd:XE):XE:=λs=>(fk s).bind λk=>(fd s).bind λd=>(dIn d k).map λb=>.bl (if neg then !b else b)
theorem Gs:∀f H Q,tF K (Zed aC fk fd) f H Q->Ed (tF K fk) (tF K fd) f H Q:=λf H Q ⟨g,s,l,hd,env,e,k⟩=>by obtain⟨n,i,e⟩:=Zc e;obtain⟨d,h,e⟩:=Zc e;obtain⟨b,q,rfl⟩:=map_some e;refine⟨g,s,n,hd,env,i,λy z f1 s1 t A=>⟨g,s,d,λp c=>Same.mut s1 (hd p c),env.mono s1,h,λx o v s2 u w=>?_⟩⟩;obtain⟨a,m,rfl,j,rfl,_⟩:=KA u (t.mono s2) q;exact⟨a,m,rfl,j,k _ o [] (s1.trans s2) (Is.bl _) λp c=>by simp at c⟩
theorem D3(d:X.A.units+1<dz)(b:VE X i fk)(c:VE X o fd)(e:cY .NotIn o=aB:=by with_unfolding_all rfl):VT X (.Compare i [.NotIn] [o] pos) (xB (Zed aC fk fd)):=PT.imp (HV (DO d b c) e) λa H Q h=>Kt Gs a H Q (Ah a H Q h)
noncomputable def O7(fd fk fx:XE):XE:=λs=>(fd s).bind λd=>(fk s).bind λk=>(fx s).bind λx=>(dIn d k).bind λb=>if b=aC then UM d k else ax x
theorem D4:∀m H Q,tF K (O7 fd fk fx) m H Q->B1 (tF K fd) (tF K fk) (tF K fx) m H Q:=λm H Q ⟨j,s,l,hd,env,e,k⟩=>by
 obtain⟨d,B,e⟩:=Zc e;obtain⟨J,A,e⟩:=Zc e;obtain⟨S,L,e⟩:=Zc e;obtain⟨b,t,e⟩:=Zc e;refine⟨j,s,d,hd,env,B,λx N f1 s1 n O=>?_⟩
 have g:∃a,x = .ref a/\IsD N a:=by
  cases d with
  | dK ks vs=>obtain⟨p,i,P,rfl,f,_⟩:=n.dK_inv;exact⟨p,rfl,.inl ⟨i,f⟩⟩
  | dT ks vs=>obtain⟨p,i,P,rfl,f,_⟩:=n.dT_inv;exact⟨p,rfl,.inr ⟨i,f⟩⟩
  | _=>cases t
 obtain⟨a,rfl,g⟩:=g;refine⟨a,rfl,g,j,s,J,λp f=>Same.mut s1 (hd p f),env.mono s1,A,λy U T s2 R X=>⟨j,s,S,λp f=>Same.mut (s1.trans s2) (hd p f),env.mono (s1.trans s2),L,λz q F h E M=>?_⟩⟩;obtain⟨W,I,ea,G,u,o⟩:=KA (n.mono (s2.trans h)) (R.mono h) t;cases ea;refine⟨I,G,?_⟩;rcases o with⟨w,rfl⟩ | ⟨c,v,fv,w,rfl,C,D⟩
 ·have:b=aB:=u.symm;subst this;rw[pW bx] at e;cases e;exact k z q F (s1.trans (s2.trans h)) E M
 ·have:b=aC:=u.symm;subst this;rw[p9 rfl,w] at e;cases e;exact k v q fv (s1.trans (s2.trans h)) C λp f=>O p (D p f)
theorem Ar(b:X.A.units+1<dz)(a:VE X o fd)(d:VE X e fk)(c:VE X f fx)(m:M2 X o "get" apos e f p5:=by exact⟨rfl,rfl,rfl,rfl⟩):VE X (.Call (.Attribute o "get" apos) [e,f] [] p5) (O7 fd fk fx):=
 PE.imp (B2 b a d c m) D4
end
noncomputable def As(d k v:PV):Option PV:=match d with
 | .dT ks vs=>(gd (ZC vs&&ZO v&&decide (ks.length<=10000))).bind λ_=>(MT k).map λk=>.dT (Q6 ks k) (Q7 ks vs k v)
 | .dK ks vs=>(gd (ZC vs&&ZO v&&decide (ks.length<=10000))).bind λ_=>(MS k).map λk=>.dK (Q6 ks k) (Q7 ks vs k v)
 | _=>aA
noncomputable def sDPut(i:Nat)(fk fv:XE):XS:=λs=>(fv s).bind λv=>(fk s).bind λk=>((s[i]?).join).bind λd=>(As d k v).map λd=>.nx (s.set i (ax d))
theorem EA{X:Cx}{O:List Nat}{i:Nat}{st:cB}{U fv:XE}(h:PS X st (L2.sDPut (Pp i) (tF X.K U) (tF X.K fv)))(l:i∈O:=by decide):VS X O [i] st (sDPut i U fv):=PS.imp h λD σ H ⟨H0,fps,s,out,r,e,k⟩=>by
 obtain⟨v,T,e⟩:=Zc e;obtain⟨W,S,e⟩:=Zc e;obtain⟨d,t,e⟩:=Zc e;obtain⟨d',n,rfl⟩:=map_some e;have t:=Lv t
 cases d with
 | dT ks vs=>
  obtain⟨_,N,n⟩:=Zc (n);have x:=Vj N;simp only[aw,decide_eq_true_eq] at x;obtain⟨⟨o,w⟩,g⟩:=x;obtain⟨G,L,rfl⟩:=map_some n;obtain⟨p,J,fq,B,F,rfl,A,u⟩:=r.dT_at l t;refine⟨λ_=>False,s,v,λ_ z=>z.elim,r.env,T,λy H1 Z s1 C _=>⟨.ref p,B,λ_=>False,s,W,λ_ z=>z.elim,r.env.mono s1,S,λz H2 Y s2 P _=>?_⟩⟩;have a:=s1.trans s2;obtain⟨b,rfl,hb⟩:=Ew L P;have R:=Is.pure _ _ _ w C;subst R;have m:=(A.mono a).pureEq o;have M:=Iss.pure _ _ _ o A;subst M;have E:=r.grow a;have c:p∈fps i:=by rw[u];exact ag
  have Q:=(E.own i l p c).2;refine⟨p,_,rfl,.inr ⟨J,G,b,a _ _ F,rfl,hb,by rw[<-aJ (·.1)];exact lt_size g,rfl⟩,?_⟩;refine k _ _ _ (E.mutate l c B (TQ t) (Is.dT Zk Ex (Iss.tr (TK.upd' Q) _ _ _ (λq f=>by simp at f) (Ey m o (C.mono s2) w))) (by simp) (λq f=>?_) (λj I q f z=>r.dis i l j I q (by rw[u];exact f) z) b8) O2;rw[aM.mp f];exact⟨(r.own i l p c).1,by rw[Zk];exact b8⟩
 | dK ks vs=>
  obtain⟨_,N,n⟩:=Zc (n);have x:=Vj N;simp only[aw,decide_eq_true_eq] at x;obtain⟨⟨o,w⟩,g⟩:=x;obtain⟨G,L,rfl⟩:=map_some n;obtain⟨p,J,fq,B,F,rfl,A,u⟩:=r.dK_at l t;refine⟨λ_=>False,s,v,λ_ z=>z.elim,r.env,T,λy H1 Z s1 C _=>⟨.ref p,B,λ_=>False,s,W,λ_ z=>z.elim,r.env.mono s1,S,λz H2 Y s2 P _=>?_⟩⟩;have a:=s1.trans s2;obtain⟨rfl,_⟩:=Oc L P;have R:=Is.pure _ _ _ w C;subst R;have m:=(A.mono a).pureEq o;have M:=Iss.pure _ _ _ o A;subst M;have E:=r.grow a;have c:p∈fps i:=by rw[u];exact ag
  have Q:=(E.own i l p c).2;refine⟨p,_,rfl,.inl ⟨J,G,a _ _ F,rfl,by rw[<-aJ (·.1)];exact lt_size g,rfl⟩,?_⟩;refine k _ _ _ (E.mutate l c B (TQ t) (Is.dK Zk Ex (Iss.tr (TK.upd' Q) _ _ _ (λq f=>by simp at f) (Ey m o (C.mono s2) w))) (by simp) (λq f=>?_) (λj I q f z=>r.dis i l j I q (by rw[u];exact f) z) b8) O2;rw[aM.mp f];exact⟨(r.own i l p c).1,by rw[Zk];exact b8⟩
 | _=>cases n
end VL
namespace VL
open PySem PySem.Spec PyProof.Rows L2
variable {K:aH}
section
variable {X:Cx} {a b c d:bO} {fa fb fc fd:XE} {pos:dw}
theorem Im(e:X.A.units+64<dz)(c:VE X a fa)(d:VE X b fb):VE X (.Compare a [.Eq] [b] pos) (Zm (Xz aB) fa fb):=Kp (Al e) (Gp aB) c d (UX _)
theorem Rv(e:X.A.units+64<dz)(c:VE X a fa)(d:VE X b fb):VT X (.Compare a [.Eq] [b] pos) (xB (Zm (Xz aB) fa fb)):=SF (Al e) (Gp aB) c d (UX _)
theorem VN(e:X.A.units+64<dz)(c:VE X a fa)(d:VE X b fb):VT X (.Compare a [.NotEq] [b] pos) (xB (Zm (Xz aC) fa fb)):=SF (Zi3 e) (Gp aC) c d (UX _)
theorem Au(f:X.A.units+64<dz)(c:VE X a fa)(e:VE X b fb)(d:cY .In b=aB:=by with_unfolding_all rfl):VE X (.Compare a [.In] [b] pos) (Zm (PF aB) fa fb):=Kp (Am f) (Gq aB) c e d
theorem Av(f:X.A.units+64<dz)(c:VE X a fa)(e:VE X b fb)(d:cY .In b=aB:=by with_unfolding_all rfl):VT X (.Compare a [.In] [b] pos) (xB (Zm (PF aB) fa fb)):=SF (Am f) (Gq aB) c e d
theorem O8(f:X.A.units+64<dz)(c:VE X a fa)(e:VE X b fb)(d:cY .NotIn b=aB:=by with_unfolding_all rfl):VT X (.Compare a [.NotIn] [b] pos) (xB (Zm (PF aC) fa fb)):=SF (DT f) (Gq aC) c e d
noncomputable def blO:PV->Option Bool
 | .bl c=>ax c
 | _=>aA
theorem Aw{a:PV}{k:Bool}(h:blO a=ax k):a = .bl k:=by
 unfold blO at h;split at h
 ·cases h;rfl
 ·cases h
noncomputable def eCh(g h:PV->PV->Option PV)(a b c:XE):XE:=λs=>(a s).bind λx=>(b s).bind λy=>((g x y).bind blO).bind λk=>if k=aC then(c s).bind λz=>h y z else ax (.bl aB)
theorem Ax{r D:R2}{g h:PV->PV->Option PV}(N:RB K r g)(f:RB K D h):∀n H Q,tF K (eCh g h fa fb fc) n H Q->BK r D (tF K fa) (tF K fb) (tF K fc) n H Q:=λn H Q ⟨m,s,l,hd,env,e,k⟩=>by
 obtain⟨A,G,e⟩:=Zc e;obtain⟨j,E,e⟩:=Zc e;obtain⟨b,d,e⟩:=Zc e;obtain⟨z',d,Y⟩:=Zc d;rw[Aw Y] at d;refine⟨m,s,A,hd,env,G,λx H1 f1 s1 W n1=>⟨m,s,j,λp c=>Same.mut s1 (hd p c),env.mono s1,E,λy P t s2 B T=>?_⟩⟩;refine N P x y A j _ f1 t (W.mono s2) B d _ λv L fp C M n3=>⟨b,M.bl_inv.1,?_⟩;have a:=s1.trans (s2.trans C)
 cases b with
 | false=>
  rw[pW bx] at e ⊢;cases e;exact k _ L [] a (Is.bl _) λp c=>by simp at c
 | true=>
  rw[p9 rfl] at e ⊢;obtain⟨u,X,e⟩:=Zc e;refine⟨m,s,u,λp c=>Same.mut a (hd p c),env.mono a,X,λw S R i J Z=>?_⟩;refine f S y w j u l t R (B.mono (C.trans i)) J e Q λv U o I F O=>k v U o (a.trans (i.trans I)) F λp c z=>?_;rcases O p c with q | q | q
  ·exact T p q z
  ·exact Z p q z
  ·exact Xn (Same.mut (a.trans i) (hd p z)) q
theorem Ay{op d:nK}{r i:R2}{g h:PV->PV->Option PV}(l:TH X (dH op) r)(e:TH X (dH d) i)(m:RB X.K r g)(f:RB X.K i h)(j:VE X a fa)(n:VE X b fb)(k:VE X c fc)
  (o:lastMarks [op,d] [b,c]=aB:=by with_unfolding_all rfl):VE X (.Compare a [op,d] [b,c] pos) (eCh g h fa fb fc):=PE.imp (BL l e j n k o) (Ax m f)
end
section
variable {X:Cx} {a b:bO} {fa fb:XE} {pos:dw}
noncomputable def Az:PV->PV->Option PV
 | .lst m,.lst n=>if m.length+n.length<=10000 then ax (.lst (m++n)) else aA
 | _,_=>aA
noncomputable def LB:PV->PV->Option PV
 | .lst m,.lst n=>if m.length+n.length<=10000/\ZC m=aC/\ZC n=aC then ax (.lst (m++n)) else aA
 | _,_=>aA
theorem KC(w:VE X a fa)(E:VE X b fb):VM X (.BinOp a .Add b pos) (Zm LB fa fb):=PE.imp (F6 BU w E) λJ H Q ⟨s,l,env,e,k⟩=>by
 obtain⟨j,i,t,o,e⟩:=VD e;refine⟨λ_=>False,s,j,λ_ z=>z.elim,env,t,λx L f1 s1 C _=>⟨λ_=>False,s,i,λ_ z=>z.elim,env.mono s1,o,λy I G s2 D _=>?_⟩⟩
 cases j with
 | lst m=>cases i with
  | lst n=>
   have e:(if m.length+n.length<=10000/\ZC m=aC/\ZC n=aC then ax (PV.lst (m++n)) else aA)=ax l:=e;split at e
   case isFalse=>cases e
   rename_i f;cases e;obtain⟨p,xs,M,rfl,v,h,rfl⟩:=C.lst_inv;obtain⟨u,B,F,rfl,g,c,rfl⟩:=D.lst_inv;refine⟨p,u,xs,B,rfl,rfl,s2 _ _ v,g,by rw[h.len,c.len];exact cJ (lt_size f.1),λq d=>?_⟩;refine k _ _ [q] (s1.trans (s2.trans (Same.new d _))) (Is.lst Zk ((((h.mono s2).pureEq f.2.1).append (c.pureEq f.2.2)).mono (Same.new d _))) (by simp) λr A=>?_;rw[aM.mp A];exact⟨Same.off (s1.trans s2) d,by rw[Zk];exact b8⟩
  | _=>cases e
 | _=>cases e
noncomputable def Gu:PV->PV->Option PV
 | .lst m,.int k=>if ZC m=aC/\-1000000<=k/\k<=1000000/\m.length*k.toNat<=10000 then ax (.lst (aS k.toNat m).flatten) else aA
 | _,_=>aA
theorem Iss.rep{H:Hp}{m:List PV}{xs:List V}(h:Iss K H m xs []):∀k:Nat,Iss K H (aS k m).flatten (aS k xs).flatten []
 | 0=>Iss.nil
 | k+1=>by rw[dS,dS,gL,gL];exact h.append (Iss.rep h k)
theorem Gv(t:VE X a fa)(A:VE X b fb):VM X (.BinOp a .Mult b pos) (Zm Gu fa fb):=PE.imp (F6 Zil t A) λD H Q ⟨s,l,env,e,k⟩=>by
 obtain⟨h,g,j,i,e⟩:=VD e;refine⟨λ_=>False,s,h,λ_ z=>z.elim,env,j,λx E f1 s1 v _=>⟨λ_=>False,s,g,λ_ z=>z.elim,env.mono s1,i,λy C B s2 w _=>?_⟩⟩
 cases h with
 | lst m=>cases g with
  | int n=>
   have e:(if ZC m=aC/\-1000000<=n/\n<=1000000/\m.length*n.toNat<=10000 then ax (PV.lst (aS n.toNat m).flatten) else aA)=ax l:=e;split at e
   case isFalse=>cases e
   rename_i d;cases e;obtain⟨p,xs,F,rfl,o,f,rfl⟩:=v.lst_inv;refine⟨p,n,xs,rfl,w.int_inv.1,s2 _ _ o,by omega,by omega,by rw[f.len];exact cJ (lt_size d.2.2.2),λq c=>?_⟩;refine k _ _ [q] (s1.trans (s2.trans (Same.new c _))) (Is.lst Zk ((Iss.rep ((f.mono s2).pureEq d.1) n.toNat).mono (Same.new c _))) (by simp) λr u=>?_;rw[aM.mp u];exact⟨Same.off (s1.trans s2) c,by rw[Zk];exact b8⟩
  | _=>cases e
 | _=>cases e
end
theorem Iss.fps{H:Hp}:∀{ls:List PV}{vs:List V}{fp:List aL},Iss K H ls vs fp->∃fps:Nat->List aL,(∀(i:Nat) l,ls[i]?=ax l->∃v,vs[i]?=ax v/\Is K H l v (fps i))/\∀i,ls.length<=i->fps i=[]
 | [],vs,fp,h=>⟨λ_=>[],λi l e=>by simp at e,λ_ _=>rfl⟩
 | a::ls,vs,fp,h=>by
  obtain⟨x,r,f1,j,rfl,d,f,rfl⟩:=h.inv;obtain⟨fps,g,p2⟩:=f.fps;refine⟨λi=>match i with | 0=>f1 | k+1=>fps k,λi l e=>?_,λi c=>?_⟩
  ·cases i with
   | zero=>simp at e;subst e;exact⟨x,rfl,d⟩
   | succ k=>
    obtain⟨v,a,b⟩:=g k l (by simpa using e);exact⟨v,by simpa using a,b⟩
  ·cases i with
   | zero=>simp at c
   | succ k=>exact p2 k (by simpa using c)
noncomputable def ZP(m:Nat)(ls:List PV):ZG:=ls.map ax++aS (m-ls.length) aA
noncomputable def U5:Out->Option PV
 | .rt v=>ax v
 | .nx _=>ax .non
 | _=>aA
noncomputable def YF(m:Nat)(f:XS):List PV->Option PV:=λls=>(f (ZP m ls)).bind U5
theorem EB{N:List bH}{n:Nat}{O W:List Nat}{f:XS}{vs:List V}{H:Hp}{Q:VK}{E:XK}(w:∀i∈O,n<=i)(h:Y5 K (YF N.length f) n vs H Q E):tFS K O W f { nx:=λ_ o=>Q .non o,rt:=Q } (L2.start N vs) H:=by
 obtain⟨I,ls,y,l,g,e,q⟩:=h;obtain⟨out,A,t⟩:=Zc e;obtain⟨fps,C,p2⟩:=g.fps;have k:=g.len
 have s:∀i:Nat,ls.length<=i->∀l,(ZP N.length ls)[i]?≠ax (ax l):=λi g l z=>by
  unfold ZP at z;rw[bA (by simpa using g),b7] at z;split at z<;>cases z
 have x:Rel K O H fps (ZP N.length ls) (L2.start N vs) H:=by
  refine⟨Same.refl H,?_,λi a z=>?_,λi u=>?_,λi g=>?_,λi g p m=>?_,λi g j J p m=>?_⟩
  ·unfold ZP L2.start;simp[k]
  ·by_cases c:i<ls.length
   ·unfold ZP at z;rw[aj (by simpa using c),aX] at z
    cases q:ls[i]? with
    | none=>rw[q] at z;cases z
    | some b=>
     rw[q] at z;cases z;obtain⟨v,B,b1⟩:=C i a q;refine⟨v,?_,b1⟩;unfold L2.start;rw[aj (by simpa [k] using c),aX,B];rfl
   ·exact absurd z (s i (by omega) a)
  ·by_cases c:i<ls.length
   ·exact absurd (by unfold ZP;rw[aj (by simpa using c),aX,aE c];rfl) (u ls[i])
   ·exact p2 i (by omega)
  ·rw[p2 i (by have:=w i g;omega)];exact cH
  ·rw[p2 i (by have:=w i g;omega)] at m;simp at m
  ·rw[p2 i (by have:=w i g;omega)] at m;simp at m
 refine⟨H,fps,ZP N.length ls,out,x,A,?_⟩
 cases out with
 | nx s'=>
  cases t;exact λL G o F _=>q .non o [] F.same Is.non cH λp m=>by simp at m
 | rt v=>
  cases t;exact λv y o D i d n=>q v o y D i d n
 | bk s'=>cases t
 | ct s'=>cases t
section
variable {P:bM} {w:bc} {mg:bH->Option aI} {base:ba}
theorem KD{x:bH}{st:cB}{N d:List bH}{k n:Nat}{O W:List Nat}(m:Nat)(f:XS)(D:Def K mg x st)(S:Zq N d (Zf st))
  (p:∀(kV doc pm:aI)(an:Option aL)(b ct:aI)(us:List aI),us.length=d.length->j4 (dO x x (Xm st) (Yy st) (Zf st) .none kV doc pm an b ct) ⟨us,[]⟩=pure (d.zip us))
  (o:d.length=n) (l:N.length=m) (j:∀i∈O,n<=i)
  (c:∀(e:aL)(b:aI)(A:bq)(a:List ma)(s:aO)(H:Hp)(E:XK),Room k (A.deeper (iZ x (Zf st) s.heap.objs.size e b))->VSs (OC J6 P w K mg base N x (Zf st) e b A a s H E).nox O W (Yy st) f) :
  Xi P w K mg base x d (Y5 K (YF m f) n) (k+1):=by
 subst l;refine D.cal S p (λvs H Q E h=>by rw[o];exact h.1) λe b A a s H vs Q E g h=>⟨_,c e b A a s H E g,EB j h⟩
end
end VL
namespace VL
open PySem PySem.Spec PyProof.Rows L2
variable {K:aH}
section
variable {X:Cx} {O:List Nat} {tg elt iter:bO} {ifs:List bO} {scope:gC} {pos:dw} {fi:XL} {T:Tgt} {ft:XT} {fe:XE}
theorem Uj(own fr:List bH)(e:List Nat){i:Nat}{y:bH}{g b:dw}(o:X.N.Nodup)(p:X.N[i]?=ax y)(d:X.env.scope.names.lookup y=ax .local)(c:X.calm=aC)(l:VI X tg iter fi)(S:Ue X.N X.env.scope scope own fr e=aC)
  (m:∀cl C s H a,PG (ZI X (own++fr) scope cl C s H a) tg (gT X.K T)) (k:∀cl C s H a,VTs (ZI X (own++fr) scope cl C s H a) ifs ft) (j:∀cl C s H a,VM (ZI X (own++fr) scope cl C s H a) elt fe)
  (h:∀i∈T.slots,i<own.length:=by decide)
  (f:iC (.ListComp elt [⟨tg,iter,ifs,0⟩] scope pos) (ax (.Name y g)) b.line X.env=pure aC:=by rfl)
  (n:∀x,cK iter X.env x=pure x:=by intro _;rfl):VS X O [i] (.Assign [.Name y g] (.ListComp elt [⟨tg,iter,ifs,0⟩] scope pos) b) (Zs i (Zw own.length e fi T ft fe)):=
 PS.imp (B6 own fr e o p d c l S m (λcl C s H a=>(show Bw (ZI X (own++fr) scope cl C s H a) ifs (HR X.K ft) from k cl C s H a)) (λcl C s H a=>(show PE (ZI X (own++fr) scope cl C s H a) elt (tM X.K fe) from j cl C s H a)) f n) (Et (Er h))
end
section
variable {P:bM} {w:bc} {mg:bH->Option aI} {base:ba}
theorem Zi8{x:bH}{st:cB}{N e:List bH}{k n:Nat}{O W:List Nat}{d:aL}{g:fL}(m:Nat)(f:XS)(F:Fun K x x st d g)(S:Zq N e (Zf st))
  (p:e.length=n) (o:N.length=m) (l:∀i∈O,n<=i)
  (c:∀(d:aL)(b:aI)(A:bq)(a:List ma)(s:aO)(H:Hp)(E:XK),Room k (A.deeper (iZ x (Zf st) s.heap.objs.size d b))->VSs (OC J6 P w K mg base N x (Zf st) d b A a s H E).nox O W (Yy st) f) :
  Pq P w K mg base J6 (k+1) d g e (Y5 K (YF m f) n):=by
 subst o;refine F.ok S (λvs H Q E h=>by rw[p];exact h.1) λb A a s H vs Q E j h=>⟨_,c d b A a s H E j,?_⟩;exact EB l h
theorem AA{st:cB}{x:bH}{D:List PV->Option PV}{k:Nat}{j:aL}(m:Def K mg "law" st)(g:mg "law" = ax (.ref j))
  (t:∀(kV c i:aI)(h:Option aL)(d ct u:aI),j4 (dO "law" "law" (Xm st) (Yy st) (Zf st) .none kV c i h d ct) ⟨[u],[]⟩=pure [(x,u)])
  (H:∀(a:ba)(f:aL)(b:fL),K.In a->a.Ns cO mg->Fun K "law" "law" st f b->Pq P w K mg a J6 k f b [x] (Y5 K D 1)) :
  ∃b:fL,(∀(s:aO)(u:aI),nP s b ⟨[u],[]⟩ [(x,u)])/\∀a:ba,K.In a->a.Ns cO mg->Pq P w K mg a J6 k j b [x] (Y5 K D 1):=by
 obtain⟨f,b,q,F⟩:=m.ex;have e:=g.symm.trans q;cases e;refine⟨b,?_,λa p o=>H a j b p o F⟩;obtain⟨v,y,kV,c,i,h,d,ct,l,rfl,z,n⟩:=F.ex;exact λs u=>.of_eq (t kV c i h d ct u)
end
end VL
namespace VL
open PySem L2
@[simp] theorem eVar_def(i:Nat)(s:ZG):Za i s=(s[i]?).join:=rfl
@[simp] theorem eC_def(l:PV)(s:ZG):eC l s=ax l:=rfl
@[simp] theorem XD(g:PV->PV->Option PV)(a b:XE)(s:ZG):Zm g a b s=(a s).bind λx=>(b s).bind λy=>g x y:=rfl
@[simp] theorem eUn_def(g:PV->Option PV)(a:XE)(s:ZG):Pz g a s=(a s).bind g:=rfl
@[simp] theorem U6(f:XE)(s:ZG):eP f s=(f s).bind λl=>if ZO l=aC then ax l else aA:=rfl
@[simp] theorem Od(s:ZG):PB [] s=ax []:=rfl
@[simp] theorem Zy(f:XE)(fs:List XE)(s:ZG):PB (f::fs) s=(f s).bind λx=>(PB fs s).map (x::·):=rfl
@[simp] theorem Yl(D:List PV->Option PV)(fs:List XE)(s:ZG):Ze D fs s=(PB fs s).bind D:=rfl
@[simp] theorem Rw(fs:List XE)(s:ZG):Wz fs s=(PB fs s).map .tup:=rfl
@[simp] theorem AB(fs:List XE)(s:ZG):WA fs s=(PB fs s).map .lst:=rfl
@[simp] theorem Oe(g:PV->Option Int->Option Int->Option PV)(a:XE)(lo hi:XO)(s:ZG):O0 g a lo hi s=(a s).bind λx=>(lo s).bind λl=>(hi s).bind λu=>g x l u:=rfl
@[simp] theorem EC(s:ZG):MR s=ax aA:=rfl
@[simp] theorem gI_ii(g:Int->Int->Int)(i j:Int):gI g (.int i) (.int j)=ax (.int (g i j)):=rfl
@[simp] theorem gB_ii(g:Int->Int->Bool)(i j:Int):gB g (.int i) (.int j)=ax (.bl (g i j)):=rfl
@[simp] theorem Zi9(C:Int->Int->Prop)[∀i j,Decidable (C i j)](g:Int->Int->Int)(i j:Int):gIC C g (.int i) (.int j)=if C i j then ax (.int (g i j)) else aA:=rfl
@[simp] theorem gIx_ti(l:List PV)(i:Int):ZR (.tup l) (.int i)=R9 l i:=rfl
@[simp] theorem gIx_li(l:List PV)(i:Int):ZR (.lst l) (.int i)=R9 l i:=rfl
@[simp] theorem gIx_ci(l:List PV)(i:Int):ZR (.cst l) (.int i)=R9 l i:=rfl
@[simp] theorem U7(f:XE)(s:ZG):xB f s=(f s).bind blO:=by
 unfold xB
 cases f s with
 | none=>rfl
 | some a=>cases a<;>rfl
@[simp] theorem AD(b:Bool):blO (.bl b)=ax b:=rfl
@[simp] theorem AE(a b:XT)(s:ZG):OO a b s=(a s).bind λc=>if c=aC then b s else ax aB:=rfl
@[simp] theorem Rx(a b:XT)(s:ZG):Gj a b s=(a s).bind λc=>if c=aC then ax aC else b s:=rfl
@[simp] theorem Ry(a:XT)(s:ZG):Py a s=(a s).map not:=rfl
@[simp] theorem Io(a b:XE)(s:ZG):Kr a b s=(xB a s).bind λc=>if c=aC then b s else ax (.bl aB):=rfl
@[simp] theorem eOr_def(a b:XE)(s:ZG):eOr a b s=(xB a s).bind λc=>if c=aC then ax (.bl aC) else b s:=rfl
@[simp] theorem eNot_def(a:XE)(s:ZG):Zd4 a s=(xB a s).map λc=>.bl !c:=rfl
@[simp] theorem Rz(c:XT)(a b:XE)(s:ZG):OP c a b s=(c s).bind λk=>if k=aC then a s else b s:=rfl
@[simp] theorem eIsN_def(neg:Bool)(a:XE)(s:ZG):Rj neg a s=(a s).bind (Af neg):=rfl
@[simp] theorem sNext_def(s:ZG):YE s=ax (.nx s):=rfl
@[simp] theorem O9(f g:XS)(s:ZG):Zn f g s=(f s).bind λo=>match o with | .nx s'=>g s' | r=>ax r:=rfl
@[simp] theorem Vk(c:XT)(f g:XS)(s:ZG):Ru c f g s=(c s).bind λk=>if k=aC then f s else g s:=rfl
@[simp] theorem AF(f:XE)(s:ZG):ZQ f s=(f s).map .rt:=rfl
@[simp] theorem Yf(i:Nat)(f:XE)(s:ZG):Zs i f s=(f s).map λl=>.nx (s.set i (ax l)):=rfl
@[simp] theorem retO_rt(v:PV):U5 (.rt v)=ax v:=rfl
@[simp] theorem pureV_int(i:Int):ZO (.int i)=aC:=rfl
@[simp] theorem pureV_bl(i:Bool):ZO (.bl i)=aC:=rfl
@[simp] theorem pureV_str(i:bH):ZO (.str i)=aC:=rfl
@[simp] theorem pureV_non:ZO .non=aC:=rfl
@[simp] theorem pureV_tup(l:List PV):ZO (.tup l)=ZC l:=by rw[ZO]
@[simp] theorem pureL_nil:ZC []=aC:=rfl
@[simp] theorem pureL_cons(a:PV)(l:List PV):ZC (a::l)=(ZO a&&ZC l):=rfl
theorem TV{b:Type}{l:List b}{f:b->PV}(h:∀a∈l,ZO (f a)=aC):ZC (l.map f)=aC:=by rw[X1,jT,bK];exact h
@[simp] theorem pureL_iL(l:List Int):ZC (l.map PV.int)=aC:=ZY l
abbrev pP(l:List Int):PV:=.tup (iL l)
abbrev wP(W:List (List Int)):PV:=.tup (W.map pP)
@[simp] theorem Ip(W:List (List Int)):ZC (W.map pP)=aC:=TV λa _=>by simp
theorem Na{l:List PV}{k:Nat}{a:PV}(h:l[k]?=ax a):R9 l (k:Int)=ax a:=TJ h
theorem Qm{l:List Int}{k:Nat}(h:k<l.length):(iL l)[k]?=ax (.int (Zl l k)):=by simp[Zl,aE h]
theorem YD{l:List Int}{k:Nat}(h:k<l.length):R9 (iL l) (k:Int)=ax (.int (Zl l k)):=TJ (Qm h)
theorem TX{W:List (List Int)}{k:Nat}(h:k<W.length):R9 (W.map pP) (k:Int)=ax (pP (ZA W k)):=by refine TJ ?_;rw[aX,OL h];rfl
@[simp] theorem AG(l:List Int):Rq [.tup (l.map PV.int)]=ax (.int l.sum):=by simp[Rq,PD,Yc l]
@[simp] theorem Gw(l:List Int):Rq [.lst (l.map PV.int)]=ax (.int l.sum):=by simp[Rq,PD,Yc l]
@[simp] theorem AH(l:List Bool):Kv [.lst (l.map PV.bl)]=ax (.bl (l.all id)):=by simp[Kv,PD,Sx l]
@[simp] theorem gLen_t(l:List PV):ZN [.tup l]=ax (.int l.length):=rfl
@[simp] theorem gLen_l(l:List PV):ZN [.lst l]=ax (.int l.length):=rfl
@[simp] theorem gLen_c(l:List PV):ZN [.cst l]=ax (.int l.length):=rfl
@[simp] theorem RA(l:List PV):Z1 [.lst l]=ax (.tup l):=rfl
@[simp] theorem gTuple_t(l:List PV):Z1 [.tup l]=ax (.tup l):=rfl
@[simp] theorem Iq(l:List PV):Vs [.tup l]=if ZC l=aC then ax (.lst l) else aA:=rfl
@[simp] theorem AI(l:List PV):Vs [.lst l]=if ZC l=aC then ax (.lst l) else aA:=rfl
@[simp] theorem gMin2_ii(i j:Int):Zlu [.int i,.int j]=ax (.int (if j<i then j else i)):=rfl
@[simp] theorem gMax2_ii(i j:Int):En [.int i,.int j]=ax (.int (if j>i then j else i)):=rfl
@[simp] theorem gInt1_b(c:Bool):OV [.bl c]=ax (.int (if c then 1 else 0)):=rfl
@[simp] theorem gInt1_i(c:Int):OV [.int c]=ax (.int c):=rfl
@[simp] theorem gInst_ii(i:Int):UL [.int i,.ty "int"]=ax (.bl aC):=rfl
@[simp] theorem gInst_ib(i:Int):UL [.int i,.ty "bool"]=ax (.bl aB):=rfl
@[simp] theorem gInst_tt(l:List PV):UL [.tup l,.ty "tuple"]=ax (.bl aC):=rfl
@[simp] theorem gInst_ll(l:List PV):UL [.lst l,.ty "list"]=ax (.bl aC):=rfl
theorem KG(n:Nat)(i j:Int):Wk (n+1) (.int i) (.int j)=aC:=rfl
theorem U8{d c:Type}{f:d->PV}{g:c->PV}{p:PV->PV->Bool}(h:∀a b,p (f a) (g b)=aC):∀(l:List d)(m:List c),((l.map f).zip (m.map g)).all (λz=>p z.1 z.2)=aC
 | [],_=>by simp
 | _::_,[]=>by simp
 | a::l,b::m=>by rw[af,af,dG,jz,U8 h l m,h a b];rfl
theorem Zef(n:Nat)(l m:List Int):Wk (n+2) (pP l) (pP m)=aC:=U8 (λa b=>KG n a b) l m
theorem Zeg(n:Nat)(l m:List Int):Wk (n+2) (.lst (iL l)) (.lst (iL m))=aC:=U8 (λa b=>KG n a b) l m
theorem AJ{l m:List Int}:iL l=iL m↔l=m:=by
 constructor
 ·intro h;exact(List.map_inj_right (λa b e=>PV.int.inj e)).mp h
 ·intro h;rw[h]
theorem pP_inj{l m:List Int}:pP l=pP m↔l=m:=by rw[PV.tup.injEq];exact AJ
@[simp] theorem Uk(neg:Bool)(i j:Int):Xz neg (.int i) (.int j)=ax (.bl (if neg then !decide (i=j) else decide (i=j))):=by
 unfold Xz;rw[p9 (KG 7 i j)];congr 2;cases neg<;>simp
@[simp] theorem gEq_pp(neg:Bool)(l m:List Int):Xz neg (.tup (l.map PV.int)) (.tup (m.map PV.int))=ax (.bl (if neg then !decide (l=m) else decide (l=m))):=by unfold Xz;rw[p9 (Zef 6 l m)];have:decide ((PV.tup (l.map PV.int)) = .tup (m.map PV.int))=decide (l=m):=decide_eq_decide.mpr pP_inj;rw[this]
@[simp] theorem Zja(neg:Bool)(l m:List Int):Xz neg (.lst (l.map PV.int)) (.lst (m.map PV.int))=ax (.bl (if neg then !decide (l=m) else decide (l=m))):=by unfold Xz;rw[p9 (Zeg 6 l m)];have:decide ((PV.lst (l.map PV.int)) = .lst (m.map PV.int))=decide (l=m):=decide_eq_decide.mpr (by rw[PV.lst.injEq];exact AJ);rw[this]
theorem LC{f:Type}{T:Tgt}{c:XT}{e:XE}{d:ZG}{q g:f->PV}:∀{ls:List f},(∀a∈ls,∃s1,Xg T (q a) d=ax s1/\c s1=ax aC/\e s1=ax (g a))->Vh T c e d (ls.map q)=ax (ls.map g)
 | [],_=>rfl
 | a::r,h=>by obtain⟨s1,i,l,m⟩:=h a ag;have j:=LC (ls:=r) λb k=>h b (aN _ k);rw[af,af];unfold Vh;rw[i];simp only[aQ,l,if_true,m,j,bz]
theorem RD{d:Type}{T:Tgt}{e:XT}{j:XE}{i:ZG}{q g:d->PV}{c:d->Bool}:∀{ls:List d},(∀a∈ls,∃s1,Xg T (q a) i=ax s1/\e s1=ax (c a)/\(c a=aC->j s1=ax (g a)))->Vh T e j i (ls.map q)=ax ((ls.filter c).map g)
 | [],_=>rfl
 | a::r,h=>by
  obtain⟨s1,k,m,n⟩:=h a ag;have f:=RD (ls:=r) λb l=>h b (aN _ l);rw[af];unfold Vh;rw[k];simp only[aQ,m]
  cases hc:c a with
  | true=>simp[n hc,f,hc]
  | false=>simp[f,hc]
theorem ZL{i:Type}{n:Nat}{c:List Nat}{f:XL}{T:Tgt}{d:XT}{e:XE}{s:ZG}(ls:List i)(q g:i->PV)(b:f s=ax (ls.map q))(j:ls.length<=10000)
  (h:∀a∈ls,∃s1,Xg T (q a) (ZH n c s)=ax s1/\d s1=ax aC/\e s1=ax (g a)):Zw n c f T d e s=ax (.lst (ls.map g)):=by
 unfold Zw;rw[b];simp only[aQ,aJ,p9 j,LC h,bz]
theorem XG{d:Type}{n:Nat}{e:List Nat}{j:XL}{T:Tgt}{f:XT}{i:XE}{s:ZG}(ls:List d)(q g:d->PV)(c:d->Bool)(b:j s=ax (ls.map q))(k:ls.length<=10000)
  (h:∀a∈ls,∃s1,Xg T (q a) (ZH n e s)=ax s1/\f s1=ax (c a)/\(c a=aC->i s1=ax (g a))):Zw n e j T f i s=ax (.lst ((ls.filter c).map g)):=by
 unfold Zw;rw[b];simp only[aQ,aJ,p9 k,RD h,bz]
theorem U9{T:Tgt}{fb:XS}:∀{ls:List PV}{s:ZG}(Jv:Nat->ZG->Prop),Jv 0 s->(∀(i:Nat) l st,ls[i]?=ax l->Jv i st->∃s1 s2,Xg T l st=ax s1/\fb s1=ax (.nx s2)/\Jv (i+1) s2)->
  ∃f,VG T fb ls s=ax (.nx f)/\Jv ls.length f
 | [],s,Jv,h0,_=>⟨s,rfl,h0⟩
 | l::r,s,Jv,h0,h=>by obtain⟨s1,s2,a,b,c⟩:=h 0 l s rfl h0;obtain⟨f,d,e⟩:=U9 (ls:=r) (s:=s2) (λi=>Jv (i+1)) c λi k st j g=>h (i+1) k st (by simpa using j) g;refine⟨f,?_,e⟩;unfold VG;rw[a];simp only[aQ,b];exact d
theorem AK{n i:Nat}{l:PV}(h:(Kw n)[i]?=ax l):i<n/\l = .int (i:Int):=by have a:=(aR.mp h).1;unfold Kw at a h;rw[aJ,bt] at a;rw[aX,cC a] at h;exact⟨a,(bC h).symm⟩
theorem Ir{lo:Int}{n i:Nat}{l:PV}(h:(SI lo n)[i]?=ax l):i<n/\l = .int (lo+(i:Int)):=by have a:=(aR.mp h).1;unfold SI at a h;rw[aJ,bt] at a;rw[aX,cC a] at h;exact⟨a,(bC h).symm⟩
@[simp] theorem AL(n:Nat):(Kw n).length=n:=by unfold Kw;simp
@[simp] theorem Iu(lo:Int)(n:Nat):(SI lo n).length=n:=by unfold SI;simp
@[simp] theorem bindT_one(i:Nat)(l:PV)(s:ZG):Xg (.one i) l s=ax (s.set i (ax l)):=rfl
theorem D5(i j:Nat)(a b:PV)(s:ZG):Xg (.many [i,j]) (.tup [a,b]) s=ax ((s.set i (ax a)).set j (ax b)):=rfl
theorem Y6(m:List PV):Xt m=(aD m.length).map λ(i:Nat)=>.tup [.int (i:Int),m.getD i .non]:=by
 apply gM;intro i;rw[aX];by_cases h:i<m.length
 ·have:(Xt m)[i]?=ax (.tup [.int (i:Int),m[i]]):=by unfold Xt;simp
  rw[this,cC h];simp[aE h]
 ·rw[bw (by rw[WK];omega),bw (by simpa using h)];rfl
theorem Ul(m n:List PV)(h:n.length=m.length):Qj m n=(aD m.length).map λ(i:Nat)=>.tup [m.getD i .non,n.getD i .non]:=by
 apply gM;intro i;rw[aX];by_cases a:i<m.length
 ·have:(Qj m n)[i]?=ax (.tup [m[i],n[i]]):=by unfold Qj;rw[aX,jh (z:=(m[i],n[i])) |>.mpr ⟨aE a,aE (by omega)⟩];rfl
  rw[this,cC a];simp[aE a,aE (show i<n.length by omega)]
 ·rw[bw (by rw[Ii];omega),bw (by simpa using a)];rfl
theorem XH(l:List Int)(i:Nat)(h:i<l.length):(iL l).getD i .non = .int (Zl l i):=by rw[aF,Qm h];rfl
theorem AM(W:List (List Int))(i:Nat)(h:i<W.length):(W.map pP).getD i .non=pP (ZA W i):=by rw[aF,aX,OL h];rfl
@[simp] theorem Zeh(f:XE)(s:ZG):Yk [f] s=(f s).bind λa=>(DZ a).bind λj=>if -1000000<=j/\j<=1000000 then ax (Kw j.toNat) else aA:=by
 unfold Yk
 cases h:f s with
 | none=>simp[h]
 | some a=>cases a<;>simp[h,DZ]
@[simp] theorem Zei(f g:XE)(s:ZG):VF [f,g] s=(f s).bind λa=>(g s).bind λb=>(DZ a).bind λi=>(DZ b).bind λj=>if -1000000<=i/\i<=1000000/\-1000000<=j/\j<=1000000 then ax (SI i (j-i).toNat) else aA:=by
 unfold VF
 cases h:f s with
 | none=>simp[h]
 | some a=>cases h2:g s with
  | none=>simp[h,h2]
  | some b=>cases a<;>cases b<;>simp[h,h2,DZ]
@[simp] theorem TY(i:Int):DZ (.int i)=ax i:=rfl
@[simp] theorem ED(i:List PV):asL (.lst i)=ax i:=rfl
@[simp] theorem xEnum_def(b:Bool)(f:XE)(s:ZG):Xf b [f] s=(f s).bind λl=>(seqB b l).map Xt:=by
 unfold Xf;cases h:f s<;>simp[h]
@[simp] theorem xZip_def(b1 b2:Bool)(f g:XE)(s:ZG):MQ b1 b2 [f,g] s=(f s).bind λl=>(g s).bind λr=>(seqB b1 l).bind λm=>(seqB b2 r).map λn=>Qj m n:=by
 unfold MQ;cases h:f s<;>cases h2:g s<;>simp[h,h2]
@[simp] theorem seqB_f(l:List PV):seqB aB (.tup l)=ax l:=rfl
@[simp] theorem seqB_t(l:List PV):seqB aC (.lst l)=ax l:=rfl
@[simp] theorem seqB_c(l:List PV):seqB aC (.cst l)=ax l:=rfl
@[simp] theorem xLst_def(f:XE)(s:ZG):YL f s=(f s).bind asS:=rfl
@[simp] theorem asS_l(l:List PV):asS (.lst l)=ax l:=rfl
@[simp] theorem asS_c(l:List PV):asS (.cst l)=ax l:=rfl
theorem RE{f:XE}{s:ZG}{l:List PV}(h:f s=ax (.tup l)):U2 f s=ax l:=by unfold U2;rw[h]
@[simp] theorem AN(O:List Nat)(fi:XL)(T:Tgt)(fb:XS)(s:ZG):YU O fi T fb s=(fi (Xr O s)).bind λls=>VG T fb ls s:=rfl
@[simp] theorem xTrue_def(s:ZG):ZD s=ax aC:=rfl
theorem Xd{f:XE}{s:ZG}{n:Nat}(h:f s=ax (.int (n:Int)))(a:n<=10000):Yk [f] s=ax (Kw n):=by rw[Zeh,h];simp only[aQ,TY];rw[p9 ⟨by omega,by omega⟩,bV]
theorem LD{f g:XE}{s:ZG}{i j:Int}(h:f s=ax (.int i))(h':g s=ax (.int j))(a : -10000<=i/\i<=10000)(b : -10000<=j/\j<=10000):VF [f,g] s=ax (SI i (j-i).toNat):=by rw[Zei,h,h'];simp only[aQ,TY];rw[p9 ⟨by omega,by omega,by omega,by omega⟩]
theorem AO{i j:Int}(a : -10000<=i)(h:i<=10000):CMul i j:=by
 refine .inl ?_;have e:(2^64:Int)=18446744073709551616:=by decide
 rw[e];omega
theorem TZ{c:Bool}(h:c=aC):gd c=ax ():=by unfold gd;rw[p9 h]
theorem Nc{i:Nat}{f:XE}{s:ZG}{m n:List PV}(h:f s=ax (.lst n))(b:MI s i=ax m)(a:m.length+n.length<=10000):WC i f s=ax (.nx (s.set i (ax (.lst (m++n))))):=by unfold WC;rw[h];simp only[aQ,ED,b,TZ (decide_eq_true a)]
theorem Um{i:Nat}{f:XE}{s:ZG}{m:List PV}{l:PV}(h:f s=ax l)(b:MI s i=ax m)(a:m.length<=10000):Yz i f s=ax (.nx (s.set i (ax (.lst (m++[l]))))):=by unfold Yz;rw[h];simp only[aQ,b,TZ (decide_eq_true a)]
theorem Gx{i:Nat}{a f:XE}{s:ZG}{m:List PV}{l:PV}{k:Int}(j:a s=ax (.int k))(h:f s=ax l)(o:MI s i=ax m)(n:ZC m=aC)(d:ZO l=aC)(e:0<=k)(b:k<=1000000)(g:m.length<=10000) :
  TR i a f s=ax (.nx (s.set i (ax (.lst (m.take k.toNat++l::m.drop k.toNat))))):=by
 unfold TR;rw[j,h];have c:(ZC m&&ZO l&&decide (0<=k/\k<=1000000/\m.length<=10000))=aC:=by rw[n,d,decide_eq_true ⟨e,b,g⟩];rfl
 simp only[aQ,TY,o,TZ c]
theorem D6{i:Nat}{a f:XE}{s:ZG}{m:List PV}{l:PV}{k:Int}{j:Nat}(h:f s=ax l)(d:a s=ax (.int k))(g:MI s i=ax m)(e:ZC m=aC)(b:ZO l=aC)(n:J0 m.length k=ax j) :
  SM i a f s=ax (.nx (s.set i (ax (.lst (m.set j l))))):=by
 unfold SM;rw[d,h];have c:(ZC m&&ZO l)=aC:=by rw[e,b];rfl
 simp only[aQ,TY,g,TZ c,n,bz]
theorem Nd{i:Nat}{d fb f:XE}{s:ZG}{m n:List PV}{l:PV}{a b:Int}{j c:Nat}(h:f s=ax l)(o:d s=ax (.int a))(v:fb s=ax (.int b))(q:MI s i=ax m)(k:J0 m.length a=ax j)(t:m[j]?=ax (.lst n))(g:ZC n=aC)(e:ZO l=aC)(p:J0 n.length b=ax c) :
  WD i d fb f s=ax (.nx (s.set i (ax (.lst (m.set j (.lst (n.set c l))))))):=by
 unfold WD;rw[h,o,v];have u:(ZC n&&ZO l)=aC:=by rw[g,e];rfl
 simp only[aQ,TY,ED,q,k,t,TZ u,p,bz]
theorem RF{n k:Nat}(h:k<n):J0 n (k:Int)=ax k:=by unfold J0;rw[p9 (by omega),p9 (by omega)];rfl
theorem Zjb{i j:Int}(a:0<j)(h:j<=10000):BI i j:=⟨a,by omega⟩
end VL
namespace VL
open PySem PySem.Spec PyProof.Rows L2
variable {K:aH}
noncomputable def Zha(K:aH):R2:=λx y H Q=>∃a b xs ys,x = .ref a/\y = .ref b/\SqT K H a xs/\SqT K H b ys/\xs.length+ys.length<=sizeLine/\
 (xs=[]->Q (.ref b) H)/\(ys=[]->Q (.ref a) H)/\∀p,H p=aA->Q (.ref p) (upd H p (.tup (xs++ys)))
theorem KH{X:Cx}:TH X (dy .Add) (Zha X.K):=by
 intro R s O H x y v u Q I m l h;obtain⟨a,b,xs,F,rfl,rfl,k,t,J,C,D,z⟩:=h;by_cases g:xs=[]
 ·cases m;cases l;obtain⟨G,L,A,_⟩:=I.tuple k;obtain⟨d,P,p2,_⟩:=I.tuple t;obtain⟨⟨w,N,p,B⟩,q,E,n,hd⟩:=id A;obtain⟨⟨o,f,data2,e⟩,c,i,M,j⟩:=id p2;subst E hd i j
  exact k8 ⟨_,q,rfl⟩ ⟨_,c,rfl⟩ kP mX iN iD (gn _ _)
   (tuple_addW0 a b G.toArray d.toArray n M N f B e (by simp[L.nil_iff.mpr g])) ⟨q,c,.ref b,H,I,rfl,C g⟩
 ·exact Zdm _ _ _ _ _ _ _ _ _ I m l ⟨a,b,xs,F,rfl,rfl,k,t,g,J,D,λ_=>z⟩
noncomputable def LF:PV->PV->Option PV
 | .tup m,.tup n=>if m.length+n.length<=10000 then ax (.tup (m++n)) else aA
 | _,_=>aA
theorem KI:RB K (Zha K) LF:=λH x y a b l j fb i o e Q k=>by
 cases a with
 | tup m=>cases b with
  | tup n=>
   have e:(if m.length+n.length<=10000 then ax (PV.tup (m++n)) else aA)=ax l:=e;split at e
   case isFalse=>cases e
   rename_i s;cases e;obtain⟨p,xs,rfl,u,f⟩:=i.tup_inv;obtain⟨t,v,rfl,g,c⟩:=o.tup_inv;refine⟨p,t,xs,v,rfl,rfl,SqT.of u,SqT.of g,by rw[f.len,c.len];exact cJ (lt_size s),λz=>?_,λz=>?_,λq h=>?_⟩
   ·have:=dI.mp (by rw[<-f.len,z];rfl);subst this;exact k _ _ fb (Same.refl _) o λr d=>.inr (.inl d)
   ·have:=dI.mp (by rw[<-c.len,z];rfl);subst this;rw[dW] at k;exact k _ _ j (Same.refl _) i λr d=>.inl d
   ·exact k _ _ (j++fb) (Same.new h _) (Is.tup Zk ((f.append c).mono (Same.new h _))) λr d=>(aV.mp d).elim .inl λz=>.inr (.inl z)
  | _=>cases e
 | _=>cases e
end VL
namespace VL
open PySem
open PySem.Sem (wp)
open PySem.Builtin
theorem Qn:fillsNumberSlot (.type "tuple") "mul" = pure aB:=rfl
theorem KJ:seqRepeat? (.type "tuple")=pure (ax (.builtin "tuple.__mul__")):=rfl
theorem Nf(a:Int)(t:Tok)(l:aL)(items:Array aI)(n:Nat)(c:Option aL)(b:Array (Option aI)) :
  Meets (fj.«int.__rmul__» ⟨[.int a t,.ref l],[]⟩) (λ_ R s=>s.heap.get? l=ax { cls:=.type "tuple",dict:=c,data:=.seq items n,slots:=b }/\R (.ok (.ret aI.notImplemented)) s):=
 .of_wp λprog w A R s h=>by obtain⟨f,g,d,tk,os⟩:=s;obtain⟨e,h⟩:=h;wp_walk;exact⟨_,rfl,h⟩
theorem Ng(l:aL)(items:Array aI)(n:Nat)(o:Option aL)(e:Array (Option aI))(x:Int)(u:Tok)(v:1<x)(t:x<2^63)(b:items.isEmpty=aB)(m:items.size*x.toNat<=sizeLine)
  (a:Array aI) (j:ml (λk f=>k++f) #[] (aS x.toNat items)=a) (y:a.size<=sizeLine) :
  Meets (fj.«tuple.__mul__» ⟨[.ref l,.int x u],[]⟩) (λ_ R s=>s.heap.get? l=ax { cls:=.type "tuple",dict:=o,data:=.seq items n,slots:=e }/\R (.ok (.ret (jW s.heap.objs.size))) { s with heap:=s.heap.push { cls:=kY "tuple",data:=Data.seq a },toks:=s.toks }):=
 .of_wp λprog w A R s h=>by
  obtain⟨q,g,d,tk,os⟩:=s;obtain⟨p,h⟩:=h;have c:items.size*x.toNat<=2^40:=by rw[fT] at m;omega
  have i:(items.size:Int)*x=((items.size*x.toNat:Nat):Int):=by rw[Int.natCast_mul,g9 (by omega)]
  wp_walk
  refine gz (by simp;omega) ?_
  wp_walk
  refine gz (by simp[b];omega) ?_
  wp_walk
  refine gz (by simp[b];omega) ?_
  wp_walk
  refine gz (decide_eq_false (by omega)) ?_
  wp_walk
  refine gz (decide_eq_false (by rw[i];unfold Tuple.tupleTooMany;simp only[decide_eq_true_eq];omega)) ?_
  wp_walk
  rw[j];exact⟨_,rfl,h⟩
theorem MU(l:aL)(items:Array aI)(n:Nat)(b:Option aL)(a:Array (Option aI))(u:Tok) :
  Meets (fj.«tuple.__mul__» ⟨[.ref l,.int 1 u],[]⟩) (λ_ R s=>s.heap.get? l=ax { cls:=.type "tuple",dict:=b,data:=.seq items n,slots:=a }/\R (.ok (.ret (jW l))) s):=
 .of_wp λprog w A R s h=>by
  obtain⟨e,g,d,tk,os⟩:=s;obtain⟨c,h⟩:=h
  wp_walk
  exact⟨_,rfl,h⟩
end VL
namespace VL
open PySem PySem.Spec PyProof.Rows L2
noncomputable def Zhb(K:aH):R2:=λx y H Q=>∃a k xs,x = .ref a/\y = .int k/\SqT K H a xs/\xs≠[]/\1<=k/\k<2^62/\xs.length*k.toNat<=sizeLine/\
 (k=1->Q (.ref a) H)/\∀p,H p=aA->Q (.ref p) (upd H p (.tup (aS k.toNat xs).flatten))
theorem Zej{X:Cx}:TH X (dy .Mult) (Zhb X.K):=by
 intro Y s W H x y v u Q I E C h;obtain⟨a,k,xs,rfl,rfl,A,G,U,T,i,J,z⟩:=h;cases E;obtain⟨t,rfl⟩:=C;obtain⟨c,j,B,_⟩:=I.tuple A;obtain⟨⟨w,l,p,g⟩,d,O,n,hd⟩:=id B;subst O hd;have m:=j.length
 refine je rfl ⟨_,d,rfl⟩ (λR=>kc R k t) Qn F.fills_int_mul F.slot_int_rmul KJ F.slot_int_index.lookup
  (fY F.slot_int_rmul (kc s k t) F.entry_int_rmul (F.args_int_rmul_2 _ _) (Nf k t a c.toArray n l g) ⟨d,rfl,⟨_,d,rfl⟩,?_⟩)
 by_cases P:k=1
 ·subst P;exact fY F.slot_tuple_mul ⟨_,d,rfl⟩ F.entry_tuple_mul (F.args_tuple_mul_2 _ _) (MU a c.toArray n l g t) ⟨d,.ref a,H,I,rfl,J rfl⟩
 ·have f:c.toArray.isEmpty=aB:=by
   cases c with
   | nil=>exact absurd (j.nil_iff.mp rfl) G
   | cons _ _=>rfl
  have L:ml (λN D=>N++D) #[] (aS k.toNat c.toArray)=(aS k.toNat c).flatten.toArray:=by have:=Qa c k.toNat [];exact this
  have M:(aS k.toNat c).flatten.length<=sizeLine:=by rw[Kj,nR,<-m];exact i
  refine fY F.slot_tuple_mul ⟨_,d,rfl⟩ F.entry_tuple_mul (F.args_tuple_mul_2 _ _) (Ng a c.toArray n l g k t (by omega) (by omega) f (by rw[aU,<-m];exact i) _ L (by rw[aU];exact M)) ⟨d,?_⟩;refine⟨.ref s.heap.objs.size,_,I.laid (λb S q=>aK _ q) (aZ _) ?_,rfl,z _ (I.hok.fresh (aZ _))⟩;exact⟨⟨by rw[Kj,nR];exact i,λo e=>OA e⟩,_,j.rep k.toNat,n6 _ _⟩
noncomputable def AQ:PV->PV->Option PV
 | .tup m,.int k=>if ZC m=aC/\m≠[]/\1<=k/\k<=1000000/\m.length*k.toNat<=10000 then ax (.tup (aS k.toNat m).flatten) else aA
 | _,_=>aA
theorem Zek{K:aH}:RB K (Zhb K) AQ:=λH x y a b l o fb h s e Q k=>by
 cases a with
 | tup m=>cases b with
  | int n=>
   unfold AQ at e;simp only at e;split at e
   case isFalse=>cases e
   rename_i c;cases e;obtain⟨p,xs,rfl,j,f⟩:=h.tup_inv;refine⟨p,n,xs,rfl,s.int_inv.1,SqT.of j,λz=>c.2.1 (dI.mp (by rw[<-f.len,z];rfl)),c.2.2.1,by omega,by rw[f.len];exact cJ (lt_size c.2.2.2.2),λz=>?_,λq g=>?_⟩
   ·subst z;have i:(aS (iH 1) m).flatten=m:=by simp
    rw[i] at k;exact k _ _ o (Same.refl _) h λr d=>.inl d
   ·exact k _ _ [] (Same.new g _) (Is.tup Zk ((Iss.rep (f.pureEq c.1) n.toNat).mono (Same.new g _))) λr d=>by simp at d
  | _=>cases e
 | _=>cases e
end VL
namespace PW
open PySem L2 VL
noncomputable def LH:XS:=(ZQ (eP (Ze Rq [Zm ZR (Za 0) (Za 1)])))
noncomputable def VP:List PV->Option PV:=YF 2 LH
noncomputable def Qo:XS:=(Zn (Zs 1 (WA []))
  (Zn (YU [1] (Xf aB [Za 0]) (.many [2,3]) (YU [1] (VF [Zm YJ (Za 2) (eC (.int 1)),Ze ZN [Za 0]]) (.one 4) (WC 1 (Zw 1 [2,4] (Yk [Zm ZR (Za 3) (Za 4)]) (.one 0) ZD (eP (Wz [Za 1,Za 2,Za 0]))))))
  (ZQ (Za 1))))
noncomputable def Xv:List PV->Option PV:=YF 5 Qo
noncomputable def EE:XS:=(ZQ (eP (Zm YJ (Zm Wi (Ze ZN [Ze Xv [Za 0]]) (Ze ZN [Za 0])) (eC (.int 1)))))
noncomputable def RG:List PV->Option PV:=YF 1 EE
noncomputable def EF:XS:=(ZQ (eP (Ze Rq [Za 0])))
noncomputable def Of:List PV->Option PV:=YF 1 EF
noncomputable def AR:XS:=(ZQ (eP (Ze Rq [Zw 2 [1,2] (Xf aB [Zm ZR (Za 0) (Za 2)]) (.many [0,1]) ZD (Zm Px (Za 1) (Zm Wi (Zm ZR (Za 2) (Za 0)) (Zm ZR (Za 2) (Za 3))))])))
noncomputable def Nh:List PV->Option PV:=YF 3 AR
noncomputable def Zhc:XS:=(ZQ (eP (Ze Z1 [Zw 2 [0,2] (Xf aB [Za 1]) (.many [0,1]) ZD (Zm YJ (Za 1) (Ze Nh [Za 2,Za 3,Za 0]))])))
noncomputable def VQ:List PV->Option PV:=YF 3 Zhc
noncomputable def AS:XS:=(ZQ (eP (Ze Z1 [Zw 2 [] (MQ aB aB [Za 0,Za 1]) (.many [0,1]) ZD (Zm YJ (Za 0) (Za 1))])))
noncomputable def Vu:List PV->Option PV:=YF 2 AS
noncomputable def EG:XS:=(ZQ (eP (Ze Z1 [Zw 2 [] (MQ aB aB [Za 0,Za 1]) (.many [0,1]) ZD (Zm Wi (Za 0) (Za 1))])))
noncomputable def RH:List PV->Option PV:=YF 2 EG
noncomputable def LI:XS:=(ZQ (eP (Kr (Ze UL [Za 0,eC (.ty "int")]) (Zd4 (Ze UL [Za 0,eC (.ty "bool")])))))
noncomputable def VR:List PV->Option PV:=YF 1 LI
end PW
set_option maxHeartbeats 1000000
namespace VL
open PySem PySem.Spec PyProof.Rows L2
noncomputable def xSq(f:XE):XL:=λs=>match YL f s with
 | some m=>ax m
 | none=>U2 f s
theorem Zlx{f:XE}{s:ZG}{l:List PV}(q:f s=ax (.lst l)):xSq f s=ax l:=by unfold xSq YL;rw[q];rfl
theorem Zly{f:XE}{s:ZG}{l:List PV}(q:f s=ax (.tup l)):xSq f s=ax l:=by unfold xSq YL;rw[q];exact RE q
noncomputable def XI:List Int->Int
 | []=>0
 | [x]=>x
 | x::y::r=>if XI (y::r)<x then XI (y::r) else x
theorem VU:∀{l:List Int},l≠[]->XI l∈l/\∀x∈l,XI l<=x
 | [],h=>absurd rfl h
 | [x],_=>by simp[XI]
 | x::y::r,_=>by
  obtain⟨a,b⟩:=VU (l:=y::r) (by simp);unfold XI;split
  ·rename_i h;refine⟨aN _ a,λz c=>?_⟩;rcases aa.mp c with rfl | c
   ·omega
   ·exact b z c
  ·rename_i h;refine⟨by simp,λz c=>?_⟩;rcases aa.mp c with rfl | c
   ·omega
   ·have:=b z c;omega
theorem EH{l:List Int}{m:Int}(h:m∈l)(g:∀x∈l,m<=x):XI l=m:=by obtain⟨a,b⟩:=VU (l:=l) (by intro z;subst z;simp at h);have:=b m h;have:=g _ a;omega
theorem Ni(val:Nat->Int):∀k,argBest (λi j=>decide (val i<val j)) k<=k/\∀j,j<=k->val (argBest (λi j=>decide (val i<val j)) k)<=val j
 | 0=>⟨aZ _,λj c=>by rw[Nat.le_zero.mp c];exact dX _⟩
 | k+1=>by
  obtain⟨a,b⟩:=Ni val k;unfold argBest;split
  ·rename_i h;have h:=of_decide_eq_true h;refine⟨aZ _,λj c=>?_⟩;by_cases e:j=k+1
   ·subst e;exact dX _
   ·have:=b j (by omega);omega
  ·rename_i h;have h:¬_:=λz=>h (decide_eq_true z);refine⟨by omega,λj c=>?_⟩;by_cases e:j=k+1
   ·subst e;omega
   ·exact b j (by omega)
noncomputable def AU(f:List Int->Int)(K:aH):List V->Hp->VK->Prop:=λxs H Q=>∃(b:Bool) (p:aL) (ns:List Int),xs=[.ref p]/\ns≠[]/\MH b K H p (ns.map V.int)/\Q (.int (f ns)) H
section
variable {X:Cx}
theorem LJ(L:X.calm=aC):XW X (.builtin "min") (AU XI X.K):=by
 intro W s U H xs S Q I r h;obtain⟨b,p,ns,rfl,w,D,q⟩:=h;obtain⟨u,rfl,F⟩:=Sr r;cases F;obtain⟨n,z,a,T⟩:=I.seqB D;have y:=let⟨_,e⟩:=a.has;a9 e;have l:=z.length;rw[aJ] at l;have m:=fK.mpr w
 have d:∀(i:Nat)(v:aI),n.toArray[i]?=ax v->∃t,v=di (ns.getD i 0) t:=λi v k=>by
  have k:n[i]?=ax v:=by simpa using k
  have M:i<ns.length:=by rw[l];exact(aR.mp k).1
  obtain⟨u,C,R⟩:=z.get (i:=i) (x:=.int ns[i]) (by simp);rw[k] at C;cases C;obtain⟨t,rfl⟩:=R;refine⟨t,?_⟩;rw[aF,aE M];rfl
 refine call_min_walk (YQ a ?_);refine⟨_,_,_,_,_,_,λi j=>decide (ns.getD i 0<ns.getD j 0),rfl,Walks.seqB (A:=X.A.in1) b (I.ok.hd L) s.heap.objs.size p (bN y) n.toArray,⟨IterB.new (ak _ rfl),a.at λo e=>aK _ e⟩,λc f=>?_,by rw[aU,<-l];exact m,CmpOf.ints_lt (λi=>ns.getD i 0) d,λv h' tk k N=>?_⟩
 ·show c<(s.heap.push _).objs.size;rw[cR];rcases aa.mp f with rfl | f
  ·exact dt _
  ·rw[aM.mp f];exact cz y
 ·obtain⟨t,rfl⟩:=d _ _ k;obtain⟨J,B⟩:=Ni (λi=>ns.getD i 0) (n.toArray.size-1);rw[aU,<-l] at J B
  have e:XI ns=ns.getD (argBest (λi j=>decide (ns.getD i 0<ns.getD j 0)) (n.toArray.size-1)) 0:=by
   rw[aU,<-l];refine EH ?_ λx G=>?_
   ·rw[aF,aE (by omega)];exact bQ _
   ·obtain⟨j,E,O⟩:=bp G;have:=B j (by omega);rw[aF (i:=j),aE E,O] at this;exact this
  refine⟨.int (XI ns),H,I.kept (λc o g=>N c o ?_ (aK _ g)),⟨t,by rw[e]⟩,q⟩;intro P;rw[aM.mp P] at g;exact absurd (a9 g) (cS _)
end
noncomputable def EI(f:List Int->Int):List PV->Option PV
 | [l]=>(PD l).bind λm=>(Ys m).bind λns=>if ns=[] then aA else ax (.int (f ns))
 | _=>aA
abbrev AV:List PV->Option PV:=EI XI
theorem Zem{K:aH}(f:List Int->Int):RC K (AU f K) (EI f):=λH vs ls l t h e Q k=>by
 unfold EI at e;split at e
 ·obtain⟨m,j,g⟩:=Zc e;obtain⟨ns,q,d⟩:=Zc g;split at d
  ·cases d
  ·rename_i a;cases d;obtain⟨v,rfl,i⟩:=h.one_inv;obtain⟨p,xs,u,rfl,c,n,w⟩:=Uh i j;have o:=Yd q;subst o;obtain⟨rfl,rfl⟩:=n.iL;obtain⟨b,s⟩:=Gm c;exact⟨b,p,ns,rfl,a,s,k _ H [] (Same.refl H) (Is.int _) λp c=>by simp at c⟩
 ·cases e
theorem EJ{K:aH}:RC K (AU XI K) AV:=Zem XI
theorem EK(f:List Int->Int){l:List Int}(h:l≠[]):EI f [pP l]=ax (.int (f l)):=by show(Ys (iL l)).bind _=_;rw[Yc];simp only[aQ];rw[pW h]
noncomputable def sortI(l:List Int):List Int:=l.mergeSort λa b=>decide (a<=b)
theorem sortI_perm(l:List Int):(sortI l).Perm l:=List.mergeSort_perm l _
theorem Uo(l:List Int):(sortI l).Pairwise (·<=·):=by have:=List.pairwise_mergeSort (le:=λa b:Int=>decide (a<=b)) (λa b c d e=>by simp only[decide_eq_true_eq] at *;omega) (λa b=>by simp only[jH,decide_eq_true_eq];omega) l;exact this.imp λh=>of_decide_eq_true h
theorem sortI_eq{l m:List Int}(e:m.Perm l)(d:m.Pairwise (·<=·)):m=sortI l:=
 List.Perm.eq_of_pairwise (λa b _ _ c f=>Int.le_antisymm c f) d (Uo l) (e.trans (sortI_perm l).symm)
theorem Up:∀{us:List aI}{ns:List Int},i7 us ns->Vals (ns.map V.int) us
 | _,_,.nil=>.nil
 | _,_,.cons n t h=>.cons ⟨t,rfl⟩ (Up h)
noncomputable def KN(K:aH):List V->Hp->VK->Prop:=λxs H Q=>∃p ns,xs=[.ref p]/\SqL K H p (ns.map V.int)/\ns.length<64/\∀l,H l=aA->Q (.ref l) (upd H l (.lst ((sortI ns).map V.int)))
theorem RI{X:Cx}:XW X (.builtin "sorted") (KN X.K):=by
 intro z s y H xs x Q I r h;obtain⟨p,ns,rfl,g,w,q⟩:=h;obtain⟨u,rfl,m⟩:=Sr r;cases m;obtain⟨t,f,l,d⟩:=I.list g;have a:=f.length;rw[aJ] at a d;refine sorted_ints l.isList (SA f) (by omega) λout i j v n=>?_;obtain⟨e,k⟩:=sortedAll_at s.heap t out;have c:=sortI_eq v n;subst c;refine⟨.ref (s.heap.objs.size+1),_,I.laid (λb o=>sortedAll_old) (iG _) (show ObjOk X.prog X.w _ _ _ (.lst ((sortI ns).map V.int)) from⟨?_,out.toList,e,Up j,?_⟩),rfl,q _ (I.hok.fresh (iG _))⟩
 ·rw[aJ,(sortI_perm ns).length_eq];exact d
 ·rw[ij];exact k
noncomputable def RJ:List PV->Option PV
 | [.lst l]=>(Ys l).bind λns=>if ns.length<64 then ax (.lst (iL (sortI ns))) else aA
 | [.cst l]=>(Ys l).bind λns=>if ns.length<64 then ax (.lst (iL (sortI ns))) else aA
 | _=>aA
theorem Nj{K:aH}:RCM K (KN K) RJ:=λH vs ls l o h e Q k=>by
 have c:∀(p:aL)(ns:List Int),SqL K H p (ns.map V.int)->ns.length<64->l = .lst (iL (sortI ns))->KN K [.ref p] H Q:=by rintro p ns b m rfl;refine⟨p,ns,rfl,b,m,λq j=>k _ _ [q] (Same.new j _) (Is.lst Zk (Iss.ofInts _)) (by simp) λr n=>?_⟩;rw[aM.mp n];exact⟨j,by rw[Zk];exact b8⟩
 unfold RJ at e;split at e
 ·obtain⟨ns,d,a⟩:=Zc e;split at a
  ·cases a;obtain⟨v,rfl,i⟩:=h.one_inv;have g:=Yd d;subst g;obtain⟨p,xs,s,rfl,b,f,_⟩:=i.lst_inv;obtain⟨rfl,rfl⟩:=f.iL;exact c p ns (.inl (.inl b)) (by assumption) rfl
  ·cases a
 ·obtain⟨ns,d,a⟩:=Zc e;split at a
  ·cases a;obtain⟨v,rfl,i⟩:=h.one_inv;have g:=Yd d;subst g;obtain⟨p,xs,rfl,b,f⟩:=i.cst_inv;obtain⟨rfl,rfl⟩:=f.iL;exact c p ns b.sq (by assumption) rfl
  ·cases a
 ·cases e
noncomputable def KO:XS:=λ_=>aA
theorem Nk{X:Cx}{O W:List Nat}{st:cB}:VS X O W st KO:=by intro b s a H D I h;obtain⟨_,_,_,_,_,q,_⟩:=h;cases q
theorem Nl:∀(us:List aI)(k:Nat),(∀(i:Nat)(v:aI),us[i]?=ax v->∃t,v=di ((k+i:Nat):Int) t)->Vals ((aD us.length).map λi=>V.int ((k+i:Nat):Int)) us
 | [],k,_=>.nil
 | u::us,k,h=>by
  obtain⟨t,rfl⟩:=h 0 u rfl;rw[az,fu,af,bZ];refine .cons ⟨t,rfl⟩ ?_;have:=Nl us (k+1) λi v a=>by obtain⟨t,e⟩:=h (i+1) v (by simpa using a);exact⟨t,by rw[e];congr 2;omega⟩
  refine Eq.mp (congrArg (λl=>Vals l us) (au λi _=>?_)) this;show V.int _=V.int _;congr 2;omega
noncomputable def tLR(ta:TA):TE:=λσ H Q=>ta σ H λvs H1=>∃j:Nat,vs=[.int (j:Int)]/\j<=10000/\∀l,H1 l=aA->Q (.ref l) (upd H1 l (.lst ((aD j).map λ(i:Nat)=>V.int (i:Int))))
section
variable {X:Cx} {a:bO} {ta:TA} {p p2 pos pos2:dw}
theorem KP(C:X.calm=aC)(g:Gl X "list")(u:X.mg "list" = aA)(f:Gl X "range")(m:X.mg "range" = aA)(y:PA X [a] ta)(L:aP [a] X.env=[(aB,eval a X.env)]:=by rfl)
  (x:aP [.Call (.Name "range" p2) [a] [] pos2] X.env=(aB,eval (.Call (.Name "range" p2) [a] [] pos2) X.env)::aP [] X.env:=by rfl) (k:(dC pos (aP [] X.env)).any (·.1)=aB:=by rfl) :
  PE X (.Call (.Name "list" p) [.Call (.Name "range" p2) [a] [] pos2] [] pos) (tLR ta):=by
 intro M s G H Q I h;refine dE (XZ I g u rfl ?_);refine bg ?_ x k;refine eB ?_;refine pL (XZ I f m oY (bg (Yo (y pos2 M s G H _ I h) λO s1 ⟨vs,P,D,J,A⟩=>?_) L rfl));obtain⟨j,e,N,q⟩:=A;subst e
 cases J with
 | cons r rr=>
  cases rr;obtain⟨t,rfl⟩:=r;refine call_range_1 (gK ?_);have sz:sizeLine=2^24:=rfl;refine call_list_range (n:=j) (I.ok.hd C) (pS ..) (small_one (by omega) (by omega) (by omega) (by omega)) (by rw[rangeSize_one];split<;>omega) (by omega) λh' tk c B E z d=>?_;have w:=D.kept (t':=s1.toks+1+1) (h':=s1.heap.push { cls:=.type "range",data:=.fields #[.int 0 s1.toks,.int (j:Int) t,.int 1 (s1.toks+1)] }) λb o e=>aK _ e;refine⟨.ref _,_,w.laid E (aZ _) (show ObjOk X.prog X.w _ _ _ (.lst ((aD j).map λ(i:Nat)=>V.int (i:Int))) from⟨by simp;omega,c.toList,B,?_,?_⟩),rfl,q _ (w.hok.fresh (aZ _))⟩
  ·have:=Nl c.toList 0 λi v F=>by obtain⟨t',e⟩:=d.2 i v (by simpa using F);exact⟨t',by rw[e];congr 1;omega⟩
   rw[cM,d.1] at this;refine Eq.mp (congrArg (λl=>Vals l c.toList) (au λi _=>?_)) this;congr 2;omega
  ·rw[ij];exact z
end
noncomputable def Uq:PV->Option PV
 | .int k=>if 0<=k/\k<=10000 then ax (.lst (iL ((aD k.toNat).map λ(i:Nat)=>(i:Int)))) else aA
 | _=>aA
theorem Ur{X:Cx}{a:bO}{m:XE}{p p2 pos b:dw}(B:X.calm=aC)(f:Gl X "list")(j:X.mg "list" = aA)(d:Gl X "range")(h:X.mg "range" = aA)(v:VE X a m)(o:aP [a] X.env=[(aB,eval a X.env)]:=by rfl)
  (u:aP [.Call (.Name "range" p2) [a] [] b] X.env=(aB,eval (.Call (.Name "range" p2) [a] [] b) X.env)::aP [] X.env:=by rfl) (g:(dC pos (aP [] X.env)).any (·.1)=aB:=by rfl) :
  VM X (.Call (.Name "list" p) [.Call (.Name "range" p2) [a] [] b] [] pos) (Pz Uq m):=
 PE.imp (KP B f j d h (Wy v Qg o) o u g) λG H Q ⟨s,l,env,e,k⟩=>by
  obtain⟨x,t,c⟩:=Zc e;refine⟨λ_=>False,s,[x],λ_ z=>z.elim,env,by show(m s).bind _=_;rw[t];rfl,λvs I E s1 D _=>?_⟩;obtain⟨w,rfl,y⟩:=D.one_inv
  cases x with
  | int kk=>
   unfold Uq at c;simp only at c;split at c
   case isFalse=>cases c
   rename_i F;cases c;refine⟨kk.toNat,by rw[y.int_inv.1];congr 2;omega,by omega,λq n=>?_⟩;have C:(aD kk.toNat).map (λ(i:Nat)=>V.int (i:Int))=((aD kk.toNat).map λ(i:Nat)=>(i:Int)).map V.int:=by rw[bZ];rfl
   rw[C];refine k _ _ [q] (s1.trans (Same.new n _)) (Is.lst Zk (Iss.ofInts _)) (by simp) λr A=>?_;rw[aM.mp A];exact⟨Same.off s1 n,by rw[Zk];exact b8⟩
  | _=>cases c
variable {K:aH}
noncomputable def Cst(mg:bH->Option aI)(x:bH)(k:Int):Prop:=∃t,mg x=ax (di k t)
theorem Gy{X:Cx}{x:bH}{k:Int}{pos:dw}(a:Gl X x)(b:Cst X.mg x k)(hd:(x==("__debug__" : bH))=aB:=by decide):VE X (.Name x pos) (eC (.int k)):=by obtain⟨t,e⟩:=b;exact B8 (Zc6 a e (v:=.int k) ⟨t,rfl⟩ hd) λ_=>Is.int k
end VL
namespace VL
open PySem PySem.Spec PyProof.Rows L2
variable {K:aH}
noncomputable def CMulW(i j:Int):Prop:=i.natAbs.log2<67108863/\j.natAbs.log2<67108863
noncomputable def Nm(i j:Int):Prop:=j≠0/\j.natAbs.log2<9000
instance (i j:Int):Decidable (CMulW i j):=by unfold CMulW;infer_instance
instance (i j:Int):Decidable (Nm i j):=by unfold Nm;infer_instance
theorem EL(i:Int):gg i<=i.natAbs.log2+1:=by
 unfold gg;split
 ·exact dq _
 ·exact aZ _
theorem CMulW.ok{i j:Int}(h:CMulW i j):IntMulOk i j:=by
 unfold IntMulOk fj.Int.intTooBig;have a:=EL i;have b:=EL j;have d:=h.1;have c:=h.2
 have:decide (((gg i:Int)+(gg j:Int))>(bitsLine:Int))=aB:=decide_eq_false (by
  have e:(bitsLine:Int)=134217728:=rfl;rw[e];omega)
 rw[this];simp
section
variable {X:Cx} {a b:bO} {fa fb:XE} {pos:dw}
theorem Zen:TH X (dy .Mult) (rI CMulW λi j=>.int (i*j)):=opI λ_ _ _ _ _ _ _ a q=>mul_int q a.ok
theorem AW:TH X (dy .FloorDiv) (rI Nm λi j=>.int (i.fdiv j)):=opI λ_ _ _ _ _ _ _ a q=>floordiv_int a.1 q (.inl (PyProof.noPylong_of_log2 a.2))
abbrev AX:=gIC CMulW (· * ·)
abbrev AY:=gIC Nm pV
theorem EM(c:VE X a fa)(d:VE X b fb):VE X (.BinOp a .Mult b pos) (Zm AX fa fb):=UK Zen (Ic _ _) c d
theorem Iv(c:VE X a fa)(d:VE X b fb):VE X (.BinOp a .FloorDiv b pos) (Zm AY fa fb):=UK AW (Ic _ _) c d
end
theorem Nn:∀{ns:List Int}{n:Int},n∈ns->n.natAbs.log2<=kT (ns.map .int)
 | m::r,n,h=>by
  rw[af];simp only[kT,PySem.W.WData.weight];rcases aa.mp h with rfl | h
  ·by_cases a:n=0
   ·subst a;have:Nat.log2 (Int.natAbs 0)=0:=by decide +kernel
    omega
   ·rw[pW (by simpa using a)];omega
  ·have:=Nn h;omega
end VL
namespace VL
open PySem PySem.Spec PyProof.Rows L2
variable {K:aH}
noncomputable def Zjc(K:aH)(H0:Hp)(D:Y9):Out->Prop
 | .nx _=>∀σ' H',Same H0 H'->D.nx σ' H'
 | .rt l=>∀v fp H',Same H0 H'->Is K H' l v fp->fp.Nodup->(∀p∈fp,H0 p=aA/\UU (H' p))->D.rt v H'
 | _=>False
noncomputable def Zl0(K:aH)(O:List Nat)(f:XS):TS:=λD σ H=>∃H0 fps s out,Rel K O H0 fps s σ H/\f s=ax out/\Zjc K H0 D out
noncomputable def D7(X:Cx)(O:List Nat)(st:List cB)(f:XS):Prop:=PSs X st (Zl0 X.K O f)
section
variable {X:Cx} {O O' W:List Nat} {st:cB} {YC:List cB} {f g:XS}
theorem VSs.r(h:VSs X O W YC f):D7 X O YC f:=PSs.imp h λD i H ⟨d,fps,s,out,r,e,k⟩=>⟨d,fps,s,out,r,e,by
 cases out with
 | nx s'=>exact λg a b c _=>k a b c.same
 | rt l=>exact k
 | bk s'=>exact k.elim
 | ct s'=>exact k.elim⟩
theorem YY(i:VS X O W st f)(h:D7 X O YC g):D7 X O (st::YC) (Zn f g):=PSs.imp (JU i h) λD n H ⟨c,fps,s,out,r,e,k⟩=>by
 obtain⟨b,d,e⟩:=Zc e;refine⟨c,fps,s,b,r,d,?_⟩
 cases b with
 | nx s1=>exact λa m o j _=>⟨c,a,s1,out,j,e,k⟩
 | bk s1=>cases e;exact k.elim
 | ct s1=>cases e;exact k.elim
 | rt l=>cases e;exact k
theorem D8(h:D7 X O' YC g)(a:∀i∈O',i∈O:=by decide):D7 X O YC g:=PSs.imp h λD c H ⟨b,fps,s,out,r,e,k⟩=>⟨b,fps,s,out,r.weak a,e,k⟩
end
theorem D9{N:List bH}{n:Nat}{O:List Nat}{vs:List V}{H:Hp}{ls:List PV}{m:List aL}(k:∀i∈O,n<=i)(t:vs.length=n)(d:Iss K H ls vs m):∃fps,Rel K O H fps (ZP N.length ls) (L2.start N vs) H:=by
 obtain⟨fps,s,p2⟩:=d.fps;have e:=d.len
 have g:∀i:Nat,ls.length<=i->∀l,(ZP N.length ls)[i]?≠ax (ax l):=λi d l z=>by
  unfold ZP at z;rw[bA (by simpa using d),b7] at z;split at z<;>cases z
 refine⟨fps,Same.refl H,?_,λi a z=>?_,λi h=>?_,λi d=>?_,λi d p f=>?_,λi d j u p f=>?_⟩
 ·unfold ZP L2.start;simp[e]
 ·by_cases c:i<ls.length
  ·unfold ZP at z;rw[aj (by simpa using c),aX] at z
   cases q:ls[i]? with
   | none=>rw[q] at z;cases z
   | some b=>
    rw[q] at z;cases z;obtain⟨v,o,b1⟩:=s i a q;refine⟨v,?_,b1⟩;unfold L2.start;rw[aj (by simpa [e] using c),aX,o];rfl
  ·exact absurd z (g i (by omega) a)
 ·by_cases c:i<ls.length
  ·exact absurd (by unfold ZP;rw[aj (by simpa using c),aX,aE c];rfl) (h ls[i])
  ·exact p2 i (by omega)
 ·rw[p2 i (by have:=k i d;omega)];exact cH
 ·rw[p2 i (by have:=k i d;omega)] at f;simp at f
 ·rw[p2 i (by have:=k i d;omega)] at f;simp at f
theorem AZ{N:List bH}{n:Nat}{O:List Nat}{f:XS}{vs:List V}{H:Hp}{Q:VK}{E:XK}(s:∀i∈O,n<=i)(h:Y5 K (YF N.length f) n vs H Q E):Zl0 K O f { nx:=λ_ a=>Q .non a,rt:=Q } (L2.start N vs) H:=by
 obtain⟨k,ls,j,l,t,e,q⟩:=h;obtain⟨out,m,b⟩:=Zc e;obtain⟨fps,g⟩:=D9 s k t;refine⟨H,fps,ZP N.length ls,out,g,m,?_⟩
 cases out with
 | nx s'=>
  cases b;exact λu a c=>q .non a [] c Is.non cH λp o=>by simp at o
 | rt v=>
  cases b;exact λv j a c i d n=>q v a j c i d n
 | bk s'=>cases b
 | ct s'=>cases b
end VL
namespace VL
open PySem PySem.Spec PyProof.Rows L2
noncomputable def A0(i:Nat)(f0:XE):XS:=λs=>(f0 s).bind λl0=>match s[i]? with
 | some (ax l)=>if ZO l0=aC then ax (.rt (.tup [l0,l])) else aA
 | _=>aA
theorem A1{X:Cx}{O:List Nat}{e:bO}{i:Nat}{b:XE}{pos:dw}(n:PE X e (Zk6 (Q4 (tF X.K b) (Q4 (Pp i) DJ))))(c:i∈O:=by decide):VS X O [] (.Return (ax e) pos) (A0 i b):=PS.imp (HW n) λD B H ⟨A,fps,s,out,r,e,k⟩=>by
 obtain⟨y,j,e⟩:=Zc e;split at e
 case h_2=>cases e
 rename_i l u;split at e
 case isFalse=>cases e
 rename_i o;cases e;obtain⟨v,x,p⟩:=r.is i _ u;refine⟨λ_=>False,s,y,λ_ z=>z.elim,r.env,j,λh d f1 s1 f _=>?_⟩;have:=Is.pure _ _ _ o f;subst this;refine⟨v,x,(by show 2<=sizeLine;decide),λq m=>?_⟩;have a:Same d (upd d q (.tup [h,v])):=Same.new m _;have g:=r.grow s1;refine k _ (fps i) _ (g.same.trans a) (Is.tup Zk ?_) (r.nd i c) λz w=>?_
 ·have t:=Iss.cons (f.mono a) (Iss.one ((p.mono s1).mono a));simpa using t
 ·have:=g.own i c z w;exact⟨this.1,Same.mut a this.2⟩
end VL
namespace PW
open PySem L2 VL
noncomputable def Qp:XS:=(ZQ (eP (Ze Rq [Zw 1 [0,1] (xSq (Za 2)) (.one 0) ZD (Zm ZR (Zm ZR (Za 1) (Za 2)) (Za 0))])))
noncomputable def X3:List PV->Option PV:=YF 3 Qp
noncomputable def Wo:XS:=(Zn (YU [] (Xf aB [Za 1]) (.many [3,4]) (Ru (OO (xB (Zm (PF aC) (Za 3) (Za 2))) (xB (Zm MO (Za 4) (Ze X3 [Za 0,Za 3,Za 2])))) (ZQ (eP (Za 3))) YE))
  (ZQ (eP (eC .non))))
noncomputable def Z5:List PV->Option PV:=YF 5 Wo
noncomputable def KQ:XS:=(Zn (Zs 3 (WA [eP (Za 2)]))
  (Zn (Zs 4 (Ze Z5 [Za 0,Za 1,Za 3]))
  (Zn (XC (xB (Rj aC (Za 4))) (Zn (Yz 3 (eP (Za 4)))
  (Zs 4 (Ze Z5 [Za 0,Za 1,Za 3]))))
  (ZQ (Za 3)))))
noncomputable def Vl:List PV->Option PV:=YF 5 KQ
noncomputable def Qq:XS:=(ZQ (Zw 2 [1] (Xf aB [Za 0]) (.many [0,1]) (OO (xB (Zm (Xz aC) (Za 0) (Za 2))) (xB (Zm MO (Za 1) (eC (.int 0))))) (eP (Za 0))))
noncomputable def YZ:List PV->Option PV:=YF 2 Qq
noncomputable def Ca:XS:=(ZQ (eP (Ze Z1 [Zw 2 [3,1,2,0] (MQ aB aB [Za 0,Za 1]) (.many [0,1]) ZD (Zm AY (Zm Wi (Zm AX (Zm ZR (Za 3) (Za 4)) (Za 0)) (Zm AX (Zm ZR (Za 5) (Za 4)) (Za 1))) (Za 2))])))
noncomputable def Qr:List PV->Option PV:=YF 4 Ca
noncomputable def Iw:XS:=(Zn (Zs 1 (Ze Vs [Za 0]))
  (Zn (Zs 2 (eP (eC (.int 1))))
  (Zn (YU [1] (Yk [Ze ZN [Za 0]]) (.one 3) (Zn (Zs 4 (eP (Zm ZR (Za 1) (Za 3))))
  (Zn (Zs 1 (Zw 2 [3,4,2] (Xf aC [Za 1]) (.many [0,1]) ZD (eP (OP (xB (Zm (Xz aB) (Za 0) (Za 2))) (Za 1) (Ze Qr [Za 1,Za 3,Za 2,Za 4])))))
  (Zs 2 (eP (Zm ZR (Za 4) (Za 3)))))))
  (A0 1 (Za 2)))))
noncomputable def Np:List PV->Option PV:=YF 5 Iw
noncomputable def Nq:XS:=(Zn (Zs 2 (Ze Np [Zw 2 [] (MQ aB aB [Za 0,Za 1]) (.many [0,1]) ZD (Zm LF (Za 0) (Wz [Za 1]))]))
  (ZQ (Zw 1 [2] (YL (Zm ZR (Za 2) (eC (.int 1)))) (.one 0) ZD (eP (Zm AY (Zm ZR (Za 0) (Pz Ie (eC (.int 1)))) (Zm ZR (Za 1) (eC (.int 0))))))))
noncomputable def WU:List PV->Option PV:=YF 3 Nq
noncomputable def A2:XS:=(ZQ (eP (Ze Z1 [Zw 1 [1,0] (YL (Za 2)) (.one 0) ZD (OP (xB (Zm (Xz aB) (Za 0) (Za 1))) (Ze VP [Za 2,Za 1]) (Pz Ie (Zm ZR (Zm ZR (Za 2) (Za 1)) (Za 0))))])))
noncomputable def Nr:List PV->Option PV:=YF 3 A2
noncomputable def Qs:XS:=(Zn (Zs 2 (Zw 1 [1] (Yk [Ze ZN [Za 0]]) (.one 0) (xB (Zm (Xz aC) (Za 0) (Za 1))) (eP (Za 0))))
  (ZQ (eP (Ze Z1 [Zw 1 [0,2] (YL (Za 2)) (.one 0) ZD (Ze Nr [Za 1,Za 0,Za 2])]))))
noncomputable def X4:List PV->Option PV:=YF 3 Qs
noncomputable def Cb:XS:=(Zn (Zs 3 (eP (Zm LF (O0 PH (Za 1) MR (Qk (Za 2))) (O0 PH (Za 1) (Qk (Zm YJ (Za 2) (eC (.int 1)))) MR))))
  (Zn (Zs 4 (Ze WU [Ze X4 [Za 0,Za 2],Za 3]))
  (Zn (TR 4 (Za 2) (eC (.int 0)))
  (ZQ (eP (Ze Z1 [Za 4]))))))
noncomputable def X5:List PV->Option PV:=YF 5 Cb
noncomputable def Ta:XS:=(ZQ (eP (Ze Z1 [Zw 1 [1] (Yk [Ze ZN [Za 0]]) (.one 0) ZD (OP (xB (Zm (PF aB) (Za 0) (Za 1))) (Pz Ie (eC (.int 1))) (eC (.int 0)))])))
noncomputable def YB:List PV->Option PV:=YF 2 Ta
noncomputable def EN:XS:=(Zn (Zs 1 (eP (Ze AV [Za 0])))
  (ZQ (eP (Ze Z1 [Zw 1 [1] (U2 (Za 0)) (.one 0) ZD (Zm Wi (Za 0) (Za 1))]))))
noncomputable def T1:List PV->Option PV:=YF 2 EN
noncomputable def Nt:XS:=(Zn (Zs 3 (Ze X5 [Za 0,Za 1,Za 2]))
  (Zn (Zs 4 (Ze VQ [Za 0,Za 1,Za 3]))
  (Zn (Zs 5 (Ze YZ [Za 4,Za 2]))
  (Zn (XC (xB (Zm El (Ze ZN [Za 5]) (eC (.int 0)))) (Zn (Zs 6 (Ze YB [Za 0,Za 5]))
  (Zn (Zs 3 (Ze Vu [Za 3,Za 6]))
  (Zn (Zs 4 (Ze VQ [Za 0,Za 4,Za 6]))
  (Zs 5 (Ze YZ [Za 4,Za 2]))))))
  (ZQ (Wz [Ze T1 [Za 3],eP (Za 4),Ze Vl [Za 0,Za 4,Za 2]]))))))
noncomputable def Tc:List PV->Option PV:=YF 7 Nt
end PW
namespace L2
open PySem PySem.Spec PyProof.Rows
abbrev WJ:=aL->dU->List (List Y8×V)->It
end L2
namespace VL
open PySem PySem.Spec PyProof.Rows L2
variable {K:aH}
theorem LK{a:Type}[DecidableEq a]{b:List a}{k:a}(h:k∉b):Q6 b k=b++[k]:=pW h
theorem LL{a:Type}[DecidableEq a]{b:List a}{vs:List PV}{k:a}{v:PV}(h:k∉b):Q7 b vs k v=vs++[v]:=pW h
end VL
namespace VL
open PySem PySem.Spec PyProof.Rows L2
section
variable {K:aH} {P:bM} {w:bc} {mg:bH->Option aI} {base:ba}
theorem Zeo{x:bH}{st:cB}{N d:List bH}{k n:Nat}{O:List Nat}(m:Nat)(f:XS)(D:Def K mg x st)(S:Zq N d (Zf st))
  (p:∀(kV doc pm:aI)(an:Option aL)(b ct:aI)(us:List aI),us.length=d.length->j4 (dO x x (Xm st) (Yy st) (Zf st) .none kV doc pm an b ct) ⟨us,[]⟩=pure (d.zip us))
  (o:d.length=n) (l:N.length=m) (j:∀i∈O,n<=i)
  (c:∀(e:aL)(b:aI)(A:bq)(a:List ma)(s:aO)(H:Hp)(E:XK),Room k (A.deeper (iZ x (Zf st) s.heap.objs.size e b))->D7 (OC J6 P w K mg base N x (Zf st) e b A a s H E).nox O (Yy st) f) :
  Xi P w K mg base x d (Y5 K (YF m f) n) (k+1):=by
 subst l;refine D.cal S p (λvs H Q E h=>by rw[o];exact h.1) λe b A a s H vs Q E g h=>⟨_,c e b A a s H E g,AZ j h⟩
end
theorem Zep{K:aH}:RB K Zlc Az:=λH x y a b l z fb t w e Q k=>by
 cases a with
 | lst m=>cases b with
  | lst n=>
   have e:(if m.length+n.length<=10000 then ax (PV.lst (m++n)) else aA)=ax l:=e;split at e
   case isFalse=>cases e
   rename_i j;cases e;obtain⟨p,xs,v,rfl,s,i,rfl⟩:=t.lst_inv;obtain⟨o,u,h,rfl,g,d,rfl⟩:=w.lst_inv;refine⟨p,o,xs,u,rfl,rfl,s,g,by rw[i.len,d.len];exact cJ (lt_size j),λq f=>?_⟩;refine k _ _ (q::(v++h)) (Same.new f _) (Is.lst Zk ((i.append d).mono (Same.new f _))) λr c=>?_;rcases aa.mp c with rfl | c
   ·exact .inr (.inr f)
   ·rcases aV.mp c with c | c
    ·exact .inl (aN _ c)
    ·exact .inr (.inl (aN _ c))
  | _=>cases e
 | _=>cases e
theorem Zeq{X:Cx}{a b:bO}{c fb:XE}{pos:dw}(d:VE X a c)(e:VE X b fb):VE X (.BinOp a .Add b pos) (Zm Az c fb):=UK BU Zep d e
end VL
namespace PW
open PySem L2 VL
noncomputable def A3:XS:=(Zn (Zs 3 (eP (Zm Ve (Zm Px (Zm YJ (Zm Ve (Za 0) (eC (.int 999983))) (Za 1)) (Zm YJ (Za 1) (eC (.int 389)))) (eC (.int 999983)))))
  (Zn (Zs 3 (eP (Zm Ve (Zm YJ (Zm YJ (Zm Px (Za 3) (Za 3)) (Zm SD (Za 0) (eC (.int 999983)))) (Za 1)) (eC (.int 999979)))))
  (ZQ (eP (Zm Ve (Zm SD (Za 3) (eC (.int 3))) (Za 2))))))
noncomputable def Xj:List PV->Option PV:=YF 4 A3
noncomputable def Us:XS:=(Zn (Zs 3 (eP (Zm ZR (Za 1) (Zm Ve (Za 0) (Ze ZN [Za 1])))))
  (Zn (Zs 0 (eP (Zm SD (Za 0) (Ze ZN [Za 1]))))
  (Zn (Zs 4 (WA []))
  (Zn (Zs 5 (WA []))
  (Zn (YU [4,5,9] (Yk [Za 3]) (.one 6) (Zn (TR 4 (Zm Ve (Za 0) (Zm YJ (Za 6) (eC (.int 1)))) (Za 6))
  (Zs 0 (eP (Zm SD (Za 0) (Zm YJ (Za 6) (eC (.int 1))))))))
  (Zn (YU [4,5,9] (VF [eC (.int 1),Za 3]) (.one 6) (Zn (Yz 5 (eP (Wz [Za 6,Zm Ve (Za 0) (Za 6)])))
  (Zs 0 (eP (Zm SD (Za 0) (Za 6))))))
  (Zn (Zs 7 (eP (Zm Px (Ze OV [Zm El (Za 3) (eC (.int 1))]) (Zm Ve (Za 0) (Zm YJ (Zm Wi (Za 2) (Za 3)) (eC (.int 2)))))))
  (Zn (Zs 0 (eP (Zm SD (Za 0) (Zm YJ (Zm Wi (Za 2) (Za 3)) (eC (.int 2))))))
  (Zn (YU [4,5,9] (Yk [Za 7]) (.one 6) (Zn (Zs 8 (eP (Zm Ve (Za 0) (Za 3))))
  (Zn (Zs 0 (eP (Zm SD (Za 0) (Za 3))))
  (Zn (Yz 5 (eP (Wz [Za 8,Zm Ve (Zm YJ (Zm YJ (Za 8) (eC (.int 1))) (Zm Ve (Za 0) (Zm Wi (Za 3) (eC (.int 1))))) (Za 3)])))
  (Zs 0 (eP (Zm SD (Za 0) (Zm Wi (Za 3) (eC (.int 1))))))))))
  (Zn (Zs 9 (Zw 1 [3] (Yk [Za 3]) (.one 0) ZD (Zm Gu (WA [eC (.int 0)]) (Za 1))))
  (Zn (YU [9] (YL (Za 5)) (.many [8,10]) (Zn (Zs 11 (eP (Zm YJ (Zm ZR (Zm ZR (Za 9) (Zm ZR (Za 4) (Za 8))) (Zm ZR (Za 4) (Za 10))) (eC (.int 1)))))
  (Zn (WD 9 (Zm ZR (Za 4) (Za 8)) (Zm ZR (Za 4) (Za 10)) (Za 11))
  (WD 9 (Zm ZR (Za 4) (Za 10)) (Zm ZR (Za 4) (Za 8)) (Za 11)))))
  (ZQ (eP (Ze Z1 [Zw 1 [] (YL (Za 9)) (.one 0) ZD (Ze Z1 [Za 0])]))))))))))))))
noncomputable def Ut:List PV->Option PV:=YF 12 Us
noncomputable def Zjd:XS:=(ZQ (eP (OP (xB (Zm MO (Za 1) (Ze ZN [Za 0]))) (Zm ZR (Za 0) (Za 1)) (eC (.int 0)))))
noncomputable def Vv:List PV->Option PV:=YF 2 Zjd
noncomputable def EO:XS:=(Zn (Ru (xB (Zm (Xz aB) (Zm Ve (Ze Vv [Za 0,eC (.int 0)]) (eC (.int 2))) (eC (.int 1)))) (ZQ (Ze Ut [Ze Vv [Za 0,eC (.int 1)],Za 1,Za 2])) YE)
  (Zn (Zs 3 (eP (Zm ZR (Za 1) (Ze Xj [Ze Vv [Za 0,eC (.int 0)],eC (.int 1),Ze ZN [Za 1]]))))
  (Zn (Zs 4 (Zw 1 [3] (Yk [Za 3]) (.one 0) ZD (Zm Gu (WA [eC (.int 0)]) (Za 1))))
  (Zn (Zs 5 (eP (eC (.int 0))))
  (Zn (YU [4] (VF [eC (.int 1),eC (.int 13)]) (.one 6) (Zn (Zs 7 (Ze Vv [Za 0,Za 6]))
  (Zn (Zs 8 (Ze Xj [Za 7,eC (.int 13),Za 3]))
  (Zn (Zs 9 (eP (Zm Ve (Zm YJ (Zm YJ (Za 8) (eC (.int 1))) (Ze Xj [Za 7,eC (.int 17),Ze En [eC (.int 1),Zm Wi (Za 3) (eC (.int 1))]])) (Za 3))))
  (Zn (Ru (xB (Zm MO (Za 6) (Za 3))) (Zn (Zs 8 (eP (Za 6)))
  (Zs 9 (Ze Xj [Za 7,eC (.int 5),Za 6]))) YE)
  (Zn (Zs 10 (eP (Kr (Zm El (Za 3) (eC (.int 1))) (Kr (Zm MO (Za 5) (Za 2)) (Zm El (Ze Xj [Za 7,eC (.int 3),eC (.int 3)]) (eC (.int 0)))))))
  (Ru (Gj (xB (Zm MO (Za 6) (Za 3))) (xB (Za 10))) (Zn (WD 4 (Za 8) (Za 9) (Zm YJ (Zm ZR (Zm ZR (Za 4) (Za 8)) (Za 9)) (eC (.int 1))))
  (Zn (WD 4 (Za 9) (Za 8) (Zm ZR (Zm ZR (Za 4) (Za 8)) (Za 9)))
  (Zs 5 (eP (Zm YJ (Za 5) (eC (.int 1))))))) YE)))))))
  (Zn (Zs 11 (Ze Xj [Ze Vv [Za 0,eC (.int 0)],eC (.int 7),Za 3]))
  (Zn (Zs 4 (Zw 1 [11] (YL (Zm Az (O0 SK (Za 4) (Qk (Za 11)) MR) (O0 SK (Za 4) MR (Qk (Za 11))))) (.one 0) ZD (Zm LB (O0 SK (Za 0) (Qk (Za 1)) MR) (O0 SK (Za 0) MR (Qk (Za 1))))))
  (ZQ (eP (Ze Z1 [Zw 1 [] (YL (Za 4)) (.one 0) ZD (Ze Z1 [Za 0])]))))))))))
noncomputable def KR:List PV->Option PV:=YF 12 EO
noncomputable def A4:XS:=(Zn (Zs 3 (WA []))
  (Zn (YU [3] (Yk [Ze ZN [Za 0]]) (.one 4) (Zn (Zs 5 (eP (Zm ZR (Za 1) (Za 4))))
  (Zn (YU [3] (Yk [Ze ZN [Za 0]]) (.one 6) (Zn (Zs 7 (eP (Zm Wi (Zm ZR (Za 2) (Za 4)) (Zm ZR (Za 2) (Za 6)))))
  (Zs 5 (eP (Zm Wi (Za 5) (Zm Px (Zm ZR (Zm ZR (Za 0) (Za 4)) (Za 6)) (Za 7)))))))
  (Yz 3 (eP (Za 5))))))
  (ZQ (eP (Ze Z1 [Za 3])))))
noncomputable def Nu:List PV->Option PV:=YF 8 A4
noncomputable def A5:XS:=(ZQ (eP (Ze Z1 [Zw 1 [1] (Yk [Ze ZN [Za 0]]) (.one 0) ZD (OP (xB (Zm (Xz aB) (Za 0) (Za 1))) (eC (.int 1)) (eC (.int 0)))])))
noncomputable def Nv:List PV->Option PV:=YF 2 A5
noncomputable def SN:XS:=(Zn (Ru (Gj (Py (xB (Ze UL [Za 0,eC (.ty "tuple")]))) (xB (Zm (Xz aC) (Ze ZN [Za 0]) (Za 1)))) (ZQ (eP (eC (.bl aB)))) YE)
  (ZQ (eP (Ze Kv [Zw 1 [] (U2 (Za 0)) (.one 0) ZD (Ze VR [Za 0])]))))
noncomputable def Uu:List PV->Option PV:=YF 2 SN
noncomputable def Cc:XS:=(ZQ (eP (Zm YJ (Zm Wi (Zm SD (Ze Rq [Zw 1 [] (U2 (Za 0)) (.one 0) ZD (Ze Rq [Za 0])]) (eC (.int 2))) (Ze ZN [Za 0])) (eC (.int 1)))))
noncomputable def Qt:List PV->Option PV:=YF 1 Cc
end PW
namespace VL
open PySem PySem.W PyProof.Rows
section
variable {r:Nat->Int} {n:Nat}
noncomputable def at0(p:Array Nat)(i:Nat):Nat:=p.getD i 0
end
end VL
namespace VL
open PySem PySem.W PyProof.Rows L2
theorem Q8:∀{l m:List Nat},l.Nodup->(∀x∈l,x∈m)->m.length<=l.length->l.Perm m
 | [],m,_,_,hl=>by have:m=[]:=dI.mp (by simpa using hl);subst this;exact .nil
 | x::l,m,nd,sub,hl=>by
  have a:=aq.mp nd;have c:=sub x (by simp);have d:=mE c;refine List.Perm.trans ?_ d.symm;refine .cons x (Q8 a.2 (λy b=>?_) ?_)
  ·have ne:y≠x:=λz=>a.1 (z▸b);exact(e8 ne).mpr (sub y (by simp[b]))
  ·rw[fI c];simp only[az] at hl;omega
end VL
namespace VL
open PySem PySem.Spec PyProof.Rows L2
variable {K:aH}
instance (x:bH) (n:Int):Decidable (MulOk x n):=by unfold MulOk;infer_instance
end VL
namespace VL
open PySem PySem.Spec PyProof.Rows L2
variable {K:aH}
noncomputable def Zer(j i:Nat)(fk:XE):XS:=λs=>(fk s).bind λkk=>(DZ kk).bind λk=>(MI s i).bind λm=>
 (gd (ZC m&&decide (0<=k/\k<10000/\m.length<=10000))).bind λ_=>(m[k.toNat]?).bind λl=>ax (.nx ((s.set i (ax (.lst (m.take k.toNat++m.drop (k.toNat+1))))).set j (ax l)))
theorem Cd{m:List PV}(h:ZC m=aC){k:Nat}{l:PV}(e:m[k]?=ax l):ZO l=aC:=by rw[X1,bK] at h;exact h l (av e)
section
variable {X:Cx} {O:List Nat} {st:cB} {i j:Nat} {fk:XE}
theorem Zje(h:PS X st (Ke (tBM X.K "list" BR (Pp i) (Q4 (tF X.K fk) DJ)) (Sq j)))(v:i∈O:=by decide)(J:j∉O:=by decide):VS X O [j,i] st (Zer j i fk):=PS.imp h λD σ H ⟨H0,fps,s,out,r,e,k⟩=>by
 obtain⟨Z,x,e⟩:=Zc e;obtain⟨a,L,e⟩:=Zc e;obtain⟨m,g,e⟩:=Zc e;obtain⟨_,Q,e⟩:=Zc e;obtain⟨l,I,e⟩:=Zc e;rw[U4 L] at x;have g:=VJ g;have C:=Vj Q;simp only[aw,decide_eq_true_eq] at C;obtain⟨n,k0,k1,E⟩:=C;cases e;obtain⟨p,xs,fq,F,f,N,A⟩:=r.lst_at v g;refine⟨.ref p,F,tyL f,λ_=>False,s,_,λ_ z=>z.elim,r.env,x,λz P W s1 R _=>?_⟩;obtain⟨rfl,_⟩:=R.int_inv;have b:=(N.mono s1).pureEq n;obtain⟨y,f1,G,B,_⟩:=b.get I;have M:=(aR.mp G).1;have:=Is.pure _ _ _ (Cd n I) B;subst this;refine⟨p,xs,a,a.toNat,y,rfl,rfl,s1 _ _ f,by omega,by omega,?_,G,?_⟩
 ·have q:(0:Int)<=a/\a<(xs.length:Int):=by omega
  simp[n8,show ¬a<0 by omega,q.2]
 obtain⟨Y,t,_⟩:=b.take a.toNat;obtain⟨g2,w,_⟩:=b.drop (a.toNat+1);have t:=t.pureEq (O3 _ n);have w:=w.pureEq (O4 _ n);rw[iU];have S:=(r.grow s1).relist v g A F (t.append w) (by simp) λq c=>by simp at c
 have U:=(r.grow s1).own i v p (by rw[A];exact ag);have u:Is X.K (L2.upd P p (.lst (xs.take a.toNat++xs.drop (a.toNat+1)))) l y []:=Is.tr (TK.upd' U.2) _ _ _ (λq c=>by simp at c) B;have T:=S.set u (λz=>absurd z J) (λq _ _ p f=>by simp at f);refine k _ _ _ T λq c=>?_;have d:q≠j:=λz=>c (by rw[z];simp);have o:q≠i:=λz=>c (by rw[z];simp);exact⟨by rw[bW,pW (bX d)],by rw[Ya d];exact .inl (Ya o)⟩
end
end VL
namespace VL
open PySem
noncomputable def Rise(xs:Array Nat):Prop:=xs.toList.Pairwise (· < ·)
theorem RK{xs:Array Nat}{i:Nat}(h:i<xs.size)(d:Nat):xs.getD i d=xs[i]:=by unfold j6;rw[dif_pos h];rfl
theorem Rise.at{xs:Array Nat}(h:Rise xs){i k:Nat}(b:i<k)(a:k<xs.size)(d:Nat):xs.getD i d<xs.getD k d:=by have:=List.pairwise_iff_getElem.mp h i k (by simp;omega) (by simpa using a) b;simp only[ik] at this;unfold j6;rw[dif_pos a,dif_pos (show i<xs.size by omega)];exact this
theorem KS{xs:Array Nat}{j:Nat}(h:Rise xs):∀(fuel lo hi:Nat),lo<=hi->hi<=xs.size->hi-lo<=fuel->(∀i,i<lo->xs.getD i j<j)->(∀i,hi<=i->i<xs.size->j<=xs.getD i j)->
  gO xs j fuel lo hi<=xs.size/\(∀i,i<gO xs j fuel lo hi->xs.getD i j<j)/\∀i,gO xs j fuel lo hi<=i->i<xs.size->j<=xs.getD i j
 | 0,lo,hi,h1,h2,h3,h4,h5=>by unfold gO;exact⟨by omega,h4,λi a=>h5 i (by omega)⟩
 | fuel+1,lo,hi,h1,h2,h3,h4,h5=>by
  unfold gO;by_cases q:lo<hi
  ·rw[p9 q];simp only;by_cases p:xs.getD ((lo+hi)/2) j<j
   ·rw[p9 p];refine KS h fuel _ hi (by omega) h2 (by omega) (λi a=>?_) h5;by_cases e:i=(lo+hi)/2
    ·rw[e];exact p
    ·have:=h.at (show i<(lo+hi)/2 by omega) (show(lo+hi)/2<xs.size by omega) j;omega
   ·rw[pW p];refine KS h fuel lo _ (by omega) (by omega) (by omega) h4 (λi a b=>?_);by_cases e:i=(lo+hi)/2
    ·rw[e];omega
    ·have:=h.at (show(lo+hi)/2<i by omega) b j;omega
  ·rw[pW q];exact⟨by omega,h4,λi a=>h5 i (by omega)⟩
theorem SO{xs:Array Nat}(h:Rise xs)(j:Nat):b9 xs j<=xs.size/\(∀i,i<b9 xs j->xs.getD i j<j)/\∀i,b9 xs j<=i->i<xs.size->j<=xs.getD i j:=
 KS h xs.size 0 xs.size (dq _) (aZ _) (by omega) (λi b=>by omega) (λi a c=>by omega)
theorem Gz{xs:Array Nat}(h:Rise xs):b9 xs 0=0:=by
 have a:=SO h 0;by_cases q:b9 xs 0=0
 ·exact q
 ·have:=a.2.1 0 (by omega);omega
theorem GA{xs:Array Nat}(h:Rise xs){i:Nat}(b:i<xs.size):b9 xs (xs[i]+1)=i+1:=by
 have c:=SO h (xs[i]+1);have a:∀d,xs.getD i d=xs[i]:=λd=>RK b d
 have f:i<b9 xs (xs[i]+1):=by
  by_cases q:b9 xs (xs[i]+1)<=i
  ·have:=c.2.2 i q b;rw[a] at this;omega
  ·omega
 by_cases q:b9 xs (xs[i]+1)=i+1
 ·exact q
 ·have g:=c.2.1 (i+1) (by omega);have e:=h.at (show i<i+1 by omega) (show i+1<xs.size by omega) (xs[i]+1);rw[a] at e;omega
theorem GB(n:Nat):Rise (Array.range n):=by unfold Rise;rw[Array.toList_range];exact kj
theorem A6{xs:Array Nat}(h:Rise xs){j:Nat}(k:¬xs[b9 xs j]?=ax j):Rise (e9 xs (b9 xs j) j):=by
 have g:=SO h j;generalize b9 xs j=p at g k;unfold Rise e9;simp only[dk,iO,mF];rw[ip,ip];have l:xs.toList.Pairwise (· < ·):=h;have take:(xs.toList.extract 0 p)=xs.toList.take p:=by simp[km]
 have drop:(xs.toList.extract p xs.size)=xs.toList.drop p:=by simp only[km];exact bY (by simp)
 rw[take,drop];have lt:∀a∈xs.toList.take p,a<j:=λa d=>by obtain⟨i,e,rfl⟩:=bp d;rw[bG] at e;have:=g.2.1 i (by omega);rw[List.getElem_take];unfold j6 at this;rw[dif_pos (show i<xs.size by simp at e;omega)] at this;simpa using this
 have n:∀a∈xs.toList.drop p,j<a:=λa d=>by
  obtain⟨i,e,rfl⟩:=bp d;rw[bU] at e;have f:p+i<xs.size:=by simp at e;omega
  rw[List.getElem_drop];have m:=g.2.2 (p+i) (by omega) f;unfold j6 at m;rw[dif_pos f] at m;have s:¬xs[p]=j:=λz=>k (by rw[eR (by omega),z]);have t:j<=xs[p]:=by have:=g.2.2 p (aZ _) (by omega);unfold j6 at this;rw[dif_pos (show p<xs.size by omega)] at this;exact this
  by_cases z:i=0
  ·subst z;simp only[jR,ik];omega
  ·have o:=h.at (show p<p+i by omega) f 0;rw[RK f,RK (show p<xs.size by omega)] at o;simp only[ik];omega
 refine⟨⟨l.sublist (e7 _ _),by simp,λa d b c=>?_⟩,l.sublist (List.drop_sublist _ _),λa d b c=>?_⟩
 ·rw[aM.mp c];exact lt a d
 ·rcases aV.mp d with q | q
  ·have:=lt a q;have:=n b c;omega
  ·rw[aM.mp q];exact n b c
structure Wh(led:Bool)(t:cX):Prop where
 rise:Rise t.place
 dum:t.dummies = #[]
 led:t.led=led
theorem Ce(led:Bool):Wh led (og 0 0 led):=⟨by unfold Rise og;simp,rfl,rfl⟩
theorem Vm{led:Bool}{t:cX}(h:Wh led t)(n:Nat):Wh led (t.standIn n):=⟨GB n,rfl,h.led⟩
theorem Iy{t:cX}(hd:t.dummies = #[]){f:Nat->Int}{h:Int}:∀(fuel:Nat)(p:oh),p.dummy=aA->∀j d,fA t f h fuel p=ax (.empty j d)->d=aA/\¬t.place[b9 t.place j]?=ax j
 | 0,p,hp,j,d,e=>by simp[fA] at e
 | fuel+1,p,hp,j,d,e=>by
  unfold fA at e;have b:da t.dummies p.j=aB:=by rw[hd];unfold da;simp
  have a:(t.advance p).dummy=aA:=by
   unfold nt;split
   ·exact hp
   ·exact hp
  cases hs:t.slot p.j with
  | empty=>
   rw[hs] at e;simp only[jm,pJ] at e;obtain⟨rfl,rfl⟩:=e;refine⟨hp,λz=>?_⟩;unfold kA at hs;simp only at hs;rw[z] at hs;simp at hs
  | dummy=>
   exfalso;unfold kA at hs;simp only at hs;rw[b] at hs;split at hs<;>simp at hs
  | live i=>
   rw[hs] at e;simp only at e;split at e
   ·cases e
   ·exact Iy hd fuel _ a j d e
theorem Zes{t:cX}(hd:t.dummies = #[]){h:Int}{j:Nat}{b:Bool}(e:t.freeSlot h=ax (j,b)):b=aB/\¬t.place[b9 t.place j]?=ax j:=by
 unfold jn at e;split at e
 ·rename_i f d c;have:=Iy hd _ _ rfl f d c;obtain⟨rfl,a⟩:=this;simp at e;obtain⟨rfl,rfl⟩:=e;exact⟨rfl,a⟩
 ·cases e
theorem Zet{led:Bool}{t:cX}(h:Wh led t){j:Nat}(b:¬t.place[b9 t.place j]?=ax j):Wh led (t.put j).1:=by
 refine⟨A6 h.rise b,?_,h.led⟩;show(if da t.dummies j=aC then _ else t.dummies) = #[];have a:da t.dummies j=aB:=by rw[h.dum];unfold da;simp
 rw[a];exact h.dum
theorem GC{led:Bool}{t:cX}(h:Wh led t)(d:Array (Int×aI))(a:Int)(x:aI):Wh led (pR t d a x).2.1:=by
 unfold pR
 cases e:t.freeSlot a with
 | none=>exact Vm h _
 | some jb=>
  obtain⟨j,b⟩:=jb;have:=Zes h.dum e;have c:=Zet h this.2;show Wh led ((t.put j).1.orStandIn _);unfold mz;split
  ·exact c
  ·exact Vm c _
theorem Cf{led:Bool}{t:cX}(h:Wh led t)(d:Array (Int×aI))(n:Nat):Wh led (oj t d n).2.1:=by
 unfold oj
 cases e:t.relaid (d.map (·.1)) n with
 | none=>exact Vm h _
 | some to=>
  obtain⟨t',o⟩:=to;simp only;split
  ·show Wh led t';unfold cX.relaid m6 at e;simp only[oO,mS,Option.bind_eq_some_iff,jm,pK] at e;obtain⟨j,_,rfl,_⟩:=e;refine⟨?_,rfl,h.led⟩;show List.Pairwise (· < ·) (List.map _ _).toArray.toList;rw[List.toList_toArray,List.map_filterMap];refine List.Pairwise.filterMap (R:=(· < ·)) _ (λa k g b f i c=>?_) kj;simp at f c;omega
  ·exact Vm h _
end VL
set_option maxHeartbeats 3200000
namespace VL
open PySem PySem.Spec PyProof.Rows
section
variable {prog:bM} {w:bc} {A:bq} {E:aI->aO->Prop} {s:aO}
noncomputable def Qu(w:bc):Bool:=!w.params.followText "set-order"
noncomputable def PM(w:bc):dU:={ cls:=.type "set",dict:=aA,data:=.set #[] 0 (.fresh 0 0 (Qu w)) }
theorem A7(v:aI){Q:aI->aO->Prop}(h:Q (.ref s.heap.objs.size) { s with heap:=s.heap.push (PM w) }) :
  jQ (model prog w) A (.call (.builtin "set.__new__") ⟨[.type "set",v],[]⟩) (wants Q E) s:=by
 refine codeAny_of_tree ?_;refine aG (m:=checkBuiltinCall "set.__new__" ⟨[.type "set",v],[]⟩) (oJ (F.newCall_set_1 v) (aW ⟨plainId_quiet F.plain_set_new _,jI F.entry_set_new ?_⟩));rw[iu F.plain_set_new _];unfold fj.«set.__new__» om;have a:=sub_set_self;cases s;simp only
 wp_walk
 refine kU (aW ?_);simp only[newObj];exact aG (wpAny_alloc (aW (aW h)))
end
theorem Iz:∀{us:List aI}{ns:List Int},i7 us ns->us.length=ns.length
 | _,_,.nil=>rfl
 | _,_,.cons n t h=>by simp[Iz h]
end VL
namespace VL
open PySem PySem.W PyProof.Rows L2
theorem Q9{b:Type}:∀{l:List b}{p:Nat}(h:p<l.length),(l[p]::l.eraseIdx p).Perm l
 | a::l,0,h=>iR _
 | a::l,p+1,h=>by have:=Q9 (l:=l) (p:=p) (by simpa using h);simp only[ko,kW];exact(oq _ _ _).trans (this.cons a)
theorem ER{b:Type}(next:Nat->Nat):∀(fuel k:Nat)(left:List b)(out:Array b),left.length=fuel->∃l,(nu.go next fuel k left out).toList=out.toList++l/\l.Perm left
 | 0,k,left,out,h=>⟨[],by unfold nu.go;simp,by rw[dI.mp h]⟩
 | fuel+1,k,left,out,h=>by
  have a:next k%left.length<left.length:=gW _ (by omega)
  obtain⟨l,d,c⟩:=ER next fuel (k+1) (left.eraseIdx (next k%left.length)) (out.push left[next k%left.length]) (by rw[j7 a];omega)
  refine⟨left[next k%left.length]::l,?_,?_⟩
  ·unfold nu.go;rw[aE a];simp only;rw[d];simp
  ·exact(c.cons _).trans (Q9 a)
theorem Cg{c:Type}(next:Nat->Nat)(xs:Array c):(nu next xs).toList.Perm xs.toList:=by
 obtain⟨l,b,a⟩:=ER next xs.size 0 xs.toList #[] (by simp)
 unfold nu;rw[b];simpa using a
noncomputable def Sl(w:bc)(a:aL)(ep:Nat)(es:Array (Int×aI)):Array (Int×aI):=if w.params.followText "set-order" = aC then nu (w.params.setOrder a ep) es else es
theorem IA(w:bc)(a:aL)(ep:Nat)(b:Array (Int×aI)):(Sl w a ep b).toList.Perm b.toList:=by
 unfold Sl;split
 ·exact Cg _ _
 ·exact iR _
theorem RL(w:bc)(a:aL)(ep:Nat)(b:Array (Int×aI)):(Sl w a ep b).size=b.size:=by have:=(IA w a ep b).length_eq;simpa using this
noncomputable def JQ(w:bc)(t:cX)(i:Nat):Nat:=if w.params.followText "set-order" = aC then 0 else match i with
 | 0=>0
 | j+1=>t.place.getD j 0+1
noncomputable def IsSetIter(h:ba)(it a:aL)(st i n ep:Nat):Prop:=∃o,h.get? it=ax o/\o.cls = .type "set_iterator"/\o.data = .fields #[.int st 0,.int i 0,.ref a,.int n 0,.int ep 0]
theorem slot_setit_next:Slot "set_iterator" "__next__" "set_iterator.__next__":=
 .of (owner:="set_iterator") (n:="__next__") (by rw[typeLookup_type,lU];kernel_rfl) (by decide +kernel) (by decide +kernel) (by decide +kernel)
  (by first | exact .inl (by decide +kernel) | exact .inr (by decide +kernel)) (by rw[mH];kernel_rfl)
theorem VY:entryFor table "set_iterator.__next__" = ax fj.«set_iterator.__next__»:=entryFor_of_tree (by kernel_rfl)
theorem Pa:Manifest.owners.lookup (String.ofList ['r','o','t','a','r','e','t','i','_','t','e','s'].reverse)=ax Manifest.sig_set_iterator:=by kernel_rfl
theorem UN(a:aI):argsOk "set_iterator.__next__" ⟨[a],[]⟩:=by unfold argsOk;rw[signature?_of (id:="set_iterator.__next__") (n:=['_','_','t','x','e','n','_','_']) (o:=['r','o','t','a','r','e','t','i','_','t','e','s']) (by kernel_rfl) Pa];kernel_rfl
theorem UO:Slot "set_iterator" "__iter__" "set_iterator.__iter__":=
 .of (owner:="set_iterator") (n:="__iter__") (by rw[typeLookup_type,lU];kernel_rfl) (by decide +kernel) (by decide +kernel) (by decide +kernel)
  (by first | exact .inl (by decide +kernel) | exact .inr (by decide +kernel)) (by rw[mH];kernel_rfl)
theorem PN(a:aI):argsOk "set_iterator.__iter__" ⟨[a],[]⟩:=by unfold argsOk;rw[signature?_of (id:="set_iterator.__iter__") (n:=['_','_','r','e','t','i','_','_']) (o:=['r','o','t','a','r','e','t','i','_','t','e','s']) (by kernel_rfl) Pa];kernel_rfl
theorem Nw:entryFor table "set.__iter__" = ax fj.«frozenset.__iter__»:=
 entryFor_alias (id':="frozenset.__iter__") (by kernel_rfl) rfl (by decide +kernel) (by kernel_rfl)
section
variable {prog:bM} {w:bc} {A:bq} {E:aI->aO->Prop} {s:aO} {it a:aL} {i ep:Nat} {o:dU} {es:Array (Int×aI)} {t:cX} {ks:List Nat}
theorem IsSetIter.typeIs{st i n ep:Nat}(x:IsSetIter s.heap it a st i n ep):s.TypeIs (.ref it) "set_iterator":=let⟨o,c,b,_⟩:=x;⟨o,c,b⟩
theorem IsSetIter.at{h h':ba}{st i n ep:Nat}(x:IsSetIter h it a st i n ep)(e:∀o,h.get? it=ax o->h'.get? it=ax o):IsSetIter h' it a st i n ep:=let⟨o,b,r⟩:=x;⟨o,e _ b,r⟩
theorem Qv{Q:Bool->aO->Prop}(h:Q (w.params.followText "set-order") s):bJ (model prog w) A setsByText Q E s:=aG (kU (aW h))
theorem GD{st i n ep:Nat}{Q:aI->aO->Prop}(c:IsSetIter s.heap it a st i n ep)(h:Q (.ref it) s):bJ (model prog w) A (nY (.ref it)) Q E s:=by
 obtain⟨b,d⟩:∃b,entryFor table "set_iterator.__iter__" = ax b/\∀(A:bq)(E:aI->aO->Prop)(s:aO)(v:aI)(Q:PySem.Fin->aO->Prop),Q (.done (.ret v)) s->bJ (model prog w) A (b ⟨[v],[]⟩) Q E s:=
  ⟨fj.«dict_keyiterator.__iter__»,entryFor_alias (id':="dict_keyiterator.__iter__") (by kernel_rfl) rfl (by decide +kernel) (by kernel_rfl),λA E s v Q h=>by
   show bJ _ _ (ret v) _ _ s;exact aW h⟩
 refine wpAny_pyIter_slot c.typeIs UO (cj UO c.typeIs d.1 (d.2 _ _ _ _ _ ?_) (PN _));exact⟨_,rfl,"set_iterator",_,c.typeIs,slot_setit_next.lookup,h⟩
theorem A8{Q:Bool->aO->Prop}(e:s.TypeIs (.ref a) "set")(h:Q aB s):bJ (model prog w) A (jU (.ref a)) Q E s:=by
 unfold jU;refine aG (wpAny_specialOf e PySem.F.slot_set_len.lookup ?_);generalize d:("set.__len__" : String)=id0
 wp_delta
 rw[show splitId id0=ax ("set","__len__") from by subst d;decide +kernel];subst d;refine aG (kR (T:="set") (b:=aC) e (by rw[mH];kernel_rfl) ?_);refine cf (λc=>absurd c (by decide)) (λ_=>?_);refine cf (λ_=>?_) (λc=>absurd (by decide +kernel) c);refine aG (wpAny_typeOf e ?_);exact aW h
end
noncomputable def Ci:aI->Int
 | .int n _=>n
 | _=>0
theorem LM:∀{us:List aI},(∀v∈us,∃n t,v=di n t)->i7 us (us.map Ci)
 | [],_=>.nil
 | u::us,h=>by obtain⟨n,t,rfl⟩:=h u (by simp);exact .cons n t (LM λv a=>h v (by simp[a]))
theorem IB(ns:List Nat):(ns.map λ(k:Nat)=>V.int (k:Int))=(ns.map λ(k:Nat)=>(k:Int)).map V.int:=by rw[bZ];rfl
end VL
namespace VX
open PySem PySem.Spec PyProof.Rows L2 VL
abbrev XR:=ZG->Option bH
noncomputable def tFX(K:aH)(O:List Nat)(fx:XR)(E:XK):TS:=λ_ σ H=>∃H0 fps s n,Rel K O H0 fps s σ H/\fx s=ax n/\∀C H',jS K cO n=ax (ax (.ref C))->Same H0 H'->E (.ref C) aA H'
noncomputable def VX(X:Cx)(O:List Nat)(E:XK)(st:cB)(fx:XR):Prop:=PS X st (tFX X.K O fx E)
abbrev XF:=ZG->Option (bH×PV)
noncomputable def sEx(f:XE):XS:=λs=>(f s).map λ_=>.nx s
theorem Zl1{X:Cx}{O:List Nat}{e:bO}{f:XE}{pos:dw}(b:VE X e f)(h:iC e aA pos.line X.env=pure aB:=by rfl):VS X O [] (.Expr e pos) (sEx f):=PS.imp (Y3 b h) λD d H ⟨m,fps,s,out,r,e,k⟩=>by obtain⟨l,a,rfl⟩:=map_some e;exact⟨λ_=>False,s,l,λ_ z=>z.elim,r.env,a,λv g i c is _=>k fps d g (r.grow c) λj _=>⟨rfl,Kep.refl _⟩⟩
end VX
namespace VL
open PySem PySem.Spec PyProof.Rows L2
theorem Zl2{X:Cx}{d e:bO}{f:XE}(h:VE X e f):VI X d e (xSq f):=by
 intro b s a H R I ⟨c,st,ls,hd,env,e,k⟩;unfold xSq at e
 cases q:YL f st with
 | some m=>
  rw[q] at e;cases e;exact Yp h b s a H R I ⟨c,st,_,hd,env,q,k⟩
 | none=>
  rw[q] at e;exact Qi h b s a H R I ⟨c,st,ls,hd,env,e,k⟩
end VL
namespace PW
open PySem L2 VL
noncomputable def A9:XS:=(Zn (Zs 1 (WA []))
  (Zn (YU [1] (Yk [Ze ZN [Za 0]]) (.one 2) (YU [1] (VF [Zm YJ (Za 2) (eC (.int 1)),Ze ZN [Za 0]]) (.one 3) (WC 1 (Zw 1 [2,3] (Yk [Zm ZR (Zm ZR (Za 0) (Za 2)) (Za 3)]) (.one 0) ZD (eP (Wz [Za 1,Za 2]))))))
  (ZQ (Za 1))))
noncomputable def Nx:List PV->Option PV:=YF 4 A9
noncomputable def IC:XS:=(Zn (Zs 2 (Ze Nx [Za 0]))
  (Zn (Zs 3 (Pz Uq (Ze ZN [Za 0])))
  (Zn (Zs 4 (WA []))
  (Zn (Zs 5 (Pz Uq (Ze ZN [Za 2])))
  (Zn (Zs 6 (eP (Zm SD (Za 1) (eC (.int 2)))))
  (Zn (YU [4,5] (Yk [Ze ZN [Za 2]]) (.one 7) (Zn (Zs 8 (Ze Xj [Zm YJ (Za 1) (Zm Px (Zm Px (eC (.int 53)) (Za 7)) (Za 7)),Zm YJ (eC (.int 47)) (Za 7),Ze ZN [Za 5]]))
  (Zn (Ru (xB (Zm (Xz aB) (Zm Ve (Za 1) (eC (.int 2))) (eC (.int 1)))) (Zn (Zs 8 (eP (Zm Ve (Za 6) (Ze ZN [Za 5]))))
  (Zs 6 (eP (Zm SD (Za 6) (Ze ZN [Za 5]))))) YE)
  (Zn (Zer 8 5 (Za 8))
  (Zn (Eu (.many [9,10]) (Zm ZR (Za 2) (Za 8)))
  (Ru (xB (Zm (Xz aC) (Zm ZR (Za 3) (Za 9)) (Zm ZR (Za 3) (Za 10)))) (Zn (Zs 11 (eP (Zm ZR (Za 3) (Za 9))))
  (Zn (Zs 3 (Zw 1 [11,3,10] (YL (Za 3)) (.one 0) ZD (eP (OP (xB (Zm (Xz aB) (Za 0) (Za 1))) (Zm ZR (Za 2) (Za 3)) (Za 0)))))
  (Yz 4 (eP (Za 8))))) YE))))))
  (ZQ (eP (Ze Z1 [Ze RJ [Za 4]])))))))))
noncomputable def Ny:List PV->Option PV:=YF 12 IC
end PW
namespace VL
open PySem
theorem GF{mask:Nat}{b:Array (Option Nat)}{i p f:Nat}(h:(b.getD i (ax 0)).isNone=aC):iS mask b (f+1) i p=ax i:=by unfold iS;have a:∃r,hU mask i+1-i=r+1:=⟨hU mask i-i,by unfold hU;split<;>omega⟩;obtain⟨r,a⟩:=a;rw[a,fu,c9];simp only[jR,h]
noncomputable def GG(ks:List Nat)(j:Nat):Option Nat:=if j∈ks then ax (ks.idxOf j) else aA
noncomputable def RM(mask:Nat)(acc:Option (Array (Option Nat)×Nat))(h:Int):Option (Array (Option Nat)×Nat):=acc.bind λz=>(iS mask z.1 (fR mask) (kB h%(mask+1)) (kB h)).bind λj=>ax (z.1.setIfInBounds j (ax z.2),z.2+1)
theorem Td{a:Array (Option Nat)}{j:Nat}(h:j<a.size)(d:Option Nat):a.getD j d=a[j]:=by unfold j6;rw[dif_pos h];rfl
end VL
namespace VL
open PySem PySem.Spec PyProof.Rows
theorem KU{k:Nat}(h:k<=31):kB (k:Int)=k:=by unfold kB;omega
theorem Zaa{led:Bool}{t:cX}(g:Wh led t)(j:31<=t.mask){k:Nat}(e:k<=31)(b:k∉t.place.toList):t.freeSlot (k:Int)=ax (k,aB):=by
 have a:¬t.place[b9 t.place k]?=ax k:=λz=>b (by
  rw[<-dZ] at z;exact av z)
 have c:da t.dummies k=aB:=by rw[g.dum];unfold da;simp
 have d:t.slot k = .empty:=by unfold kA;simp only;rw[pW (by simpa using a),c];rfl
 have st:(t.probeStart (k:Int)).j=k:=by unfold mU;simp only;rw[KU e];exact du (by omega)
 have i:t.probe (λ_=>(k:Int)+1) (k:Int) (t.probeStart (k:Int))=ax (.empty k aA):=by unfold ot;obtain⟨f,h⟩:∃f,10*fR t.mask=f+1:=⟨10*fR t.mask-1,by unfold fR;omega⟩;rw[h];unfold fA;rw[st,d];rfl
 unfold jn;rw[i];rfl
noncomputable def nx8(j:Nat):Nat:=(j*5+1)%8
noncomputable def it8:Nat->Nat->Nat
 | 0,j=>j
 | n+1,j=>it8 n (nx8 j)
theorem ES{t:cX}(hd:t.dummies = #[]){j:Nat}(h:t.slot j≠.empty):j∈t.place.toList/\∃i,t.slot j = .live i:=by
 have b:da t.dummies j=aB:=by rw[hd];unfold da;simp
 unfold kA at h ⊢;simp only at h ⊢;by_cases q:(t.place[b9 t.place j]?==ax j)=aC
 ·rw[p9 q];have a:t.place[b9 t.place j]?=ax j:=by simpa using q
  rw[<-dZ] at a;exact⟨av a,_,rfl⟩
 ·rw[pW q,b] at h;exact absurd rfl h
theorem ET{t:cX}(hd:t.dummies = #[])(b:t.mask=7){h:Int}:∀(n fuel:Nat)(p:oh),n<fuel->p.more=0->p.i=p.j->p.perturb<32->p.dummy=aA->t.slot (it8 n p.j) = .empty->
  ∃j,fA t (λ_=>h+1) h fuel p=ax (.empty j aA)
 | n,0,p,hf,_,_,_,_,_=>by omega
 | n,fuel+1,p,hf,h1,h2,h3,h4,he=>by
  unfold fA;by_cases q:t.slot p.j = .empty
  ·rw[q];exact⟨p.j,by rw[h4]⟩
  ·obtain⟨_,i,c⟩:=ES hd q;rw[c];have ne:((h+1:Int)==h)=aB:=by simp;omega
   simp only[ne]
   cases n with
   | zero=>exact absurd he q
   | succ n=>
    have a:t.advance p={ p with j:=nx8 p.j,more:=0,i:=nx8 p.j,perturb:=0 }:=by
     unfold nt cX.leap hU;have d:p.perturb/32=0:=by omega
     rw[pW (by omega)];simp only[b,h2,d];have lt:(p.j*5+1+0)%(7+1)<8:=gW _ (by decide);rw[pW (by omega)];unfold nx8;simp
    rw[a];exact ET hd b n fuel _ (by omega) rfl rfl (by show 0<32;decide) h4 he
theorem Zev:∀j,j<8->[it8 0 j,it8 1 j,it8 2 j,it8 3 j,it8 4 j].Nodup:=by decide
theorem ID:∀{l m:List Nat},l.Nodup->(∀x∈l,x∈m)->l.length<=m.length
 | [],m,_,_=>dq _
 | x::l,m,nd,sub=>by have a:=aq.mp nd;have c:=sub x (by simp);have:=ID (l:=l) (m:=m.erase x) a.2 λy b=>(e8 (λz:y=x=>a.1 (by rw[<-z];exact b))).mpr (sub y (by simp[b]));rw[fI c] at this;have:0<m.length:=iT c;simp only[az];omega
theorem Zab{led:Bool}{t:cX}(a:Wh led t)(c:t.mask=7)(o:t.place.size<=4){k:Nat}(f:k<=31):∃j,t.freeSlot (k:Int)=ax (j,aB):=by
 have e:k%8<8:=gW _ (by decide)
 obtain⟨n,l,g⟩:∃n,n<5/\t.slot (it8 n (k%8)) = .empty:=by
  refine cA λq=>?_;have all:∀n,n<5->it8 n (k%8)∈t.place.toList:=λn h=>(ES a.dum λz=>q ⟨n,h,z⟩).1
  have:=ID (Zev (k%8) e) (m:=t.place.toList) (λx b=>by
   simp only[aa,br,or_false] at b;rcases b with rfl | rfl | rfl | rfl | rfl
   ·exact all 0 (by decide)
   ·exact all 1 (by decide)
   ·exact all 2 (by decide)
   ·exact all 3 (by decide)
   ·exact all 4 (by decide))
  simp at this;omega
 have st:t.probeStart (k:Int)={ j:=k%8,more:=0,i:=k%8,perturb:=k,dummy:=aA }:=by unfold mU hU;rw[KU f,c];have:k%(7+1)<8:=gW _ (by decide);simp only;rw[pW (by omega)];simp
 obtain⟨j,d⟩:=ET a.dum c (h:=(k:Int)) n (10*fR t.mask) { j:=k%8,more:=0,i:=k%8,perturb:=k,dummy:=aA } (by unfold fR;omega) rfl rfl (by show k<32;omega) rfl g;refine⟨j,?_⟩;unfold jn ot;rw[st,d];rfl
theorem LN{mask:Nat}(l:31<=mask):∀(ks dn:List Nat)(ow:Array (Option Nat)),(dn++ks).Nodup->(∀k∈ks,k<=31)->ow.size=mask+1->(∀j,j<=mask->ow.getD j aA=GG dn j)->
  ∃a,(ks.map λ(k:Nat)=>(k:Int)).foldl (RM mask) (ax (ow,dn.length))=ax (a,(dn++ks).length)/\a.size=mask+1/\∀j,j<=mask->a.getD j aA=GG (dn++ks) j
 | [],dn,ow,_,_,hs,ho=>⟨ow,by simp,hs,by simpa using ho⟩
 | k::ks,dn,ow,nd,hk,hs,ho=>by
  have m:=hk k (by simp);have b:k∉dn:=λz=>by rw[cN] at nd;exact nd.2.2 k z k (by simp) rfl
  have fr:(ow.getD k (ax 0)).isNone=aC:=by have:=ho k (by omega);rw[Td (by omega)] at this;rw[Td (by omega),this];unfold GG;rw[pW b];rfl
  obtain⟨f,h⟩:∃f,fR mask=f+1:=⟨mask+14,rfl⟩;have st:RM mask (ax (ow,dn.length)) (k:Int)=ax (ow.setIfInBounds k (ax dn.length),dn.length+1):=by unfold RM;simp only[aQ];rw[KU m,du (show k<mask+1 by omega),h,GF fr];rfl
  obtain⟨a,e,c,i⟩:=LN l ks (dn++[k]) (ow.setIfInBounds k (ax dn.length)) (by simpa using nd) (λq d=>hk q (by simp[d])) (by simpa using hs) (λj g=>by
   rw[Td (by simp;omega),Array.getElem_setIfInBounds (by omega)];have o:=ho j g;rw[Td (by omega)] at o;by_cases q:k=j
   ·subst q;rw[p9 rfl];unfold GG;rw[p9 (by simp),nW,pW b];simp
   ·rw[pW q,o];unfold GG;by_cases z:j∈dn
    ·rw[p9 z,p9 (by simp[z]),nW,p9 z]
    ·rw[pW z,pW (by simp[z];exact λy=>q y.symm)])
  refine⟨a,?_,c,by simpa using i⟩;rw[af,gy,st];have:dn.length+1=(dn++[k]).length:=by simp
  rw[this,e];simp
theorem MV(mask:Nat)(a:Array Int):jo mask a=(a.toList.foldl (RM mask) (ax (lJ (mask+1) aA,0))).map (·.1):=by unfold jo;rw[<-Array.foldl_toList];rfl
theorem IE{b c:Type}{f g:b->Option c}:∀{l:List b},(∀j∈l,f j=g j)->l.filterMap f=l.filterMap g
 | [],_=>rfl
 | a::l,h=>by rw[dR,dR,h a (by simp),IE λj d=>h j (by simp[d])]
theorem Zhd{b c:Type}(p:b->Bool)(g:b->c):∀l:List b,(l.filterMap λj=>if p j=aC then ax (g j) else aA)=(l.filter p).map g
 | []=>rfl
 | a::l=>by
  have:=Zhd p g l;cases h:p a<;>simp[dR,jA,h,this]
theorem Cj{a:List Nat}(d:a.Nodup):a.map (λj=>a.idxOf j)=aD a.length:=by
 apply fS
 ·simp
 ·intro i b e;simp only[aJ] at b;rw[oA,nA];have c:a.idxOf a[i]<a.length:=kC.mpr (bQ b);exact(kO d).mp (nB c)
theorem Ck{t:cX}{c:Array (Int×aI)}{a:List Nat}(B:c.toList.map (·.1)=a.map λ(k:Nat)=>(k:Int))(w:a.Nodup)(n:∀k∈a,k<=31)(P:a.length<=18)(I:t.plain=aC) :
  ∃b f,oj t c 20=(b,f,aB)/\f.plain=aC/\f.mask=31/\b.toList.map (·.1)=f.place.toList.map λ(k:Nat)=>(k:Int):=by
 have u:c.size=a.length:=by have:=congrArg df B;simpa using this
 obtain⟨A,v,D,M⟩:=LN (mask:=31) (by decide) a [] (lJ 32 aA) (by simpa using w) n (by simp) (λj p=>by
  unfold GG;rw[Td (by simp;omega)];simp)
 have ls:jo 31 (c.map (·.1))=ax A:=by rw[MV,Array.toList_map,B];have:(a.map λ(k:Nat)=>(k:Int)).foldl (RM 31) (ax (lJ (31+1) aA,0))=ax (A,([]++a).length):=v;rw[this];rfl
 let d:=(aD 32).filter λj=>decide (j∈a)
 have o:((aD (31+1)).filterMap λj=>(A.getD j aA).map λz=>(j,z))=d.map λj=>(j,a.idxOf j):=by
  rw[<-Zhd (λj=>decide (j∈a)) (λj=>(j,a.idxOf j))];refine IE λj p=>?_;have C:j<=31:=by have:=aY.mp p;omega
  rw[M j C];unfold GG;simp only[lE];by_cases q:j∈a<;>simp[q]
 have s:d.Perm a:=(List.perm_ext_iff_of_nodup (cq.filter _) w).mpr λx=>by show x∈(aD 32).filter (λj=>decide (j∈a))↔_;rw[bj,aY,decide_eq_true_eq];exact⟨λh=>h.2,λh=>⟨by have:=n x h;omega,h⟩⟩
 let f:cX:={ mask:=31,place:=d.toArray,dummies:=#[],finger:=t.finger,led:=t.led,moves:=t.movedTo 31,plain:=t.plain };have O:t.relaid (c.map (·.1)) 20=ax (f,(d.map λj=>a.idxOf j).toArray):=by show m6 31 t.finger (t.movedTo 31) t.led t.plain (c.map (·.1))=_;unfold m6;rw[ls];simp only[mS,aQ,oO];rw[o,bZ,bZ];simp only[Function.comp_def,List.map_id'];rfl
 have inj:∀j∈d,∃e,c[a.idxOf j]?=ax e/\e.1=(j:Int):=λj p=>by
  have G:j∈a:=s.mem_iff.mp p;have H:=kC.mpr G;have E:a.idxOf j<c.size:=by omega
  refine⟨c[a.idxOf j],by simp[E],?_⟩;have g:=congrArg (λl=>l[a.idxOf j]?) B;simp only[aX] at g;rw[aE H,dZ,eR E] at g;simp only[bz,jm] at g;rw[g,nB]
 have L:∀l:List Nat,(∀j∈l,∃e,c[a.idxOf j]?=ax e/\e.1=(j:Int))->(((l.map λj=>a.idxOf j).filterMap λi=>c[i]?).map (·.1))=l.map λ(j:Nat)=>(j:Int):=by
  intro l
  induction l with
  | nil=>intro _;rfl
  | cons j l ih=>
   intro h;obtain⟨e,v,D⟩:=h j (by simp);rw[af,dR,v];simp only[af];rw[ih λx J=>h x (by simp[J]),D]
 let b:=((d.map λj=>a.idxOf j).toArray.filterMap λi=>c[i]?);have m:b.toList.map (·.1)=d.map λ(j:Nat)=>(j:Int):=by show((d.map λj=>a.idxOf j).toArray.filterMap λi=>c[i]?).toList.map (·.1)=_;rw[Array.toList_filterMap];exact L d inj
 have y:b.size=a.length:=by have:=congrArg df m;simp only[aJ,cM] at this;rw[this,s.length_eq]
 have N:coversAll (d.map λj=>a.idxOf j).toArray c.size=aC:=by unfold coversAll;rw[List.isPerm_iff,u,<-Cj w];exact s.map _
 have F:f.fits b.size=aC:=by unfold m7 kD;rw[y];have:d.length=a.length:=s.length_eq;simp[f,this];omega
 refine⟨b,f,?_,I,rfl,m⟩;unfold oj;rw[O];show(if(coversAll (d.map λj=>a.idxOf j).toArray c.size&&f.fits b.size)=aC then(b,f,aB) else _)=_;rw[N,F];rfl
structure Zew(led:Bool)(XU:Nat)(es:Array (Int×aI))(t:cX):Prop where
 tab:Wh led t
 plain:t.plain=aC
 fits:t.fits es.size=aC
 val:∀e∈es.toList,∃tg,e.2=di e.1 tg
 way:∃ks:List Nat,es.toList.map (·.1)=(ks.map λ(k:Nat)=>(k:Int))/\ks.Nodup/\(∀k∈ks,k<=31)/\((t.mask=7/\ks.length<=XU)\/(t.mask=31/\t.place.toList=ks))
theorem IF{a:Type}(xs:Array a)(p:Nat)(x:a):(e9 xs p x).toList=xs.toList.take p++x::xs.toList.drop p:=by
 unfold e9;simp only[dk,iO,mF];have take:(xs.toList.extract 0 p)=xs.toList.take p:=by simp[km]
 have drop:(xs.toList.extract p xs.size)=xs.toList.drop p:=by simp only[km];exact bY (by simp)
 rw[take,drop];simp
theorem VZ{t:cX}{n:Nat}(h:t.fits n=aC):t.place.size=n:=by unfold m7 at h;simp only[aw,beq_iff_eq,decide_eq_true_eq] at h;exact h.1
theorem Cm{led:Bool}{f:Array (Int×aI)}{t:cX}(h:Zew led 4 f t){k:Nat}(u:k<=31)(L:(k:Int)∉f.toList.map (·.1))(N:f.size<=17)(l:Tok) :
  ∃b c,pR t f (k:Int) (.int k l)=(b,c,aB,aB)/\Zew led 5 b c:=by
 obtain⟨g,q,G,n,i⟩:=h.way;have E:g.length=f.size:=by have:=congrArg df q;simpa using this.symm
 have O:=VZ h.fits;have C:k∉g:=λz=>L (by rw[q];exact ar.mpr ⟨k,z,rfl⟩)
 obtain⟨j,s,F⟩:∃j,t.freeSlot (k:Int)=ax (j,aB)/\(t.mask=31->j=k):=by
  rcases i with⟨m,w⟩ | ⟨m,o⟩
  ·obtain⟨j,s⟩:=Zab h.tab m (by omega) u;exact⟨j,s,λz=>by omega⟩
  ·exact⟨k,Zaa h.tab (by omega) u (by rw[o];exact C),λ_=>rfl⟩
 have I:da t.dummies j=aB:=by rw[h.tab.dum];unfold da;simp
 let p:=b9 t.place j;let c:cX:={ t with place:=e9 t.place p j };let b:=e9 f p ((k:Int),di (k:Int) l);have pt:t.put j=(c,p):=by unfold cX.put;simp only[I];rfl
 have v:b.toList=f.toList.take p++((k:Int),di (k:Int) l)::f.toList.drop p:=IF _ _ _;have D:c.place.toList=t.place.toList.take p++j::t.place.toList.drop p:=IF _ _ _;have s1:b.size=f.size+1:=by have:=congrArg df v;rw[aT,az,bG,bU] at this;simp only[cM] at this;omega
 have M:c.place.size=f.size+1:=by have:=congrArg df D;rw[aT,az,bG,bU] at this;simp only[cM] at this;omega
 have y:c.fits b.size=aC:=by
  unfold m7 kD;rw[M,s1];have d:c.dummies.size=0:=by show t.dummies.size=0;rw[h.tab.dum];rfl
  rw[d];have m:c.mask=t.mask:=rfl;rw[m];simp only[beq_self_eq_true,Bool.true_and,decide_eq_true_eq];rcases i with⟨m,w⟩ | ⟨m,o⟩<;>omega
 have B:pR t f (k:Int) (.int k l)=(b,c,aB,aB):=by unfold pR;rw[s];simp only[pt];show(b,c.orStandIn b.size,aB,!c.fits b.size)=_;unfold mz;rw[y];rfl
 have tk:=GC h.tab f (k:Int) (.int k l);rw[B] at tk;refine⟨b,c,B,tk,h.plain,y,λe A=>?_,g.take p++k::g.drop p,?_,?_,λx H=>?_,?_⟩
 ·rw[v] at A;rcases aV.mp A with z | z
  ·exact h.val e (cW z)
  ·rcases aa.mp z with rfl | z
   ·exact⟨l,rfl⟩
   ·exact h.val e (dh z)
 ·rw[v,ay,af,gu,gH,q,ay,af,gu,gH]
 ·have J:(g.take p++k::g.drop p).Perm (k::g):=by
   have:=nj (a:=k) (l₁:=g.take p) (l₂:=g.drop p)
   rwa [lO] at this
  exact J.nodup_iff.mpr (aq.mpr ⟨C,G⟩)
 ·rcases aV.mp H with z | z
  ·exact n x (cW z)
  ·rcases aa.mp z with rfl | z
   ·exact u
   ·exact n x (dh z)
 ·rcases i with⟨m,w⟩ | ⟨m,o⟩
  ·left;refine⟨m,?_⟩;rw[aT,az,bG,bU];omega
  ·right;refine⟨m,?_⟩;rw[D,o,F m]
noncomputable def UR(N:List Int)(k:Int):List Int:=if k∈N then N else N++[k]
section
variable {prog:bM} {w:bc} {A:bq} {E:aI->aO->Prop} {s:aO}
noncomputable def SetP(prog:bM)(w:bc)(led:Bool)(h:ba)(a:aL)(N:List Int):Prop:=
 ∃o es ep t,h.get? a=ax o/\o.ExactSet/\o.data = .set es ep t/\ElemsOf (jP prog w) es.toList/\(es.toList.map (·.1)).Perm N/\Zew led 4 es t
theorem SetP.keep{led:Bool}{h h':ba}{a:aL}{N:List Int}(x:SetP prog w led h a N)(k:∀o,h.get? a=ax o->h'.get? a=ax o):SetP prog w led h' a N:=by obtain⟨o,c,ep,t,b,r⟩:=x;exact⟨o,c,ep,t,k o b,r⟩
theorem LO{h:ba}{a:aL}{o:dU}{c es':Array (Int×aI)}{ep:Nat}{t t':cX}(b:h.get? a=ax o)(hd:o.data = .set c ep t):(h.update a (dU.putSet es' t')).get? a=ax { o with data:=.set es' (ep+1) t' }:=by have:=eO (dU.putSet es' t') b (by rw[putSet_of _ _ hd];rfl);rw[putSet_of _ _ hd] at this;exact this
theorem Zex{k:Nat}(h:k<=31):hashInt (k:Int)=k:=by
 have:∀k,k<=31->hashInt ((k:Nat):Int)=(k:Int):=by decide +kernel
 exact this k h
theorem Zac{a:aL}{N:List Int}{k:Nat}{I:Tok}{led:Bool}{Q:Bool->aO->Prop}(hS:SetP prog w led s.heap a N)(O:k<=31)(hl:N.length<=17)
  (h:∀h' b,cP a s.heap h'->SetP prog w led h' a (UR N (k:Int))->Q b { s with heap:=h' }):bJ (model prog w) A (setAddHashed a (.int k I) ((jP prog w).hash k)) Q E s:=by
 obtain⟨o,v,ep,t,R,Y,hd,W,S,T⟩:=hS;have hf:=T.fits;have hz:v.size=N.length:=by have:=S.length_eq;simpa using this
 have hb:v.size<scanBound:=by have:scanBound=4096:=rfl;omega
 have M:(jP prog w).is (k:Int) (.int k I)=aC:=nC _ _ _ _;have B:(di (k:Int) I).scannable=aC:=rfl
 have f:∀e∈v.toList,(jP prog w).is (k:Int) e.2=aC↔e.1=(k:Int):=λe H=>by
  obtain⟨u,hu⟩:=T.val e H;rw[hu];constructor
  ·intro z;exact(jP prog w).inj _ _ _ (nC prog w e.1 u) z
  ·intro z;rw[z];exact nC _ _ _ _
 unfold setAddHashed setAddHashedIn;refine fH (aG (gQ R hd hf ?_));simp only[byScan_of B hb W,if_true];unfold setAddByScan;refine aG (aG (mw (aG (wpAny_setScan_of M R hd hf W ?_))))
 cases q:List.findIdx? (λe=>(jP prog w).is (k:Int) e.2) v.toList with
 | some j=>
  obtain⟨lj,pj,_⟩:=List.findIdx?_eq_some_iff_getElem.mp q;have X:(k:Int)∈N:=S.mem_iff.mp (ar.mpr ⟨_,bQ lj,(f _ (bQ lj)).mp pj⟩);refine aW (aW ?_);have g:=h s.heap aB (cP.refl a s.heap);unfold UR at g;rw[p9 X] at g;exact g ⟨o,v,ep,t,R,Y,hd,W,S,T⟩
 | none=>
  have P:(k:Int)∉v.toList.map (·.1):=λz=>by obtain⟨e,H,e1⟩:=ar.mp z;have:=List.findIdx?_eq_none_iff.mp q e H;rw[(f e H).mpr e1] at this;cases this
  have nN:(k:Int)∉N:=λz=>P (S.mem_iff.mpr z);have hh:(jP prog w).hash (k:Int)=(k:Int):=Zex O;rw[hh];obtain⟨c,n,ly,d⟩:=Cm T O P (by omega) I;have Z:=layNew_perm t v (k:Int) (.int k I);rw[ly,iO] at Z;have J:ElemsOf (jP prog w) c.toList:=by have:=W.push M B;rw[hh] at this;exact this.perm Z
  have F:(c.toList.map (·.1)).Perm (UR N (k:Int)):=by unfold UR;rw[pW nN];have p2:=Z.map (λe:Int×aI=>e.1);rw[ay] at p2;exact p2.trans (S.append_right [(k:Int)])
  have sz1:c.size=N.length+1:=by have:=F.length_eq;unfold UR at this;rw[pW nN,aT] at this;simpa using this
  simp only[ly];refine aG (aW ?_);refine cf (λ_=>?_) (λz=>absurd d.plain z);refine aG ?_;rw[hashByValue_scannable 8 B];refine aW ?_;have pk:plainKind (di (k:Int) I)=aC:=rfl;simp only[pk,if_true];have p:∀{m:Nat},m<=18->m<=sizeLine:=λ{m} q=>by rw[fT];omega
  have g1:=LO (es':=c) (t':=n) R hd;refine aG (wpAny_storeSet_of R hd ?_ (p (by omega)));obtain⟨ks,U,nd,D,L⟩:=d.way;have lk:ks.length=c.size:=by have:=congrArg df U;simpa using this.symm
  refine cf (λz=>?_) (λz=>?_)
  ·have i:n.tooFull=aC:=by simpa using z
   unfold oB kD at i;rw[VZ d.fits,d.tab.dum] at i;simp only[aU,jE,jR,decide_eq_true_eq] at i
   have s5:c.size=5:=by
    rcases L with⟨m,l5⟩ | ⟨m,_⟩
    ·rw[m] at i;omega
    ·rw[m] at i;omega
   have gr:cX.grown c.size=20:=by rw[s5];rfl
   obtain⟨l,C,rl,p2,m2,o2⟩:=Ck (t:=n) U nd D (by omega) d.plain;have tk:=Cf d.tab c 20;have ft:=relayAll_fits n c 20;have G:=relayAll_perm n c 20;rw[rl] at tk ft G;rw[gr];simp only[rl];refine aG (aW ?_);have g2:=LO (es':=l) (t':=C) g1 rfl;have sz2:l.size=c.size:=by have:=G.length_eq;simpa using this
   refine aG (wpAny_storeSet_of g1 rfl ?_ (p (by omega)));have pl2:C.place.toList.map (λ(k:Nat)=>(k:Int))=(C.place.toList).map λ(k:Nat)=>(k:Int):=rfl;have nd2:C.place.toList.Nodup:=tk.rise.imp λq=>by omega
   have e31:∀x∈C.place.toList,x<=31:=λx hx'=>by
    have:(x:Int)∈l.toList.map (·.1):=by rw[o2];exact ar.mpr ⟨x,hx',rfl⟩
    have:=(G.map (λe:Int×aI=>e.1)).mem_iff.mp this;rw[U] at this;obtain⟨y,hy,ey⟩:=ar.mp this;have:=D y hy;omega
   exact aW (aW (h _ aC ((cw s.heap a _).trans (cw _ a _)) ⟨_,l,_,C,g2,Y,rfl,J.perm G,(G.map (λe:Int×aI=>e.1)).trans F,tk,p2,ft,λe H=>d.val e (G.mem_iff.mp H),C.place.toList,o2,nd2,e31,.inr ⟨m2,rfl⟩⟩))
  ·have i:n.tooFull=aB:=by
    cases q:n.tooFull with
    | false=>rfl
    | true=>exact absurd (by rw[q];rfl) z
   have t4:Zew led 4 c n:=by
    refine⟨d.tab,d.plain,d.fits,d.val,ks,U,nd,D,?_⟩;rcases L with⟨m,l5⟩ | r
    ·left;refine⟨m,?_⟩;unfold oB kD at i;rw[VZ d.fits,d.tab.dum,m] at i;simp only[aU,jE,jR,decide_eq_false_iff_not] at i;omega
    ·exact .inr r
   exact aW (aW (h _ aC (cw s.heap a _) ⟨_,c,_,n,g1,Y,rfl,J,F,t4⟩))
end
end VL
namespace VW
open PySem PySem.W PyProof.Rows L2 VL
structure GH(led:Bool)(es:Array (Int×aI))(t:cX):Prop where
 tab:Wh led t
 plain:t.plain=aC
 fits:t.fits es.size=aC
section
variable {prog:bM} {w:bc} {A:bq} {E:aI->aO->Prop} {s:aO} {it a:aL} {i ep:Nat} {o:dU} {es:Array (Int×aI)} {t:cX}
theorem Nz{Q:Option (aI×Nat)->aO->Prop}(f:s.heap.get? a=ax o)(hd:o.data = .set es ep t)(b:GH (Qu w) es t)(p:i<=es.size)
  (h:Q (((Sl w a ep es)[i]?).map λe=>(e.2,JQ w t (i+1))) s):bJ (model prog w) A (setNext a (JQ w t i) i ep) Q E s:=by
 have g:=b.fits;unfold setNext;refine aG (gQ f hd g ?_);refine aG (Qv ?_)
 cases q:w.params.followText "set-order" with
 | true=>
  have c:Sl w a ep es=nu (w.params.setOrder a ep) es:=by unfold Sl;rw[p9 q]
  have d:∀j,JQ w t j=0:=λj=>by unfold JQ;rw[p9 q]
  rw[c,d] at h;rw[d];refine cf (λ_=>?_) (λz=>absurd rfl z);refine cf (λz=>absurd z (by simp)) (λ_=>?_);refine aG ?_;unfold setWalk;refine aG (gQ f hd g ?_);refine aG (Qv ?_);rw[q];refine cf (λ_=>?_) (λz=>absurd rfl z);exact aG (kU (aW (aW h)))
 | false=>
  have c:Sl w a ep es=es:=by unfold Sl;rw[pW (by rw[q];decide)]
  have m:t.led=aC:=by rw[b.tab.led];unfold Qu;rw[q];rfl
  have n:b9 t.place (JQ w t i)=i:=by
   unfold JQ;rw[pW (by rw[q];decide)]
   cases i with
   | zero=>exact Gz b.tab.rise
   | succ j=>
    have k:j<t.place.size:=by rw[VZ b.fits];omega
    simp only;rw[RK k];exact GA b.tab.rise k
  rw[c] at h;refine cf (λz=>absurd z (by decide)) (λ_=>?_);refine cf (λz=>absurd (show(!t.plain&&decide (es.size>1))=aC from z) (by rw[b.plain];simp)) (λ_=>?_);refine aG ?_;refine cf (λz=>absurd z (by rw[m];simp)) (λ_=>aW ?_);simp only[n];by_cases z:i<es.size
  ·have l:i<t.place.size:=by rw[VZ b.fits];omega
   rw[eR z] at h ⊢;rw[eR l];simp only[bz] at h;have:JQ w t (i+1)=t.place[i]+1:=by unfold JQ;rw[pW (by rw[q];decide)];simp only;rw[RK l]
   rw[this] at h;exact aW h
  ·rw[iJ (by omega)] at h ⊢;exact aW h
theorem MW{e:Int×aI}{Q:Option aI->aO->Prop}(d:IsSetIter s.heap it a (JQ w t i) i es.size ep)(g:s.heap.get? a=ax o)(hd:o.data = .set es ep t)(h:GH (Qu w) es t)(j:(Sl w a ep es)[i]?=ax e)
  (m:∀h',IsSetIter h' it a (JQ w t (i+1)) (i+1) es.size ep->cP it s.heap h'->Q (ax e.2) { s with heap:=h' }):bJ (model prog w) A (jv (.ref it)) Q E s:=by
 obtain⟨n,c,l,b⟩:=id d
 have p:i<es.size:=by
  have:=(j8.mp j).1
  rwa [RL] at this
 unfold jv
 refine aG (jy (cV (name:=bH.ofString "__next__") d.typeIs slot_setit_next
  (cj slot_setit_next d.typeIs VY ?_ (UN _))))
 unfold fj.«set_iterator.__next__»;refine aG (aW ?_);refine aG (wpAny_fieldsOf c b ?_);simp only;refine aG (jM g hd h.fits ?_);rw[pW (by simp)];simp only[bV];refine aG (Nz g hd h (cJ p) ?_);rw[j];simp only[bz];refine aG (iP c b (by simp) ?_);have k:(s.heap.update it (dU.mapFields (·.setIfInBounds 0 (gJ (JQ w t (i+1)))))).get? it=ax (n.mapFields (·.setIfInBounds 0 (gJ (JQ w t (i+1))))):=eO _ c (iW (eJ b _));have f:=eJ b (·.setIfInBounds 0 (gJ (JQ w t (i+1))));refine aG (iP k f (by simp) ?_);refine aW ⟨_,rfl,aW (m _ ⟨_,eO _ k (iW (eJ f _)),(jj ..).trans ((jj ..).trans l),?_⟩ ((cw ..).trans (cw ..)))⟩;rw[eJ f];simp[gJ]
theorem KW{Q:Option aI->aO->Prop}(i:A.handled=aA)(c:IsSetIter s.heap it a (JQ w t es.size) es.size es.size ep)(f:s.heap.get? a=ax o)(hd:o.data = .set es ep t)(g:GH (Qu w) es t)
  (h:∀h',mB it s.heap h'->Q aA { s with heap:=h' }):bJ (model prog w) A (jv (.ref it)) Q E s:=by
 obtain⟨k,d,j,e⟩:=id c;unfold jv
 refine aG (jy (cV (name:=bH.ofString "__next__") c.typeIs slot_setit_next
  (cj slot_setit_next c.typeIs VY ?_ (UN _))))
 unfold fj.«set_iterator.__next__»;refine aG (aW ?_);refine aG (wpAny_fieldsOf d e ?_);simp only;refine aG (jM f hd g.fits ?_);rw[pW (by simp)];simp only[bV];refine aG (Nz f hd g (aZ _) ?_);rw[iJ (by rw[RL];exact aZ _)];simp only[Option.map_none];refine aG (iP d e (by simp) ?_);show bJ _ _ (newExc (.type "StopIteration") [] >>= _) _ _ _;refine aG ?_;simp only[newExc,newTuple];refine aG (cy ?_ (by size_fits));refine aG (m:=mC _ _) (oJ (a:=oU) (by first | rfl | (simp only[mC];rfl)) ?_);refine cy ?_ (by size_fits);simp only[raiseNew];refine aG (wpAny_handled ?_);rw[show A.in1.handled=aA from i];refine aG (aW (wpAny_throw ?_));refine aG (kR (T:="StopIteration") (b:=aC) ⟨_,ak _ rfl,rfl⟩ isSubtype_stop ?_);exact aW (h _ (((cw ..).extBut.push _).push _))
theorem Zad{Q:aI->aO->Prop}(b:s.heap.get? a=ax o)(g:o.ExactSet)(hd:o.data = .set es ep t)(e:GH (Qu w) es t)
  (f:Q (.ref s.heap.objs.size) { s with heap:=s.heap.push { cls:=.type "set_iterator",data:=.fields #[.int 0 0,.int 0 0,.ref a,.int es.size 0,.int ep 0] } }):bJ (model prog w) A (nY (.ref a)) Q E s:=by
 have d:s.TypeIs (.ref a) "set":=⟨o,b,g.1⟩;have c:=e.fits;refine wpAny_pyIter_slot d lV (cj lV d Nw ?_ (PySem.F.args_set_iter_1 _));unfold fj.«frozenset.__iter__» pM;refine aG (aG (aW (aW ?_)));refine aG (aG (jM b hd c (aW ?_)));unfold setDrawn;refine aG (aG (gQ b hd c (aG (Qv (aW ?_)))));refine cf (λz=>absurd (show(!(w.params.followText "set-order")&&(!t.plain&&decide (es.size>1)))=aC from z) (by rw[e.plain];simp)) (λ_=>?_);refine aG (aW ?_);unfold setEpoch;refine aG (aG (gQ b hd c (aW ?_)));refine aG (cy (aW ⟨_,rfl,"set_iterator",_,⟨_,ak _ rfl,rfl⟩,slot_setit_next.lookup,?_⟩));simpa [gJ] using f
end
section
variable {prog:bM} {w:bc} {a:aL} {ep:Nat} {o:dU} {es:Array (Int×aI)} {t:cX}
theorem Cn{A:bq}{f:aL}(s:A.handled=aA)(j:a≠f)(hd:o.data = .set es ep t)(n:GH (Qu w) es t) :
  Walks prog w A f [f,a] [f] es.size (λi v=>∃e,(Sl w a ep es)[i]?=ax e/\v=e.2) (λi h=>IsSetIter h f a (JQ w t i) i es.size ep/\h.get? a=ax o) where
 sub:=λb g=>by rw[aM.mp g];exact ag
 frame:=λ_ _ _ st p=>⟨st.1.at λo e=>p _ (by simp) o e,p a (by simp) o st.2⟩
 item:=λi l Q E q st d=>by
  have c:i<(Sl w a ep es).size:=by rw[RL];exact q
  refine MW st.1 st.2 hd n (e:=(Sl w a ep es)[i]) (by simp[c]) λh' k m=>?_;exact d _ h' l.toks ⟨(Sl w a ep es)[i],by simp[c],rfl⟩ ⟨k,m.extBut a o j st.2⟩ λb o g e=>m.extBut b o (λh=>g (by simp[h])) e
 done:=λl Q E st d=>KW s st.1 st.2 hd n λh' u=>d h' l.toks λb o g e=>u b o (λh=>g (by simp[h])) e
 self:=λ_ _ _ _ st d=>GD st.1 d
theorem Zey(d:o.ExactSet)(hd:o.data = .set es ep t)(f:GH (Qu w) es t) :
  KdlSrc prog w "set" a a es.size (λi v=>∃e,(Sl w a ep es)[i]?=ax e/\v=e.2) (λh=>h.get? a=ax o) where
 type:=λ_ b=>⟨o,b,d.1⟩
 there:=λ_ b=>⟨a9 b,a9 b⟩
 keep:=λ_ _ b j=>j a (.inl rfl) o b
 notList:=by decide
 notTuple:=by decide
 hint:=λ_ _ _ _ b c=>A8 ⟨o,b,d.1⟩ c
 iter:=λA s g b=>⟨_,λi h=>IsSetIter h s.heap.objs.size a (JQ w t i) i es.size ep/\h.get? a=ax o,(λ_ _ c=>Zad b d hd f c),Cn g (bN (a9 b)) hd f,⟨⟨_,ak _ rfl,rfl,by
  have:JQ w t 0=0:=by unfold JQ;split<;>rfl
  rw[this];rfl⟩,aK _ b⟩⟩
end
section
variable {prog:bM} {w:bc} {A:bq} {E:aI->aO->Prop} {s:aO}
theorem GI{a:aL}{ep:Nat}{o:dU}{c:Array (Int×aI)}{t:cX}{Q:aI->aO->Prop}(P:A.handled=aA)(S:s.heap.get? a=ax o)(I:o.ExactSet)(hd:o.data = .set c ep t)(H:GH (Qu w) c t)
  (C:∀e∈c.toList,∃tg,e.2=di e.1 tg) (R:c.size<=20) (h:∀(D:aL)(f h':ba)(tk:Nat)(out:Array aI)(d:List Int)(e:Nat),(∀b o,s.heap.get? b=ax o->f.get? b=ax o)->f.objs.size<=D->(∀b o,f.get? b=ax o->h'.get? b=ax o)->h'.get? D=ax (seqObj "list" out e)->
   i7 out.toList d->d.Perm (c.toList.map (·.1))->d.Pairwise (·<=·)->Q (.ref D) { s with heap:=h',toks:=tk }) :
  bJ (model prog w) A (call (.builtin "sorted") [.ref a]) Q E s:=by
 refine Calls.call_function_entry kind_sorted plain_sorted entry_sorted (args_sorted1 _) ?_;unfold fj.«sorted»;refine aG (m:=checkCount "sorted" 1 1 _) (aW ?_);refine aG (kdu_collect (A:=A.in1) (Zey I hd H) P S (by rw[fT];omega) λf tk acc N g=>?_)
 have p:acc.toList=(Sl w a ep c).toList.map (·.2):=by
  apply gM;intro i;rw[aX];by_cases q:i<acc.size
  ·have k:acc.toList[i]?=ax acc[i]:=by simp[q]
   obtain⟨e,n,M⟩:=g.2 i acc[i] (by simp[q]);rw[k,dZ,n,M];rfl
  ·have k:acc.toList[i]?=aA:=by simp;omega
   have n:(Sl w a ep c).toList[i]?=aA:=by have:=g.1;have:=RL w a ep c;simp;omega
   rw[k,n];rfl
 have z:acc.toList.Perm (c.toList.map (·.2)):=by rw[p];exact(IA w a ep c).map _
 have L:i7 acc.toList (acc.toList.map Ci):=LM λv x=>by obtain⟨e,l,rfl⟩:=ar.mp (z.mem_iff.mp x);obtain⟨u,y⟩:=C e l;exact⟨_,u,y⟩
 have F:(acc.toList.map Ci).Perm (c.toList.map (·.1)):=by
  have k:(c.toList.map (·.2)).map Ci=c.toList.map (·.1):=by rw[bZ];refine au λe l=>?_;obtain⟨u,y⟩:=C e l;show Ci e.2=e.1;rw[y];rfl
  rw[<-k];exact z.map Ci
 have B:acc.toList.length<=20:=by have:=F.length_eq;simp only[aJ,cM] at this;rw[cM];omega
 refine aG (wpAny_newList ?_ (by rw[fT];omega));have j:(f.push (seqObj "list" acc.toList.toArray 0)).get? f.objs.size=ax (seqObj "list" acc.toList.toArray 0):=ak _ rfl;show bJ _ _ _ _ _ { s with heap:=f.push (seqObj "list" acc.toList.toArray 0),toks:=tk };refine aG (fH (cj slot_list_sort ⟨_,j,rfl⟩ entry_list_sort (list_sort_tree j L (by omega) λout d G O J=>⟨_,rfl,?_⟩) (args_list_sort _)));obtain⟨e,l⟩:=sortedHeap_at (out:=out) j;refine aW ⟨_,rfl,h f.objs.size f _ tk out d e N (aZ _) (λb o q=>?_) l G (O.trans F) J⟩;rw[sortedHeap_old (bN (a9 q)) (by rw[size_push'];exact cz (a9 q))];exact aK _ q
end
end VW
namespace VW
open PySem PySem.W PySem.Spec PyProof.Rows L2 VL
noncomputable def US(ns:List Nat):List Int:=(ns.map λ(k:Nat)=>(k:Int)).foldl UR []
theorem Co(ns:List Nat)(k:Nat):US (ns++[k])=UR (US ns) (k:Int):=by unfold US;rw[ay,jq];rfl
theorem IG:∀(l N:List Int),(l.foldl UR N).length<=N.length+l.length
 | [],N=>by simp
 | k::l,N=>by
  have:=IG l (UR N k)
  have h:(UR N k).length<=N.length+1:=by
   unfold UR;split<;>simp
  rw[gy,az];omega
theorem IH(ns:List Nat):(US ns).length<=ns.length:=by have:=IG (ns.map λ(k:Nat)=>(k:Int)) [];simpa [US] using this
section
variable {prog:bM} {w:bc} {A:bq} {R:pQ->aO->Prop} {I a:aL} {fp wr:List aL} {G:Array oV->Array oV->Prop} {P:Nat->aI->Prop} {St:Nat->aO->Prop} {led:Bool} {ns:List Nat}
theorem LP(W:WalksS prog w A.in1 I fp wr G ns.length P St)(j:a∉fp)(D:∀i v,P i v->∃t,v = .int ((ns.getD i 0:Nat):Int) t)(g:∀k∈ns,k<=31)(E:ns.length<=17) :
  ∀(m i:Nat)(s:aO),i+m=ns.length->St i s->SetP prog w led s.heap a (US (ns.take i))->
   (∀c,Moved (a::wr) G s c->SetP prog w led c.heap a (US ns)->R (.ok (.ret .none)) c)->
   jQ (model prog w) A (.builtin "set.update.loop" ⟨[.ref a,.ref I],[]⟩) R s
 | 0,i,s,e,st,hS,k=>by
  have h:i=ns.length:=by omega
  subst h;have d:a∉wr:=λz=>j (W.sub _ z);rw[ck] at hS;refine jI gh ?_;rw[iu dm _];refine aG (m:=jv (.ref I)) (W.done s _ _ st λc f=>?_);exact aW (k c (f.mono λb z=>aN _ z) (hS.keep λo z=>f.heap a o d z))
 | m+1,i,s,e,st,hS,k=>by
  have d:a∉wr:=λz=>j (W.sub _ z);have h:i<ns.length:=by omega
  refine jI gh ?_;rw[iu dm _];refine aG (m:=jv (.ref I)) (W.item i s _ _ (by omega) st λv c F u f=>?_);obtain⟨t,rfl⟩:=D i v F;have gd:ns.getD i 0=ns[i]:=by simp[h]
  rw[gd];refine aG (m:=holding [di ((ns[i]:Nat):Int) t] (setAdd a (.int ((ns[i]:Nat):Int) t))) (fH ?_);unfold setAdd;refine fH (aG ((jP prog w).pyHash (k:=((ns[i]:Nat):Int)) (nC _ _ _ _) ?_));have y:SetP prog w led ({ c with toks:=c.toks+1 }:aO).heap a (US (ns.take i)):=hS.keep λo z=>f.heap a o d z;refine Zac (s:={ c with toks:=c.toks+1 }) y (g _ (bQ h)) (by have:=IH (ns.take i);rw[bG] at this;omega) λh' H C B=>?_;have x:SetP prog w led h' a (US (ns.take (i+1))):=by rw[dP h,Co];exact B
  refine aW ⟨plainId_quiet dm _,LP W j D g E m (i+1) _ (by omega) (W.frame _ c _ _ u (iG _) λb z o e=>?_) x λp l n=>?_⟩
  ·rw[C.2 b λq:b=a=>j (by rw[<-q];exact z)];exact e
  ·refine k p (Moved.trans W.gtrans ((f.mono λb z=>aN _ z).then_heap (iG _) λb o z e=>?_) l) n;rw[C.2 b λq:b=a=>z (by rw[q];exact ag)];exact e
end
section
variable {prog:bM} {w:bc} {A:bq} {E:aI->aO->Prop} {s:aO}
theorem Cp{l:aL}{items:Array aI}{ns:List Nat}{Q:aI->aO->Prop}(hh:A.handled=aA)(U:s.heap.IsTuple l items)(L:i7 items.toList (ns.map λ(k:Nat)=>(k:Int)))(B:∀k∈ns,k<=31)(n:ns.length<=17)
  (h:∀(h':ba)(tk:Nat),SetP prog w (Qu w) h' s.heap.objs.size (US ns)->(∀b o,b<s.heap.objs.size->s.heap.get? b=ax o->h'.get? b=ax o)->Q (.ref s.heap.objs.size) { s with heap:=h',toks:=tk }) :
  bJ (model prog w) A (call (.type "set") [.ref l]) Q E s:=by
 have j:items.size=ns.length:=by have:=Iz L;simpa using this
 obtain⟨c,tl,P⟩:=F.called_set.mro;have x1:=F.called_set.made;have x2:=F.called_set.sub;have x3:=F.called_set.notType;have x4:=F.called_set.canCreate;have x5:=F.typeCall_set_1 (.ref l);refine me (codeAny_of_tree ?_);refine aW ⟨Code.quiet_builtin _ (by decide +kernel),jI F.entry_type_call ?_⟩;rw[bq.under_plain (weight_type_call_type "set" [.ref l] []) rfl]
 repeat (any_goals (first | assumption | wp_step))
 refine gZ (A7 (.ref l) (E:=E) (Q:=λv f=>v = .ref s.heap.objs.size/\f={ s with heap:=s.heap.push (PM w) }) ⟨rfl,rfl⟩) λr f g=>?_
 cases r with
 | error e=>exact g
 | ok fl=>
  cases fl with
  | ret v=>
   obtain⟨rfl,rfl⟩:=g;have q:(s.heap.push (PM w)).get? s.heap.objs.size=ax (PM w):=ak _ rfl;have ty:aO.TypeIs { s with heap:=s.heap.push (PM w) } (.ref s.heap.objs.size) "set":=⟨_,q,rfl⟩;have y1:=F.called_set.init.lookup;have y2:=F.called_set.init.bind (.ref s.heap.objs.size)
   repeat (any_goals (first | assumption | wp_step))
   refine gZ (codeAny_call_builtin (R:=wants (λr d=>r = .none/\∃h' tk,d={ s with heap:=h',toks:=tk }/\SetP prog w (Qu w) h' s.heap.objs.size (US ns)/\∀b o,b<s.heap.objs.size->s.heap.get? b=ax o->h'.get? b=ax o) E) F.called_set.init.plain F.entry_set_init (check_set_init_1 ty ?_)) λm d a=>?_
   ·obtain⟨ol,H,J,S,N⟩:=U;obtain⟨oc,od,odt,os⟩:=ol;simp only at J N;subst J N;have g4:(s.heap.push (PM w)).get? l=ax { cls:=.type "tuple",dict:=od,data:=.seq items S,slots:=os }:=aK _ H;have T:(s.heap.push (PM w)).IsTuple l items:=⟨_,g4,rfl,S,rfl⟩;have u1:=F.sub_tuple_set;have u2:=F.sub_tuple_frozenset;have u3:(kY "tuple"==kY "dict")=aB:=by decide
    have u4:(s.heap.push (PM w)).get? s.heap.objs.size=ax { cls:=.type "set",dict:=aA,data:=.set #[] 0 (.fresh 0 0 (Qu w)) }:=q;unfold fj.«set.__init__» noKeywords oP;generalize y:nY=PI
    wp_walk
    subst y;refine j3 T (aG (wpAny_runValue ?_));have D:l<s.heap.objs.size:=a9 H;have W:A.in1.in1.in1.handled=aA:=by simp[hh]
    have ne:l≠(s.heap.push (PM w)).objs.size:=by rw[cR];exact bN (cz D)
    have Z:s.heap.objs.size∉[(s.heap.push (PM w)).objs.size,l]:=by rw[cR];simp only[aa,br,or_false,not_or];exact⟨bN (dt _),fW D⟩
    have ga:((s.heap.push (PM w)).push { cls:=.type "tuple_iterator",data:=.fields #[.ref l,.int 0 0] }).get? s.heap.objs.size=ax (PM w):=aK _ q;have G:=(Walks.tuple (prog:=prog) (w:=w) W _ l ne items).toS;rw[j] at G;refine LP (led:=Qu w) (ns:=ns) G Z (λi v O=>?_) B n ns.length 0 _ (by omega) ⟨⟨_,ak _ rfl,rfl,rfl⟩,T.push _⟩ ?_ λY p z=>?_
    ·have I:i<items.size:=(j8.mp O).1;obtain⟨t,e⟩:=i7.int_at L i v (by rw[dZ];exact O);refine⟨t,e.trans ?_⟩;congr 1;rw[j] at I;simp[I]
    ·exact⟨_,#[],0,_,ga,⟨rfl,rfl,rfl⟩,rfl,λe x=>by simp at x,iR _,Ce _,rfl,rfl,λe x=>by simp at x,[],rfl,cH,by simp,.inl ⟨rfl,by simp⟩⟩
    ·obtain⟨h',X,d',C,u⟩:=Y;have eg:X=s.gens:=p.gens;have ed:d'=s.drawn:=p.drawn;have eo:u=s.os:=p.os;subst eg ed eo;refine aW (aW ⟨rfl,h',C,rfl,z,λb o M e=>?_⟩);refine p.heap b o ?_ (aK _ (aK _ e));rw[cR];simp only[aa,br,or_false,not_or];exact⟨bN M,bN (cz M)⟩
   ·cases m with
    | error e=>exact a
    | ok f₂=>
     cases f₂ with
     | ret r=>
      obtain⟨rfl,h',tk,rfl,z1,z2⟩:=a
      repeat (any_goals (first | assumption | wp_step))
      exact h _ _ z1 z2
     | _=>exact a.elim
  | _=>exact g.elim
end
noncomputable def tSN(K:aH)(ta:TA):TE:=λσ H Q=>ta σ H λvs H1=>∃(p:aL) (ns:List Nat),vs=[.ref p]/\SqT K H1 p (ns.map λ(k:Nat)=>V.int (k:Int))/\(∀k∈ns,k<=31)/\ns.length<=17/\∀l,H1 l=aA->Q (.ref l) (upd H1 l (.lst ((VL.sortI (US ns)).map V.int)))
section
variable {X:Cx} {a:bO} {ta:TA} {p p2 pos pos2:dw}
theorem MX(x:X.calm=aC)(i:Gl X "sorted")(m:X.mg "sorted" = aA)(g:Gl X "set")(k:X.mg "set" = aA)(M:PA X [a] ta)(hs:aP [a] X.env=[(aB,eval a X.env)]:=by rfl)
  (n:aP [.Call (.Name "set" p2) [a] [] pos2] X.env=(aB,eval (.Call (.Name "set" p2) [a] [] pos2) X.env)::aP [] X.env:=by rfl) (j:(dC pos (aP [] X.env)).any (·.1)=aB:=by rfl) :
  PE X (.Call (.Name "sorted" p) [.Call (.Name "set" p2) [a] [] pos2] [] pos) (tSN X.K ta):=by
 intro C s A H Q I h;refine dE (XZ I i m (u:=.builtin "sorted") (by decide +kernel) ?_);refine fO (id:="sorted") ?_ n j;rw[n];show bJ _ _ (spliced ((aB,eval (.Call (.Name "set" p2) [a] [] pos2) X.env)::[])) _ _ s;refine eB ?_;refine pL (XZ I g k (u:=.type "set") (by decide +kernel) (bg (Yo (M pos2 C s A H _ I h) λus s1 ⟨vs,H1,y,r1,P⟩=>?_) hs rfl));obtain⟨b,ns,e,F,l,c,q⟩:=P;subst e
 cases r1 with
 | cons r rr=>
  cases rr;cases r;obtain⟨W,v,O,hz⟩:=y.tuple F;rw[IB] at v;refine Cp (items:=W.toArray) (ns:=ns) (I.ok.hd x) O (SA v) l c λh' tk N Y=>gK ?_;obtain⟨o,es,ep,t,ho,R,hd,L,E,d⟩:=N;have ls:=IH ns;have lz:es.size=(US ns).length:=by have:=E.length_eq;simpa using this
  refine GI (I.ok.hd x) ho R hd ⟨d.tab,d.plain,d.fits⟩ d.val (by omega) λD S h2 tk2 out f e k1 w Z J G a2 T=>?_;have B:Inv X C A H1 { s1 with heap:=S,toks:=tk2 }:=y.kept (t':=tk2) λb o z=>k1 b o (Y b o (a9 z) z);have U:f=VL.sortI (US ns):=VL.sortI_eq (a2.trans E) T;subst U;have lo:(VL.sortI (US ns)).length<=17:=by rw[(VL.sortI_perm _).length_eq];omega
  refine⟨.ref D,_,B.laid (t':=tk2) Z w (show ObjOk X.prog X.w _ _ _ (.lst ((VL.sortI (US ns)).map V.int)) from⟨?_,out.toList,e,?_,?_⟩),rfl,q D (B.hok.fresh w)⟩
  ·rw[aJ,fT];omega
  ·exact Up G
  ·rw[ij];exact J
end
noncomputable def inS(ns:List Int):Bool:=ns.all (λk=>decide (0<=k)&&decide (k<=31))&&decide (ns.length<=17)
noncomputable def gSN:PV->Option PV
 | .tup l=>(Ys l).bind λns=>if inS ns=aC then ax (.lst (iL (VL.sortI (ns.foldl UR [])))) else aA
 | _=>aA
theorem vm_sortedSetN{X:Cx}{a:bO}{w:XE}{p p2 pos b:dw}(L:X.calm=aC)(h:Gl X "sorted")(t:X.mg "sorted" = aA)(f:Gl X "set")(n:X.mg "set" = aA)(G:VE X a w)(B:aP [a] X.env=[(aB,eval a X.env)]:=by rfl)
  (E:aP [.Call (.Name "set" p2) [a] [] b] X.env=(aB,eval (.Call (.Name "set" p2) [a] [] b) X.env)::aP [] X.env:=by rfl) (i:(dC pos (aP [] X.env)).any (·.1)=aB:=by rfl) :
  VM X (.Call (.Name "sorted" p) [.Call (.Name "set" p2) [a] [] b] [] pos) (Pz gSN w):=
 PE.imp (MX L h t f n (Wy G Qg B) B E i) λT H Q ⟨s,l,env,e,k⟩=>by
  obtain⟨x,C,d⟩:=Zc e;refine⟨λ_=>False,s,[x],λ_ z=>z.elim,env,by show(w s).bind _=_;rw[C];rfl,λvs U S s1 R _=>?_⟩;obtain⟨v,rfl,I⟩:=R.one_inv
  cases x with
  | tup m=>
   unfold gSN at d;obtain⟨ns,O,u⟩:=Zc d;split at u
   case isFalse=>cases u
   rename_i c;cases u;have N:=Yd O;subst N;obtain⟨p,xs,rfl,D,M⟩:=I.tup_inv;obtain⟨rfl,rfl⟩:=M.iL;unfold inS at c;simp only[aw,decide_eq_true_eq,bK] at c
   have A:ns=(ns.map iH).map λ(k:Nat)=>(k:Int):=by
    rw[bZ]
    conv=>lhs;rw[<-mI ns]
    refine au λz o=>?_;have:=c.1 z o;show z=((z.toNat:Nat):Int);omega
   have J:ns.map V.int=(ns.map iH).map λ(k:Nat)=>V.int (k:Int):=by rw[IB,<-A]
   have P:US (ns.map iH)=ns.foldl UR []:=by unfold US;rw[<-A]
   refine⟨p,ns.map iH,rfl,?_,?_,by rw[aJ];exact c.2,λq y=>?_⟩
   ·rw[<-J];exact .inl (.inl D)
   ·intro j F;obtain⟨z,o,rfl⟩:=ar.mp F;have:=c.1 z o;omega
   ·rw[P];refine k _ _ [q] (s1.trans (Same.new y _)) (Is.lst Zk (Iss.ofInts _)) (by simp) λr g=>?_;rw[aM.mp g];exact⟨Same.off s1 y,by rw[Zk];exact b8⟩
  | _=>cases d
end VW
namespace VW
open PySem PySem.Spec PyProof.Rows L2 VL
noncomputable def tLS(K:aH)(ta:TA):TE:=λσ H Q=>ta σ H λvs H1=>∃(p:aL) (ns:List Int),vs=[.ref p]/\SqL K H1 p (ns.map V.int)/\ns.length<=1000/\Q (.int ((ns.foldl ou []).length:Int)) H1
theorem Cq(ns:List Int):firstMet (λi=>ns.getD i 0) ns.length=ns.foldl ou []:=by
 unfold firstMet;congr 1;apply fS
 ·simp
 ·intro i b a;simp[a]
section
variable {X:Cx} {a:bO} {ta:TA} {p p2 pos pos2:dw}
theorem Cr(G:X.calm=aC)(f:Gl X "len")(j:X.mg "len" = aA)(d:Gl X "set")(i:X.mg "set" = aA)(A:PA X [a] ta)(N:aP [a] X.env=[(aB,eval a X.env)]:=by rfl)
  (k:aP [.Call (.Name "set" p2) [a] [] pos2] X.env=(aB,eval (.Call (.Name "set" p2) [a] [] pos2) X.env)::aP [] X.env:=by rfl) (g:(dC pos (aP [] X.env)).any (·.1)=aB:=by rfl) :
  PE X (.Call (.Name "len" p) [.Call (.Name "set" p2) [a] [] pos2] [] pos) (tLS X.K ta):=by
 intro x s v H Q I h;refine dE (XZ I f j (u:=.builtin "len") (by decide +kernel) ?_);refine fO (id:="len") ?_ k g;rw[k];show bJ _ _ (spliced ((aB,eval (.Call (.Name "set" p2) [a] [] pos2) X.env)::[])) _ _ s;refine eB ?_;refine pL (XZ I d i (u:=.type "set") (by decide +kernel) (bg (Yo (A pos2 x s v H _ I h) λT s1 ⟨vs,w,n,L,D⟩=>?_) N rfl));obtain⟨b,ns,e,y,R,q⟩:=D;subst e
 cases L with
 | cons r rr=>
  cases rr;cases r;obtain⟨m,l,C,U⟩:=n.list y;have c:m.length=ns.length:=by have:=l.length;rw[aJ] at this;exact this.symm
  have S:scanBound=4096:=rfl;refine call_set_list (ns:=ns) (items:=m.toArray) (I.ok.hd G) C.isList (SA l) (by rw[aU];omega) λh' tk B J=>gK ?_;obtain⟨o,W,ep,t,P,E,hd,_,_,Y,F,M⟩:=B;have O:Inv X x v w { s1 with heap:=h',toks:=tk }:=n.kept (t':=tk) λb o z=>J b o (a9 z) z;refine PySem.call_len_set P E hd F (by omega) ?_;rw[M,aU,c,Cq];exact⟨.int _,w,O.tok _ |>.tok _,⟨_,rfl⟩,q⟩
end
noncomputable def gLS:PV->Option PV
 | .lst l=>(Ys l).bind λns=>if ns.length<=1000 then ax (.int ((ns.foldl ou []).length:Int)) else aA
 | _=>aA
theorem ve_lenSet{X:Cx}{a:bO}{n:XE}{p p2 pos b:dw}(B:X.calm=aC)(f:Gl X "len")(i:X.mg "len" = aA)(d:Gl X "set")(h:X.mg "set" = aA)(w:VE X a n)(o:aP [a] X.env=[(aB,eval a X.env)]:=by rfl)
  (u:aP [.Call (.Name "set" p2) [a] [] b] X.env=(aB,eval (.Call (.Name "set" p2) [a] [] b) X.env)::aP [] X.env:=by rfl) (g:(dC pos (aP [] X.env)).any (·.1)=aB:=by rfl) :
  VM X (.Call (.Name "len" p) [.Call (.Name "set" p2) [a] [] b] [] pos) (Pz gLS n):=
 PE.imp (Cr B f i d h (Wy w Qg o) o u g) λI H Q ⟨s,l,env,e,k⟩=>by
  obtain⟨x,q,c⟩:=Zc e;refine⟨λ_=>False,s,[x],λ_ z=>z.elim,env,by show(n s).bind _=_;rw[q];rfl,λvs J G s1 F _=>?_⟩;obtain⟨v,rfl,y⟩:=F.one_inv
  cases x with
  | lst m=>
   unfold gLS at c;obtain⟨ns,E,j⟩:=Zc c;split at j
   case isFalse=>cases j
   rename_i A;cases j;have D:=Yd E;subst D;obtain⟨p,xs,L,rfl,t,C,_⟩:=y.lst_inv;obtain⟨rfl,rfl⟩:=C.iL;exact⟨p,ns,rfl,.inl (.inl t),A,k _ _ [] s1 (by simp[Is]) (by simp) (by simp)⟩
  | _=>cases c
end VW
namespace PW
open PySem L2 VL VX
noncomputable def Te:XS:=(Zn (Zs 3 (Pz Uq (Ze ZN [Za 0])))
  (Zn (YU [3] (U2 (Za 2)) (.one 4) (Zn (Zs 5 (eP (Zm ZR (Za 1) (Za 4))))
  (Zn (Zs 6 (eP (Zm ZR (Za 3) (Zm ZR (Za 5) (eC (.int 0))))))
  (Zn (Zs 7 (eP (Zm ZR (Za 3) (Zm ZR (Za 5) (eC (.int 1))))))
  (Zs 3 (Zw 1 [6,7] (YL (Za 3)) (.one 0) ZD (eP (OP (xB (Zm (Xz aB) (Za 0) (Za 2))) (Za 1) (Za 0)))))))))
  (ZQ (Za 3))))
noncomputable def Y7:List PV->Option PV:=YF 8 Te
noncomputable def Qw:XS:=(Zn (Zs 2 (Ze Xv [Za 0]))
  (Zn (Ru (Gj (xB (Zm (Xz aC) (Ze ZN [Za 1]) (Zm Wi (Ze ZN [Za 0]) (eC (.int 1))))) (Py (xB (Ze Kv [Zw 1 [2] (U2 (Za 1)) (.one 0) ZD (eCh oLe MO (eC (.int 0)) (Za 0) (Ze ZN [Za 1]))])))) (ZQ (eP (eC (.bl aB)))) YE)
  (ZQ (eP (Kr (Zm (Xz aB) (Ze Vs [Za 1]) (Pz VW.gSN (Za 1))) (Zm (Xz aB) (Pz VW.gLS (Ze Y7 [Za 0,Za 2,Za 1])) (eC (.int 1))))))))
noncomputable def T2:List PV->Option PV:=YF 3 Qw
end PW
namespace VL
open PySem PySem.Spec PyProof.Rows L2
noncomputable def Zez(K:aH):V->List V->Hp->VK->Prop:=λx vs H Q=>∃(p:aL) (ns:List Int) (k:Int),x = .ref p/\vs=[.int k]/\SqL K H p (ns.map V.int)/\Q (.int ((ns.count k:Nat):Int)) H
noncomputable def eqK(k:Int):aI->Bool
 | .int c _=>c==k
 | _=>aB
theorem NA:∀{ns:List Int}{p8:List aI},Vals (ns.map V.int) p8->∀k:Int,p8.countP (eqK k)=ns.count k
 | [],p8,r,k=>by cases r;rfl
 | n::ns,p8,r,k=>by
  rw[af] at r
  cases r with
  | cons r1 r2=>
   obtain⟨t,rfl⟩:=r1;rw[i6,NA r2 k,jJ];rfl
theorem Cs{X:Cx}:MtR X "list.count" (Zez X.K):=by
 intro P s O H x vs v M Q I C D h;obtain⟨p,ns,k,rfl,rfl,l,q⟩:=h;cases C;obtain⟨u,rfl,b⟩:=Sr D;obtain⟨t,rfl⟩:=b;obtain⟨c,r,B,N⟩:=I.list l;obtain⟨o,n,f,E,hd,G⟩:=B;obtain⟨z,R,d,A⟩:=o;subst E hd G;refine fY F.slot_list_count ⟨_,f,rfl⟩ F.entry_list_count (F.args_list_count_2 _ _) (SeqAt.list_countAt p c.toArray n aA A (.int k t) (eqK k)) ⟨f,λy J=>?_,?_⟩
 ·have a:y∈c:=by simpa using J
  obtain⟨j,w,e⟩:=bp a;have m:=r.length;rw[aJ] at m;obtain⟨L,g,b⟩:=r.get (i:=j) (x:=.int ns[j]) (by simp);obtain⟨S,rfl⟩:=b;rw[aE w,e] at g;cases g;exact mx _ _ _ _
 ·rw[NA r k];exact⟨.int _,H,I.tok _,⟨_,rfl⟩,q⟩
noncomputable def T3:PV->PV->Option PV
 | .lst l,.int k=>(Ys l).map λns=>PV.int ((ns.count k:Nat):Int)
 | _,_=>aA
section
variable {X:Cx} {o e:bO} {fo fe:XE} {apos p5:dw}
theorem LQ(G:VE X o fo)(n:VE X e fe)
  (c:mY o "count" X.env (eval o X.env)=eval o X.env:=by rfl)
  (d:((dC p5 (aP [e] X.env)).all (λx=>!x.1)&&(o4 p5 (lZ [] X.env)).all (λx=>x.1.isSome)
   &&decide (([e]:List bO).length+([]:List mN).length+(if([]:List mN).isEmpty then 0 else 1)<30))=aC:=by rfl)
  (b:(apos.endLine==p5.line)=aC:=by rfl) (h:aP [e] X.env=(aB,eval e X.env)::aP [] X.env:=by rfl) (a:(dC p5 (aP [] X.env)).any (·.1)=aB:=by rfl) :
  VE X (.Call (.Attribute o "count" apos) [e] [] p5) (Zm T3 fo fe):=
 PE.imp (WR F.plainAttrs_list F.slot_list_count F.type_list_count Cs G (Wy n Qg h) c d b h a) λM H Q ⟨g,s,l,hd,env,e,k⟩=>by
  obtain⟨B,L,j,i,e⟩:=VD e;refine⟨g,s,B,hd,env,j,λv O I s1 D P=>?_⟩;unfold T3 at e;split at e
  ·obtain⟨ns,A,rfl⟩:=map_some e;have z:=Yd A;subst z;obtain⟨p,xs,C,rfl,f,y,_⟩:=D.lst_inv;obtain⟨rfl,rfl⟩:=y.iL;refine⟨.inl ⟨rfl,_,.inl (.inl f)⟩,g,s,[_],λq m=>Same.mut s1 (hd q m),env.mono s1,by show(fe s).bind _=_;rw[i];rfl,λvs J C s2 E N=>?_⟩;obtain⟨w,rfl,t⟩:=E.one_inv;obtain⟨rfl,_⟩:=t.int_inv;exact⟨p,ns,_,rfl,rfl,.inl (.inl (s2 _ _ f)),k _ _ [] (s1.trans s2) (Is.int _) λr u=>by simp at u⟩
  ·cases e
end
theorem Inv.freezeL{X:Cx}{h:List (aL×dU)}{g:Pw}{H:Hp}{s:aO}{d:aL}{xs:List V}{o:dU}(I:L2.Inv X h g H s)(hd:H d=ax (.lst xs))(j:s.heap.get? d=ax o) :
  L2.Inv X h g (upd H d (.frz o (.lst xs))) s:=by
 have ne:∀b u,H b=ax u->(∀k,u≠.lst k)->b≠d:=λb u q n z=>by rw[z,hd] at q;exact n _ (bC q).symm
 have l:∀b,H b=aA->b≠d:=λb q z=>by rw[z,hd] at q;cases q
 have un:Un X.fs [] H (upd H d (.frz o (.lst xs))) s.heap s.heap:=
  ⟨λb o q _ _ _=>q,λb o q _ _ _=>⟨o.slots,q⟩,λb o q n _=>by rw[upd_ne (l b n)];exact n,λb o q _=>⟨o,q⟩,
   λb xs q=>by rw[upd_ne (ne b _ q λ_ z=>nomatch z)];exact q,λb o u q=>by rw[upd_ne (ne b _ q λ_ z=>nomatch z)];exact q,λb m q=>⟨#[],by rw[upd_ne (ne b _ q λ_ z=>nomatch z),q];simp⟩⟩
 have f:HOk X.prog X.w (upd H d (.frz o (.lst xs))) s.heap:=λb u q=>by
  have a:∀c y,H c=ax (.own y)->upd H d (.frz o (.lst xs)) c=ax (.own y):=λc y z=>by rw[upd_ne (ne c _ z λ_ z=>nomatch z)];exact z
  have e:∀c xs',H c=ax (.tup xs')->upd H d (.frz o (.lst xs)) c=ax (.tup xs'):=λc y z=>by rw[upd_ne (ne c _ z λ_ z=>nomatch z)];exact z
  by_cases i:b=d
  ·subst i;rw[Zk] at q;cases q;exact⟨j,(I.hok b _ hd).stay (λ_ _ _ z=>z) (λc z=>a c _ z) e λc u z=>by rw[upd_ne (ne c _ z λ_ z=>nomatch z)];exact z⟩
  ·rw[upd_ne i] at q;exact(I.hok b u q).stay (λ_ _ _ z=>z) (λc z=>a c _ z) e λc u z=>by rw[upd_ne (ne c _ z λ_ z=>nomatch z)];exact z
 have:=I.un (t':=s.toks) un f;exact this
noncomputable def Ct(f:XE):XE:=λs=>(f s).bind λl=>match l with
 | .lst m=>(Ys m).map λns=>.cst (iL ns)
 | _=>aA
theorem GJ{X:Cx}{e:bO}{f:XE}(h:VM X e f):VE X e (Ct f):=by
 intro J s D H Q I ⟨P,st,l,hd,env,x,k⟩;obtain⟨m,j,g⟩:=Zc (x)
 cases m with
 | lst ms=>
  obtain⟨ns,B,G⟩:=map_some (g);subst G;have A:=Yd B;subst A;refine Yo (h J s D H (λv d=>∃p,v = .ref p/\d p=ax (.lst (ns.map V.int))/\Same H d/\H p=aA) I ⟨st,.lst (iL ns),env.free,j,λv R M c is N E=>?_⟩) λu s1 ⟨v,d,i,t,p,C,a,c,F⟩=>?_
  ·obtain⟨p,xs,S,rfl,a,y,rfl⟩:=is.lst_inv;obtain⟨rfl,rfl⟩:=y.iL;exact⟨p,rfl,a,c,(E p (by simp)).1⟩
  ·subst C;obtain⟨z,O,n,r,L,e⟩:=i.lstM a;refine⟨.ref p,_,Inv.freezeL i a e,t,k _ _ [] (λb o q=>?_) ?_ (by simp)⟩
   ·rw[upd_ne (λw=>by rw[w,F] at q;cases q)];exact c b o q
   ·unfold Is;exact⟨p,_,rfl,.inl ⟨_,Zk⟩,Iss.ofInts _⟩
 | _=>cases g
noncomputable def Zl3(K:aH):R2:=λx y H Q=>∃l b xs zs,x = .ref l/\y = .ref b/\SqL K H l xs/\SqL K H b zs/\xs.length+zs.length<=sizeLine/\∀p,H p=aA->Q (.ref p) (upd H p (.lst (xs++zs)))
theorem Ze0{X:Cx}:TH X (dy .Add) (Zl3 X.K):=by
 intro T s S H x y v u Q I D B h;obtain⟨l,b,xs,N,rfl,rfl,E,w,P,q⟩:=h;cases D;cases B;obtain⟨e,r,C,z⟩:=I.list E;obtain⟨a,m,i,R⟩:=I.list w;obtain⟨⟨t,U,k,O⟩,n,o,F,hd,J⟩:=C;obtain⟨⟨j,A,data2,p⟩,G,c,f,g,d⟩:=i;have M:=r.length;have L:=m.length;subst F hd J f g d;refine k8 ⟨_,o,rfl⟩ ⟨_,c,rfl⟩ noFill_list_add seq_list_add PySem.F.slot_list_add PySem.F.entry_list_add (PySem.F.args_list_add_2 _ _) (list_addW l b e.toArray a.toArray n G _ _ _ _ (by rw[aU,aU];omega)) ⟨o,c,?_⟩;have ea:e.toArray++a.toArray=(e++a).toArray:=by simp
 rw[ea];exact⟨.ref _,_,I.lnew (r.append m) (by rw[aT];omega),rfl,q _ I.fresh⟩
noncomputable def Zae:PV->PV->Option PV
 | .cst m,.lst n=>(Ys m).bind λns=>(Ys n).bind λms=>if ns.length+ms.length<=10000 then ax (.lst (iL (ns++ms))) else aA
 | _,_=>aA
theorem Ze1{X:Cx}{a b:bO}{i fb:XE}{pos:dw}(w:VE X a i)(G:VM X b fb):VM X (.BinOp a .Add b pos) (Zm Zae i fb):=PE.imp (F6 Ze0 w G) λP H Q ⟨s,l,env,e,k⟩=>by
 obtain⟨h,g,o,j,e⟩:=VD e;refine⟨λ_=>False,s,h,λ_ z=>z.elim,env,o,λx S f1 s1 E _=>⟨s,g,env.mono s1,j,λy N L s2 F M R=>?_⟩⟩
 cases h with
 | cst m=>cases g with
  | lst n=>
   obtain⟨ns,D,e⟩:=Zc (e);obtain⟨J,B,e⟩:=Zc e;split at e
   case isFalse=>cases e
   rename_i t;cases e;have:=Yd D;subst this;have:=Yd B;subst this;obtain⟨p,xs,rfl,v,C⟩:=E.cst_inv;obtain⟨u,O,I,rfl,d,c,rfl⟩:=F.lst_inv;obtain⟨rfl,rfl⟩:=C.iL;obtain⟨rfl,rfl⟩:=c.iL;refine⟨p,u,_,_,rfl,rfl,(v.tr (Same.tk2 s2)).sq,.inl (.inl d),by simp only[aJ];exact cJ (lt_size t),λq f=>?_⟩;refine k _ _ [q] (s1.trans (s2.trans (Same.new f _))) ?_ (by simp) λr A=>?_
   ·rw[<-ay];exact Is.lst Zk (Iss.ofInts _)
   ·rw[aM.mp A];exact⟨Same.off (s1.trans s2) f,by rw[Zk];exact b8⟩
  | _=>cases e
 | _=>cases e
noncomputable def Zaf(fk fv:XE):XE:=λs=>(fk s).bind λk=>(fv s).bind λv=>(MS k).bind λkt=>if ZO v=aC then ax (.dK [kt] [v]) else aA
theorem Zag{X:Cx}{e f:bO}{pos:dw}{h fv:XE}(A:VE X e h)(B:VE X f fv):VM X (.Dict [ax e] [f] pos) (Zaf h fv):=PE.imp (Zds (BZ A B Zdr) rfl rfl (λz=>nomatch z) (by simp)) λJ H Q ⟨s,l,env,e,k⟩ p c=>by
 obtain⟨w,n,e⟩:=Zc e;obtain⟨v,o,e⟩:=Zc e;obtain⟨g,x,e⟩:=Zc e;split at e
 case isFalse=>cases e
 rename_i t;cases e;have d:Same H (upd H p (.dK [])):=Same.new c _;refine⟨λ_=>False,s,w,λ_ z=>z.elim,env.mono d,n,λz L G s1 C _=>⟨λ_=>False,s,v,λ_ z=>z.elim,env.mono (d.trans s1),o,λy j I s2 m _=>?_⟩⟩;obtain⟨rfl,rfl⟩:=Oc x C;have F:=Is.pure _ _ _ t m;subst F;have b:=s1.trans s2;have i:=b _ _ Zk;refine⟨i,[(g,y)],rfl,by simp,?_⟩;have E:UU (j p):=by rw[i];exact b8
 have D:Same H (upd j p (.dK [(g,y)])):=λq u a=>by
  have ne:q≠p:=λz=>by rw[z,c] at a;cases a
  rw[upd_ne ne];exact b q u (d q u a)
 refine k (.ref p) _ [p] D (Is.dK Zk rfl ?_) (by simp) λq a=>?_
 ·exact Iss.one (Is.tr (TK.upd' E) _ _ _ (λq a=>by simp at a) m)
 ·rw[aM.mp a];exact⟨c,by rw[Zk];exact b8⟩
end VL
namespace L2
open PySem PySem.Spec PyProof.Rows
theorem NB{x y:bH}{a c:aL}(h:([(x,a)]:List (bH×aL)).lookup y=ax c):c=a:=by grind
theorem Pb{x y:bH}{a c:aL}(h:([(x,a)]:List (bH×aL)).lookup y=ax c):y=x:=by grind
end L2
namespace VL
open PySem PySem.Spec PyProof.Rows L2
variable {K:aH}
noncomputable def NC(H:Hp)(e:aL):Hp:=λb=>if b=e then aA else H b
theorem KY{H:Hp}{e:aL}:NC H e e=aA:=by unfold NC;rw[p9 rfl]
theorem XY{H:Hp}{e b:aL}(h:b≠e):NC H e b=H b:=by unfold NC;rw[pW h]
theorem T4{H:Hp}{e b:aL}(h:H b=aA):NC H e b=aA:=by
 unfold NC;split
 ·rfl
 ·exact h
theorem Ze2{H:Hp}{e b:aL}{o:HO}(h:NC H e b=ax o):b≠e/\H b=ax o:=by
 unfold NC at h;split at h
 ·cases h
 ·rename_i n;exact⟨n,h⟩
theorem WV{H:Hp}{e b:aL}{o u:HO}(c:H e=ax o)(a:H b=ax u)(d:u≠o):b≠e:=by grind
section
variable {P:bM} {w:bc} {H H':Hp} {h h':ba} {e:aL} {eo:dU} {fs:List aL}
theorem Zah(x:HOk P w H h)(d:H e=ax (.frz eo (.own 1))):HOk P w (NC H e) h:=λa o c=>by
 obtain⟨ne,c⟩:=Ze2 c
 exact(x a o c).stay (λ_ _ _ q=>q) (λb q=>by rw[XY (WV d q (by nofun))];exact q) (λb xs q=>by rw[XY (WV d q (by nofun))];exact q)
  λb u q=>by rw[XY (WV d q (by simp))];exact q
theorem EU(x:HOk P w H h)(a:H e=aA)(d:h.get? e=ax eo):HOk P w (upd H e (.frz eo (.own 1))) h:=λb u q=>by
 by_cases z:b=e
 ·subst z;rw[Zk] at q;cases q;exact⟨d,_,d⟩
 ·rw[upd_ne z] at q;exact(x b u q).stay (λ_ _ _ r=>r) (λc r=>by rw[upd_ne (Zr r a)];exact r) (λc xs r=>by rw[upd_ne (Zr r a)];exact r) λc v r=>by rw[upd_ne (Zr r a)];exact r
theorem TabsH.rm{mg:bH->Option aI}{a:ba}(t:TabsH K mg a H)(k:H e=ax (.frz eo (.own 1))):TabsH K mg a (NC H e):=λq c f d=>by obtain⟨Pt,j,tk,g,b,i,h⟩:=t q c f d;exact⟨Pt,j,tk,g,by rw[XY (WV k b (by nofun))];exact b,i,h⟩
theorem TabsH.add{mg:bH->Option aI}{a:ba}(t:TabsH K mg a H)(k:H e=aA):TabsH K mg a (upd H e (.frz eo (.own 1))):=λq c f d=>by obtain⟨Pt,j,tk,g,b,i,h⟩:=t q c f d;exact⟨Pt,j,tk,g,by rw[upd_ne (Zr b k)];exact b,i,h⟩
theorem Ze3(u:Un fs [] (NC H e) H' h h')(a:H e=ax (.frz eo (.own 1)))(c:H' e=aA):Un fs [] H (upd H' e (.frz eo (.own 1))) h h' where
 keep b o q n hf hx:=u.keep b o q (T4 n) hf hx
 slot b o q n hf hx:=u.slot b o q (T4 n) hf hx
 free b o q n hx:=by rw[upd_ne (λz=>by rw[z,a] at n;cases n)];exact u.free b o q (T4 n) hx
 there:=u.there
 tups b xs q:=by have ne:=WV a q (by nofun);rw[upd_ne ne];exact u.tups b xs (by rw[XY ne];exact q)
 frzs b o v q:=by
  by_cases z:b=e
  ·subst z;rw[a] at q;cases q;exact Zk
  ·rw[upd_ne z];exact u.frzs b o v (by rw[XY z];exact q)
 tbls b ps q:=by have ne:=WV a q (by nofun);obtain⟨more,z⟩:=u.tbls b ps (by rw[XY ne];exact q);exact⟨more,by rw[upd_ne ne];exact z⟩
theorem Zjf(u:Un fs [] (upd H e (.frz eo (.own 1))) H' h h')(d:H e=aA)(l:h.get? e=ax eo)(i:e∉fs)(f:HOk P w H' h'):Un fs [] H (NC H' e) h h':=by
 have k:=u.frzs e eo _ Zk;have j:=(f e _ k).1;refine⟨λb o q n c a=>?_,λb o q n c a=>?_,λb o q n a=>?_,u.there,λb xs q=>?_,λb o v q=>?_,λb g q=>?_⟩
 ·by_cases z:b=e
  ·subst z;rw[l] at q;cases q;exact j
  ·exact u.keep b o q (by rw[upd_ne z];exact n) c a
 ·have z:b≠e:=λz=>i (z▸c);exact u.slot b o q (by rw[upd_ne z];exact n) c a
 ·by_cases z:b=e
  ·subst z;exact KY
  ·exact T4 (u.free b o q (by rw[upd_ne z];exact n) a)
 ·have z:=Zr q d;rw[XY z];exact u.tups b xs (by rw[upd_ne z];exact q)
 ·have z:=Zr q d;rw[XY z];exact u.frzs b o v (by rw[upd_ne z];exact q)
 ·have z:=Zr q d;obtain⟨more,y⟩:=u.tbls b g (by rw[upd_ne z];exact q);exact⟨more,by rw[XY z];exact y⟩
end
mutual
def YM:PV->Bool
 | .non=>aC
 | .bl _=>aC
 | .int _=>aC
 | .str _=>aC
 | .ty _=>aC
 | .exc _=>aB
 | .exf _ _=>aB
 | .clo _ _=>aB
 | .tup l=>Xh l
 | .lst l=>Xh l
 | .cst l=>Xh l
 | .dK _ l=>Xh l
 | .dT _ l=>Xh l
def Xh:List PV->Bool
 | []=>aC
 | x::r=>YM x&&Xh r
end
theorem Rd.rm{H:Hp}{e:aL}{c:dU}(a:H e=ax (.frz c (.own 1))){p:aL}{u:HO}(b:u≠.own 1)(d:∀o v,u≠.frz o v)(r:Rd H p u):Rd (NC H e) p u:=by
 rcases r with r | ⟨o,r⟩
 ·exact .inl (by rw[XY (WV a r (d _ _))];exact r)
 ·exact .inr ⟨o,by rw[XY (WV a r (by intro z;cases z;exact b rfl))];exact r⟩
mutual
theorem Is.rm{H:Hp}{e:aL}{k:dU}(b:H e=ax (.frz k (.own 1))):∀(l:PV)(v:V)(fp:List aL),YM l=aC->Is K H l v fp->Is K (NC H e) l v fp
 | .non,_,_,_,h=>by simpa only[Is] using h
 | .bl _,_,_,_,h=>by simpa only[Is] using h
 | .int _,_,_,_,h=>by simpa only[Is] using h
 | .str _,_,_,_,h=>by simpa only[Is] using h
 | .ty _,_,_,_,h=>by simpa only[Is] using h
 | .exc _,_,_,hp,_=>by simp[YM] at hp
 | .exf _ _,_,_,hp,_=>by simp[YM] at hp
 | .clo _ _,_,_,hp,_=>by simp[YM] at hp
 | .tup l,v,fp,hp,h=>by simp only[Is] at h ⊢;obtain⟨p,xs,c,a,d⟩:=h;exact⟨p,xs,c,by rw[XY (WV b a (by nofun))];exact a,Iss.rm b l xs fp (by simpa only[YM] using hp) d⟩
 | .lst l,v,fp,hp,h=>by simp only[Is] at h ⊢;obtain⟨p,xs,f,c,a,d,g⟩:=h;exact⟨p,xs,f,c,by rw[XY (WV b a (by nofun))];exact a,Iss.rm b l xs f (by simpa only[YM] using hp) d,g⟩
 | .cst l,v,fp,hp,h=>by
  simp only[Is] at h ⊢;obtain⟨p,xs,c,a,d⟩:=h;refine⟨p,xs,c,?_,Iss.rm b l xs fp (by simpa only[YM] using hp) d⟩;rcases a with⟨o,a⟩ | a
  ·exact .inl ⟨o,by rw[XY (WV b a (by intro z;cases z))];exact a⟩
  ·exact .inr a
 | .dK ks l,v,fp,hp,h=>by simp only[Is] at h ⊢;obtain⟨p,i,f,c,a,j,d,g⟩:=h;exact⟨p,i,f,c,Rd.rm b (λz=>HO.noConfusion z) (λ_ _ z=>HO.noConfusion z) a,j,Iss.rm b l _ f (by simpa only[YM] using hp) d,g⟩
 | .dT ks l,v,fp,hp,h=>by simp only[Is] at h ⊢;obtain⟨p,i,f,c,a,j,d,g⟩:=h;exact⟨p,i,f,c,Rd.rm b (λz=>HO.noConfusion z) (λ_ _ z=>HO.noConfusion z) a,j,Iss.rm b l _ f (by simpa only[YM] using hp) d,g⟩
theorem Iss.rm{H:Hp}{e:aL}{i:dU}(a:H e=ax (.frz i (.own 1))):∀(l:List PV)(xs:List V)(fp:List aL),Xh l=aC->Iss K H l xs fp->Iss K (NC H e) l xs fp
 | [],_,_,_,h=>by simpa only[Iss] using h
 | l::ls,xs,fp,hp,h=>by simp only[Xh,aw] at hp;obtain⟨x,r,f1,f,g,b,c,d⟩:=h.inv;subst g d;exact Iss.cons (Is.rm a l x f1 hp.1 b) (Iss.rm a ls r f hp.2 c)
end
structure Tf(N ps:List bH)(L:Lam):Prop where
 kind:L.scope.kind = .function
 co:L.scope.isCoroutine=aB
 gen:L.scope.isGenerator=aB
 nocell:∀y∈L.scope.names,y.2≠.cell
 nd:N.Nodup
 eq:N=ps++[L.free]
 par:∀x∈ps,L.scope.names.lookup x=ax .local
 fre:L.scope.names.lookup L.free=ax .free
 one:∀y∈L.scope.names,y.2 = .free->y.1=L.free
 qn:Po L.qual=aB
noncomputable def Zai(P:bM)(w:bc)(K:aH)(mg:bH->Option aI)(base:ba)(N:List bH)(L:Lam)(f c e:aL)(A:bq)(outer:List ma)(s:aO)(H:Hp):Cx where
 prog:=P
 w:=w
 K:=K
 mg:=mg
 base:=base
 A:=A.deeper (kq L.qual L.scope s.heap.objs.size f (.ref c) [(L.free,e)])
 N:=N
 s₀:=s
 H₀:=H
 env:=kq L.qual L.scope s.heap.objs.size f (.ref c) [(L.free,e)]
 outer:=outer
 stack:=kq L.qual L.scope s.heap.objs.size f (.ref c) [(L.free,e)]::outer
 ex:=[]
 calm:=aC
 fn:=λ_=>aB
 pn:=[]
 xe:=λ_ _=>False
theorem Zaj:∀{b:List bH}{a:List aI}{i:Nat}{x:bH}{u:aI},b.Nodup->b[i]?=ax x->a[i]?=ax u->(b.zip a).reverse.lookup x=ax u:=by
 intro b
 induction b with
 | nil=>intro a i x u _ h _;simp at h
 | cons p r ih=>
  intro a i x u d e c
  cases a with
  | nil=>simp at c
  | cons v a=>
   rw[dG,List.reverse_cons,List.lookup_append]
   cases i with
   | zero=>
    have g:p=x:=by simpa using e
    have f:v=u:=by simpa using c
    subst g f
    have k:(r.zip a).reverse.lookup p=aA:=by
     rw[List.lookup_eq_none_iff];intro q j;have:=(gx (List.mem_reverse.mp j)).1
     first
      | (intro z;rw[<-z] at this;exact(aq.mp d).1 this)
      | (simp;intro z;rw[<-z] at this;exact(aq.mp d).1 this)
    rw[k];simp[bh]
   | succ i=>
    rw[ih (aq.mp d).2 (by simpa using e) (by simpa using c)];rfl
end VL
namespace VL
open PySem PySem.Spec PyProof.Rows L2
variable {K:aH}
section
variable {P:bM} {w:bc} {mg:bH->Option aI} {base:ba}
theorem Ze4{N C:List bH}{L:Lam}{f c e:aL}{A:bq}{d:List ma}{s:aO}{H:Hp}{F:List aI}{vs:List V}{x:V}{u:aI}{h₁:ba}{tk:Nat}
  (S:Tf N C L) (hd:A.handled=aA) (k:Env0 P w K mg base A d s H) (O:vs.length=C.length) (r:Vals vs F) (T:H e=aA) (X:s.heap.IsCell e (ax u)) (U:RelV x u)
  (D:h₁.Ns s.heap.objs.size (λy=>(C.zip F).reverse.lookup y)) (m:∀b o,s.heap.get? b=ax o->h₁.get? b=ax o) :
  Inv (Zai P w K mg base N L f c e A d s H) [] (vs.map ax++[ax x]) H { s with heap:=h₁,toks:=tk }:=by
 have l:∀b:aL,b∉(Zai P w K mg base N L f c e A d s H).ex:=λb z=>absurd (show b∈([]:List aL) from z) (by simp);have E:C.Nodup:=by have:=S.nd;rw[S.eq] at this;exact(cN.mp this).1
 have B:=X.keeps m
 refine⟨⟨k.mod,S.kind,rfl,rfl,aZ _,λy z a j g=>(Pb j).trans (Pb g).symm,λy t=>?_,λy a z=>(by cases z),λ_=>hd,l3 k.frames,.inr ⟨rfl,rfl⟩,λb z=>absurd z (l b),k.bs,k.bsz,λb _ _=>l b,λb z=>absurd z (l b),k.funs,k.frf,k.tab,λq _ M I=>?_⟩,
  rfl,k.bare,Un.kept m,⟨_,D,λi y v j g h3=>?_⟩,λy a h=>?_,k.hok.fresh (aZ _),λy a h=>?_,λp R=>absurd (show p∈([]:List (aL×dU)) from R) (by simp),k.hok.kept m,?_⟩
 ·have t:=t;rcases t with t | t
  ·exact absurd rfl (S.nocell _ (cu t))
  ·have ey:y=L.free:=S.one _ (cu t) rfl;refine⟨e,?_⟩;show([(L.free,e)]:List (bH×aL)).lookup y=_;rw[ey];simp[bh]
 ·have:=(F8 (M)).symm;rw[this,S.qn] at I;cases I
 ·have j:N[i]?=ax y:=j;rw[S.eq] at j;by_cases G:i<vs.length
  ·rw[aj (by simpa using G),aX] at g;rw[aj (by omega)] at j
   cases q:vs[i]? with
   | none=>rw[q] at g;cases g
   | some a=>
    rw[q] at g;cases g;obtain⟨z,Z,W⟩:=r.get q;exact⟨z,W,.inl ⟨S.par y (av j),Zaj E j Z⟩⟩
  ·rw[bA (by simpa using G),aJ] at g;rw[bA (by omega)] at j
   have Q:i-vs.length=0:=by
    cases q:i-vs.length with
    | zero=>rfl
    | succ n=>rw[q] at g;simp at g
   have J:i-C.length=0:=by omega
   rw[Q] at g;rw[J] at j;have Y:x=v:=by simpa using g
   have e4:L.free=y:=by simpa using j
   subst Y e4;refine⟨u,U,.inr ⟨.inr S.fre,e,?_,B⟩⟩;show([(L.free,e)]:List (bH×aL)).lookup L.free=_;simp[bh]
 ·have h:=h;rw[NB h];exact⟨_,B⟩
 ·have h:=h;rw[NB h];exact T
 ·show _=N.length;rw[S.eq];simp[O]
noncomputable def spL(K:aH)(L:Lam)(f:aL)(D:PV->List PV->Option PV)(n:Nat):Sp:=λvs H Q _=>vs.length=n/\∃l ls u x fp fps r,CloAt H L (.ref f) u/\RelV x u/\Is K H l x fp/\YM l=aC/\Iss K H ls vs fps/\Xh ls=aC/\D l ls=ax r/\ZO r=aC/\
 ∀v H',Same H H'->Is K H' r v []->Q v H'
noncomputable def LR(P:bM)(w:bc)(K:aH)(mg:bH->Option aI)(base:ba)(k:Nat)(L:Lam)(D:PV->List PV->Option PV)(n:Nat):Prop:=
 ∀(A:bq)(outer:List ma)(s:aO)(H:Hp)(f:aL)(us:List aI)(vs:List V)(Q:VK)(E:XK),Room k A->Env0 P w K mg base A outer s H->Vals vs us->spL K L f D n vs H Q E->
  jQ (model P w) A (.call (.ref f) ⟨us,[]⟩) (CR J6 outer P w H s Q E) s
theorem Env0.rm{A:bq}{a:List ma}{s:aO}{H:Hp}{e:aL}{f:dU}(c:Env0 P w K mg base A a s H)(d:H e=ax (.frz f (.own 1))):Env0 P w K mg base A a s (NC H e):=
 ⟨c.frames,c.mod,λb o q=>⟨(c.bs b o q).1,T4 (c.bs b o q).2⟩,c.bsz,c.funs,λb g=>T4 (c.frf b g),TabsH.rm c.tab d,Zah c.hok d,c.bare⟩
theorem GK{N F:List bH}{L:Lam}{k n:Nat}(f:XE)(S:Tf N F L)
  (T:∀(cl:List (bH×aL))(pm cdv ct:aI)(C:List aI),C.length=F.length->j4 (gV "<lambda>" L.qual L.params L.body L.scope cl pm cdv ct) ⟨C,[]⟩=pure (F.zip C)) (hn:F.length=n)
  (p:∀(G c e:aL)(A:bq)(d:List ma)(s:aO)(H:Hp),Room k (A.deeper (kq L.qual L.scope s.heap.objs.size G (.ref c) [(L.free,e)]))->VE (Zai P w K mg base N L G c e A d s H) L.body f) :
  LR P w K mg base (k+1) L (λl ls=>f (ls.map ax++[ax l])) n:=by
 intro A d s H G C vs Q E hr B rv hsp;obtain⟨hl,l,ls,u,x,fp,fps,r,⟨fa',fo,c,oc,e,eo,pm,ct,hv,hf,hfo,hc,hco,h,Z⟩,rx,il,pl,is,pls,hD,pr,q⟩:=hsp;cases hv;have ho:=(B.hok G _ hf).1;have hoc:=(B.hok c _ hc).1;have R:=(B.hok e _ h).1;obtain⟨Y,ctk,hcd,hcq⟩:=hco;have M:vs.length=F.length:=by rw[hl,hn]
 have lim:=B.mod.nolimit.keeps λb o e=>(B.bs b o e).1;refine PySem.W.kla_callFunE hr.depth ho hfo S.co S.gen rfl ⟨c,oc,Y,ctk,rfl,hoc,hcd,hcq⟩ ?_;rw[T _ _ _ _ C (by rw[<-rv.length];exact M)];refine aW (lx S.nocell (λy t=>S.par y.1 (gx t).1) (λh₁ hns hsb=>?_) S.kind);have O:=λb o q=>hsb.extBut b o (bN (a9 q)) (aK _ q);refine⟨lim.keeps O,?_⟩;refine PySem.W.kla_codeExpr ?_;have e1:=Env0.rm B h;have I:=Ze4 (f:=G) (c:=c) (tk:=s.toks+(F.zip C).length) S hr.hd e1 M rv KY ⟨eo,R,Z⟩ rx hns O
 have env:EnvIs K (λ_=>False) (NC H e) (ls.map ax++[ax l]) (vs.map ax++[ax x]):=⟨λi a g=>by
  have hlv:=is.len;by_cases U:i<ls.length
  ·rw[aj (by simpa using U),aX] at g
   cases z:ls[i]? with
   | none=>rw[z] at g;cases g
   | some b=>
    rw[z] at g;cases g;obtain⟨v,f1,h1,h2,_⟩:=is.get z;refine⟨v,f1,?_,Is.rm h _ _ _ ?_ h2,λ_ _ z=>z⟩
    ·rw[aj (by rw[aJ];omega),aX,h1];rfl
    ·have all:∀(m:List PV),Xh m=aC->∀y∈m,YM y=aC:=by
      intro m
      induction m with
      | nil=>intro _ y t;simp at t
      | cons a r ih=>
       intro hm y t;simp only[Xh,aw] at hm;rcases aa.mp t with rfl | t
       ·exact hm.1
       ·exact ih hm.2 y t
     exact all ls pls _ (av z)
  ·rw[bA (by simpa using U),aJ] at g
   have z:i-ls.length=0:=by
    cases q:i-ls.length with
    | zero=>rfl
    | succ n=>rw[q] at g;simp at g
   rw[z] at g;have e3:l=a:=by simpa using g
   subst e3;refine⟨x,fp,?_,Is.rm h _ _ _ pl il,λ_ _ z=>z⟩;rw[bA (by rw[aJ];omega),aJ,show i-vs.length=0 by omega];rfl⟩
 refine cU (p G c e A d s (NC H e) (hr.deeper _) [] _ _ _ (λv D=>Same (NC H e) D/\∃X,Is K D r v X) I ⟨λ_=>False,_,r,λ_ z=>z.elim,env,hD,λv D X sm i _=>⟨sm,X,i⟩⟩) (λy s' hs=>?_) λ_ _ hs=>hs.elim;obtain⟨v,D,J,ry,sm,X,i⟩:=hs;have j:=J.freeC L.free e (by show([(L.free,e)]:List (bH×aL)).lookup L.free=_;simp[bh]);have W:Un (Kc d) [] (NC H e) D s.heap s'.heap:=J.base;have enf:e∉Kc d:=λz=>by rw[B.frf e z] at h;cases h
 have he':=W.keep e eo R KY enf (by simp);have i2:=Is.pure _ _ _ pr i;subst i2
 have sm2:Same H (upd D e (.frz eo (.own 1))):=λb o T=>by
  by_cases z:b=e
  ·subst z;rw[h] at T;cases T;exact Zk
  ·rw[upd_ne z];exact sm b o (by rw[XY z];exact T)
 exact⟨v,_,J.os,J.bare,Ze3 W h j,EU J.hok j he',ry,q v _ sm2 (i.mono (Same.new j _))⟩
end
noncomputable def Zak(T:Lam->PV->List PV->Option PV)(i:Nat)(fs:List XE):XE:=λs=>match s[i]? with
 | some (ax (.clo L l))=>(PB fs s).bind λls=>if(YM l&&Xh ls)=aC then(T L l ls).bind (λr=>if ZO r=aC then ax r else aA) else aA
 | _=>aA
section
variable {X:Cx} {x:bH} {k:Nat} {e:bO} {es:List bO} {fs:List XE} {p pos:dw}
theorem Zjg(i:Nat){T:Lam->PV->List PV->Option PV}{n:Nat}(hN:X.N[i]?=ax x)(hv:Vis X.env.scope x)(hT:∀L,(∃l ls r,T L l ls=ax r)->LR X.prog X.w X.K X.mg X.base k L (T L) n)(hr:Room k X.A)(ha:VA X (e::es) fs)(hn:fs.length=n:=by rfl)
  (R:(x==("__debug__" : bH))=aB:=by decide) (E:(x==("__classdict__" : bH))=aB:=by decide) (he:aP (e::es) X.env=(aB,eval e X.env)::aP es X.env:=by rfl) (P:(dC pos (aP es X.env)).any (·.1)=aB:=by rfl) :
  VM X (.Call (.Name x p) (e::es) [] pos) (Zak T i fs):=by
 intro M s G H Q I ⟨st,r,env,w,q⟩;unfold Zak at w;split at w
 ·rename_i L l hs;obtain⟨ls,Z,O⟩:=Zc w;split at O
  ·rename_i h;simp only[aw] at h;obtain⟨r',U,J⟩:=Zc O;split at J
   ·rename_i C;cases J;obtain⟨v,fp,F,hi,_⟩:=env.is i _ hs;have D:=hi;obtain⟨u,y,a,ry,il⟩:=D;obtain⟨f,W,c,oc,ce,eo,pm,ct,A,hf,N,_⟩:=id a;subst A;have b:∀{s1:aO}{d:Hp},Inv X M G d s1->d f=ax (.frz W (.own 0))->PySem.W.FnAt f s1.heap:=λ{s1 d} o h1=>by have:=(o.hok f _ h1).1;obtain⟨oc',od',dat,sl'⟩:=W;cases (N);exact⟨_,_,_,_,this⟩
    refine dE (Yo (BC hN hv R E M s G H (λY d=>Y = .ref f/\d=H) I ⟨_,F,rfl,rfl⟩) λuf s1 ⟨Y,d,o,r1,ef,eH⟩=>?_);subst ef eH;obtain rfl:=r1;refine PySem.W.callWith_F (b o hf) (Yo (ha pos M s1 G d (λvs m=>Same d m/\∃fps,Iss X.K m ls vs fps) o ⟨λ_=>False,st,ls,λ_ z=>z.elim,env,Z,λvs m fps g t _=>⟨g,fps,t⟩⟩) λus s2 ⟨vs,m,S,rv,g,fps,t⟩=>⟨b S (g f _ hf),?_⟩) he P;refine me (gZ (hT L ⟨l,ls,r,U⟩ X.A X.stack s2 m f us vs Q E0 hr S.env0 rv ⟨by rw[t.len,Ug Z,hn],l,ls,u,y,fp,fps,r,a.tr (Same.tk2 g),ry,il.mono g,h.1,t,h.2,U,C,λv H' B i'=>q v H' [] (g.trans B) i' cH λp h=>by simp at h⟩) λrr s' j=>?_)
    cases rr with
    | error er=>exact(j).elim
    | ok fl=>
     cases fl with
     | ret u'=>exact S.after j
     | next=>exact dD j
     | brk=>exact dD j
     | cont=>exact dD j
   ·cases J
  ·cases O
 ·cases w
end
end VL
namespace VL
open PySem PySem.Spec PyProof.Rows L2
variable {K:aH}
theorem GL{pos pos':dw}{c v:aI}{a b:Int}(l:List aI)(h:TriplesOk l)(d:jX pos (l++[gJ a,gJ b,c])=ax v):jX pos l=ax v\/v=c:=by
 fun_induction TriplesOk l with
 | case1=>
  simp only[lE,jX,gJ] at d;split at d
  ·exact .inr (bC d).symm
  ·cases d
 | case2 a' t b' u x YC ih=>
  simp only[oE,jX] at d ⊢;split at d
  ·rename_i e;rw[p9 e];exact .inl d
  ·rename_i e;rw[pW e];exact ih h d
 | case3 l h1 h2=>exact h.elim
noncomputable def Zn1(X:Cx)(L:Lam):TE:=λ_ H Q=>∀f fo c oc e pm ct H1,Same H H1->H1 f=ax (.frz fo (.own 0))->fo.data = .func (gV "<lambda>" L.qual L.params L.body L.scope [(L.free,e)] pm (.ref c) ct)->
 H1 c=ax (.frz oc (.own 0))->HU oc L.qual->X.env.cells.lookup L.free=ax e->Q (.ref f) H1
section
variable {X:Cx}
theorem Zjh{q:bH}{L:Lam}{f:dw}(hfn:X.env.func≠aA)(hq:X.env.qual=q++".<locals>.")(hlm:Po q=aC)(hL:L.qual=Oz q)(Z:ox L.params X.env=([],[]))
  (x:∃e,X.env.cells.lookup L.free=ax e/\kg L.scope X.env=pure [(L.free,e)]):PE X (.Lambda L.params L.body L.scope f) (Zn1 X L):=by
 intro p0 s σ H Q I h;obtain⟨e,O,x⟩:=x;have j:=I.ok.cod q hfn hq hlm
 obtain⟨m,i⟩:∃m,X.env.code = .ref m:=by
  cases z:X.env.code with
  | ref c=>exact⟨c,rfl⟩
  | _=>rw[z] at j;simp[dM] at j
 rw[i] at j;obtain⟨Pt,ps,tk,hC,U,W,hB⟩:=(TabsH.un I.ok.tab I.base) q m hlm j;obtain⟨q',tk',ps',eq,hg,y,T⟩:=(show ObjOk X.prog X.w H s.heap Pt (.tbl ps) from I.hok Pt _ U);rw[W] at eq;cases eq;have G:s.heap.Ns cO X.mg:=I.mod.glob.keeps I.bk;have hgP:cO≠Pt:=λz=>by obtain⟨o,es,ep,J,hd,_⟩:=G;rw[z,hg] at J;cases J;cases hd
 have N:s.heap.BuiltinsAt X.mg Pt:=by obtain⟨bm,ob,b1,b2,b3,b4,b5,b6⟩:=hB;exact⟨bm,ob,b1,b2,b3,b4,I.bk _ _ b5,b6⟩
 have E:X.env.qual++"<lambda>" = L.qual:=by rw[hq,hL];rfl
 have fresh:∀b,s.heap.objs.size<=b->H b=aA:=λb a=>I.hok.fresh a;refine PySem.W.kla_eval Z ?_;rw[E]
 cases hf:jX f ps'.toList with
 | none=>
  refine PySem.W.kla_makeFunction (mg:=X.mg) x I.ok.glob G i (hC.keeps I.bk) hg y hf hgP N λd g h' tk2 hx F hlt S htb=>?_;obtain⟨c2,w,vs,t,e2,hoc,hd,hv⟩:=S;cases e2;generalize p:PySem.W.kla_obj "<lambda>" L.qual L.params L.body L.scope [(L.free,e)] ((X.mg "__name__").getD .none) d g=fo;have B:fo.data = .func (gV "<lambda>" L.qual L.params L.body L.scope [(L.free,e)] ((X.mg "__name__").getD .none) (.ref d) g):=by rw[<-p]
  have M:h'.objs.size≠d:=fW hlt;have k:s.heap.objs.size<=h'.objs.size:=cD F (cJ hlt);have nc:H d=aA:=fresh _ F;have nf:H h'.objs.size=aA:=fresh _ k;have hP1:Pt<s.heap.objs.size:=a9 hg;have up:∀b o,H b=ax o->upd (upd H d (.frz w (.own 0))) h'.objs.size (.frz fo (.own 0)) b=ax o:=λb o a=>by rw[upd_ne (Zr a nf),upd_ne (Zr a nc)];exact a
  have A:∀b o,b≠Pt->s.heap.get? b=ax o->(h'.push fo).get? b=ax o:=λb o a C=>aK _ (hx b o a C);have gP:(h'.push fo).get? Pt=ax (gX (ps'++#[gJ f.line,gJ f.col,.ref d])):=aK _ htb
  have un:Un X.fs [] H (upd (upd H d (.frz w (.own 0))) h'.objs.size (.frz fo (.own 0))) s.heap (h'.push fo):=by
   refine⟨λb o a n _ _=>A b o (λz=>by rw[z,U] at n;cases n) a,λb o a n _ _=>⟨o.slots,A b o (λz=>by rw[z,U] at n;cases n) a⟩,λb o a n _=>?_,λb o a _=>?_,λb xs a=>up b _ a,λb o u a=>up b _ a,λb ps a=>⟨#[],by rw[up b _ a];simp⟩⟩
   ·have Y:=a9 a;rw[upd_ne (bN (bB Y k)),upd_ne (bN (bB Y F))];exact n
   ·by_cases z:b=Pt
    ·rw[z];exact⟨_,gP⟩
    ·exact⟨o,A b o z a⟩
  have gc:(h'.push fo).get? d=ax w:=aK _ hoc;have R:(h'.push fo).get? h'.objs.size=ax fo:=ak _ (by rw[<-p];rfl);have P:upd (upd H d (.frz w (.own 0))) h'.objs.size (.frz fo (.own 0)) d=ax (.frz w (.own 0)):=by rw[upd_ne (bX M),Zk]
  have D:HOk X.prog X.w (upd (upd H d (.frz w (.own 0))) h'.objs.size (.frz fo (.own 0))) (h'.push fo):=λb u a=>by
   by_cases z1:b=h'.objs.size
   ·subst z1;rw[Zk] at a;cases a;exact⟨R,_,R⟩
   ·rw[upd_ne z1] at a;by_cases z2:b=d
    ·subst z2;rw[Zk] at a;cases a;exact⟨gc,_,gc⟩
    ·rw[upd_ne z2] at a;by_cases z3:b=Pt
     ·subst z3;rw[U] at a;cases a;refine⟨_,tk,_,W,gP,?_,λpos v l=>?_⟩
      ·rw[dk];exact TriplesOk_snoc _ _ _ _ y
      ·rw[dk] at l;rcases GL (pos':=pos) _ y l with l | l
       ·obtain⟨c3,o3,J,e2,e3⟩:=T pos v l;exact⟨c3,o3,J,up _ _ e2,e3⟩
       ·exact⟨d,w,l,P,vs,t,hd,by rw[<-hL];exact hv⟩
     ·exact(I.hok b u a).stay (λb' o hb' q=>A b' o (by
       rcases hb' with z | z
       ·rw[z];exact z3
       ·exact λz'=>by rw[z',U] at z;cases z) q) (λb' q=>up _ _ q) (λb' xs q=>up _ _ q) λb' u' q=>up _ _ q
  have I1:=I.un (t':=tk2) un D;exact⟨.ref h'.objs.size,_,I1,rfl,h _ fo d w e _ g _ up Zk B P ⟨vs,t,hd,hv⟩ O⟩
 | some cv=>
  obtain⟨d,w,J,hc1,hc2⟩:=T f cv hf;subst J;refine PySem.W.kla_makeFunctionHit (mg:=X.mg) x I.ok.glob G i (hC.keeps I.bk) hg y hf N λg h' tk2 hk k=>?_;generalize p:({ cls:=.type "function",data:=.func (gV "<lambda>" L.qual L.params L.body L.scope [(L.free,e)] ((X.mg "__name__").getD .none) (.ref d) g) }:dU)=fo;have B:fo.data = .func (gV "<lambda>" L.qual L.params L.body L.scope [(L.free,e)] ((X.mg "__name__").getD .none) (.ref d) g):=by rw[<-p]
  have nf:H h'.objs.size=aA:=fresh _ k;have up:∀b o,H b=ax o->upd H h'.objs.size (.frz fo (.own 0)) b=ax o:=λb o a=>by rw[upd_ne (Zr a nf)];exact a
  have A:∀b o,s.heap.get? b=ax o->(h'.push fo).get? b=ax o:=λb o C=>aK _ (hk b o C);have R:(h'.push fo).get? h'.objs.size=ax fo:=ak _ (by rw[<-p];rfl);have un:Un X.fs [] H (upd H h'.objs.size (.frz fo (.own 0))) s.heap (h'.push fo):=Un.laid A k nf;have D:HOk X.prog X.w (upd H h'.objs.size (.frz fo (.own 0))) (h'.push fo):=I.hok.laid A k ⟨R,_,R⟩;have I1:=I.un (t':=tk2) un D;exact⟨.ref h'.objs.size,_,I1,rfl,h _ fo d w e _ g _ up Zk B (up _ _ hc1) (by rw[hL];exact hc2) O⟩
end
section
variable {X:Cx} {x:bH} {ps:List bH} {sp:Sp} {k:Nat} {e:bO} {es:List bO} {t:TA} {p pos:dw}
noncomputable def Zji(X:Cx)(i:Nat)(y:bH)(sp:Sp)(t:TA):TE:=λσ H Q=>t σ H λvs H1=>∀ce eo u v,X.env.cells.lookup y=ax ce->H1 ce=aA->σ[i]?=ax (ax v)->RelV v u->eo.data = .cell (ax u)->
 ∃Q':VK,sp vs (upd H1 ce (.frz eo (.own 1))) Q' E0/\∀z H',H' ce=ax (.frz eo (.own 1))->Q' z H'->Q z (NC H' ce)
theorem Zal(C:Xi X.prog X.w X.K X.mg X.base x ps sp k)(hr:Room k X.A)(hg:Gl X x)(i:Nat){y:bH}(hN:X.N[i]?=ax y)(hk:X.env.scope.names.lookup y=ax .cell)(U:X.fn y=aC)(W:∀J H Q,t J H Q->∃v,J[i]?=ax (ax v))(ha:PA X (e::es) t)
  (T:(x==("__debug__" : bH))=aB:=by decide) (he:aP (e::es) X.env=(aB,eval e X.env)::aP es X.env:=by rfl) (R:(dC pos (aP es X.env)).any (·.1)=aB:=by rfl) :
  PE X (.Call (.Name x p) (e::es) [] pos) (Zji X i y sp t):=by
 obtain⟨f,fd,hm,N,j,F⟩:=C.ex;intro p0 s J H Q I h;obtain⟨v,hv⟩:=W J H _ h;refine dE (Kd I hg hm ?_ T);refine mf I.ok.mod.kin N (Yo (ha pos p0 s J H _ I h) λM s1 ⟨vs,H1,c,r,q⟩=>⟨c.kIn,?_⟩) he R;obtain⟨m,hns,hl⟩:=c.loc;obtain⟨u,ru,lk⟩:=hl i y v hN hv (.inr (.inl hk));rcases lk with⟨z,_⟩ | ⟨_,a,g,S,D,hd⟩
 ·have z:X.env.scope.names.lookup y=ax .local:=z;rw[hk] at z;cases z
 have l:=c.freeC y a g;obtain⟨Q',A,O⟩:=q a S u v g l hv ru hd;have L:=c.ok.cab y a U g
 have B:a∉Kc X.stack:=λz=>by
  rcases aa.mp (c.stkSub a z) with z | z
  ·exact c.cne y a g z
  ·obtain⟨_,o,ho,_⟩:=c.ok.funs.mem z;exact absurd (bB (a9 ho) L) (cS _)
 have d:=c.env0
 have e1:Env0 X.prog X.w X.K X.mg X.base X.A X.stack s1 (upd H1 a (.frz S (.own 1))):=by
  refine⟨d.frames,d.mod,λb o j=>⟨(d.bs b o j).1,?_⟩,d.bsz,d.funs,λb j=>?_,TabsH.add d.tab l,EU d.hok l D,d.bare⟩
  ·have:b≠a:=λz=>by have:=a9 j;have h2:=c.ok.bsz;rw[z] at this;exact absurd (bB this (cD h2 L)) (cS _)
   rw[upd_ne this];exact(d.bs b o j).2
  ·have nb:b≠a:=λz=>by rw[z] at j;exact B j
   rw[upd_ne nb];exact d.frf b j
 have P:M.length=ps.length:=by rw[<-r.length];exact F.len _ _ _ _ A
 have G:=j s1 M c.kIn (by simpa using P);rw[dW] at G;refine me (gZ (F.run X.A X.stack s1 _ ⟨M,[]⟩ M vs Q' E0 hr e1 G r A) λrr s' n=>?_)
 cases rr with
 | error er=>exact(n).elim
 | ok fl=>
  cases fl with
  | ret u'=>
   obtain⟨Y,H',os,w,un,E,rv,qq⟩:=(n);have Z:=un.frzs a S _ Zk;exact c.after ⟨Y,NC H' a,os,w,Zjf un l D B E,Zah E Z,rv,O Y H' Z qq⟩
  | next=>exact dD n
  | brk=>exact dD n
  | cont=>exact dD n
end
end VL
namespace VL
open PySem PySem.Spec PyProof.Rows L2
variable {K:aH}
noncomputable def ND(D:List PV->Option PV)(f1 f2:XE)(L:Lam)(i:Nat):XE:=λs=>(f1 s).bind λl1=>(f2 s).bind λl2=>match s[i]? with
 | some (ax l)=>(D [l1,l2,.clo L l]).bind λr=>if YM r=aC then ax r else aA
 | _=>aA
section
variable {X:Cx} {x:bH} {ps:List bH} {k:Nat} {a b:bO} {f1 f2:XE} {p pos lpos:dw}
theorem Zam{q:bH}{L:Lam}{D:List PV->Option PV}(C:Xi X.prog X.w X.K X.mg X.base x ps (Y5 X.K D 3) k)(hr:Room k X.A)(hg:Gl X x)(i:Nat)(hN:X.N[i]?=ax L.free)(hk:X.env.scope.names.lookup L.free=ax .cell)(hfn:X.fn L.free=aC)
  (h1:VE X a f1) (h2:VE X b f2) (S:X.env.func≠aA) (hq:X.env.qual=q++".<locals>.") (hlm:Po q=aC) (hL:L.qual=Oz q) (l:ox L.params X.env=([],[]))
  (J:∃e,X.env.cells.lookup L.free=ax e/\kg L.scope X.env=pure [(L.free,e)])
  (n:aP (a::b::[.Lambda L.params L.body L.scope lpos]) X.env=(aB,eval a X.env)::aP (b::[.Lambda L.params L.body L.scope lpos]) X.env) (I:aP (b::[.Lambda L.params L.body L.scope lpos]) X.env=(aB,eval b X.env)::aP [.Lambda L.params L.body L.scope lpos] X.env)
  (T:aP [.Lambda L.params L.body L.scope lpos] X.env=(aB,eval (.Lambda L.params L.body L.scope lpos) X.env)::aP [] X.env) (hpl:(dC pos (aP (b::[.Lambda L.params L.body L.scope lpos]) X.env)).any (·.1)=aB)
  (hdb:(x==("__debug__" : bH))=aB:=by decide):VM X (.Call (.Name x p) (a::b::[.Lambda L.params L.body L.scope lpos]) [] pos) (ND D f1 f2 L i):=by
 have pa:=Z2 h1 (Z2 h2 (Z2 (Zjh S hq hlm hL l J) Y0 T) I) n;have W:=PA.imp pa (t':=λF H Q=>(∃v,F[i]?=ax (ax v))/\_) λF H Q z=>z.2;refine PE.imp (Zal C hr hg i hN hk hfn (λF H Q z=>z.1) W hdb n hpl) λF H Q ⟨s,r,env,e,qq⟩=>?_;obtain⟨l1,e1,e⟩:=Zc e;obtain⟨l2,e2,e⟩:=Zc e;split at e
 ·rename_i lc hs;obtain⟨r',hD,e⟩:=Zc e;split at e
  ·rename_i O;cases e;obtain⟨v,R,hv,ic,_⟩:=env.is i _ hs;refine⟨⟨v,hv⟩,λ_=>False,s,l1,λ_ z=>z.elim,env,e1,λv1 H1 fp1 s1 i1 _=>⟨λ_=>False,s,l2,λ_ z=>z.elim,env.mono s1,e2,λv2 H2 fp2 s2 i2 _=>?_⟩⟩;intro f fo c oc d pm ct m t hf Z hc P B ce E u v' M hn w ru hd;have A:=bC (B.symm.trans M);subst A;rw[hv] at w;cases w;have h:Same m (upd m d (.frz E (.own 1))):=Same.new hn _;have N:Is X.K (upd m d (.frz E (.own 1))) (.clo L lc) (.ref f) R:=by exact⟨u,v,⟨f,fo,c,oc,d,E,pm,ct,rfl,h _ _ hf,Z,h _ _ hc,P,Zk,hd⟩,ru,ic.mono (((s1.trans s2).trans t).trans h)⟩
   refine⟨λz j=>∃g,Same (upd m d (.frz E (.own 1))) j/\Is X.K j r z g/\g.Nodup/\∀p∈g,upd m d (.frz E (.own 1)) p=aA/\UU (j p),?_,λz j hz ⟨g,sm,ir,nd,U⟩=>?_⟩
   ·exact⟨rfl,[l1,l2,.clo L lc],_,r,Iss.cons (i1.mono ((s2.trans t).trans h)) (Iss.cons (i2.mono (t.trans h)) (Iss.one N)),hD,λz j g sm ir nd U=>⟨g,sm,ir,nd,U⟩⟩
   ·have s5:Same H (NC j d):=λy o Y=>by have h3:=((s1.trans s2).trans t) y o Y;rw[XY (Zr h3 hn)];exact sm y o (h y o h3)
    refine qq z _ g s5 (Is.rm hz _ _ _ O ir) nd λy Y=>?_;obtain⟨G,n2⟩:=U y Y;have ne:y≠d:=λz=>by rw[z,Zk] at G;cases G
    rw[upd_ne ne] at G;exact⟨Same.off ((s1.trans s2).trans t) G,by rw[XY ne];exact n2⟩
  ·cases e
 ·cases e
theorem NF{q:bH}{L:Lam}{d:mO}{f:bO}{c:gC}{i:Nat}{D:List PV->Option PV}(u:L.params=d)(v:L.body=f)(w:L.scope=c)(C:Xi X.prog X.w X.K X.mg X.base x ps (Y5 X.K D 3) k)(B:Room k X.A)(H:Gl X x)(I:X.N[i]?=ax L.free)(G:X.env.scope.names.lookup L.free=ax .cell)(s:X.fn L.free=aC)
  (F:VE X a f1) (E:VE X b f2) (n:X.env.func≠aA) (z:X.env.qual=q++".<locals>.") (m:Po q=aC) (A:L.qual=Oz q) (g:ox d X.env=([],[]))
  (j:∃e,X.env.cells.lookup L.free=ax e/\kg c X.env=pure [(L.free,e)])
  (y:aP (a::b::[.Lambda d f c lpos]) X.env=(aB,eval a X.env)::aP (b::[.Lambda d f c lpos]) X.env) (h:aP (b::[.Lambda d f c lpos]) X.env=(aB,eval b X.env)::aP [.Lambda d f c lpos] X.env)
  (t:aP [.Lambda d f c lpos] X.env=(aB,eval (.Lambda d f c lpos) X.env)::aP [] X.env) (l:(dC pos (aP (b::[.Lambda d f c lpos]) X.env)).any (·.1)=aB)
  (o:(x==("__debug__" : bH))=aB:=by decide):VM X (.Call (.Name x p) (a::b::[.Lambda d f c lpos]) [] pos) (ND D f1 f2 L i):=by
 subst u v w;exact Zam C B H i I G s F E n z m A g j y h t l o
end
end VL
namespace VL
open PySem PySem.Spec PyProof.Rows L2
variable {K:aH}
noncomputable def LS(K:aH):List (bH×aL×aL):=(["tree_of","still_by","made_of"]:List bH).filterMap λx=>(i8 K x).map λcp=>(x,cp)
noncomputable def RN(K:aH)(q:bM):Bool:=
 oy K&&decide ((LS K).map (·.2.2)).Nodup&&(LS K).all (λr=>((recsOf q).find? (λe=>e.name==r.1)).isSome)&&
 K.all λp=>match p.2.data with
  | .fields vs=>(match vs.toList with
   | _::.str n _::_=>!(Po n) || (match i8 K n with
    | some (c,_)=>c==p.1
    | none=>aB)
   | _=>aC)
  | _=>aC
theorem Cu{x:bH}{c Pt:aL}(h:(x,c,Pt)∈LS K):i8 K x=ax (c,Pt)/\Po x=aC:=by
 obtain⟨y,a,e⟩:=hW.mp h
 cases z:i8 K y with
 | none=>rw[z] at e;cases e
 | some cp=>
  rw[z] at e;cases e;refine⟨z,?_⟩;simp only[aa,br,or_false] at a;rcases a with rfl | rfl | rfl<;>decide
theorem Zan{x:bH}{c Pt:aL}(h:i8 K x=ax (c,Pt))(a:Po x=aC):(x,c,Pt)∈LS K:=by
 refine hW.mpr ⟨x,?_,by rw[h];rfl⟩;unfold Po at a;simp only[jH,beq_iff_eq] at a;simp only[aa,br,or_false];rcases a with(h | h) | h
 ·exact .inl h
 ·exact .inr (.inl h)
 ·exact .inr (.inr h)
theorem GN{q:bM}(g:RN K q=aC){x:bH}{c:aL}(h:Po x=aC)(a:dM K (.ref c) x=aC):∃Pt,(x,c,Pt)∈LS K:=by
 unfold RN at g;simp only[aw] at g;have b:=g.2
 have a:(match K.lookup c with
   | some ⟨_,_,.fields vs,_⟩=>(match vs.toList with | _::.str n _::_=>n==x | _=>aB)
   | _=>aB)=aC:=a
 split at a
 ·rename_i m o vs l f;split at a
  ·rename_i y n t r e;have k:=beq_iff_eq.mp a;subst k;have d:=bK.mp b (c,_) (ku f);simp only[e,h] at d;split at d
   ·rename_i c2 i j;have:=beq_iff_eq.mp d;subst this;exact⟨i,Zan j h⟩
   ·cases d
  ·cases a
 ·cases a
theorem II:∀{l:List (bH×aL×aL)}{x:bH}{c Pt:aL},(l.map (·.2.2)).Nodup->(x,c,Pt)∈l->l.find? (λr=>r.2.2==Pt)=ax (x,c,Pt)
 | [],_,_,_,_,h=>by simp at h
 | r::l,x,c,Pt,nd,h=>by
  rw[af] at nd;rw[c9];rcases aa.mp h with e | h
  ·subst e;simp
  ·have:r.2.2≠Pt:=λz=>(aq.mp nd).1 (ar.mpr ⟨_,h,z.symm⟩);have a:(r.2.2==Pt)=aB:=by simpa using this
   rw[a];exact II (aq.mp nd).2 h
noncomputable def GO(l:List (bH×aL×aL))(H:Hp):Hp:=λb=>match l.find? (λr=>r.2.2==b) with
 | some r=>ax (.tbl #[.str (Oz r.1) 0])
 | none=>H b
theorem Cv{l:List (bH×aL×aL)}{H:Hp}{b:aL}(h:∀r∈l,r.2.2≠b):GO l H b=H b:=by unfold GO;rw[eM.mpr λr a=>by simpa using h r a]
theorem SQ(l:List (bH×aL×aL))(H:Hp)(b:aL):(∃r∈l,r.2.2=b/\GO l H b=ax (.tbl #[.str (Oz r.1) 0]))\/((∀r∈l,r.2.2≠b)/\GO l H b=H b):=by
 unfold GO
 cases z:l.find? (λr=>r.2.2==b) with
 | some r=>exact .inl ⟨r,dY z,by simpa using jK z,rfl⟩
 | none=>exact .inr ⟨λr a=>by simpa using eM.mp z r a,rfl⟩
theorem Cw{P:bM}{w:bc}{mg mb:bH->Option aI}{k:Nat}{fa a:aL}{fd:fL}{x:bH}{D:List PV->Option PV}{f:aO}{vs:List aI}{ns:List Int}{l:List (bH×aL×aL)}
  (KX:K.In f.heap) (Q:f.heap.Ns cO mg) (hb:f.heap.Ns kZ mb) (hbb:∀x:bH,x≠"__name__"->mb x=dB x) (Z:f.heap.NoLimit) (hg:f.gens = #[])
  (hbm:∃bm T,mg "__builtins__" = ax (.ref bm)/\bm≠kZ/\f.heap.get? bm=ax T/\T.cls = .type "module"/\T.dict=ax kZ/\T.data = .plain)
  (hT:∀r∈l,lW f.heap r.2.1 r.2.2/\f.heap.get? r.2.2=ax (gX #[])) (hK:oy K=aC) (U:∀(q:bH)(c:aL),Po q=aC->dM K (.ref c) q=aC->∃Pt,(q,c,Pt)∈l) (hnd:(l.map (·.2.2)).Nodup)
  (M:f.heap.get? a=ax { cls:=.type "list",data:=.seq vs.toArray }) (hi:i7 vs ns) (hl:ns.length<=sizeLine) (p:Room k nX)
  (F:∀base:ba,K.In base->base.Ns cO mg->Pq P w K mg base J6 k fa fd [x] (Y5 K D 1)) (N:∀(s:aO)(u:aI),nP s fd ⟨[u],[]⟩ [(x,u)])
  (hD:D [.cst (iL ns)]=ax (.bl aC)) :
  jQ (model P w) nX (.call (.ref fa) ⟨[.ref a],[]⟩) (λr B=>r = .ok (.ret (.bool aC))/\OldK f.heap B.heap/\B.os=f.os/\k5 B.gens) f:=by
 have rv:=Lj hi;have X:=hi.length
 have Zcd:∀j:Hp,CsK K j a (ns.map V.int)->(j a=aA\/(K.lookup a=aA/\∃xs,j a=ax (.frz { cls:=.type "list",data:=.seq vs.toArray } (.lst xs))/\ObjOk P w j f.heap a (.frz { cls:=.type "list",data:=.seq vs.toArray } (.lst xs))))->(∀b,b≠a->j b=aA)->
   jQ (model P w) nX (.call (.ref fa) ⟨[.ref a],[]⟩) (λr B=>r = .ok (.ret (.bool aC))/\OldK f.heap B.heap/\B.os=f.os/\k5 B.gens) f:=by
  intro j hS hA hO;have na:∀r∈l,r.2.2≠a:=λr p z=>by have e:=(hT r p).2;rw[z,M] at e;cases e
  generalize Y:GO l j=H;have tb:∀r∈l,H r.2.2=ax (.tbl #[.str (Oz r.1) 0]):=λr p=>by rw[<-Y];unfold GO;rw[II hnd p]
  have Ha:H a=j a:=by rw[<-Y];exact Cv na
  have free:∀{b:aL}{o:dU},f.heap.get? b=ax o->o≠gX #[]->b≠a->H b=aA:=λ{b o} e no nb=>by
   rw[<-Y];rcases SQ l j b with⟨r,p,E,_⟩ | ⟨_,E⟩
   ·have t:=(hT r p).2;rw[E,e] at t;exact absurd (bC t) no
   ·rw[E];exact hO b nb
  have g:∀{b:aL}{o:dU},f.heap.get? b=ax o->H b=aA->(Kb f.heap H).get? b=ax o:=λe n=>BA e n;have C:∀{b:aL}{m:bH->Option aI},f.heap.Ns b m->(Kb f.heap H).Ns b m:=λ{b m} ⟨o,es,ep,e,d,r⟩=>⟨o,es,ep,g e (free e (λz=>by rw[z] at d;cases d) λz=>by rw[z,M] at e;cases e;cases d),d,r⟩
  have hKb:=λb o e=>g (KX b o e) (by
   by_cases z:b=a
   ·subst z;rw[Ha];rcases hA with h | ⟨h,_⟩
    ·exact h
    ·rw[e] at h;cases h
   ·refine free (KX b o e) (λz2=>?_) z;have J:=bK.mp hK (b,o) (ku e);subst z2;exact absurd (J) bx)
  have hM:Mod K mg (Kb f.heap H):=⟨hKb,C Q,⟨mb,C hb,hbb⟩,let⟨mc,S,J⟩:=Z;⟨mc,C S,J⟩⟩
  have hok:HOk P w H f.heap:=λb u e=>by
   rw[<-Y] at e;rcases SQ l j b with⟨r,p,E,t⟩ | ⟨hn,t⟩
   ·rw[t] at e;cases e;refine⟨Oz r.1,0,#[],rfl,?_,trivial,λpos v hv=>?_⟩
    ·rw[<-E];exact(hT r p).2
    ·simp[jX] at hv
   ·rw[t] at e;by_cases z:b=a
    ·subst z;rcases hA with h | ⟨_,xs,h,ok⟩
     ·rw[h] at e;cases e
     ·rw[h] at e;cases e;obtain⟨o1,o2⟩:=ok;exact⟨o1,o2⟩
    ·rw[hO b z] at e;cases e
  have tab:TabsH K mg (Kb f.heap H) H:=λq c S J=>by
   obtain⟨Pt,hm⟩:=U q c S J;obtain⟨⟨o,us,file,tf,L,tg,inF,text,tt,f1,R,f3,f4,f5,f6,f7,f8,f9,f10⟩,hP⟩:=hT _ hm;obtain⟨bm,T,b1,b2,G,O,b5,b6⟩:=hbm;refine⟨Pt,_,0,⟨o,us,file,tf,L,tg,inF,text,tt,g f1 (free f1 (λz=>by rw[z] at R;cases R) λz=>?_),R,f3,f4,f5,f6,f7,f8,f9,f10⟩,tb _ hm,rfl,bm,T,b1,b2,λz=>?_,λz=>?_,g G (free G (λz=>by rw[z] at O;cases O) λz=>?_),O,b5,b6⟩
   ·rw[z,M] at f1;cases f1;injection R with R;exact absurd R (by decide)
   ·obtain⟨o',es,ep,e',hd',_⟩:=Q;rw[z,e'] at G;cases G;rw[hd'] at b6;cases b6
   ·rw[z,hP] at G;cases G;cases O
   ·rw[z,M] at G;cases G;injection O with O;exact absurd O (by decide)
  have e0:Env0 P w K mg (Kb f.heap H) nX [] f H:=⟨rfl,hM,λb o e=>Zc4 e,Nat.le_of_eq (Dz _ _),trivial,λb hb=>absurd (show b∈([]:List aL) from hb) (by simp),tab,hok,.of_eq hg⟩
  have hS':CsK K H a (ns.map V.int):=by
   rcases hS with⟨o,h⟩ | h
   ·exact .inl ⟨o,by rw[Ha];exact h⟩
   ·exact .inr h
  refine gZ ((F _ hKb (C Q)).run nX [] f H ⟨[.ref a],[]⟩ [.ref a] [.ref a] (λv _=>v = .bl aC) E0 p e0 (N f (.ref a)) (.cons rfl .nil)
   ⟨rfl,[.cst (iL ns)],[],.bl aC,Iss.one (Is.cst hS' (Iss.ofInts ns)),hD,λv H' fq _ i _ _=>i.bl_inv.1⟩) λr B h=>?_
  cases r with
  | error e=>exact(h).elim
  | ok fl=>
   cases fl with
   | next=>exact dD h
   | brk=>exact dD h
   | cont=>exact dD h
   | ret u=>
    obtain⟨v,H',os,bare,un,I,r',q⟩:=h;have q':=q;subst q';obtain rfl:=r'
    have key:∀b o,f.heap.get? b=ax o->B.heap.get? b=ax o\/(isCodeTable f.heap b/\o=gX #[]/\∃ps,B.heap.get? b=ax (gX ps)):=λb o e=>by
     cases z:H b with
     | none=>exact .inl (un.keep b o e z (by intro z;exact absurd (show b∈([]:List aL) from z) (by simp)) (by simp))
     | some u=>
      have A:=z;rw[<-Y] at A;rcases SQ l j b with⟨r,p,E,t⟩ | ⟨hn,t⟩
      ·rw[t] at A;cases A;obtain⟨more,z4⟩:=un.tbls b _ z;obtain⟨_,_,ps',_,e4,_⟩:=(I b _ z4);have W:=(hT r p);rw[E] at W;refine .inr ⟨(W.1.tab W.2).isCodeTable,?_,ps',e4⟩;rw[e] at W;exact bC W.2
      ·rw[t] at A;by_cases y:b=a
       ·subst y;rcases hA with h | ⟨_,xs,h,_⟩
        ·rw[h] at A;cases A
        ·rw[h] at A;cases A;have z2:=un.frzs b _ _ z;have e1:=(hok b _ z).1;have E:=(I b _ z2).1;rw[e] at e1;cases e1;exact .inl E
       ·rw[hO b y] at A;cases A
    refine⟨rfl,⟨λb o e=>?_,λb o e=>?_⟩,os,bare⟩
    ·rcases key b o e with h | ⟨S,J,ps,h3⟩
     ·exact .inl h
     ·subst J;exact .inr (.inl ⟨S,rfl,#[],ps,rfl,by rw[Array.empty_append];exact h3⟩)
    ·rcases key b o e with h | ⟨S,J,ps,h3⟩
     ·exact⟨_,h⟩
     ·exact⟨_,h3⟩
 cases hk:K.lookup a with
 | some o=>
  have e:=KX a o hk;rw[M] at e;cases e;exact Zcd (λ_=>aA) (.inr ⟨_,vs.toArray,_,hk,rfl,rfl,rfl,by rw[aU,X];exact hl,by simpa using rv⟩) (.inl rfl) λ_ _=>rfl
 | none=>
  refine Zcd (λb=>if b=a then ax (.frz { cls:=.type "list",data:=.seq vs.toArray } (.lst (ns.map V.int))) else aA) (.inl ⟨{ cls:=.type "list",data:=.seq vs.toArray },p9 rfl⟩) (.inr ⟨hk,_,p9 rfl,M,?_⟩) λb hb=>pW hb;exact⟨by rw[aJ];exact hl,vs,_,rv,M⟩
open PySem.W PySem.Calls in
theorem law_walkT{l:PySem.W.OpenLaw}{q:bM}{j:List bH}{XP:(bH->Option aI)->ba->Prop}{R:bc->ba->Prop}{d:DefRec}{KK:Params->aH}{x:bH}{D:List PV->Option PV}(k:Nat)(hn:l.most=ax 63)(J:d.params.defaults=[])
  (hr:Room k nX) (A:∀w:bc,RN (KK w.params) q=aC) (hD:∀ns:List Int,ns.length<=63->(∀n∈ns,n.natAbs.log2<=1048576)->D [.cst (iL ns)]=ax (.bl aC))
  (hY:∀(w:bc)(h:ba),R w h->(KK w.params).In h)
  (F:∀(w:bc)(mg:bH->Option aI)(G:aL)(h:ba),(KK w.params).In h->h.Ns cO mg->mg d.name=ax (.ref G)->
   ∃Q:fL,(∀(s:aO)(u:aI),nP s Q ⟨[u],[]⟩ [(x,u)])/\∀base:ba,(KK w.params).In base->base.Ns cO mg->Pq l.prog w (KK w.params) mg base J6 k G Q [x] (Y5 (KK w.params) D 1)) :
  PySem.W.WalkO q j XP R l.row.toRowW d [] (λf vs=>PySem.call f vs):=by
 intro w U b mg mb i Y G o pm cd doc dv kv ho hd hcd y N t T S as z v X O hlo;obtain rfl:dv = .none:=Dflts.none y J;obtain rfl:kv = .none:=Dflts.noKw y;obtain⟨a,vs,ns,rfl,rfl,p,m,e⟩:=Att.script_of hn z O
 have hw:∀n∈ns,n.natAbs.log2<=1048576:=λn h=>by
  have C:(WData.list (ns.map nh)).layable=aC:=bK.mp v _ (aM.mpr rfl);unfold WData.layable at C;have B:=of_decide_eq_true (mJ.mp C).2;have M:WData.weightAll (ns.map nh)<=1048576:=by simpa [WData.weight] using B
  exact cD (Nn h) M
 have H:=hY w _ Y;obtain⟨Q,hb,hF⟩:=F w mg G _ H i.T.g N;have g:=A w;have P:=g;unfold RN at P;simp only[aw] at P;obtain⟨⟨⟨g1,g2⟩,g3⟩,_⟩:=P;have hT:∀r∈LS (KK w.params),lW b.heap r.2.1 r.2.2/\b.heap.get? r.2.2=ax (gX #[]):=λr E=>by obtain⟨d',I⟩:=cT.mp (bK.mp g3 r E);exact PySem.W.tab_of i.T H I (Cu (x:=r.1) (c:=r.2.1) (Pt:=r.2.2) E).1
 have L:=i.T.bmain;refine enter_call (gZ (Cw H i.T.g i.T.b i.T.builtins i.T.nolimit t (let⟨bm,ob,b1,b2,b3,b4,b5,Z⟩:=L;⟨bm,ob,b1,b2,b3,b4,b5,Z⟩) hT g1 (λq c C B=>GN g C B) (of_decide_eq_true g2) p m (cD e (by decide)) hr hF hb (hD ns e hw)) λr s' hq=>?_);obtain⟨rfl,B,M,W⟩:=hq;exact⟨.inl ⟨.bool aC,.bool aC,[],rfl,λ_=>rfl,.bool aC,Att.post_true l _,λ_=>⟨List.Pairwise.nil,λ_ E=>(nomatch E)⟩⟩,B,M,W⟩
end VL
namespace VL
open PySem L2
noncomputable def Zl4:cB->Option (mO×bO×gC)
 | .Return (ax (.Call _ [_,_,.Lambda a b sc _] _ _)) _=>ax (a,b,sc)
 | .Assign _ (.Call _ [_,_,.Lambda a b sc _] _ _) _=>ax (a,b,sc)
 | _=>aA
noncomputable def NG(st:cB)(i:Nat)(q free:bH):Lam:=match (Yy st)[i]? with
 | some s=>(match Zl4 s with
  | some (a,b,sc)=>⟨Oz q,a,b,sc,free⟩
  | none=>⟨Oz q,Xm st,.Name free ⟨0,0,0,0⟩,Zf st,free⟩)
 | none=>⟨Oz q,Xm st,.Name free ⟨0,0,0,0⟩,Zf st,free⟩
end VL
namespace PW
open PySem L2 VL VX
noncomputable def XU(i:Nat):cB:=iX.main.body.getD i (.Pass ⟨0,0,0,0⟩)
noncomputable def Yn:Lam:=NG (XU 43) 1 "still_by" "tree"
noncomputable def Uv:XE:=(Zm (PF aB) (Za 0) (Za 3))
noncomputable def YN:Lam:=NG (XU 50) 2 "made_of" "heads"
noncomputable def T5:XE:=(Zm (Xz aB) (Zm ZR (Za 3) (Za 0)) (Za 1))
noncomputable def YO:Lam:=NG (XU 38) 1 "tree_of" "purse"
noncomputable def T6:XE:=(Zm MO (Zm ZR (Za 3) (Za 1)) (Za 2))
open Classical in
noncomputable def V0(L:Lam)(l:PV)(ls:List PV):Option PV:=if L=Yn then Uv (ls.map ax++[ax l]) else if L=YN then T5 (ls.map ax++[ax l]) else if L=YO then T6 (ls.map ax++[ax l]) else aA
noncomputable def Qx:XS:=(Zn (YU [] (Xf aC [Za 0]) (.many [3,4]) (Ru (OO (xB (Zm (PF aC) (Za 3) (Za 1))) (xB (Zm (Xz aC) (Zm (PF aB) (Zm ZR (Za 4) (eC (.int 0))) (Za 2)) (Zm (PF aB) (Zm ZR (Za 4) (eC (.int 1))) (Za 2))))) (ZQ (eP (Za 3))) YE))
  (ZQ (eP (eC .non))))
noncomputable def Xe:List PV->Option PV:=YF 5 Qx
noncomputable def Zao:XS:=(Zn (Zs 3 (Ze Xv [Za 0]))
  (Zn (Zs 4 (WA [eP (Za 1)]))
  (Zn (Zs 5 (WA []))
  (Zn (Zs 6 (WA []))
  (Zn (Zs 7 (Ze Xe [Za 3,Za 5,Za 4]))
  (Zn (XC (xB (Rj aC (Za 7))) (Zn (Yz 5 (eP (Za 7)))
  (Zn (Zs 8 (eP (OP (xB (Zm (PF aB) (Zm ZR (Zm ZR (Za 3) (Za 7)) (eC (.int 0))) (Za 4))) (Zm ZR (Zm ZR (Za 3) (Za 7)) (eC (.int 1))) (Zm ZR (Zm ZR (Za 3) (Za 7)) (eC (.int 0))))))
  (Zn (Zs 9 (eP (Ze ZN [Zw 1 [8,3] (YL (Za 5)) (.one 0) (xB (Zm (PF aB) (Za 1) (O0 PH (Zm ZR (Za 2) (Za 0)) MR (Qk (eC (.int 2)))))) (Za 0)])))
  (Zn (Ru (xV (Zak V0 2 [Za 7,Za 8,Za 9])) (Zn (Yz 4 (eP (Za 8)))
  (Yz 6 (eP (Wz [Za 7,Za 8,Za 9])))) YE)
  (Zs 7 (Ze Xe [Za 3,Za 5,Za 4])))))))
  (ZQ (Za 6))))))))
noncomputable def V1:List PV->Option PV:=YF 10 Zao
noncomputable def GP:XS:=(Zn (Zs 3 (Zm Gu (WA [eC (.int 0)]) (Ze ZN [Za 0])))
  (Zn (Zs 4 (ND V1 (Za 0) (Za 1) Yn 2))
  (Zn (YU [3] (YL (Za 4)) (.many [5,6,7]) (SM 3 (Za 6) (Zm Wi (Za 7) (eC (.int 1)))))
  (ZQ (eP (Ze Z1 [Za 3]))))))
noncomputable def Uw:List PV->Option PV:=YF 8 GP
noncomputable def GQ:XS:=(Zn (Ru (Py (xB (Ze T2 [Za 0,Za 2]))) KO YE)
  (ZQ (Ze Uw [Za 0,Za 1,Za 2])))
noncomputable def NH:List PV->Option PV:=YF 3 GQ
noncomputable def NI:XS:=(Ru (xB (Zm (Xz aC) (Ze Of [Za 1]) (Ze RG [Za 0]))) KO YE)
noncomputable def WX:List PV->Option PV:=YF 2 NI
noncomputable def PQ:XS:=(Zn (Zs 2 (WA [eP (Wz [Wz [],Pz Ie (eC (.int 1))])]))
  (Zn (YU [] (Xf aB [Za 1]) (.many [3,4]) (Zs 2 (Zm LB (Za 2) (Zw 2 [3,0,4] (YL (Za 2)) (.many [0,1]) ZD (Wz [Zm LF (Za 0) (Wz [Za 2]),Zm Wi (Zm YJ (Zm YJ (Za 1) (Za 4)) (eC (.int 1))) (Ze X3 [Za 3,Za 2,Za 0])])))))
  (Zn (Zs 5 (Zw 2 [] (YL (O0 SK (Za 2) (Qk (eC (.int 1))) MR)) (.many [0,1]) (xB (Zm MO (Za 1) (eC (.int 0)))) (eP (Za 0))))
  (ZQ (eP (OP (xB (Zm El (Ze ZN [Za 5]) (eC (.int 0)))) (Zm ZR (Za 5) (eC (.int 0))) (eC .non)))))))
noncomputable def YV:List PV->Option PV:=YF 6 PQ
noncomputable def GR:XS:=(Zn (YU [] (Xf aB [Za 1]) (.many [2,3]) (Ru (xB (Zm El (Zm T3 (Za 0) (Za 2)) (Za 3))) (ZQ (eP (Za 2))) YE))
  (ZQ (eP (eC .non))))
noncomputable def WY:List PV->Option PV:=YF 4 GR
noncomputable def IJ:XS:=(ZQ (eP (OP (xB (Zm (Xz aB) (Za 1) (Zm ZR (Za 0) (eC (.int 0))))) (Zm ZR (Za 0) (eC (.int 1))) (Zm ZR (Za 0) (eC (.int 0))))))
noncomputable def Vn:List PV->Option PV:=YF 2 IJ
noncomputable def LU:XS:=(Zn (Zs 4 (Zaf (Za 3) (Ct (WA []))))
  (Zn (Zs 5 (WA [eP (Za 3)]))
  (Zn (Zs 6 (eP (eC (.int 0))))
  (Zn (XC (xB (Zm oGe (Zm T3 (Za 1) (Zm ZR (Za 5) (Za 6))) (Zm ZR (Za 2) (Zm ZR (Za 5) (Za 6))))) (Zn (Zs 7 (eP (Zm ZR (Za 5) (Za 6))))
  (Zn (YU [4,5] (Xf aC [Za 1]) (.many [8,9]) (Zn (Zs 10 (Ze Vn [Zm ZR (Za 0) (Za 8),Za 9]))
  (Ru (OO (xB (Zm (Xz aB) (Za 9) (Za 7))) (xB (Zed aC (Za 10) (Za 4)))) (Zn (sDPut 4 (Za 10) (Ct (Zm Zae (Zm UM (Za 4) (Za 7)) (WA [eP (Za 8)]))))
  (Yz 5 (eP (Za 10)))) YE)))
  (Zi7 6 YJ (eC (.int 1))))))
  (ZQ (eP (Zm UM (Za 4) (Zm ZR (Za 5) (Za 6)))))))))
noncomputable def Qy:List PV->Option PV:=YF 11 LU
noncomputable def Pc:XS:=(Zn (Zs 2 (Ze Xv [Za 0]))
  (Zn (Zs 3 (Zw 1 [] (YL (Za 2)) (.one 0) ZD (eP (Zm ZR (Za 0) (eC (.int 0))))))
  (Zn (Zs 4 (Ze WY [Za 3,Za 1]))
  (Zn (XC (xB (Rj aC (Za 4))) (Zn (Zs 5 (Ze Qy [Za 2,Za 3,Za 1,Za 4]))
  (Zn (YU [3] (YL (Za 5)) (.one 6) (SM 3 (Za 6) (Ze Vn [Zm ZR (Za 2) (Za 6),Zm ZR (Za 3) (Za 6)])))
  (Zs 4 (Ze WY [Za 3,Za 1])))))
  (ZQ (Za 3))))))
noncomputable def Tg:List PV->Option PV:=YF 7 Pc
noncomputable def Cy:XS:=(ZQ (eP (Ze Z1 [Ze RJ [Zw 1 [] (YL (Ze V1 [Za 0,Za 1,Za 2])) (.one 0) ZD (Zm ZR (Za 0) (eC (.int 0)))]])))
noncomputable def WM:List PV->Option PV:=YF 3 Cy
noncomputable def Cz:XS:=(Zn (Zs 2 (Ze RH [Ze Vu [Za 1,Zm AQ (Wz [eC (.int 1)]) (Ze ZN [Za 0])],Ze Nv [Za 0,eC (.int 0)]]))
  (Zn (Zs 3 (eP (Ct (Ze Tg [Za 0,Za 2]))))
  (Zn (Zs 4 (ND WM (Za 0) (eC (.int 0)) YN 3))
  (ZQ (eP (Wz [Za 4,Ze Z1 [Zw 2 [4] (Xf aC [Za 3]) (.many [0,1]) (xB (Zm (PF aC) (Za 0) (Za 2))) (Za 1)]]))))))
noncomputable def Qz:List PV->Option PV:=YF 5 Cz
noncomputable def Zap:XS:=(ZQ (eP (Ze Z1 [Zw 1 [0] (Yk [Ze ZN [Za 0]]) (.one 0) ZD (Zm Wi (Zm SD (Ze VP [Za 1,Za 0]) (eC (.int 2))) (eC (.int 1)))])))
noncomputable def NJ:List PV->Option PV:=YF 1 Zap
noncomputable def IK:XS:=(Zn (sEx (Ze WX [Za 0,Za 1]))
  (Zn (Zs 2 (Ze X5 [Za 0,Ze RH [Za 1,Ze NJ [Za 0]],eC (.int 0)]))
  (Zn (Zs 3 (Ze VQ [Za 0,Za 1,Za 2]))
  (Zn (Zs 4 (Ze YV [Za 0,Za 3]))
  (Zn (XC (xB (Rj aC (Za 4))) (Zn (Zs 5 (Ze YB [Za 0,Za 4]))
  (Zn (Zs 2 (Ze Vu [Za 2,Za 5]))
  (Zn (Zs 3 (Ze VQ [Za 0,Za 3,Za 5]))
  (Zs 4 (Ze YV [Za 0,Za 3]))))))
  (Zn (Zs 6 (Ze Qz [Za 0,Za 3]))
  (ZQ (eP (Wz [Ze T1 [Za 2],Za 3,Zm ZR (Za 6) (eC (.int 0)),Zm ZR (Za 6) (eC (.int 1))])))))))))
noncomputable def RO:List PV->Option PV:=YF 7 IK
noncomputable def KZ:XS:=(ZQ (eP (Kr (Zm (Xz aB) (Ze ZN [Ze YZ [Za 1,Za 2]]) (eC (.int 0))) (Zm (Xz aB) (Ze ZN [Ze Vl [Za 0,Za 1,Za 2]]) (Ze ZN [Za 0])))))
noncomputable def WE:List PV->Option PV:=YF 3 KZ
noncomputable def CA:XS:=(Zn (Ru (Py (xB (Ze WE [Za 0,Za 2,Za 1]))) KO YE)
  (ZQ (ND WM (Za 0) (Za 1) YO 2)))
noncomputable def T7:List PV->Option PV:=YF 3 CA
noncomputable def Ze5:XS:=(Zn (Zs 3 (Ze NH [Za 0,Za 1,Za 2]))
  (Zn (Ru (Gj (Py (xB (Ze Uu [Za 3,Ze ZN [Za 0]]))) (xB (Zm (Xz aC) (Zm ZR (Za 3) (Za 1)) (eC (.int 0))))) (ZQ (eP (eC .non))) YE)
  (Zn (Zs 4 (Ze Vs [Za 3]))
  (Zn (SM 4 (Za 1) (Zm Wi (Ze Qt [Za 0]) (Ze Rq [Za 3])))
  (Zn (Zs 5 (Ze RO [Za 0,Ze Z1 [Za 4]]))
  (Zn (Ru (Gj (Py (xB (Ze UL [Za 5,eC (.ty "tuple")]))) (Gj (xB (Zm (Xz aC) (Ze ZN [Za 5]) (eC (.int 4)))) (Py (xB (Ze Uu [Zm ZR (Za 5) (eC (.int 0)),Ze ZN [Za 0]]))))) (ZQ (eP (eC .non))) YE)
  (Zn (Ru (Gj (xB (Zm (Xz aC) (Ze Nu [Za 0,Za 4,Zm ZR (Za 5) (eC (.int 0))]) (Zm ZR (Za 5) (eC (.int 1))))) (xB (Zm MO (Ze AV [Zm ZR (Za 5) (eC (.int 1))]) (eC (.int 0))))) (ZQ (eP (eC .non))) YE)
  (Zn (Zs 6 (eP (Zm ZR (Ze Tc [Za 0,Zm ZR (Za 5) (eC (.int 1)),Za 1]) (eC (.int 1)))))
  (Zn (Ru (Gj (xB (Zm (Xz aC) (Za 6) (Ze Z1 [Za 4]))) (xB (Zm (Xz aC) (Ze T7 [Za 0,Za 1,Za 6]) (Za 2)))) (ZQ (eP (eC .non))) YE)
  (ZQ (eP (Zm ZR (Za 5) (eC (.int 1))))))))))))))
noncomputable def K1:List PV->Option PV:=YF 7 Ze5
noncomputable def Zhe:XS:=(Zn (Zs 1 (Ze KR [Za 0,WA [eC (.int 1),eC (.int 2),eC (.int 3),eC (.int 4),eC (.int 5)],eC (.int 8)]))
  (Zn (Zs 2 (Ze Xj [Ze Vv [Za 0,eC (.int 13)],eC (.int 331),Ze ZN [Za 1]]))
  (Zn (Zs 3 (eC (.dT [] [])))
  (Zn (YU [3] (YL (Zm LB (WA [Ze Vv [Za 0,eC (.int 12)]]) (O0 SK (Za 0) (Qk (eC (.int 13))) (Qk (eC (.int 21)))))) (.one 4) (Zn (Zs 5 (Ze Ny [Za 1,Za 4]))
  (Zn (Zs 6 (Ze K1 [Za 1,Za 2,Za 5]))
  (Zn (Ru (Gj (xB (Rj aB (Za 6))) (xB (Zm (Xz aC) (O7 (Za 3) (Za 6) (Za 5)) (Za 5)))) (ZQ (eP (eC (.bl aB)))) YE)
  (sDPut 3 (Za 6) (Za 5))))))
  (ZQ (eP (eC (.bl aC))))))))
noncomputable def D_law:List PV->Option PV:=YF 7 Zhe
end PW
namespace VL
open PySem PySem.Spec PyProof.Rows L2
theorem Wn{N P:List bH}{h:gC}(a:h.kind = .function:=by rfl)(b:h.isCoroutine=aB:=by rfl)(c:h.isGenerator=aB:=by rfl)(d:N.Nodup:=by decide +kernel)(e:N.take P.length=P:=by rfl)
  (f:∀x∈P,h.names.lookup x=ax .local\/h.names.lookup x=ax .cell:=by decide +kernel) (g:∀y∈h.names,y.2≠.free:=by decide +kernel):Zq N P h:=⟨a,b,c,d,e,f,g⟩
section
variable {X:Cx} {e e1 e2 e3 e4 e5:bO} {f f1 f2 f3 f4 f5:XE} {es:List bO} {fs:List XE} {x:bH} {p pos pos':dw} {k k' n:Nat} {O W:List Nat}
theorem vo(i:Nat)(b:X.N[i]?=ax x:=by rfl)(c:Vis X.env.scope x:=by first | exact j5 rfl | exact mq (j5 rfl) | exact mq (mq rfl))(hd:(x==("__debug__" : bH))=aB:=by decide)
  (a:(x==("__classdict__" : bH))=aB:=by decide):VE X (.Name x pos) (Za i):=Rc (pv i b c hd a)
theorem Y4(a:VE X e1 f1)(b:aP [e1] X.env=(aB,eval e1 X.env)::aP [] X.env:=by rfl):VA X [e1] [f1]:=Wy a Qg b
theorem Wl(a:VE X e1 f1)(b:VE X e2 f2)(c:aP [e1,e2] X.env=(aB,eval e1 X.env)::aP [e2] X.env:=by rfl)(d:aP [e2] X.env=(aB,eval e2 X.env)::aP [] X.env:=by rfl):VA X [e1,e2] [f1,f2]:=Wy a (Y4 b d) c
theorem Ux(a:VE X e1 f1)(b:VE X e2 f2)(c:VE X e3 f3)(d:aP [e1,e2,e3] X.env=(aB,eval e1 X.env)::aP [e2,e3] X.env:=by rfl)(e:aP [e2,e3] X.env=(aB,eval e2 X.env)::aP [e3] X.env:=by rfl)(f:aP [e3] X.env=(aB,eval e3 X.env)::aP [] X.env:=by rfl):VA X [e1,e2,e3] [f1,f2,f3]:=Wy a (Wl b c e f) d
theorem va4(a:VE X e1 f1)(b:VE X e2 f2)(c:VE X e3 f3)(d:VE X e4 f4)(e:aP [e1,e2,e3,e4] X.env=(aB,eval e1 X.env)::aP [e2,e3,e4] X.env:=by rfl)(f:aP [e2,e3,e4] X.env=(aB,eval e2 X.env)::aP [e3,e4] X.env:=by rfl)(h:aP [e3,e4] X.env=(aB,eval e3 X.env)::aP [e4] X.env:=by rfl)(g:aP [e4] X.env=(aB,eval e4 X.env)::aP [] X.env:=by rfl):VA X [e1,e2,e3,e4] [f1,f2,f3,f4]:=Wy a (Ux b c d f h g) e
theorem Vd{g:List bH}{D:List PV->Option PV}(C:Xi X.prog X.w X.K X.mg X.base x g (Y5 X.K D n) k)(f:Room k' X.A)(c:VA X (e::es) fs)(h:k<=k':=by decide)(d:Gl X x:=by rfl)(j:fs.length=n:=by rfl)
  (a:(x==("__debug__" : bH))=aB:=by decide) (i:aP (e::es) X.env=(aB,eval e X.env)::aP es X.env:=by rfl) (b:(dC pos (aP es X.env)).any (·.1)=aB:=by rfl) :
  VM X (.Call (.Name x p) (e::es) [] pos) (Ze D fs):=Em C (f.mono h) d c j a i b
theorem V9{g:List bH}{D:List PV->Option PV}(C:Xi X.prog X.w X.K X.mg X.base x g (Y5 X.K D n) k)(f:Room k' X.A)(c:VA X (e::es) fs)(h:k<=k':=by decide)(d:Gl X x:=by rfl)(j:fs.length=n:=by rfl)
  (a:(x==("__debug__" : bH))=aB:=by decide) (i:aP (e::es) X.env=(aB,eval e X.env)::aP es X.env:=by rfl) (b:(dC pos (aP es X.env)).any (·.1)=aB:=by rfl) :
  VE X (.Call (.Name x p) (e::es) [] pos) (Ze D fs):=VM.ve (Em C (f.mono h) d c j a i b)
theorem vb{id:String}{r:List V->Hp->VK->Prop}{g:List PV->Option PV}(d:XW X (.builtin id) r)(h:RC X.K r g)(j:X.mg x=aA)(c:VA X (e::es) fs)(f:Gl X x:=by rfl)(k:dB x=ax (.builtin id):=by decide +kernel)(l:x≠"__name__":=by decide)(a:(x==("__debug__" : bH))=aB:=by decide)
  (i:aP (e::es) X.env=(aB,eval e X.env)::aP es X.env:=by rfl) (b:(dC pos (aP es X.env)).any (·.1)=aB:=by rfl):VE X (.Call (.Name x p) (e::es) [] pos) (Ze g fs):=Ig d h f j k c l a i b
theorem vmb{id:String}{r:List V->Hp->VK->Prop}{g:List PV->Option PV}(d:XW X (.builtin id) r)(h:RCM X.K r g)(j:X.mg x=aA)(c:VA X (e::es) fs)(f:Gl X x:=by rfl)(k:dB x=ax (.builtin id):=by decide +kernel)(l:x≠"__name__":=by decide)(a:(x==("__debug__" : bH))=aB:=by decide)
  (i:aP (e::es) X.env=(aB,eval e X.env)::aP es X.env:=by rfl) (b:(dC pos (aP es X.env)).any (·.1)=aB:=by rfl):VM X (.Call (.Name x p) (e::es) [] pos) (Ze g fs):=Aj d h f j k c l a i b
theorem Ua(g:X.mg "len" = aA)(c:VE X e f)(d:Gl X "len":=by rfl)(b:aP [e] X.env=(aB,eval e X.env)::aP [] X.env:=by rfl)(a:(dC pos (aP [] X.env)).any (·.1)=aB:=by rfl):VE X (.Call (.Name "len" p) [e] [] pos) (Ze ZN [f]):=
 Ig BN Zi1 d g (by decide +kernel) (Y4 c b) (by decide) (by decide) b a
theorem Yg{a:XE}(i:Nat)(d:X.N.Nodup)(g:VM X e a)(b:X.N[i]?=ax x:=by rfl)(f:BB X.env.scope x:=by first | exact j5 rfl | exact mq rfl)(c:iC e (ax (.Name x pos')) pos.line X.env=pure aB:=by rfl)(h:X.fn x=aC\/X.env.scope.names.lookup x=ax .local:=by first | exact .inl rfl | exact .inr rfl | assumption) :
  VS X O [i] (.Assign [.Name x pos'] e pos) (Zs i a):=Zi5 d b f g c h
theorem Sm(i:Nat)(b:X.N.Nodup)(a:X.N[i]?=ax x:=by rfl)(c:BB X.env.scope x:=by first | exact j5 rfl | exact mq rfl)(d:X.fn x=aC\/X.env.scope.names.lookup x=ax .local:=by first | exact .inl rfl | exact .inr rfl | assumption):PG X (.Name x pos) (Sq i):=P7 b a c d
theorem Sy(i:Nat){N:List bH}{a:gC}{cl:List (bH×aL)}{C:aL}{s:aO}{H:Hp}{b:List aL}(d:N.Nodup:=by decide +kernel)(c:N[i]?=ax x:=by rfl)(e:BB (ZI X N a cl C s H b).env.scope x:=by exact j5 rfl)(f:(ZI X N a cl C s H b).env.scope.names.lookup x=ax .local:=by rfl):PG (ZI X N a cl C s H b) (.Name x pos) (Sq i):=P7 d c e (.inr f)
end
section
variable {X:Cx} {tg iter elt e1 e2:bO} {fi:XL} {T:Tgt} {ft:XT} {fe f1 f2:XE} {p pos pos':dw} {O W:List Nat} {body:List cB} {fb:XS} {scope:gC}
theorem MJ(c:VI X tg iter fi)(d:PG X tg (gT X.K T))(f:VSs X O W body fb)(g:mM (model X.prog X.w) X.A X.env X.xe:=by exact eZ)(a:X.calm=aC:=by rfl)(b:∀i∈T.slots,i∉O:=by decide)
  (e:∀x,cK iter X.env x=pure x:=by intro _;rfl):VS X O (T.slots++W) (.For tg iter body [] pos) (YU O fi T fb):=Zi6 g a c d f b e
theorem GS(b:X.mg "range" = aA)(d:VE X e1 f1)(c:Gl X "range":=by rfl)(a:aP [e1] X.env=[(aB,eval e1 X.env)]:=by rfl):VI X tg (.Call (.Name "range" p) [e1] [] pos) (Yk [f1]):=DV c b (Y4 d (by rw[a];rfl)) a
theorem vr2(f:X.mg "range" = aA)(c:VE X e1 f1)(e:VE X e2 f2)(d:Gl X "range":=by rfl)(b:aP [e1,e2] X.env=[(aB,eval e1 X.env),(aB,eval e2 X.env)]:=by rfl)(a:aP [e2] X.env=[(aB,eval e2 X.env)]:=by rfl):VI X tg (.Call (.Name "range" p) [e1,e2] [] pos) (VF [f1,f2]):=DW d f (Wl c e (by rw[b,a]) (by rw[a];rfl)) b a
theorem CB(o:bH)(fr:List bH)(a:List Nat)(b:VI X (.Name o pos') iter fi)(f:∀{cl C s H ex},VE (ZI X ([o]++fr) scope cl C s H ex) elt fe)(S:Ue X.N X.env.scope scope [o] fr a=aC:=by kernel_rfl)
  (e:([o]++fr).Nodup:=by decide +kernel) (g:∀cl C s H ex,BB (ZI X ([o]++fr) scope cl C s H ex).env.scope o:=by intro _ _ _ _ _;exact j5 rfl) (j:∀cl C s H ex,(ZI X ([o]++fr) scope cl C s H ex).env.scope.names.lookup o=ax .local:=by intro _ _ _ _ _;rfl) (c:X.calm=aC:=by rfl) (d:∀x,cK iter X.env x=pure x:=by intro _;rfl) :
  VE X (.ListComp elt [⟨.Name o pos',iter,[],0⟩] scope pos) (Zw 1 a fi (.one 0) ZD fe):=Wf [o] fr a c b S (λ_ _ _ _ _=>P7 (i:=0) e rfl (g _ _ _ _ _) (.inr (j _ _ _ _ _))) (λ_ _ _ _ _=>Yq) (λ_ _ _ _ _=>f) (λi b=>by cases b with | head=>exact lK | tail _ h=>cases h) d
theorem vcq{a:List bO}(o:bH)(fr:List bH)(b:List Nat)(c:VI X (.Name o pos') iter fi)(f:∀{cl C s H ex},VTs (ZI X ([o]++fr) scope cl C s H ex) a ft)(j:∀{cl C s H ex},VE (ZI X ([o]++fr) scope cl C s H ex) elt fe)(S:Ue X.N X.env.scope scope [o] fr b=aC:=by kernel_rfl)
  (g:([o]++fr).Nodup:=by decide +kernel) (k:∀cl C s H ex,BB (ZI X ([o]++fr) scope cl C s H ex).env.scope o:=by intro _ _ _ _ _;exact j5 rfl) (l:∀cl C s H ex,(ZI X ([o]++fr) scope cl C s H ex).env.scope.names.lookup o=ax .local:=by intro _ _ _ _ _;rfl) (d:X.calm=aC:=by rfl) (e:∀x,cK iter X.env x=pure x:=by intro _;rfl) :
  VE X (.ListComp elt [⟨.Name o pos',iter,a,0⟩] scope pos) (Zw 1 b fi (.one 0) ft fe):=Wf [o] fr b d c S (λ_ _ _ _ _=>P7 (i:=0) g rfl (k _ _ _ _ _) (.inr (l _ _ _ _ _))) (λ_ _ _ _ _=>f) (λ_ _ _ _ _=>j) (λi c=>by cases c with | head=>exact lK | tail _ h=>cases h) e
end
section
variable {K:aH} {P:bM} {w:bc} {mg:bH->Option aI} {base:ba} {x a b c d e:bH} {st:cB} {N:List bH} {k m:Nat} {O W:List Nat} {f:XS}
abbrev BdA(x:bH)(st:cB)(us:List aI)(r:List (bH×aI)):Prop:=∀(kV doc pm:aI)(an:Option aL)(cdv ct:aI),j4 (dO x x (Xm st) (Yy st) (Zf st) .none kV doc pm an cdv ct) ⟨us,[]⟩=pure r
abbrev Ze6(P:bM)(w:bc)(K:aH)(mg:bH->Option aI)(base:ba)(N:List bH)(x:bH)(st:cB)(k:Nat)(O W:List Nat)(f:XS):Prop:=∀{fa:aL}{cdv:aI}{A:bq}{outer:List ma}{s:aO}{H:Hp}{E:XK},Room k (A.deeper (iZ x (Zf st) s.heap.objs.size fa cdv))->VSs (OC J6 P w K mg base N x (Zf st) fa cdv A outer s H E).nox O W (Yy st) f
theorem dk1(O:List Nat)(D:Def K mg x st)(S:Zq N [a] (Zf st))(q:Ze6 P w K mg base N x st k O W f)(e:∀t,BdA x st [t] [(a,t)]:=by intro _ _ _ _ _ _ _;rfl)(h:N.length=m:=by rfl)(g:∀i∈O,1<=i:=by decide):Xi P w K mg base x [a] (Y5 K (YF m f) 1) (k+1):=
 KD m f D S (λ_ _ _ _ _ _ c b=>match c,b with | [t],_=>e t _ _ _ _ _ _) rfl h g λ_ _ _ _ _ _ _ d=>q d
theorem K2(O:List Nat)(D:Def K mg x st)(S:Zq N [a,b] (Zf st))(q:Ze6 P w K mg base N x st k O W f)(g:∀t u,BdA x st [t,u] [(a,t),(b,u)]:=by intro _ _ _ _ _ _ _ _;rfl)(j:N.length=m:=by rfl)(h:∀i∈O,2<=i:=by decide):Xi P w K mg base x [a,b] (Y5 K (YF m f) 2) (k+1):=
 KD m f D S (λ_ _ _ _ _ _ d c=>match d,c with | [t,u],_=>g t u _ _ _ _ _ _) rfl j h λ_ _ _ _ _ _ _ e=>q e
theorem LV(O:List Nat)(D:Def K mg x st)(S:Zq N [a,b,c] (Zf st))(q:Ze6 P w K mg base N x st k O W f)(h:∀t u v,BdA x st [t,u,v] [(a,t),(b,u),(c,v)]:=by intro _ _ _ _ _ _ _ _ _;rfl)(l:N.length=m:=by rfl)(j:∀i∈O,3<=i:=by decide):Xi P w K mg base x [a,b,c] (Y5 K (YF m f) 3) (k+1):=
 KD m f D S (λ_ _ _ _ _ _ e d=>match e,d with | [t,u,v],_=>h t u v _ _ _ _ _ _) rfl l j λ_ _ _ _ _ _ _ g=>q g
theorem dk4(O:List Nat)(D:Def K mg x st)(S:Zq N [a,b,c,d] (Zf st))(q:Ze6 P w K mg base N x st k O W f)(j:∀t u v y,BdA x st [t,u,v,y] [(a,t),(b,u),(c,v),(d,y)]:=by intro _ _ _ _ _ _ _ _ _ _;rfl)(n:N.length=m:=by rfl)(l:∀i∈O,4<=i:=by decide):Xi P w K mg base x [a,b,c,d] (Y5 K (YF m f) 4) (k+1):=
 KD m f D S (λ_ _ _ _ _ _ g e=>match g,e with | [t,u,v,y],_=>j t u v y _ _ _ _ _ _) rfl n l λ_ _ _ _ _ _ _ h=>q h
end
end VL
namespace PW
open PySem L2 VL VX
section
variable (P:bM) (w:bc) (K:aH) (mg:bH->Option aI) (base:ba)
abbrev Th:Prop:=Xi P w K mg base "_law_pick" ["_law_cell","_law_salt","_law_many"] (Y5 K Xj 3) 1
abbrev Uy:Prop:=Xi P w K mg base "_law_read_web" ["_law_number","_law_sizes","_law_most"] (Y5 K Ut 3) 1
abbrev K3:Prop:=Xi P w K mg base "_law_at" ["_law_script","_law_k"] (Y5 K Vv 2) 1
abbrev K4:Prop:=Xi P w K mg base "_law_web" ["_law_script","_law_sizes","_law_most"] (Y5 K KR 3) 2
abbrev NK:Prop:=Xi P w K mg base "_law_ties" ["_law_web_here"] (Y5 K Nx 1) 1
abbrev NL:Prop:=Xi P w K mg base "_law_tree" ["_law_web_here","_law_cell"] (Y5 K Ny 2) 2
abbrev WN:Prop:=Xi P w K mg base "ties_of" ["web"] (Y5 K Xv 1) 1
abbrev X6:Prop:=Xi P w K mg base "tie_to_look_at" ["ties","looked","fire"] (Y5 K Xe 3) 1
abbrev RP:Prop:=Xi P w K mg base "walked" ["web","base","burns"] (Y5 K V1 3) 2
abbrev SR:Prop:=Xi P w K mg base "still_by" ["web","base","tree"] (Y5 K Uw 3) 3
abbrev Ti:Prop:=Xi P w K mg base "pieces_of" ["web","ties","grove"] (Y5 K Y7 3) 1
abbrev QA:Prop:=Xi P w K mg base "is_tree" ["web","numbers"] (Y5 K T2 2) 2
abbrev SS:Prop:=Xi P w K mg base "still_of" ["web","base","tree"] (Y5 K NH 3) 4
abbrev K5:Prop:=Xi P w K mg base "total" ["purse"] (Y5 K Of 1) 1
abbrev K6:Prop:=Xi P w K mg base "loops" ["web"] (Y5 K RG 1) 2
abbrev WZ:Prop:=Xi P w K mg base "refuse_total" ["web","purse"] (Y5 K WX 2) 3
abbrev QB:Prop:=Xi P w K mg base "reduced" ["row","by","place","divisor"] (Y5 K Qr 4) 1
abbrev NM:Prop:=Xi P w K mg base "evened" ["rows"] (Y5 K Np 1) 2
abbrev W0:Prop:=Xi P w K mg base "solved_below" ["square","column"] (Y5 K WU 2) 3
abbrev T8:Prop:=Xi P w K mg base "ties_at" ["web","house"] (Y5 K VP 2) 1
abbrev NN:Prop:=Xi P w K mg base "row_of" ["web","house","others"] (Y5 K Nr 3) 2
abbrev X7:Prop:=Xi P w K mg base "square_without" ["web","base"] (Y5 K X4 2) 3
abbrev T9:Prop:=Xi P w K mg base "nearing" ["web","purse","base"] (Y5 K X5 3) 4
abbrev GU:Prop:=Xi P w K mg base "gain" ["web","script","house"] (Y5 K Nh 3) 1
abbrev EV:Prop:=Xi P w K mg base "run" ["web","purse","script"] (Y5 K VQ 3) 2
abbrev Sa:Prop:=Xi P w K mg base "ties_to" ["web","house","others"] (Y5 K X3 3) 1
abbrev Wq:Prop:=Xi P w K mg base "lacking_among" ["web","purse"] (Y5 K YV 2) 2
abbrev Og:Prop:=Xi P w K mg base "minus" ["one","other"] (Y5 K RH 2) 1
abbrev SU:Prop:=Xi P w K mg base "overfull" ["heads","wanted"] (Y5 K WY 2) 1
abbrev Vo:Prop:=Xi P w K mg base "other_end" ["tie","end"] (Y5 K Vn 2) 1
abbrev QC:Prop:=Xi P w K mg base "way_out" ["ties","heads","wanted","house"] (Y5 K Qy 4) 2
abbrev Tj:Prop:=Xi P w K mg base "heads_for" ["web","wanted"] (Y5 K Tg 2) 3
abbrev Sb:Prop:=Xi P w K mg base "tree_by" ["web","base","burns"] (Y5 K WM 3) 3
abbrev NO:Prop:=Xi P w K mg base "plus" ["one","other"] (Y5 K Vu 2) 1
abbrev NP:Prop:=Xi P w K mg base "one_at" ["web","house"] (Y5 K Nv 2) 1
abbrev QD:Prop:=Xi P w K mg base "made_of" ["web","purse"] (Y5 K Qz 2) 4
abbrev Vp:Prop:=Xi P w K mg base "borrowing" ["web","houses"] (Y5 K YB 2) 1
abbrev Oh:Prop:=Xi P w K mg base "least" ["script"] (Y5 K T1 1) 1
abbrev NQ:Prop:=Xi P w K mg base "middle" ["web"] (Y5 K NJ 1) 2
abbrev NR:Prop:=Xi P w K mg base "broken" ["web","purse"] (Y5 K RO 2) 5
abbrev QE:Prop:=Xi P w K mg base "_law_loops" ["_law_web_here"] (Y5 K Qt 1) 1
abbrev Sd:Prop:=Xi P w K mg base "in_debt" ["purse","base"] (Y5 K YZ 2) 1
abbrev Wr:Prop:=Xi P w K mg base "house_to_burn" ["web","purse","fire"] (Y5 K Z5 3) 2
abbrev Oi:Prop:=Xi P w K mg base "burnt" ["web","purse","base"] (Y5 K Vl 3) 3
abbrev NS:Prop:=Xi P w K mg base "settle" ["web","purse","base"] (Y5 K Tc 3) 5
abbrev QF:Prop:=Xi P w K mg base "_law_whole" ["_law_found"] (Y5 K VR 1) 1
abbrev SV:Prop:=Xi P w K mg base "_law_wholes" ["_law_found","_law_many"] (Y5 K Uu 2) 2
abbrev NT:Prop:=Xi P w K mg base "_law_lend" ["_law_web_here","_law_purse","_law_script"] (Y5 K Nu 3) 1
abbrev Uz:Prop:=Xi P w K mg base "is_settled" ["web","purse","base"] (Y5 K WE 3) 4
abbrev QG:Prop:=Xi P w K mg base "tree_of" ["web","base","purse"] (Y5 K T7 3) 5
abbrev K7:Prop:=Xi P w K mg base "_law_one" ["_law_web_here","_law_base","_law_tree_here"] (Y5 K K1 3) 6
end
section
variable {P:bM} {w:bc} {K:aH} {mg:bH->Option aI} {base:ba}
theorem IL:Tf (["tie","house","seen","tree"]:List bH) (["tie","house","seen"]:List bH) Yn:=⟨rfl,rfl,rfl,by decide +kernel,by decide +kernel,rfl,by decide +kernel,rfl,by decide +kernel,by decide +kernel⟩
theorem IM(B:XQ mg):LR P w K mg base 1 Yn (λl ls=>Uv (ls.map ax++[ax l])) 3:=
 GK (k:=0) Uv IL (λ_ _ _ _ d b=>match d,b with | [_,_,_],_=>rfl) rfl (λg c e A a s H f=>(Au f.units (Rc (pv 0)) (Rc (pv 3))))
theorem GV:Tf (["tie","house","seen","heads"]:List bH) (["tie","house","seen"]:List bH) YN:=⟨rfl,rfl,rfl,by decide +kernel,by decide +kernel,rfl,by decide +kernel,rfl,by decide +kernel,by decide +kernel⟩
theorem GW(B:XQ mg):LR P w K mg base 1 YN (λl ls=>T5 (ls.map ax++[ax l])) 3:=
 GK (k:=0) T5 GV (λ_ _ _ _ d b=>match d,b with | [_,_,_],_=>rfl) rfl (λg c e A a s H f=>(Im f.units (Zj (Rc (pv 3)) (Rc (pv 0))) (Rc (pv 1))))
theorem GX:Tf (["tie","house","seen","purse"]:List bH) (["tie","house","seen"]:List bH) YO:=⟨rfl,rfl,rfl,by decide +kernel,by decide +kernel,rfl,by decide +kernel,rfl,by decide +kernel,by decide +kernel⟩
theorem GY(B:XQ mg):LR P w K mg base 1 YO (λl ls=>T6 (ls.map ax++[ax l])) 3:=
 GK (k:=0) T6 GX (λ_ _ _ _ d b=>match d,b with | [_,_,_],_=>rfl) rfl (λf c e A a s H g=>(Zg5 (Zj (Rc (pv 3)) (Rc (pv 1))) (Rc (pv 2))))
theorem Ze8(B:XQ mg):∀L,(∃l ls r,V0 L l ls=ax r)->LR P w K mg base 1 L (V0 L) 3:=by
 intro L ⟨l,ls,r,h⟩;by_cases a:L=Yn
 ·have q:V0 L=λl ls=>Uv (ls.map ax++[ax l]):=by funext l ls;unfold V0;rw[p9 a]
  rw[q,a];exact IM B
 by_cases b:L=YN
 ·have q:V0 L=λl ls=>T5 (ls.map ax++[ax l]):=by funext l ls;unfold V0;rw[pW a,p9 b]
  rw[q,b];exact GW B
 by_cases c:L=YO
 ·have q:V0 L=λl ls=>T6 (ls.map ax++[ax l]):=by funext l ls;unfold V0;rw[pW a,pW b,p9 c]
  rw[q,c];exact GY B
 unfold V0 at h;rw[pW a,pW b,pW c] at h;cases h
abbrev NU:cB:=XU 57
theorem sc_l_pick:Zq ["_law_cell","_law_salt","_law_many","_law_number"] ["_law_cell","_law_salt","_law_many"] (Zf NU):=Wn
theorem CC(a:Def K mg "_law_pick" NU)(B:XQ mg):Th P w K mg base:=
 LV [] a sc_l_pick λb=>
  (Zd (Yg 3 sc_l_pick.nd (VE.pure (Xq (SE (Yb (Xq (vo 0) Zh) (vo 1)) (Yb (vo 1) Zh)) Zh)))
  (Zd (Yg 3 sc_l_pick.nd (VE.pure (Xq (Yb (Yb (SE (vo 3) (vo 3)) (Xo (vo 0) Zh)) (vo 1)) Zh)))
  (Zg (Zz (VE.pure (Xq (Xo (vo 3) Zh) (vo 2)))))))
abbrev UA:cB:=XU 58
theorem sc_l_read_web:Zq ["_law_number","_law_sizes","_law_most","_law_many","_law_order","_law_pairs","_law_k","_law_more","_law_one_here","_law_rows","_law_other","_law_times"] ["_law_number","_law_sizes","_law_most"] (Zf UA):=Wn
theorem MY(e:Def K mg "_law_read_web" UA)(B:XQ mg):Uy P w K mg base:=
 Zeo (O:=[4,5,9]) (k:=0) 12 Us e sc_l_read_web (λ_ _ _ _ _ _ d b=>match d,b with | [_,_,_],_=>rfl) rfl rfl (by decide) (λf c A a s H E g=>
  (YY (Yg 3 sc_l_read_web.nd (VE.pure (Zj (vo 1) (Xq (vo 0) (Ua B.len (vo 1))))))
  (YY (Yg 0 sc_l_read_web.nd (VE.pure (Xo (vo 0) (Ua B.len (vo 1)))))
  (YY (Yg 4 sc_l_read_web.nd (XA YS))
  (YY (Yg 5 sc_l_read_web.nd (XA YS))
  (YY (MJ (GS B.range (vo 3)) (Sm 6 sc_l_read_web.nd) (Zd (Lz (Y3 (WR bT kE kF Lp (pv 4) (Z2 (Xq (vo 0) (Yb (vo 6) Zh)) (Z2 (vo 6) Y0)))))
  (Zg (Yg 0 sc_l_read_web.nd (VE.pure (Xo (vo 0) (Yb (vo 6) Zh)))))))
  (YY (MJ (vr2 B.range Zh (vo 3)) (Sm 6 sc_l_read_web.nd) (Zd (Xc (Y3 (WR bT cE cF Xa (pv 5) (Z2 (VE.pure (X2 (Wl (vo 6) (Xq (vo 0) (vo 6))))) Y0))))
  (Zg (Yg 0 sc_l_read_web.nd (VE.pure (Xo (vo 0) (vo 6)))))))
  (YY (Yg 7 sc_l_read_web.nd (VE.pure (SE (ZK DG Zd7 rfl B.int (by decide +kernel) (Y4 (Aa (vo 3) Zh))) (Xq (vo 0) (Yb (Y1 (vo 2) (vo 3)) Zh)))))
  (YY (Yg 0 sc_l_read_web.nd (VE.pure (Xo (vo 0) (Yb (Y1 (vo 2) (vo 3)) Zh))))
  (YY (MJ (GS B.range (vo 7)) (Sm 6 sc_l_read_web.nd) (Zd (Yg 8 sc_l_read_web.nd (VE.pure (Xq (vo 0) (vo 3))))
  (Zd (Yg 0 sc_l_read_web.nd (VE.pure (Xo (vo 0) (vo 3))))
  (Zd (Xc (Y3 (WR bT cE cF Xa (pv 5) (Z2 (VE.pure (X2 (Wl (vo 8) (Xq (Yb (Yb (vo 8) Zh) (Xq (vo 0) (Y1 (vo 3) Zh))) (vo 3))))) Y0))))
  (Zg (Yg 0 sc_l_read_web.nd (VE.pure (Xo (vo 0) (Y1 (vo 3) Zh)))))))))
  (YY (Uj (["_law_house"]:List bH) (["_law_many"]:List bH) [3] (i:=9) sc_l_read_web.nd rfl rfl rfl (GS B.range (vo 3)) (by kernel_rfl) (λ_ _ _ _ _=>(Sy 0)) (λ_ _ _ _ _=>Yq) (λ_ _ _ _ _=>(Gv (OT (Y4 Zh)) (vo 1))))
  (D8 (O':=[9]) (VSs.r (Zd (MJ (Yp (vo 5)) (YI (n:=2) rfl (Zv (Sm 8 sc_l_read_web.nd) (Zv (Sm 10 sc_l_read_web.nd) Yh))) (Zd (Yg 11 sc_l_read_web.nd (VE.pure (Yb (Zj (Zj (vo 9) (Zj (vo 4) (vo 8))) (Zj (vo 4) (vo 10))) Zh)))
  (Zd (TU (UW (vo 11) (Sz (J1 ix_list (pv 9) (Zj (vo 4) (vo 8)) (λ_ _=>rfl)) (Zj (vo 4) (vo 10)) WQ)))
  (Zg (TU (UW (vo 11) (Sz (J1 ix_list (pv 9) (Zj (vo 4) (vo 10)) (λ_ _=>rfl)) (Zj (vo 4) (vo 8)) WQ)))))))
  (Zg (Zz (VE.pure (ZK Zu ZW rfl B.tuple (by decide +kernel) (Y4 (CB "_law_row" [] [] (Yp (vo 9)) (ZK Zu ZW rfl B.tuple (by decide +kernel) (Y4 (vo 0)))))))))))))))))))))))
abbrev GZ:cB:=XU 56
theorem Ze9:Zq ["_law_script","_law_k"] ["_law_script","_law_k"] (Zf GZ):=Wn
theorem Zfa(a:Def K mg "_law_at" GZ)(B:XQ mg):K3 P w K mg base:=
 K2 [] a Ze9 λb=>
  (Zg (Zz (VE.pure (Sw (ON (vo 1) (Ua B.len (vo 0))) (Zj (vo 0) (vo 1)) Zh))))
abbrev K8:cB:=XU 59
theorem sc_p_web:Zq ["_law_script","_law_sizes","_law_most","_law_many","_law_rows","_law_ties_here","_law_k","_law_cell","_law_one_here","_law_other","_law_more","_law_by"] ["_law_script","_law_sizes","_law_most"] (Zf K8):=Wn
theorem Zaq(e:Def K mg "_law_web" K8)(B:XQ mg)(b:K3 P w K mg base)(c:Uy P w K mg base)(a:Th P w K mg base):K4 P w K mg base:=
 LV [4] e sc_p_web λd=>
  (Zd (Xu (Rv d.units (Xq (V9 b d (Wl (vo 0) Zh)) Zh) Zh) (Zg (Zz (Vd c d (Ux (V9 b d (Wl (vo 0) Zh)) (vo 1) (vo 2))))) Yi)
  (Zd (Yg 3 sc_p_web.nd (VE.pure (Zj (vo 1) (V9 a d (Ux (V9 b d (Wl (vo 0) Zh)) Zh (Ua B.len (vo 1)))))))
  (Zd (Uj (["_law_house"]:List bH) (["_law_many"]:List bH) [3] (i:=4) sc_p_web.nd rfl rfl rfl (GS B.range (vo 3)) (by kernel_rfl) (λ_ _ _ _ _=>(Sy 0)) (λ_ _ _ _ _=>Yq) (λ_ _ _ _ _=>(Gv (OT (Y4 Zh)) (vo 1))))
  (Zd (Yg 5 sc_p_web.nd (VE.pure Zh))
  (Zd (MJ (vr2 B.range Zh Zh) (Sm 6 sc_p_web.nd) (Zd (Yg 7 sc_p_web.nd (Vd b d (Wl (vo 0) (vo 6))))
  (Zd (Yg 8 sc_p_web.nd (Vd a d (Ux (vo 7) Zh (vo 3))))
  (Zd (Yg 9 sc_p_web.nd (VE.pure (Xq (Yb (Yb (vo 8) Zh) (V9 a d (Ux (vo 7) Zh (vb (DF rfl) Zd6 B.max (Wl Zh (Y1 (vo 3) Zh)))))) (vo 3))))
  (Zd (Xu (ON (vo 6) (vo 3)) (Zd (Yg 8 sc_p_web.nd (VE.pure (vo 6)))
  (Zg (Yg 9 sc_p_web.nd (Vd a d (Ux (vo 7) Zh (vo 6)))))) Yi)
  (Zd (Yg 10 sc_p_web.nd (VE.pure (OQ (Aa (vo 3) Zh) (OQ (Zg5 (vo 5) (vo 2)) (Ks (Aa (V9 a d (Ux (vo 7) Zh Zh)) Zh))))))
  (Zg (Xu (VW.vt (Rh (ON (vo 6) (vo 3)) (U1 (U0 (vo 10))))) (Zd (TU (UW (Yb (Zj (Zj (vo 4) (vo 8)) (vo 9)) Zh) (Sz (J1 ix_list (pv 4) (vo 8) (λ_ _=>rfl)) (vo 9) WQ)))
  (Zd (TU (UW (Zj (Zj (vo 4) (vo 8)) (vo 9)) (Sz (J1 ix_list (pv 4) (vo 9) (λ_ _=>rfl)) (vo 8) WQ)))
  (Zg (Yg 5 sc_p_web.nd (VE.pure (Yb (vo 5) Zh)))))) Yi))))))))
  (Zd (Yg 11 sc_p_web.nd (Vd a d (Ux (V9 b d (Wl (vo 0) Zh)) Zh (vo 3))))
  (Zd (Uj (["_law_row"]:List bH) (["_law_by"]:List bH) [11] (i:=4) sc_p_web.nd rfl rfl rfl (Yp (Zeq (WL (vo 4) (Wg (vo 11)) Vi) (WL (vo 4) Vi (Wg (vo 11))))) (by kernel_rfl) (λ_ _ _ _ _=>(Sy 0)) (λ_ _ _ _ _=>Yq) (λ_ _ _ _ _=>(KC (WL (vo 0) (Wg (vo 1)) Vi) (WL (vo 0) Vi (Wg (vo 1))))))
  (Zg (Zz (VE.pure (ZK Zu ZW rfl B.tuple (by decide +kernel) (Y4 (CB "_law_row" [] [] (Yp (vo 4)) (ZK Zu ZW rfl B.tuple (by decide +kernel) (Y4 (vo 0))))))))))))))))
abbrev NV:cB:=XU 64
theorem sc_l_ties:Zq ["_law_web_here","_law_found","_law_one_here","_law_other"] ["_law_web_here"] (Zf NV):=Wn
theorem CD(a:Def K mg "_law_ties" NV)(B:XQ mg):NK P w K mg base:=
 dk1 [1] a sc_l_ties λb=>
  (Zd (Yg 1 sc_l_ties.nd (XA YS))
  (Zd (MJ (GS B.range (Ua B.len (vo 0))) (Sm 2 sc_l_ties.nd) (Zg (MJ (vr2 B.range (Yb (vo 2) Zh) (Ua B.len (vo 0))) (Sm 3 sc_l_ties.nd) (Zg (Ly (Y3 (WR bT kG kH Ld (pv 1) (Z2 (TM (["_law_nth"]:List bH) (["_law_one_here","_law_other"]:List bH) [2,3] rfl (GS B.range (Zj (Zj (vo 0) (vo 2)) (vo 3))) (by kernel_rfl) (λ_ _ _ _ _=>(Sy 0)) (λ_ _ _ _ _=>Yq) (λ_ _ _ _ _=>(VE.pure (X2 (Wl (vo 1) (vo 2)))))) Y0))))))))
  (Zg (TN (pv 1)))))
abbrev NW:cB:=XU 65
theorem sc_l_tree:Zq ["_law_web_here","_law_cell","_law_ties_here","_law_marks","_law_found","_law_left","_law_number","_law_k","_law_at_here","_law_one_here","_law_other","_law_gone"] ["_law_web_here","_law_cell"] (Zf NW):=Wn
theorem CF(d:Def K mg "_law_tree" NW)(B:XQ mg)(a:NK P w K mg base)(b:Th P w K mg base):NL P w K mg base:=
 K2 [4,5] d sc_l_tree λc=>
  (Zd (Yg 2 sc_l_tree.nd (Vd a c (Y4 (vo 0))))
  (Zd (Yg 3 sc_l_tree.nd (Ur rfl rfl B.list rfl B.range (Ua B.len (vo 0))))
  (Zd (Yg 4 sc_l_tree.nd (XA YS))
  (Zd (Yg 5 sc_l_tree.nd (Ur rfl rfl B.list rfl B.range (Ua B.len (vo 2))))
  (Zd (Yg 6 sc_l_tree.nd (VE.pure (Xo (vo 1) Zh)))
  (Zd (MJ (GS B.range (Ua B.len (vo 2))) (Sm 7 sc_l_tree.nd) (Zd (Yg 8 sc_l_tree.nd (Vd b c (Ux (Yb (vo 1) (SE (SE Zh (vo 7)) (vo 7))) (Yb Zh (vo 7)) (Ua B.len (vo 5)))))
  (Zd (Xu (Rv c.units (Xq (vo 1) Zh) Zh) (Zd (Yg 8 sc_l_tree.nd (VE.pure (Xq (vo 6) (Ua B.len (vo 5)))))
  (Zg (Yg 6 sc_l_tree.nd (VE.pure (Xo (vo 6) (Ua B.len (vo 5))))))) Yi)
  (Zd (Zje (BF (i:=8) sc_l_tree.nd rfl (j5 rfl) (WR bT PySem.F.slot_list_pop PySem.F.type_list_pop BS (pv 5) (Z2 (vo 8) Y0))))
  (Zd (Zeb (T:=(.many [9,10])) (UW (Zj (vo 2) (vo 8)) (YI (n:=2) rfl (Zv (Sm 9 sc_l_tree.nd) (Zv (Sm 10 sc_l_tree.nd) Yh)))))
  (Zg (Xu (VN c.units (Zj (vo 3) (vo 9)) (Zj (vo 3) (vo 10))) (Zd (Yg 11 sc_l_tree.nd (VE.pure (Zj (vo 3) (vo 9))))
  (Zd (Yg 3 sc_l_tree.nd (TM (["_law_mark"]:List bH) (["_law_gone","_law_marks","_law_other"]:List bH) [11,3,10] rfl (Yp (vo 3)) (by kernel_rfl) (λ_ _ _ _ _=>(Sy 0)) (λ_ _ _ _ _=>Yq) (λ_ _ _ _ _=>(VE.pure (Sw (Rv c.units (vo 0) (vo 1)) (Zj (vo 2) (vo 3)) (vo 0))))))
  (Zg (Xc (Y3 (WR bT cE cF Xa (pv 4) (Z2 (VE.pure (vo 8)) Y0))))))) Yi)))))))
  (Zg (Zz (VE.pure (ZK Zu ZW rfl B.tuple (by decide +kernel) (Y4 (VM.ve (vmb RI Nj B.sorted (Y4 (vo 4)))))))))))))))
abbrev QH:cB:=XU 13
theorem sc_ties_of:Zq ["web","ties","a","row","b"] ["web"] (Zf QH):=Wn
theorem G0(a:Def K mg "ties_of" QH)(B:XQ mg):WN P w K mg base:=
 dk1 [1] a sc_ties_of λb=>
  (Zd (Yg 1 sc_ties_of.nd (XA YS))
  (Zd (MJ (XB aB rfl B.enumerate (Y4 (vo 0))) (YI (n:=2) rfl (Zv (Sm 2 sc_ties_of.nd) (Zv (Sm 3 sc_ties_of.nd) Yh))) (Zg (MJ (vr2 B.range (Yb (vo 2) Zh) (Ua B.len (vo 0))) (Sm 4 sc_ties_of.nd) (Zg (Ly (Y3 (WR bT kG kH Ld (pv 1) (Z2 (TM (["nth"]:List bH) (["a","b"]:List bH) [2,4] rfl (GS B.range (Zj (vo 3) (vo 4))) (by kernel_rfl) (λ_ _ _ _ _=>(Sy 0)) (λ_ _ _ _ _=>Yq) (λ_ _ _ _ _=>(VE.pure (X2 (Ux (vo 1) (vo 2) (vo 0)))))) Y0))))))))
  (Zg (TN (pv 1)))))
abbrev X8:cB:=XU 41
theorem sc_tie_to_look_at:Zq ["ties","looked","fire","tie","ends"] ["ties","looked","fire"] (Zf X8):=Wn
theorem RQ(b:Def K mg "tie_to_look_at" X8)(B:XQ mg):X6 P w K mg base:=
 LV [] b sc_tie_to_look_at λa=>
  (Zd (MJ (XB aC rfl B.enumerate (Y4 (vo 0))) (YI (n:=2) rfl (Zv (Sm 3 sc_tie_to_look_at.nd) (Zv (Sm 4 sc_tie_to_look_at.nd) Yh))) (Zg (Xu (VW.vt (Kq (O8 a.units (vo 3) (vo 1)) (P8 (VN a.units (Au a.units (Zj (vo 4) Zh) (vo 2)) (Au a.units (Zj (vo 4) Zh) (vo 2)))))) (Zg (Zz (VE.pure (vo 3)))) Yi)))
  (Zg (Zz (VE.pure UZ))))
abbrev NX:cB:=XU 40
theorem sc_walked:Zq ["web","base","burns","ties","fire","looked","burning","tie","house","seen"] ["web","base","burns"] (Zf NX):=Wn
theorem CG(d:Def K mg "walked" NX)(B:XQ mg)(b:WN P w K mg base)(a:X6 P w K mg base):RP P w K mg base:=
 LV [4,5,6] d sc_walked λc=>
  (Zd (Yg 3 sc_walked.nd (Vd b c (Y4 (vo 0))))
  (Zd (Yg 4 sc_walked.nd (XA (Wj (VE.pure (vo 1)) YS)))
  (Zd (Yg 5 sc_walked.nd (XA YS))
  (Zd (Yg 6 sc_walked.nd (XA YS))
  (Zd (Yg 7 sc_walked.nd (Vd a c (Ux (vo 3) (vo 5) (vo 4))))
  (Zd (VH eZ (P9 (vo 7)) (Zd (Xc (Y3 (WR bT cE cF Xa (pv 5) (Z2 (VE.pure (vo 7)) Y0))))
  (Zd (Yg 8 sc_walked.nd (VE.pure (Sw (Av c.units (Zj (Zj (vo 3) (vo 7)) Zh) (vo 4)) (Zj (Zj (vo 3) (vo 7)) Zh) (Zj (Zj (vo 3) (vo 7)) Zh))))
  (Zd (Yg 9 sc_walked.nd (VE.pure (Ua B.len (vcq "other" ["house","ties"] [8,3] (Yp (vo 5)) (Rt (Av c.units (vo 1) (Ql (Zj (vo 2) (vo 0)) Vi (Wg Zh)))) (vo 0)))))
  (Zd (Xu (Ae (VM.ve (Zjg 2 rfl (j5 rfl) (Ze8 B) (c.mono (by decide)) (Ux (vo 7) (vo 8) (vo 9))))) (Zd (Xc (Y3 (WR bT cE cF Xa (pv 4) (Z2 (VE.pure (vo 8)) Y0))))
  (Zg (Xc (Y3 (WR bT cE cF Xa (pv 6) (Z2 (VE.pure (X2 (Ux (vo 7) (vo 8) (vo 9)))) Y0)))))) Yi)
  (Zg (Yg 7 sc_walked.nd (Vd a c (Ux (vo 3) (vo 5) (vo 4))))))))))
  (Zg (TN (pv 6)))))))))
abbrev SW:cB:=XU 43
theorem sc_still_by:Zq ["web","base","tree","coins","burning","number","end","looked_at"] ["web","base","tree"] (Zf SW):=Wn
theorem IP(b:Def K mg "still_by" SW)(B:XQ mg)(a:RP P w K mg base):SR P w K mg base:=
 LV [3] b sc_still_by λc=>
  (Zd (Yg 3 sc_still_by.nd (Gv (OT (Y4 Zh)) (Ua B.len (vo 0))))
  (Zd (Yg 4 sc_still_by.nd (NF (q:="still_by") (L:=Yn) (i:=2) rfl rfl rfl a (c.mono (by decide)) rfl rfl rfl rfl (vo 0) (vo 1) (jN _) rfl (by decide) rfl rfl ⟨_,rfl,rfl⟩ rfl rfl rfl rfl))
  (Zd (MJ (Yp (vo 4)) (YI (n:=3) rfl (Zv (Sm 5 sc_still_by.nd) (Zv (Sm 6 sc_still_by.nd) (Zv (Sm 7 sc_still_by.nd) Yh)))) (Zg (O5 (UW (Y1 (vo 7) Zh) (Sz (pv 3) (vo 6) WQ)))))
  (Zg (Zz (VE.pure (ZK Zu ZW rfl B.tuple (by decide +kernel) (Y4 (vo 3)))))))))
abbrev Tn:cB:=XU 35
theorem sc_pieces_of:Zq ["web","ties","grove","pieces","tie","ends","kept","gone"] ["web","ties","grove"] (Zf Tn):=Wn
theorem K9(a:Def K mg "pieces_of" Tn)(B:XQ mg):Ti P w K mg base:=
 LV [3] a sc_pieces_of λb=>
  (Zd (Yg 3 sc_pieces_of.nd (Ur rfl rfl B.list rfl B.range (Ua B.len (vo 0))))
  (Zd (MJ (Qi (vo 2)) (Sm 4 sc_pieces_of.nd) (Zd (Yg 5 sc_pieces_of.nd (VE.pure (Zj (vo 1) (vo 4))))
  (Zd (Yg 6 sc_pieces_of.nd (VE.pure (Zj (vo 3) (Zj (vo 5) Zh))))
  (Zd (Yg 7 sc_pieces_of.nd (VE.pure (Zj (vo 3) (Zj (vo 5) Zh))))
  (Zg (Uj (["piece"]:List bH) (["kept","gone"]:List bH) [6,7] (i:=3) sc_pieces_of.nd rfl rfl rfl (Yp (vo 3)) (by kernel_rfl) (λ_ _ _ _ _=>(Sy 0)) (λ_ _ _ _ _=>Yq) (λ_ _ _ _ _=>(VE.pure (Sw (Rv b.units (vo 0) (vo 2)) (vo 1) (vo 0))))))))))
  (Zg (TN (pv 3)))))
abbrev QI:cB:=XU 36
theorem sc_is_tree:Zq ["web","numbers","ties"] ["web","numbers"] (Zf QI):=Wn
theorem G1(d:Def K mg "is_tree" QI)(B:XQ mg)(b:WN P w K mg base)(a:Ti P w K mg base):QA P w K mg base:=
 K2 [] d sc_is_tree λc=>
  (Zd (Yg 2 sc_is_tree.nd (Vd b c (Y4 (vo 0))))
  (Zd (Xu (VW.vt (Rh (VN c.units (Ua B.len (vo 1)) (Y1 (Ua B.len (vo 0)) Zh)) (U1 (SG (U0 (vb (Lo rfl) Ak B.all (Y4 (CB "number" ["ties"] [2] (Qi (vo 1)) (Ay Zk2 BJ (Gg _) (Gg _) Zh (vo 0) (Ua B.len (vo 1))))))))))) (Zg (Zz (VE.pure Ei))) Yi)
  (Zg (Zz (VE.pure (OQ (Im c.units (VM.ve (Qh Uc OU rfl B.list (by decide +kernel) (Y4 (vo 1)))) (VM.ve (VW.vm_sortedSetN rfl rfl B.sorted rfl B.set (vo 1)))) (Ks (Im c.units (VM.ve (VW.ve_lenSet rfl rfl B.len rfl B.set (V9 a c (Ux (vo 0) (vo 2) (vo 1))))) Zh))))))))
abbrev SX:cB:=XU 42
theorem IQ:Zq ["web","base","tree"] ["web","base","tree"] (Zf SX):=Wn
theorem IS(d:Def K mg "still_of" SX)(B:XQ mg)(b:QA P w K mg base)(a:SR P w K mg base):SS P w K mg base:=
 LV [] d IQ λc=>
  (Zd (Xu (SG (U0 (V9 b c (Wl (vo 0) (vo 2))))) (Zg (Nk (W:=[]))) Yi)
  (Zg (Zz (Vd a c (Ux (vo 0) (vo 1) (vo 2))))))
abbrev Ja:cB:=XU 16
theorem Zar:Zq ["purse"] ["purse"] (Zf Ja):=Wn
theorem Zas(a:Def K mg "total" Ja)(B:XQ mg):K5 P w K mg base:=
 dk1 [] a Zar λb=>
  (Zg (Zz (VE.pure (vb (X0 rfl) SH B.sum (Y4 (vo 0))))))
abbrev Jb:cB:=XU 14
theorem Zat:Zq ["web"] ["web"] (Zf Jb):=Wn
theorem Zau(b:Def K mg "loops" Jb)(B:XQ mg)(a:WN P w K mg base):K6 P w K mg base:=
 dk1 [] b Zat λc=>
  (Zg (Zz (VE.pure (Yb (Y1 (Ua B.len (V9 a c (Y4 (vo 0)))) (Ua B.len (vo 0))) Zh))))
abbrev W3:cB:=XU 46
theorem PR:Zq ["web","purse"] ["web","purse"] (Zf W3):=Wn
theorem PU(d:Def K mg "refuse_total" W3)(B:XQ mg)(a:K5 P w K mg base)(b:K6 P w K mg base):WZ P w K mg base:=
 K2 [] d PR λc=>
  (Zg (Xu (VN c.units (V9 a c (Y4 (vo 1))) (V9 b c (Y4 (vo 0)))) (Zg (Nk (W:=[]))) Yi))
abbrev QJ:cB:=XU 26
theorem G3:Zq ["row","by","place","divisor"] ["row","by","place","divisor"] (Zf QJ):=Wn
theorem G4(a:Def K mg "reduced" QJ)(B:XQ mg):QB P w K mg base:=
 dk4 [] a G3 λb=>
  (Zg (Zz (VE.pure (ZK Zu ZW rfl B.tuple (by decide +kernel) (Y4 (Wf (["number","other"]:List bH) (["divisor","by","place","row"]:List bH) [3,1,2,0] rfl (Ky aB aB rfl B.zip (Wl (vo 0) (vo 1))) (by kernel_rfl) (λ_ _ _ _ _=>(YI (n:=2) rfl (Zv (Sy 0) (Zv (Sy 1) Yh)))) (λ_ _ _ _ _=>Yq) (λ_ _ _ _ _=>(Iv (Y1 (EM (Zj (vo 3) (vo 4)) (vo 0)) (EM (Zj (vo 5) (vo 4)) (vo 1))) (vo 2)))))))))
abbrev NY:cB:=XU 25
theorem sc_evened:Zq ["rows","left","divisor","place","by"] ["rows"] (Zf NY):=Wn
theorem CH(c:Def K mg "evened" NY)(B:XQ mg)(a:QB P w K mg base):NM P w K mg base:=
 dk1 [1] c sc_evened λb=>
  (Zd (Yg 1 sc_evened.nd (Qh Uc OU rfl B.list (by decide +kernel) (Y4 (vo 0))))
  (Zd (Yg 2 sc_evened.nd (VE.pure Zh))
  (Zd (MJ (GS B.range (Ua B.len (vo 0))) (Sm 3 sc_evened.nd) (Zd (Yg 4 sc_evened.nd (VE.pure (Zj (vo 1) (vo 3))))
  (Zd (Uj (["at","row"]:List bH) (["place","by","divisor"]:List bH) [3,4,2] (i:=1) sc_evened.nd rfl rfl rfl (XB aC rfl B.enumerate (Y4 (vo 1))) (by kernel_rfl) (λ_ _ _ _ _=>(YI (n:=2) rfl (Zv (Sy 0) (Zv (Sy 1) Yh)))) (λ_ _ _ _ _=>Yq) (λ_ _ _ _ _=>(VE.pure (Sw (Rv b.units (vo 0) (vo 2)) (vo 1) (V9 a b (va4 (vo 1) (vo 3) (vo 2) (vo 4)))))))
  (Zg (Yg 2 sc_evened.nd (VE.pure (Zj (vo 4) (vo 3))))))))
  (Zg (A1 (H9 (Z2 (vo 2) (Z2 (pv 1) Y0))))))))
abbrev W4:cB:=XU 24
theorem sc_solved_below:Zq ["square","column","told"] ["square","column"] (Zf W4):=Wn
theorem PX(c:Def K mg "solved_below" W4)(B:XQ mg)(a:NM P w K mg base):W0 P w K mg base:=
 K2 [] c sc_solved_below λb=>
  (Zd (Yg 2 sc_solved_below.nd (Vd a b (Y4 (Wf (["row","number"]:List bH) ([]:List bH) [] rfl (Ky aB aB rfl B.zip (Wl (vo 0) (vo 1))) (by kernel_rfl) (λ_ _ _ _ _=>(YI (n:=2) rfl (Zv (Sy 0) (Zv (Sy 1) Yh)))) (λ_ _ _ _ _=>Yq) (λ_ _ _ _ _=>(UK KH KI (vo 0) (X2 (Y4 (vo 1)))))))))
  (Zg (Zz (TM (["row"]:List bH) (["told"]:List bH) [2] rfl (Yp (Zj (vo 2) Zh)) (by kernel_rfl) (λ_ _ _ _ _=>(Sy 0)) (λ_ _ _ _ _=>Yq) (λ_ _ _ _ _=>(VE.pure (Iv (Zj (vo 0) (Ku Zh)) (Zj (vo 1) Zh))))))))
abbrev QK:cB:=XU 12
theorem G5:Zq ["web","house"] ["web","house"] (Zf QK):=Wn
theorem G6(a:Def K mg "ties_at" QK)(B:XQ mg):T8 P w K mg base:=
 K2 [] a G5 λb=>
  (Zg (Zz (VE.pure (vb (X0 rfl) SH B.sum (Y4 (Zj (vo 0) (vo 1)))))))
abbrev NZ:cB:=XU 29
theorem CI:Zq ["web","house","others"] ["web","house","others"] (Zf NZ):=Wn
theorem CJ(c:Def K mg "row_of" NZ)(B:XQ mg)(a:T8 P w K mg base):NN P w K mg base:=
 LV [] c CI λb=>
  (Zg (Zz (VE.pure (ZK Zu ZW rfl B.tuple (by decide +kernel) (Y4 (CB "other" ["house","web"] [1,0] (Yp (vo 2)) (Sw (Rv b.units (vo 0) (vo 1)) (V9 a b (Wl (vo 2) (vo 1))) (Ku (Zj (Zj (vo 2) (vo 1)) (vo 0))))))))))
abbrev X9:cB:=XU 28
theorem sc_square_without:Zq ["web","base","others"] ["web","base"] (Zf X9):=Wn
theorem RS(c:Def K mg "square_without" X9)(B:XQ mg)(a:NN P w K mg base):X7 P w K mg base:=
 K2 [] c sc_square_without λb=>
  (Zd (Yg 2 sc_square_without.nd (TM (["house"]:List bH) (["base"]:List bH) [1] rfl (GS B.range (Ua B.len (vo 0))) (by kernel_rfl) (λ_ _ _ _ _=>(Sy 0)) (λ_ _ _ _ _=>(Rt (VN b.units (vo 0) (vo 1)))) (λ_ _ _ _ _=>(VE.pure (vo 0)))))
  (Zg (Zz (VE.pure (ZK Zu ZW rfl B.tuple (by decide +kernel) (Y4 (CB "house" ["web","others"] [0,2] (Yp (vo 2)) (V9 a b (Ux (vo 1) (vo 0) (vo 2))))))))))
abbrev QL:cB:=XU 32
theorem sc_nearing:Zq ["web","purse","base","column","script"] ["web","purse","base"] (Zf QL):=Wn
theorem G7(d:Def K mg "nearing" QL)(B:XQ mg)(b:W0 P w K mg base)(a:X7 P w K mg base):T9 P w K mg base:=
 LV [4] d sc_nearing λc=>
  (Zd (Yg 3 sc_nearing.nd (VE.pure (UK KH KI (Ql (vo 1) Vi (Wg (vo 2))) (Ql (vo 1) (Wg (Yb (vo 2) Zh)) Vi))))
  (Zd (Yg 4 sc_nearing.nd (Vd b c (Wl (V9 a c (Wl (vo 0) (vo 2))) (vo 3))))
  (Zd (Lz (Y3 (WR bT kE kF Lp (pv 4) (Z2 (vo 2) (Z2 Zh Y0)))))
  (Zg (Zz (VE.pure (ZK Zu ZW rfl B.tuple (by decide +kernel) (Y4 (vo 4)))))))))
abbrev G8:cB:=XU 19
theorem Zfb:Zq ["web","script","house"] ["web","script","house"] (Zf G8):=Wn
theorem Zfc(a:Def K mg "gain" G8)(B:XQ mg):GU P w K mg base:=
 LV [] a Zfb λb=>
  (Zg (Zz (VE.pure (vb (X0 rfl) SH B.sum (Y4 (Wf (["other","times"]:List bH) (["script","house"]:List bH) [1,2] rfl (XB aB rfl B.enumerate (Y4 (Zj (vo 0) (vo 2)))) (by kernel_rfl) (λ_ _ _ _ _=>(YI (n:=2) rfl (Zv (Sy 0) (Zv (Sy 1) Yh)))) (λ_ _ _ _ _=>Yq) (λ_ _ _ _ _=>(SE (vo 1) (Y1 (Zj (vo 2) (vo 0)) (Zj (vo 2) (vo 3)))))))))))
abbrev Zav:cB:=XU 18
theorem Zjj:Zq ["web","purse","script"] ["web","purse","script"] (Zf Zav):=Wn
theorem Zjk(c:Def K mg "run" Zav)(B:XQ mg)(a:GU P w K mg base):EV P w K mg base:=
 LV [] c Zjj λb=>
  (Zg (Zz (VE.pure (ZK Zu ZW rfl B.tuple (by decide +kernel) (Y4 (Wf (["house","coins"]:List bH) (["web","script"]:List bH) [0,2] rfl (XB aB rfl B.enumerate (Y4 (vo 1))) (by kernel_rfl) (λ_ _ _ _ _=>(YI (n:=2) rfl (Zv (Sy 0) (Zv (Sy 1) Yh)))) (λ_ _ _ _ _=>Yq) (λ_ _ _ _ _=>(Yb (vo 1) (V9 a b (Ux (vo 2) (vo 3) (vo 0)))))))))))
abbrev QM:cB:=XU 8
theorem G9:Zq ["web","house","others"] ["web","house","others"] (Zf QM):=Wn
theorem Fb(a:Def K mg "ties_to" QM)(B:XQ mg):Sa P w K mg base:=
 LV [] a G9 λb=>
  (Zg (Zz (VE.pure (vb (X0 rfl) SH B.sum (Y4 (CB "other" ["web","house"] [0,1] (Zl2 (vo 2)) (Zj (Zj (vo 1) (vo 2)) (vo 0))))))))
abbrev Ws:cB:=XU 47
theorem sc_lacking_among:Zq ["web","purse","groups","house","coins","lacks"] ["web","purse"] (Zf Ws):=Wn
theorem QN(c:Def K mg "lacking_among" Ws)(B:XQ mg)(a:Sa P w K mg base):Wq P w K mg base:=
 K2 [] c sc_lacking_among λb=>
  (Zd (Yg 2 sc_lacking_among.nd (XA (Wj (VE.pure (X2 (Wl (X2 Qg) (Ku Zh)))) YS)))
  (Zd (MJ (XB aB rfl B.enumerate (Y4 (vo 1))) (YI (n:=2) rfl (Zv (Sm 3 sc_lacking_among.nd) (Zv (Sm 4 sc_lacking_among.nd) Yh))) (Zg (Yg 2 sc_lacking_among.nd (KC (vo 2) (Wf (["group","over"]:List bH) (["house","web","coins"]:List bH) [3,0,4] rfl (Yp (vo 2)) (by kernel_rfl) (λ_ _ _ _ _=>(YI (n:=2) rfl (Zv (Sy 0) (Zv (Sy 1) Yh)))) (λ_ _ _ _ _=>Yq) (λ_ _ _ _ _=>(X2 (Wl (UK KH KI (vo 0) (X2 (Y4 (vo 2)))) (Y1 (Yb (Yb (vo 1) (vo 4)) Zh) (V9 a b (Ux (vo 3) (vo 2) (vo 0))))))))))))
  (Zd (Uj (["group","over"]:List bH) ([]:List bH) [] (i:=5) sc_lacking_among.nd rfl rfl rfl (Yp (WL (vo 2) (Wg Zh) Vi)) (by kernel_rfl) (λ_ _ _ _ _=>(YI (n:=2) rfl (Zv (Sy 0) (Zv (Sy 1) Yh)))) (λ_ _ _ _ _=>(Rt (ON (vo 1) Zh))) (λ_ _ _ _ _=>(VE.pure (vo 0))))
  (Zg (Zz (VE.pure (Sw (Ad (Ua B.len (vo 5)) Zh) (Zj (vo 5) Zh) UZ)))))))
abbrev Jc:cB:=XU 22
theorem Zaw:Zq ["one","other"] ["one","other"] (Zf Jc):=Wn
theorem Zax(a:Def K mg "minus" Jc)(B:XQ mg):Og P w K mg base:=
 K2 [] a Zaw λb=>
  (Zg (Zz (VE.pure (ZK Zu ZW rfl B.tuple (by decide +kernel) (Y4 (Wf (["first","second"]:List bH) ([]:List bH) [] rfl (Ky aB aB rfl B.zip (Wl (vo 0) (vo 1))) (by kernel_rfl) (λ_ _ _ _ _=>(YI (n:=2) rfl (Zv (Sy 0) (Zv (Sy 1) Yh)))) (λ_ _ _ _ _=>Yq) (λ_ _ _ _ _=>(Y1 (vo 0) (vo 1)))))))))
abbrev SY:cB:=XU 52
theorem sc_overfull:Zq ["heads","wanted","house","many"] ["heads","wanted"] (Zf SY):=Wn
theorem IT(a:Def K mg "overfull" SY)(B:XQ mg):SU P w K mg base:=
 K2 [] a sc_overfull λb=>
  (Zd (MJ (XB aB rfl B.enumerate (Y4 (vo 1))) (YI (n:=2) rfl (Zv (Sm 2 sc_overfull.nd) (Zv (Sm 3 sc_overfull.nd) Yh))) (Zg (Xu (Ad (LQ (vo 0) (vo 2)) (vo 3)) (Zg (Zz (VE.pure (vo 2)))) Yi)))
  (Zg (Zz (VE.pure UZ))))
abbrev To:cB:=XU 54
theorem Jd:Zq ["tie","end"] ["tie","end"] (Zf To):=Wn
theorem Je(a:Def K mg "other_end" To)(B:XQ mg):Vo P w K mg base:=
 K2 [] a Jd λb=>
  (Zg (Zz (VE.pure (Sw (Rv b.units (vo 1) (Zj (vo 0) Zh)) (Zj (vo 0) Zh) (Zj (vo 0) Zh)))))
abbrev QO:cB:=XU 53
theorem sc_way_out:Zq ["ties","heads","wanted","house","ways","found","looked","here","tie","head","there"] ["ties","heads","wanted","house"] (Zf QO):=Wn
theorem Fc(c:Def K mg "way_out" QO)(B:XQ mg)(a:Vo P w K mg base):QC P w K mg base:=
 dk4 [4,5] c sc_way_out λb=>
  (Zd (Yg 4 sc_way_out.nd (Zag (vo 3) (GJ (XA YS))))
  (Zd (Yg 5 sc_way_out.nd (XA (Wj (VE.pure (vo 3)) YS)))
  (Zd (Yg 6 sc_way_out.nd (VE.pure Zh))
  (Zd (VH eZ (Zls (LQ (vo 1) (Zj (vo 5) (vo 6))) (Zj (vo 2) (Zj (vo 5) (vo 6)))) (Zd (Yg 7 sc_way_out.nd (VE.pure (Zj (vo 5) (vo 6))))
  (Zd (MJ (XB aC rfl B.enumerate (Y4 (vo 1))) (YI (n:=2) rfl (Zv (Sm 8 sc_way_out.nd) (Zv (Sm 9 sc_way_out.nd) Yh))) (Zd (Yg 10 sc_way_out.nd (Vd a b (Wl (Zj (vo 0) (vo 8)) (vo 9))))
  (Zg (Xu (VW.vt (Kq (Rv b.units (vo 9) (vo 7)) (P8 (D3 (Lk b) (vo 10) (vo 4))))) (Zd (EA (Ee (Lk b) (pv 4) (vo 10) (GJ (Ze1 (Ez (Lk b) (vo 4) (vo 7)) (XA (Wj (VE.pure (vo 8)) YS)))) rfl))
  (Zg (Xc (Y3 (WR bT cE cF Xa (pv 5) (Z2 (VE.pure (vo 10)) Y0)))))) Yi))))
  (Zg (Zea (Zh3 (i:=6) sc_way_out.nd rfl (j5 rfl) Zh Zh4))))))
  (Zg (Zz (VE.pure (Ez (Lk b) (vo 4) (Zj (vo 5) (vo 6))))))))))
abbrev Tp:cB:=XU 51
theorem sc_heads_for:Zq ["web","wanted","ties","heads","full","way","tie"] ["web","wanted"] (Zf Tp):=Wn
theorem Jf(f:Def K mg "heads_for" Tp)(B:XQ mg)(c:WN P w K mg base)(a:SU P w K mg base)(d:QC P w K mg base)(b:Vo P w K mg base):Tj P w K mg base:=
 K2 [3] f sc_heads_for λe=>
  (Zd (Yg 2 sc_heads_for.nd (Vd c e (Y4 (vo 0))))
  (Zd (Uj (["tie"]:List bH) ([]:List bH) [] (i:=3) sc_heads_for.nd rfl rfl rfl (Yp (vo 2)) (by kernel_rfl) (λ_ _ _ _ _=>(Sy 0)) (λ_ _ _ _ _=>Yq) (λ_ _ _ _ _=>(VE.pure (Zj (vo 0) Zh))))
  (Zd (Yg 4 sc_heads_for.nd (Vd a e (Wl (vo 3) (vo 1))))
  (Zd (VH eZ (P9 (vo 4)) (Zd (Yg 5 sc_heads_for.nd (Vd d e (va4 (vo 2) (vo 3) (vo 1) (vo 4))))
  (Zd (MJ (Yp (vo 5)) (Sm 6 sc_heads_for.nd) (Zg (O5 (UW (V9 b e (Wl (Zj (vo 2) (vo 6)) (Zj (vo 3) (vo 6)))) (Sz (pv 3) (vo 6) WQ)))))
  (Zg (Yg 4 sc_heads_for.nd (Vd a e (Wl (vo 3) (vo 1))))))))
  (Zg (TN (pv 3)))))))
abbrev QP:cB:=XU 39
theorem Fd:Zq ["web","base","burns"] ["web","base","burns"] (Zf QP):=Wn
theorem Fe(b:Def K mg "tree_by" QP)(B:XQ mg)(a:RP P w K mg base):Sb P w K mg base:=
 LV [] b Fd λc=>
  (Zg (Zz (VE.pure (ZK Zu ZW rfl B.tuple (by decide +kernel) (Y4 (VM.ve (vmb RI Nj B.sorted (Y4 (CB "burnt_by" [] [] (Yp (V9 a c (Ux (vo 0) (vo 1) (vo 2)))) (Zj (vo 0) Zh))))))))))
abbrev Ff:cB:=XU 21
theorem Zfd:Zq ["one","other"] ["one","other"] (Zf Ff):=Wn
theorem Zfe(a:Def K mg "plus" Ff)(B:XQ mg):NO P w K mg base:=
 K2 [] a Zfd λb=>
  (Zg (Zz (VE.pure (ZK Zu ZW rfl B.tuple (by decide +kernel) (Y4 (Wf (["first","second"]:List bH) ([]:List bH) [] rfl (Ky aB aB rfl B.zip (Wl (vo 0) (vo 1))) (by kernel_rfl) (λ_ _ _ _ _=>(YI (n:=2) rfl (Zv (Sy 0) (Zv (Sy 1) Yh)))) (λ_ _ _ _ _=>Yq) (λ_ _ _ _ _=>(Yb (vo 0) (vo 1)))))))))
abbrev N0:cB:=XU 17
theorem CK:Zq ["web","house"] ["web","house"] (Zf N0):=Wn
theorem CM(a:Def K mg "one_at" N0)(B:XQ mg):NP P w K mg base:=
 K2 [] a CK λb=>
  (Zg (Zz (VE.pure (ZK Zu ZW rfl B.tuple (by decide +kernel) (Y4 (CB "other" ["house"] [1] (GS B.range (Ua B.len (vo 0))) (Sw (Rv b.units (vo 0) (vo 1)) Zh Zh)))))))
abbrev QQ:cB:=XU 50
theorem sc_made_of:Zq ["web","purse","wanted","heads","tree"] ["web","purse"] (Zf QQ):=Wn
theorem Fg(h:Def K mg "made_of" QQ)(B:XQ mg)(c:Cst mg "BASE" 0)(e:Og P w K mg base)(d:NP P w K mg base)(f:NO P w K mg base)(a:Tj P w K mg base)(b:Sb P w K mg base):QD P w K mg base:=
 K2 [] h sc_made_of λg=>
  (Zd (Yg 2 sc_made_of.nd (Vd e g (Wl (V9 f g (Wl (vo 1) (UK Zej Zek (X2 (Y4 Zh)) (Ua B.len (vo 0))))) (V9 d g (Wl (vo 0) (Gy rfl c))))))
  (Zd (Yg 3 sc_made_of.nd (VE.pure (GJ (Vd a g (Wl (vo 0) (vo 2))))))
  (Zd (Yg 4 sc_made_of.nd (NF (q:="made_of") (L:=YN) (i:=3) rfl rfl rfl b (g.mono (by decide)) rfl rfl rfl rfl (vo 0) (Gy rfl c) (jN _) rfl (by decide) rfl rfl ⟨_,rfl,rfl⟩ rfl rfl rfl rfl))
  (Zg (Zz (VE.pure (X2 (Wl (vo 4) (ZK Zu ZW rfl B.tuple (by decide +kernel) (Y4 (Wf (["tie","head"]:List bH) (["tree"]:List bH) [4] rfl (XB aC rfl B.enumerate (Y4 (vo 3))) (by kernel_rfl) (λ_ _ _ _ _=>(YI (n:=2) rfl (Zv (Sy 0) (Zv (Sy 1) Yh)))) (λ_ _ _ _ _=>(Rt (O8 g.units (vo 0) (vo 2)))) (λ_ _ _ _ _=>(vo 1)))))))))))))
abbrev Tq:cB:=XU 33
theorem Jg:Zq ["web","houses"] ["web","houses"] (Zf Tq):=Wn
theorem Jh(a:Def K mg "borrowing" Tq)(B:XQ mg):Vp P w K mg base:=
 K2 [] a Jg λb=>
  (Zg (Zz (VE.pure (ZK Zu ZW rfl B.tuple (by decide +kernel) (Y4 (CB "house" ["houses"] [1] (GS B.range (Ua B.len (vo 0))) (Sw (Av b.units (vo 0) (vo 1)) (Ku Zh) Zh)))))))
abbrev Ji:cB:=XU 20
theorem sc_least:Zq ["script","lowest"] ["script"] (Zf Ji):=Wn
theorem Zay(a:Def K mg "least" Ji)(B:XQ mg):Oh P w K mg base:=
 dk1 [] a sc_least λb=>
  (Zd (Yg 1 sc_least.nd (VE.pure (vb (LJ rfl) EJ B.min (Y4 (vo 0)))))
  (Zg (Zz (VE.pure (ZK Zu ZW rfl B.tuple (by decide +kernel) (Y4 (CB "often" ["lowest"] [1] (Qi (vo 0)) (Y1 (vo 0) (vo 1)))))))))
abbrev N1:cB:=XU 49
theorem CN:Zq ["web"] ["web"] (Zf N1):=Wn
theorem CO(b:Def K mg "middle" N1)(B:XQ mg)(a:T8 P w K mg base):NQ P w K mg base:=
 dk1 [] b CN λc=>
  (Zg (Zz (VE.pure (ZK Zu ZW rfl B.tuple (by decide +kernel) (Y4 (CB "house" ["web"] [0] (GS B.range (Ua B.len (vo 0))) (Y1 (Xo (V9 a c (Wl (vo 1) (vo 0))) Zh) Zh)))))))
abbrev N2:cB:=XU 48
theorem sc_broken:Zq ["web","purse","script","near","houses","step","made"] ["web","purse"] (Zf N2):=Wn
theorem CP(m:Def K mg "broken" N2)(B:XQ mg)(l:Cst mg "BASE" 0)(b:WZ P w K mg base)(e:T9 P w K mg base)(h:Og P w K mg base)(f:NQ P w K mg base)(j:EV P w K mg base)(a:Wq P w K mg base)(c:Vp P w K mg base)(k:NO P w K mg base)(d:QD P w K mg base)(i:Oh P w K mg base):NR P w K mg base:=
 K2 [] m sc_broken λg=>
  (Zd (Zl1 (V9 b g (Wl (vo 0) (vo 1))))
  (Zd (Yg 2 sc_broken.nd (Vd e g (Ux (vo 0) (V9 h g (Wl (vo 1) (V9 f g (Y4 (vo 0))))) (Gy rfl l))))
  (Zd (Yg 3 sc_broken.nd (Vd j g (Ux (vo 0) (vo 1) (vo 2))))
  (Zd (Yg 4 sc_broken.nd (Vd a g (Wl (vo 0) (vo 3))))
  (Zd (VH eZ (P9 (vo 4)) (Zd (Yg 5 sc_broken.nd (Vd c g (Wl (vo 0) (vo 4))))
  (Zd (Yg 2 sc_broken.nd (Vd k g (Wl (vo 2) (vo 5))))
  (Zd (Yg 3 sc_broken.nd (Vd j g (Ux (vo 0) (vo 3) (vo 5))))
  (Zg (Yg 4 sc_broken.nd (Vd a g (Wl (vo 0) (vo 3)))))))))
  (Zd (Yg 6 sc_broken.nd (Vd d g (Wl (vo 0) (vo 3))))
  (Zg (Zz (VE.pure (X2 (va4 (V9 i g (Y4 (vo 2))) (vo 3) (Zj (vo 6) Zh) (Zj (vo 6) Zh))))))))))))
abbrev QR:cB:=XU 63
theorem Fh:Zq ["_law_web_here"] ["_law_web_here"] (Zf QR):=Wn
theorem Fi(a:Def K mg "_law_loops" QR)(B:XQ mg):QE P w K mg base:=
 dk1 [] a Fh λb=>
  (Zg (Zz (VE.pure (Yb (Y1 (Xo (vb (X0 rfl) SH B.sum (Y4 (CB "_law_row" [] [] (Qi (vo 0)) (vb (X0 rfl) SH B.sum (Y4 (vo 0)))))) Zh) (Ua B.len (vo 0))) Zh))))
abbrev QS:cB:=XU 10
theorem Fj:Zq ["purse","base"] ["purse","base"] (Zf QS):=Wn
theorem Fl(a:Def K mg "in_debt" QS)(B:XQ mg):Sd P w K mg base:=
 K2 [] a Fj λb=>
  (Zg (Zz (TM (["house","coins"]:List bH) (["base"]:List bH) [1] rfl (XB aB rfl B.enumerate (Y4 (vo 0))) (by kernel_rfl) (λ_ _ _ _ _=>(YI (n:=2) rfl (Zv (Sy 0) (Zv (Sy 1) Yh)))) (λ_ _ _ _ _=>(Rt (VW.vt (Kq (VN b.units (vo 0) (vo 2)) (P8 (ON (vo 1) Zh)))))) (λ_ _ _ _ _=>(VE.pure (vo 0))))))
abbrev Wu:cB:=XU 7
theorem sc_house_to_burn:Zq ["web","purse","fire","house","coins"] ["web","purse","fire"] (Zf Wu):=Wn
theorem QT(c:Def K mg "house_to_burn" Wu)(B:XQ mg)(a:Sa P w K mg base):Wr P w K mg base:=
 LV [] c sc_house_to_burn λb=>
  (Zd (MJ (XB aB rfl B.enumerate (Y4 (vo 1))) (YI (n:=2) rfl (Zv (Sm 3 sc_house_to_burn.nd) (Zv (Sm 4 sc_house_to_burn.nd) Yh))) (Zg (Xu (VW.vt (Kq (O8 b.units (vo 3) (vo 2)) (P8 (ON (vo 4) (V9 a b (Ux (vo 0) (vo 3) (vo 2))))))) (Zg (Zz (VE.pure (vo 3)))) Yi)))
  (Zg (Zz (VE.pure UZ))))
abbrev Jj:cB:=XU 6
theorem sc_burnt:Zq ["web","purse","base","fire","house"] ["web","purse","base"] (Zf Jj):=Wn
theorem Zaz(c:Def K mg "burnt" Jj)(B:XQ mg)(a:Wr P w K mg base):Oi P w K mg base:=
 LV [3] c sc_burnt λb=>
  (Zd (Yg 3 sc_burnt.nd (XA (Wj (VE.pure (vo 2)) YS)))
  (Zd (Yg 4 sc_burnt.nd (Vd a b (Ux (vo 0) (vo 1) (vo 3))))
  (Zd (VH eZ (P9 (vo 4)) (Zd (Xc (Y3 (WR bT cE cF Xa (pv 3) (Z2 (VE.pure (vo 4)) Y0))))
  (Zg (Yg 4 sc_burnt.nd (Vd a b (Ux (vo 0) (vo 1) (vo 3)))))))
  (Zg (TN (pv 3))))))
abbrev N3:cB:=XU 31
theorem sc_settle:Zq ["web","purse","base","script","near","indebted","step"] ["web","purse","base"] (Zf N3):=Wn
theorem CQ(i:Def K mg "settle" N3)(B:XQ mg)(c:T9 P w K mg base)(e:EV P w K mg base)(a:Sd P w K mg base)(b:Vp P w K mg base)(g:NO P w K mg base)(f:Oi P w K mg base)(d:Oh P w K mg base):NS P w K mg base:=
 LV [] i sc_settle λh=>
  (Zd (Yg 3 sc_settle.nd (Vd c h (Ux (vo 0) (vo 1) (vo 2))))
  (Zd (Yg 4 sc_settle.nd (Vd e h (Ux (vo 0) (vo 1) (vo 3))))
  (Zd (Yg 5 sc_settle.nd (Vd a h (Wl (vo 4) (vo 2))))
  (Zd (VH eZ (Ad (Ua B.len (vo 5)) Zh) (Zd (Yg 6 sc_settle.nd (Vd b h (Wl (vo 0) (vo 5))))
  (Zd (Yg 3 sc_settle.nd (Vd g h (Wl (vo 3) (vo 6))))
  (Zd (Yg 4 sc_settle.nd (Vd e h (Ux (vo 0) (vo 4) (vo 6))))
  (Zg (Yg 5 sc_settle.nd (Vd a h (Wl (vo 4) (vo 2)))))))))
  (Zg (Zz (Zi0 (Wj (Vd d h (Y4 (vo 3))) (Wj (VE.pure (vo 4)) (Wj (Vd f h (Ux (vo 0) (vo 4) (vo 2))) YS))))))))))
abbrev QU:cB:=XU 60
theorem Fm:Zq ["_law_found"] ["_law_found"] (Zf QU):=Wn
theorem Fo(a:Def K mg "_law_whole" QU)(B:XQ mg):QF P w K mg base:=
 dk1 [] a Fm λb=>
  (Zg (Zz (VE.pure (OQ (vb Vg Oa B.isinstance (Wl (vo 0) (Eo rfl B.int (by decide +kernel)))) (Ks (Ziy (vb Vg Oa B.isinstance (Wl (vo 0) (Eo rfl B.bool (by decide +kernel))))))))))
abbrev S1:cB:=XU 61
theorem IU:Zq ["_law_found","_law_many"] ["_law_found","_law_many"] (Zf S1):=Wn
theorem IV(c:Def K mg "_law_wholes" S1)(B:XQ mg)(a:QF P w K mg base):SV P w K mg base:=
 K2 [] c IU λb=>
  (Zd (Xu (VW.vt (Rh (SG (U0 (vb Vg Oa B.isinstance (Wl (vo 0) (Eo rfl B.tuple (by decide +kernel)))))) (U1 (VN b.units (Ua B.len (vo 0)) (vo 1))))) (Zg (Zz (VE.pure Ei))) Yi)
  (Zg (Zz (VE.pure (vb (Lo rfl) Ak B.all (Y4 (CB "_law_one_here" [] [] (Qi (vo 0)) (V9 a b (Y4 (vo 0))))))))))
abbrev N4:cB:=XU 62
theorem sc_l_lend:Zq ["_law_web_here","_law_purse","_law_script","_law_found","_law_house","_law_coins_here","_law_other","_law_step"] ["_law_web_here","_law_purse","_law_script"] (Zf N4):=Wn
theorem CS(a:Def K mg "_law_lend" N4)(B:XQ mg):NT P w K mg base:=
 LV [3] a sc_l_lend λb=>
  (Zd (Yg 3 sc_l_lend.nd (XA YS))
  (Zd (MJ (GS B.range (Ua B.len (vo 0))) (Sm 4 sc_l_lend.nd) (Zd (Yg 5 sc_l_lend.nd (VE.pure (Zj (vo 1) (vo 4))))
  (Zd (MJ (GS B.range (Ua B.len (vo 0))) (Sm 6 sc_l_lend.nd) (Zd (Yg 7 sc_l_lend.nd (VE.pure (Y1 (Zj (vo 2) (vo 4)) (Zj (vo 2) (vo 6)))))
  (Zg (Yg 5 sc_l_lend.nd (VE.pure (Y1 (vo 5) (SE (Zj (Zj (vo 0) (vo 4)) (vo 6)) (vo 7))))))))
  (Zg (Xc (Y3 (WR bT cE cF Xa (pv 3) (Z2 (VE.pure (vo 5)) Y0))))))))
  (Zg (Zz (VE.pure (ZK Zu ZW rfl B.tuple (by decide +kernel) (Y4 (vo 3))))))))
abbrev UB:cB:=XU 9
theorem MZ:Zq ["web","purse","base"] ["web","purse","base"] (Zf UB):=Wn
theorem M0(d:Def K mg "is_settled" UB)(B:XQ mg)(b:Oi P w K mg base)(a:Sd P w K mg base):Uz P w K mg base:=
 LV [] d MZ λc=>
  (Zg (Zz (VE.pure (OQ (Im c.units (Ua B.len (V9 a c (Wl (vo 1) (vo 2)))) Zh) (Ks (Im c.units (Ua B.len (V9 b c (Ux (vo 0) (vo 1) (vo 2)))) (Ua B.len (vo 0))))))))
abbrev QV:cB:=XU 38
theorem Fp:Zq ["web","base","purse"] ["web","base","purse"] (Zf QV):=Wn
theorem Fq(d:Def K mg "tree_of" QV)(B:XQ mg)(a:Uz P w K mg base)(b:Sb P w K mg base):QG P w K mg base:=
 LV [] d Fp λc=>
  (Zd (Xu (SG (U0 (V9 a c (Ux (vo 0) (vo 2) (vo 1))))) (Zg (Nk (W:=[]))) Yi)
  (Zg (Zz (NF (q:="tree_of") (L:=YO) (i:=2) rfl rfl rfl b (c.mono (by decide)) rfl rfl rfl rfl (vo 0) (vo 1) (jN _) rfl (by decide) rfl rfl ⟨_,rfl,rfl⟩ rfl rfl rfl rfl))))
abbrev Jk:cB:=XU 69
theorem sc_l_one:Zq ["_law_web_here","_law_base","_law_tree_here","_law_still","_law_coins_here","_law_found","_law_there"] ["_law_web_here","_law_base","_law_tree_here"] (Zf Jk):=Wn
theorem Za0(i:Def K mg "_law_one" Jk)(B:XQ mg)(b:SS P w K mg base)(a:SV P w K mg base)(c:QE P w K mg base)(e:NR P w K mg base)(h:NT P w K mg base)(f:NS P w K mg base)(d:QG P w K mg base):K7 P w K mg base:=
 LV [4] i sc_l_one λg=>
  (Zd (Yg 3 sc_l_one.nd (Vd b g (Ux (vo 0) (vo 1) (vo 2))))
  (Zd (Xu (VW.vt (Rh (SG (U0 (V9 a g (Wl (vo 3) (Ua B.len (vo 0)))))) (U1 (VN g.units (Zj (vo 3) (vo 1)) Zh)))) (Zg (Zz (VE.pure UZ))) Yi)
  (Zd (Yg 4 sc_l_one.nd (Qh Uc OU rfl B.list (by decide +kernel) (Y4 (vo 3))))
  (Zd (O5 (UW (Y1 (V9 c g (Y4 (vo 0))) (vb (X0 rfl) SH B.sum (Y4 (vo 3)))) (Sz (pv 4) (vo 1) WQ)))
  (Zd (Yg 5 sc_l_one.nd (Vd e g (Wl (vo 0) (ZK Zu ZW rfl B.tuple (by decide +kernel) (Y4 (vo 4))))))
  (Zd (Xu (VW.vt (Rh (SG (U0 (vb Vg Oa B.isinstance (Wl (vo 5) (Eo rfl B.tuple (by decide +kernel)))))) (Rh (VN g.units (Ua B.len (vo 5)) Zh) (U1 (SG (U0 (V9 a g (Wl (Zj (vo 5) Zh) (Ua B.len (vo 0)))))))))) (Zg (Zz (VE.pure UZ))) Yi)
  (Zd (Xu (VW.vt (Rh (VN g.units (V9 h g (Ux (vo 0) (vo 4) (Zj (vo 5) Zh))) (Zj (vo 5) Zh)) (U1 (ON (vb (LJ rfl) EJ B.min (Y4 (Zj (vo 5) Zh))) Zh)))) (Zg (Zz (VE.pure UZ))) Yi)
  (Zd (Yg 6 sc_l_one.nd (VE.pure (Zj (V9 f g (Ux (vo 0) (Zj (vo 5) Zh) (vo 1))) Zh)))
  (Zd (Xu (VW.vt (Rh (VN g.units (vo 6) (ZK Zu ZW rfl B.tuple (by decide +kernel) (Y4 (vo 4)))) (U1 (VN g.units (V9 d g (Ux (vo 0) (vo 1) (vo 6))) (vo 2))))) (Zg (Zz (VE.pure UZ))) Yi)
  (Zg (Zz (VE.pure (Zj (vo 5) Zh)))))))))))))
abbrev Za1:cB:=XU 70
theorem sc_law:Zq ["_law_script","_law_web_here","_law_base","_law_known","_law_cell","_law_tree_here","_law_purse"] ["_law_script"] (Zf Za1):=Wn
theorem Zjl{h:aL}{i:fL}(j:Fun K "law" "law" Za1 h i)(B:XQ mg)(e:K4 P w K mg base)(c:Th P w K mg base)(a:K3 P w K mg base)(b:NL P w K mg base)(d:K7 P w K mg base):Pq P w K mg base J6 7 h i (["_law_script"]:List bH) (Y5 K D_law 1):=
 Zi8 (O:=[3]) (k:=6) 7 Zhe j sc_law rfl rfl (by decide) (λm l A g s H E f=>
  (Zd (Yg 1 sc_law.nd (Vd e f (Ux (vo 0) (OT (Wy Zh (va4 Zh Zh Zh Zh))) Zh)))
  (Zd (Yg 2 sc_law.nd (Vd c f (Ux (V9 a f (Wl (vo 0) Zh)) Zh (Ua B.len (vo 1)))))
  (Zd (Yg 3 sc_law.nd Ai)
  (Zd (MJ (Yp (VM.ve (KC (OT (Y4 (V9 a f (Wl (vo 0) Zh)))) (WL (vo 0) (Wg Zh) (Wg Zh))))) (Sm 4 sc_law.nd) (Zd (Yg 5 sc_law.nd (Vd b f (Wl (vo 1) (vo 4))))
  (Zd (Yg 6 sc_law.nd (Vd d f (Ux (vo 1) (vo 2) (vo 5))))
  (Zd (Xu (VW.vt (Rh (Ziz (vo 6)) (U1 (VN f.units (Ar (Lk f) (vo 3) (vo 6) (vo 5)) (vo 5))))) (Zg (Zz (VE.pure Ei))) Yi)
  (Zg (EA (Ee (Lk f) (pv 3) (vo 6) (vo 5) rfl)))))))
  (Zg (Zz (VE.pure Ei))))))))
end
end PW
namespace PW
open L2 VL
theorem N5{W:List (List Int)}{h:Nat}(a:h<W.length):VP [wP W,.int (h:Int)]=ax (.int (ZA W h).sum):=by simp[VP,LH,YF,ZP,TX a]
theorem Za2(l:List Int):Of [pP l]=ax (.int l.sum):=by simp[Of,EF,YF,ZP]
theorem Za3(i:Int):VR [.int i]=ax (.bl aC):=by simp[VR,LI,YF,ZP]
noncomputable def PY(a b:List Int):List Int:=(aD a.length).map λi=>Zl a i+Zl b i
noncomputable def PZ(a b:List Int):List Int:=(aD a.length).map λi=>Zl a i-Zl b i
theorem Jl{a b:List Int}(h:b.length=a.length)(f:a.length<=1000):Vu [pP a,pP b]=ax (pP (PY a b)):=by
 have e:Qj (iL a) (iL b)=(aD a.length).map λi=>.tup [.int (Zl a i),.int (Zl b i)]:=by rw[Ul _ _ (by simpa using h),aJ];apply au;intro i c;have c:=aY.mp c;rw[XH a i c,XH b i (by omega)]
 have d:Zw 2 [] (MQ aB aB [Za 0,Za 1]) (.many [0,1]) ZD (Zm YJ (Za 0) (Za 1)) [ax (pP a),ax (pP b)]=ax (.lst (iL (PY a b))):=by rw[ZL (aD a.length) (λi=>.tup [.int (Zl a i),.int (Zl b i)]) (λi=>.int (Zl a i+Zl b i)) (by simp[e]) (by simp;omega) (λi _=>⟨_,rfl,rfl,by simp[setAll,ZH]⟩)];simp[PY]
 simp[Vu,AS,YF,ZP,d]
theorem IW{a b:List Int}(h:b.length=a.length)(f:a.length<=1000):RH [pP a,pP b]=ax (pP (PZ a b)):=by
 have e:Qj (iL a) (iL b)=(aD a.length).map λi=>.tup [.int (Zl a i),.int (Zl b i)]:=by rw[Ul _ _ (by simpa using h),aJ];apply au;intro i c;have c:=aY.mp c;rw[XH a i c,XH b i (by omega)]
 have d:Zw 2 [] (MQ aB aB [Za 0,Za 1]) (.many [0,1]) ZD (Zm Wi (Za 0) (Za 1)) [ax (pP a),ax (pP b)]=ax (.lst (iL (PZ a b))):=by rw[ZL (aD a.length) (λi=>.tup [.int (Zl a i),.int (Zl b i)]) (λi=>.int (Zl a i-Zl b i)) (by simp[e]) (by simp;omega) (λi _=>⟨_,rfl,rfl,by simp[setAll,ZH]⟩)];simp[PZ]
 simp[RH,EG,YF,ZP,d]
theorem Oj(l:List Int):Xt (iL l)=(aD l.length).map λ(i:Nat)=>.tup [.int (i:Int),.int (Zl l i)]:=by rw[Y6,aJ];apply au;intro i a;rw[XH l i (aY.mp a)]
noncomputable def V2(W:List (List Int))(S:List Int)(h:Nat):Int:=((aD W.length).map λi=>ZM W h i*(Zl S i-Zl S h)).sum
theorem Zff{W:List (List Int)}{S:List Int}{h:Nat}(ok:Zt W)(c:h<W.length)(g:S.length=W.length):Nh [wP W,pP S,.int (h:Int)]=ax (.int (V2 W S h)):=by
 have e:=ok.sq h c;have l:=ok.few
 have d:Zw 2 [1,2] (Xf aB [Zm ZR (Za 0) (Za 2)]) (.many [0,1]) ZD (Zm Px (Za 1) (Zm Wi (Zm ZR (Za 2) (Za 0)) (Zm ZR (Za 2) (Za 3)))) [ax (wP W),ax (pP S),ax (.int (h:Int))]=ax (.lst (iL ((aD W.length).map λi=>ZM W h i*(Zl S i-Zl S h)))):=by
  rw[ZL (aD W.length) (λi=>.tup [.int (i:Int),.int (ZM W h i)]) (λi=>.int (ZM W h i*(Zl S i-Zl S h))) (by simp[TX c,Oj,e];intro a _;rfl) (by simp;omega) (λi b=>?_)]
  ·simp
  ·have b:=aY.mp b;refine⟨_,rfl,rfl,?_⟩;have b1:=ok.lo h i c b;have k:=ok.hi h i c b;have f:∀j,CMul (ZM W h i) j:=λj=>AO (by omega) (by omega);simp[setAll,ZH,YD (show i<S.length by omega),YD (show h<S.length by omega),f]
 simp[Nh,AR,YF,ZP,d,V2,-bZ]
noncomputable def ZT(W:List (List Int))(D S:List Int):List Int:=(aD D.length).map λh=>Zl D h+V2 W S h
theorem Jm{W:List (List Int)}{D S:List Int}(ok:Zt W)(hd:D.length=W.length)(c:S.length=W.length):VQ [wP W,pP D,pP S]=ax (pP (ZT W D S)):=by
 have d:=ok.few
 have b:Zw 2 [0,2] (Xf aB [Za 1]) (.many [0,1]) ZD (Zm YJ (Za 1) (Ze Nh [Za 2,Za 3,Za 0])) [ax (wP W),ax (pP D),ax (pP S)]=ax (.lst (iL (ZT W D S))):=by
  rw[ZL (aD D.length) (λi=>.tup [.int (i:Int),.int (Zl D i)]) (λh=>.int (Zl D h+V2 W S h)) (by simp[Oj]) (by simp;omega) (λi a=>?_)]
  ·simp[ZT]
  ·have a:=aY.mp a;refine⟨_,rfl,rfl,?_⟩;simp[setAll,ZH,Zff ok (show i<W.length by omega) c]
 simp[VQ,Zhc,YF,ZP,b]
noncomputable def XJ(W:List (List Int))(a b:Nat):List (List Int):=(aD (ZM W a b).toNat).map λ(t:Nat)=>[(a:Int),(b:Int),(t:Int)]
noncomputable def UP(W:List (List Int))(a:Nat):List (List Int):=(aD (W.length-(a+1))).flatMap λj=>XJ W a (a+1+j)
noncomputable def Z8(W:List (List Int)):List (List Int):=(aD W.length).flatMap (UP W)
theorem Xw{a:Type}(f:Nat->List a)(i:Nat):(aD (i+1)).flatMap f=(aD i).flatMap f++f i:=by rw[eY];simp
theorem Fs{W:List (List Int)}(ok:Zt W){a b:Nat}(c:a<W.length)(d:b<W.length):(XJ W a b).length<=9:=by have:=ok.hi a b c d;unfold XJ;simp;omega
theorem CT{W:List (List Int)}(ok:Zt W){a b:Nat}(c:a<W.length)(d:b<W.length)(t:Option PV):Zw 1 [2,4] (Yk [Zm ZR (Za 3) (Za 4)]) (.one 0) ZD (eP (Wz [Za 1,Za 2,Za 0])) [ax (wP W),t,ax (.int (a:Int)),ax (pP (ZA W a)),ax (.int (b:Int))]=ax (.lst ((XJ W a b).map pP)):=by
 have g:=ok.sq a c;have b1:=ok.lo a b c d;have f:=ok.hi a b c d;rw[ZL (aD (ZM W a b).toNat) (λi=>.int (i:Int)) (λt=>pP [(a:Int),(b:Int),(t:Int)]) ?_ (by simp;omega) (λi e=>⟨_,rfl,rfl,by simp[ZH]⟩)]
 ·simp[XJ]
 ·exact Xd (by simp[YD (show b<(ZA W a).length by omega)];show ZM W a b=max (ZM W a b) 0;omega) (by omega)
theorem Ft{W:List (List Int)}(ok:Zt W){a:Nat}(e:a<W.length)(acc:List (List Int))(d:acc.length<=1000)(c:Option PV) :
  ∃b,VG (.one 4) (WC 1 (Zw 1 [2,4] (Yk [Zm ZR (Za 3) (Za 4)]) (.one 0) ZD (eP (Wz [Za 1,Za 2,Za 0])))) (SI ((a:Int)+1) (W.length-(a+1))) [ax (wP W),ax (.lst (acc.map pP)),ax (.int (a:Int)),ax (pP (ZA W a)),c]
   = ax (.nx [ax (wP W),ax (.lst ((acc++UP W a).map pP)),ax (.int (a:Int)),ax (pP (ZA W a)),b])/\(UP W a).length<=63:=by
 have u:=ok.few
 obtain⟨v,n,b,f,m⟩:=U9 (T:=.one 4) (fb:=WC 1 (Zw 1 [2,4] (Yk [Zm ZR (Za 3) (Za 4)]) (.one 0) ZD (eP (Wz [Za 1,Za 2,Za 0])))) (ls:=SI ((a:Int)+1) (W.length-(a+1))) (s:=[ax (wP W),ax (.lst (acc.map pP)),ax (.int (a:Int)),ax (pP (ZA W a)),c])
  (λj st=>∃b,st=[ax (wP W),ax (.lst ((acc++(aD j).flatMap λj=>XJ W a (a+1+j)).map pP)),ax (.int (a:Int)),ax (pP (ZA W a)),b]/\((aD j).flatMap λj=>XJ W a (a+1+j)).length<=9*j)
  ⟨c,by simp,by simp⟩ (λj l st i k=>by
   obtain⟨t,rfl⟩:=Ir i;obtain⟨b,rfl,g⟩:=k;have h:a+1+j<W.length:=by omega
   have o:=CT ok e h (ax (.lst ((acc++(aD j).flatMap λj=>XJ W a (a+1+j)).map pP)));have q:=Fs ok e h;have p:(acc.length+((aD j).flatMap λj=>XJ W a (a+1+j)).length)+(XJ W a (a+1+j)).length<=10000:=by omega
   refine⟨_,_,rfl,?_,ax (.int ((a+1+j:Nat):Int)),rfl,?_⟩
   ·refine(Nc o rfl (by rw[aJ,aJ,aT];exact p)).trans ?_;simp[Xw]
   ·rw[Xw,aT];omega)
 rw[Iu] at f m;refine⟨b,?_,?_⟩
 ·rw[n,f];rfl
 ·have:UP W a=(aD (W.length-(a+1))).flatMap λj=>XJ W a (a+1+j):=rfl;rw[this];omega
theorem Wa{W:List (List Int)}(ok:Zt W):Xv [wP W]=ax (.lst ((Z8 W).map pP))/\(Z8 W).length<=441:=by
 have q:=ok.few;have a:Xt (W.map pP)=(aD W.length).map λi=>.tup [.int (i:Int),pP (ZA W i)]:=by rw[Y6,aJ];apply au;intro i b;rw[AM W i (aY.mp b)]
 obtain⟨t,m,x,y,z,d,k⟩:=U9 (T:=.many [2,3]) (fb:=YU [1] (VF [Zm YJ (Za 2) (eC (.int 1)),Ze ZN [Za 0]]) (.one 4) (WC 1 (Zw 1 [2,4] (Yk [Zm ZR (Za 3) (Za 4)]) (.one 0) ZD (eP (Wz [Za 1,Za 2,Za 0]))))) (s:=[ax (wP W),ax (.lst []),aA,aA,aA])
  (λi st=>∃x y z,st=[ax (wP W),ax (.lst (((aD i).flatMap (UP W)).map pP)),x,y,z]/\((aD i).flatMap (UP W)).length<=63*i)
  ⟨aA,aA,aA,by simp,by simp⟩ (λi l st c h=>by
   obtain⟨x,y,z,rfl,e⟩:=h;have b:i<W.length:=by have:=(aR.mp c).1;rw[WK,aJ] at this;exact this
   rw[a,aX,cC b] at c;cases c;obtain⟨n,f,p⟩:=Ft ok b ((aD i).flatMap (UP W)) (by omega) z;refine⟨_,_,rfl,?_,ax (.int (i:Int)),ax (pP (ZA W i)),n,rfl,?_⟩
   ·have g:VF [Zm YJ (Za 2) (eC (.int 1)),Ze ZN [Za 0]] (Xr [1] [ax (wP W),ax (.lst (((aD i).flatMap (UP W)).map pP)),ax (.int (i:Int)),ax (pP (ZA W i)),z])=ax (SI ((i:Int)+1) (W.length-(i+1))):=by rw[LD (i:=(i:Int)+1) (j:=(W.length:Int)) rfl (by simp[Xr]) ⟨by omega,by omega⟩ ⟨by omega,by omega⟩];congr 2;omega
    show YU _ _ _ _ [ax (wP W),_,ax (.int (i:Int)),ax (pP (ZA W i)),z]=_;rw[AN,g];simp only[aQ];rw[f,Xw]
   ·rw[Xw,aT];omega)
 rw[WK,aJ] at d k;refine⟨?_,by have:Z8 W=(aD W.length).flatMap (UP W):=rfl;rw[this];omega⟩;have o:YF 5 Qo [wP W]=ax (.lst ((Z8 W).map pP)):=by unfold Qo;simp only[YF,O9,Yf,AB,Od,bz,aQ];show((VG _ _ (Xt (W.map pP)) [ax (wP W),ax (.lst []),aA,aA,aA]).bind _).bind U5=_;rw[m,d];rfl
 exact o
theorem Za4{W:List (List Int)}(ok:Zt W):RG [wP W]=ax (.int (((Z8 W).length:Int)-(W.length:Int)+1)):=by simp[RG,EE,YF,ZP,(Wa ok).1]
noncomputable def tk(e:Tie):List Y8:=[.inl (e.1:Int),.inl (e.2.1:Int)]
theorem IX{i:Nat}{a fv:XE}{s:ZG}{d k v b:PV}(f:fv s=ax v)(c:a s=ax k)(hd:(s[i]?).join=ax d)(e:As d k v=ax b):VL.sDPut i a fv s=ax (.nx (s.set i (ax b))):=by unfold VL.sDPut;rw[f,c];simp only[aQ,hd,e,bz]
noncomputable def V3(W:List (List Int)):Prop:=∀P:Nat->Prop,(∀a b,a<W.length->b<W.length->0<ZM W a b->(P a↔P b))->∀i j,i<W.length->j<W.length->(P i↔P j)
theorem V4:∀{l m:List Int},l.Nodup->(∀x∈l,x∈m)->l.length<=m.length
 | [],m,_,_=>dq _
 | x::r,m,nd,h=>by have c:x∈m:=h x (by simp);have a:=aq.mp nd;have:=V4 (l:=r) (m:=m.erase x) a.2 λy b=>(e8 (show y≠x from λz=>a.1 (by rw[<-z];exact b))).mpr (h y (by simp[b]));rw[fI c] at this;have d:=iT c;rw[az];omega
theorem M1{n:Nat}{l:List Int}(c:l.Nodup)(h:∀x∈l,∃k:Nat,k<n/\x=(k:Int))(e:l.length=n){j:Nat}(d:j<n):(j:Int)∈l:=by
 by_cases q:(j:Int)∈l
 ·exact q
 ·have:=V4 (aq.mpr ⟨q,c⟩) (λx a=>by
   rcases aa.mp a with rfl | a
   ·exact ar.mpr ⟨j,aY.mpr d,rfl⟩
   ·obtain⟨k,b,rfl⟩:=h x a;exact ar.mpr ⟨k,aY.mpr b,rfl⟩)
  rw[az,aJ,bt] at this;omega
noncomputable def rL(M:List (List Int)):List PV:=M.map λr=>.lst (iL r)
theorem Fu{M:List (List Int)}{a:Nat}(h:a<M.length):(rL M)[a]?=ax (.lst (iL (ZA M a))):=by unfold rL;rw[aX,OL h];rfl
theorem Za5{M:List (List Int)}{a b:Nat}{t:Int}:(rL M).set a (.lst ((iL (ZA M a)).set b (.int t)))=rL (Qf M a b t):=by unfold rL Qf;rw[ky];show _=(List.map (λr=>PV.lst (iL r)) M).set a (PV.lst (((ZA M a).set b t).map PV.int));rw[ky]
theorem Zjm(l:List Int)(k:Nat)(x:Int):(iL l).take k++PV.int x::(iL l).drop k=iL (l.take k++x::l.drop k):=by simp
theorem Zhf(b:Bool)(a:Int)(l:List Int):PF b (.int a) (.lst (iL l))=ax (.bl (if b then !decide (a∈l) else decide (a∈l))):=by
 have c:((iL l).all λz=>Wk 8 z (.int a))=aC:=by rw[jT,bK];intro x _;rfl
 show(ax (iL l)).bind _=_;simp only[aQ,p9 c]
 have:decide (PV.int a∈iL l)=decide (a∈l):=decide_eq_decide.mpr (by
  rw[ar];constructor
  ·rintro⟨x,d,e⟩;cases e;exact d
  ·intro h;exact⟨a,h,rfl⟩)
 rw[this]
theorem W5{f g:XS}{s s1:ZG}(a:f s=ax (.nx s1)):Zn f g s=g s1:=by simp only[O9,a,aQ]
theorem V5(a b:List Int):(PY a b).length=a.length:=by simp[PY]
theorem IY(a b:List Int):(PZ a b).length=a.length:=by simp[PZ]
theorem Z9(W:List (List Int))(D S:List Int):(ZT W D S).length=D.length:=by simp[ZT]
theorem RT{a b:List Int}{i:Nat}(h:i<a.length):Zl (PY a b) i=Zl a i+Zl b i:=ZF h
theorem IZ{a b:List Int}{i:Nat}(h:i<a.length):Zl (PZ a b) i=Zl a i-Zl b i:=ZF h
theorem RU{W:List (List Int)}{a b:List Int}{i:Nat}(h:i<a.length):Zl (ZT W a b) i=Zl a i+V2 W b i:=ZF h
theorem WG{a b:List Int}(c:a.length=b.length)(h:∀i,i<a.length->Zl a i=Zl b i):a=b:=by rw[<-Qe a,<-Qe b,c];apply au;intro i d;exact h i (by rw[c];exact aY.mp d)
theorem Ol{W:List (List Int)}(ok:Zt W){i:Nat}(a:i<W.length):(ZA W i).sum=((aD W.length).map λj=>ZM W i j).sum:=by rw[<-Ko (ZA W i),ok.sq i a];rfl
theorem Fv{W:List (List Int)}(ok:Zt W):((Z8 W).length:Int)=((aD W.length).map λa=>((aD (W.length-(a+1))).map λj=>ZM W a (a+1+j)).sum).sum:=by
 have b:∀(f:Nat->List (List Int))(n:Nat),(((aD n).flatMap f).length:Int)=((aD n).map λi=>((f i).length:Int)).sum:=by
  intro f n
  induction n with
  | zero=>rfl
  | succ n ih=>rw[Xw,aT,Z7];omega
 unfold Z8;rw[b];apply Yt;intro a c;unfold UP;rw[b];apply Yt;intro j d;have:=ok.lo a (a+1+j) c (by omega);unfold XJ;rw[aJ,bt];omega
theorem Hb{W:List (List Int)}(ok:Zt W):((aD W.length).map λi=>(ZA W i).sum).sum=2*((Z8 W).length:Int):=by rw[Fv ok,<-B7 (λi j=>ZM W i j) W.length (λi j a b=>ok.sym i j a b) (λi a=>ok.dia i a)];apply Yt;intro i a;exact Ol ok a
theorem Se{n m:Nat}{b:List Nat}{e:XL}{c:XT}{d:XE}{s:ZG}(g:Nat->Int)(a:e s=ax (Kw m))(j:m<=1000)(h:∀i:Nat,i<m->∃s1,Xg (.one 0) (.int (i:Int)) (ZH n b s)=ax s1/\c s1=ax aC/\d s1=ax (.int (g i))) :
  Zw n b e (.one 0) c d s=ax (.lst (iL ((aD m).map g))):=by
 rw[ZL (aD m) (λi=>.int (i:Int)) (λi=>.int (g i)) a (by simp;omega) (λi f=>h i (aY.mp f))];simp
theorem N6(f g:Nat->Int)(n:Nat):((aD n).map λi=>f i+g i).sum=((aD n).map f).sum+((aD n).map g).sum:=by
 induction n with
 | zero=>rfl
 | succ n ih=>rw[Z7,Z7,Z7,ih];omega
theorem Za6(f:Nat->Nat->Int)(n m:Nat):((aD n).map λi=>((aD m).map λj=>f i j).sum).sum=((aD m).map λj=>((aD n).map λi=>f i j).sum).sum:=by
 induction n with
 | zero=>
  have:((aD m).map λj=>((aD 0).map λi=>f i j).sum).sum=0:=by have:=DS 0 m;simpa using this
  rw[this];rfl
 | succ n ih=>
  rw[Z7,ih,<-N6];apply Yt;intro j _;rw[Z7]
theorem CU{W:List (List Int)}{S U T:List Int}{h:Nat}(e:∀i,i<W.length->Zl T i=Zl S i+Zl U i)(b:h<W.length):V2 W T h=V2 W S h+V2 W U h:=by unfold V2;rw[<-N6];apply Yt;intro i a;rw[e i a,e h b,<-jB];congr 1;omega
theorem Zfg{W:List (List Int)}{D S U T:List Int}(hd:D.length=W.length)(e:∀i,i<W.length->Zl T i=Zl S i+Zl U i):ZT W (ZT W D S) U=ZT W D T:=WG (by simp[Z9]) λi a=>by rw[Z9,Z9] at a;rw[RU (by rw[Z9];exact a),RU a,RU a,CU e (by omega)];omega
theorem Za7{W:List (List Int)}(ok:Zt W)(S:List Int):((aD W.length).map λh=>V2 W S h).sum=0:=by
 have b:((aD W.length).map λh=>V2 W S h).sum=((aD W.length).map λi=>((aD W.length).map λj=>ZM W i j*Zl S j).sum).sum-((aD W.length).map λi=>((aD W.length).map λj=>ZM W i j*Zl S i).sum).sum:=by rw[<-Eh];apply Yt;intro i _;rw[<-Eh];apply Yt;intro j _;rw[fC]
 have a:((aD W.length).map λi=>((aD W.length).map λj=>ZM W i j*Zl S i).sum).sum=((aD W.length).map λi=>((aD W.length).map λj=>ZM W i j*Zl S j).sum).sum:=by rw[Za6];apply Yt;intro i c;apply Yt;intro j d;rw[ok.sym j i d c]
 rw[b,a];omega
theorem RV{W:List (List Int)}{D S:List Int}(ok:Zt W)(hd:D.length=W.length):(ZT W D S).sum=D.sum:=by unfold ZT;rw[N6,Ko,hd,Za7 ok,jV]
theorem nth_set{l:List Int}{h i:Nat}{v:Int}(a:i<l.length):Zl (l.set h v) i=if i=h then v else Zl l i:=by
 unfold Zl;rw[aF,aF,bW];by_cases e:h=i
 ·subst e;rw[p9 rfl,p9 rfl,p9 a];rfl
 ·rw[pW e,pW (bX e)]
theorem Za8(l:List Int)(k:Nat):WB (iL l) aA (ax (k:Int))=iL (l.take k):=by
 unfold WB;rw[HT.sIx_none,HT.sIx_nat,aJ,oz,Nat.sub_zero,<-gu];congr 1;by_cases h:k<=l.length
 ·rw[eV h]
 ·rw[kS (by omega),bY (aZ _),bY (by omega)]
theorem Za9(l:List Int)(k:Nat):WB (iL l) (ax (k:Int)) aA=iL (l.drop k):=by
 unfold WB;rw[HT.sIx_none,HT.sIx_nat,aJ,<-gH];congr 1;by_cases h:k<=l.length
 ·rw[eV h,bY (by simp)]
 ·rw[kS (by omega),iQ (aZ _),iQ (by omega)];simp
theorem EW{l:List Int}{i:Nat}(h:i<l.length):Zl l i∈l:=by unfold Zl;rw[aF,aE h];exact bQ h
theorem Jn{l:List Int}{x:Int}(h:x∈l):∃i,i<l.length/\Zl l i=x:=by obtain⟨i,a,e⟩:=bp h;refine⟨i,a,?_⟩;unfold Zl;rw[aF,aE a,e];rfl
theorem CV{l d:List Int}(c:Int)(o:d.length=l.length)(h:0<l.length)(e:∀i,i<l.length->Zl d i=Zl l i+c):XI d=XI l+c:=by
 obtain⟨a,b⟩:=VU (l:=l) (fK.mp h);obtain⟨i,f,g⟩:=Jn a;refine EH ?_ λx k=>?_
 ·have:=EW (l:=d) (i:=i) (by omega);rw[e i f,g] at this;exact this
 ·obtain⟨j,p,m⟩:=Jn k;have n:=b _ (EW (l:=l) (i:=j) (by omega));rw[e j (by omega)] at m;omega
noncomputable def Y2(l:List Int):List Int:=(aD l.length).map λi=>Zl l i-XI l
theorem UC(l:List Int):(Y2 l).length=l.length:=by simp[Y2]
theorem S2{l:List Int}{i:Nat}(h:i<l.length):Zl (Y2 l) i=Zl l i-XI l:=ZF h
theorem Hd{l a:List Int}(c:Int)(d:a.length=l.length)(f:0<l.length)(e:∀i,i<l.length->Zl a i=Zl l i+c):Y2 a=Y2 l:=WG (by rw[UC,UC,d]) λi b=>by rw[UC] at b;rw[S2 b,S2 (by omega),CV c d f e,e i (by omega)];omega
end PW
namespace PW
noncomputable def sN:Nat->(Nat->Int)->Int
 | 0,_=>0
 | n+1,f=>sN n f+f n
theorem Zi{f g:Nat->Int}:∀{n:Nat},(∀i,i<n->f i=g i)->sN n f=sN n g
 | 0,_=>rfl
 | n+1,h=>by show sN n f+f n=sN n g+g n;rw[Zi λi a=>h i (by omega),h n (by omega)]
theorem YH{f:Nat->Int}{n:Nat}(h:∀i,i<n->f i=0):sN n f=0:=by
 rw[Zi h];clear h
 induction n with
 | zero=>rfl
 | succ n ih=>show sN n _+0=0;rw[ih];rfl
theorem ZS(f g:Nat->Int):∀n,sN n (λi=>f i+g i)=sN n f+sN n g
 | 0=>rfl
 | n+1=>by show sN n _+(f n+g n)=(sN n f+f n)+(sN n g+g n);rw[ZS f g n];omega
theorem ZJ(c:Int)(f:Nat->Int):∀n,sN n (λi=>c*f i)=c*sN n f
 | 0=>by show(0:Int)=c*0;simp
 | n+1=>by show sN n _+c*f n=c*(sN n f+f n);rw[ZJ c f n,jB]
theorem UD(f:Nat->Nat->Int)(m:Nat):∀n,sN n (λi=>sN m (f i))=sN m (λj=>sN n λi=>f i j)
 | 0=>by show(0:Int)=sN m λ_=>0;rw[YH (λ_ _=>rfl)]
 | n+1=>by show sN n (λi=>sN m (f i))+sN m (f n)=sN m (λj=>(sN n λi=>f i j)+f n j);rw[ZS,UD f m n]
theorem Z3{f:Nat->Int}{k:Nat}:∀{n:Nat},k<n->(∀i,i<n->i≠k->f i=0)->sN n f=f k
 | 0,h,_=>by omega
 | n+1,h,z=>by
  show sN n f+f n=f k;by_cases q:k=n
  ·subst q;rw[YH λi a=>z i (by omega) (by omega)];omega
  ·rw[Z3 (n:=n) (by omega) λi a=>z i (by omega),z n (by omega) (by omega)];omega
theorem Zba{f:Nat->Int}{k:Nat}:∀{n:Nat},k+1<n->(∀i,i<n->i≠k->i≠k+1->f i=0)->sN n f=f k+f (k+1)
 | 0,h,_=>by omega
 | n+1,h,z=>by
  show sN n f+f n=_;by_cases q:k+1=n
  ·subst q;rw[Z3 (k:=k) (by omega) λi a b=>z i (by omega) b (by omega)]
  ·rw[Zba (n:=n) (by omega) λi a=>z i (by omega),z n (by omega) (by omega) (by omega)];omega
theorem WH(f:Nat->Int)(n:Nat):((aD n).map f).sum=sN n f:=by
 induction n with
 | zero=>rfl
 | succ n ih=>rw[eY,ay,gE,ih];simp[sN]
abbrev Mt:=Nat->Nat->Int
noncomputable def P0(i:Nat)(A:Mt):Mt:=λr c=>A (if r<i then r else r+1) (c+1)
noncomputable def sg:Nat->Int
 | 0=>1
 | n+1=>- sg n
noncomputable def W6:Nat->Mt->Int
 | 0,_=>1
 | n+1,A=>sN (n+1) λi=>sg i*A i 0*W6 n (P0 i A)
theorem Wm(n:Nat)(A:Mt):W6 (n+1) A=sN (n+1) λi=>sg i*A i 0*W6 n (P0 i A):=rfl
theorem WO:∀{n:Nat}{A B:Mt},(∀r c,r<n->c<n->A r c=B r c)->W6 n A=W6 n B
 | 0,_,_,_=>rfl
 | n+1,A,B,h=>by rw[Wm,Wm];refine Zi λi a=>?_;rw[h i 0 a (by omega),WO (n:=n) (A:=P0 i A) (B:=P0 i B) λr c d b=>?_];unfold P0;exact h _ _ (by split<;>omega) (by omega)
theorem EX:∀{n:Nat}{A B C:Mt}{k:Nat}{x y:Int},k<n->(∀r c,r<n->c<n->r≠k->A r c=C r c/\B r c=C r c)->(∀c,c<n->C k c=x*A k c+y*B k c)->W6 n C=x*W6 n A+y*W6 n B
 | 0,_,_,_,k,_,_,h,_,_=>by omega
 | n+1,A,B,C,k,x,y,hk,h1,h2=>by
  rw[Wm,Wm,Wm,<-ZJ,<-ZJ,<-ZS];refine Zi λi g=>?_;by_cases q:i=k
  ·subst q;have j:W6 n (P0 i A)=W6 n (P0 i C):=WO λr c d a=>by unfold P0;exact(h1 _ _ (by split<;>omega) (by omega) (by split<;>omega)).1
   have f:W6 n (P0 i B)=W6 n (P0 i C):=WO λr c d a=>by unfold P0;exact(h1 _ _ (by split<;>omega) (by omega) (by split<;>omega)).2
   rw[j,f,h2 0 (by omega),jB,mD];simp only[cg,gR]
  ·obtain⟨l,m⟩:=h1 i 0 g (by omega) q
   have e:W6 n (P0 i C)=x*W6 n (P0 i A)+y*W6 n (P0 i B):=EX (k:=if k<i then k else k-1) (by split<;>omega) (λr c d a b=>by
    unfold P0
    exact h1 _ _ (by split<;>omega) (by omega) (by split at b<;>split<;>omega)) (λc a=>by
    have e:(if(if k<i then k else k-1)<i then(if k<i then k else k-1) else(if k<i then k else k-1)+1)=k:=by split<;>(try split)<;>omega
    unfold P0;rw[e];exact h2 (c+1) (by omega))
   rw[l,m,e,jB];simp only[cg,gR]
theorem Om:∀{n:Nat}{A:Mt}{k:Nat},k+1<n->(∀c,c<n->A k c=A (k+1) c)->W6 n A=0
 | 0,_,k,h,_=>by omega
 | n+1,A,k,hk,he=>by
  rw[Wm,Zba hk]
  ·have e:W6 n (P0 k A)=W6 n (P0 (k+1) A):=WO λr c l b=>by
    unfold P0;by_cases q:r<k
    ·rw[p9 q,p9 (by omega)]
    ·rw[pW q];by_cases f:r=k
     ·subst f;rw[p9 (by omega)];exact(he (c+1) (by omega)).symm
     ·rw[pW (by omega)]
   rw[e,he 0 (by omega)];show sg k*_*_ + - sg k*_*_=0;rw[dJ,dJ];omega
  ·intro i j g m;rw[Om (n:=n) (A:=P0 i A) (k:=if k+1<i then k else k-1) (by split<;>omega) λc b=>?_,fD];have d:(if(if k+1<i then k else k-1)<i then(if k+1<i then k else k-1) else(if k+1<i then k else k-1)+1)=k:=by split<;>(try split)<;>omega
   have a:(if(if k+1<i then k else k-1)+1<i then(if k+1<i then k else k-1)+1 else(if k+1<i then k else k-1)+1+1)=k+1:=by split<;>(try split)<;>omega
   unfold P0;rw[d,a];exact he (c+1) (by omega)
noncomputable def put(k:Nat)(v:Nat->Int)(A:Mt):Mt:=λr=>if r=k then v else A r
theorem YW(k:Nat)(v:Nat->Int)(A:Mt):put k v A k=v:=by unfold put;rw[p9 rfl]
theorem Vw{k r:Nat}(v:Nat->Int)(A:Mt)(h:r≠k):put k v A r=A r:=by unfold put;rw[pW h]
theorem RW{n k:Nat}{A:Mt}{u v:Nat->Int}{x y:Int}(a:k<n):W6 n (put k (λc=>x*u c+y*v c) A)=x*W6 n (put k u A)+y*W6 n (put k v A):=
 EX a (λr c _ _ h=>by rw[Vw _ _ h,Vw _ _ h,Vw _ _ h];exact⟨rfl,rfl⟩) (λc _=>by rw[YW,YW,YW])
noncomputable def swp(k:Nat)(A:Mt):Mt:=put k (A (k+1)) (put (k+1) (A k) A)
theorem Zfh{n k:Nat}{A:Mt}(d:k+1<n):W6 n (swp k A) = - W6 n A:=by
 have two:∀u v:Nat->Int,W6 n (put k (λc=>1*u c+1*v c) (put (k+1) (λc=>1*u c+1*v c) A))=0:=λu v=>Om d λc _=>by rw[YW,Vw _ _ (by omega),YW]
 have same:∀u:Nat->Int,W6 n (put k u (put (k+1) u A))=0:=λu=>Om d λc _=>by rw[YW,Vw _ _ (by omega),YW]
 have a:∀u v:Nat->Int,put k u (put (k+1) v A)=put (k+1) v (put k u A):=λu v=>by
  funext r;unfold put;by_cases q:r=k
  ·rw[p9 q,pW (by omega),p9 q]
  ·rw[pW q];by_cases b:r=k+1
   ·rw[p9 b,p9 b]
   ·rw[pW b,pW b,pW q]
 have h:=two (A k) (A (k+1));rw[RW (by omega),a,RW d,a,RW d,<-a,<-a,<-a,<-a,same,same] at h
 have e:put k (A k) (put (k+1) (A (k+1)) A)=A:=by
  funext r;unfold put;by_cases q:r=k
  ·rw[p9 q,q]
  ·rw[pW q];by_cases b:r=k+1
   ·rw[p9 b,b]
   ·rw[pW b]
 rw[e] at h;unfold swp;omega
theorem Tr:∀(d:Nat){n i:Nat}{A:Mt},i+1+d<n->(∀c,c<n->A i c=A (i+1+d) c)->W6 n A=0
 | 0,n,i,A,h,e=>Om h e
 | d+1,n,i,A,h,e=>by
  have a:W6 n (swp (i+1+d) A)=0:=Tr d (n:=n) (i:=i) (by omega) λc b=>by unfold swp;rw[Vw _ _ (by omega),Vw _ _ (by omega),YW];exact e c b
  rw[Zfh (by omega)] at a;omega
theorem He{n i j:Nat}{A:Mt}(d:i<n)(f:j<n)(b:i≠j)(e:∀c,c<n->A i c=A j c):W6 n A=0:=by
 rcases Nat.lt_or_gt_of_ne b with h | h
 ·exact Tr (j-i-1) (i:=i) (by omega) λc a=>by rw[show i+1+(j-i-1)=j by omega];exact e c a
 ·exact Tr (i-j-1) (i:=j) (by omega) λc a=>by rw[show j+1+(i-j-1)=i by omega];exact(e c a).symm
theorem Hf:∀{n:Nat}{A:Mt},(∀c,c<n->A n c=0)->W6 (n+1) A=A n n*W6 n A
 | 0,A,_=>by show 0+1*A 0 0*1=A 0 0*1;omega
 | n+1,A,h=>by
  rw[Wm (n+1)];show sN (n+1) _+sg (n+1)*A (n+1) 0*_=_;rw[h 0 (by omega),fD,fE,jV,Wm n,<-ZJ];refine Zi λi b=>?_;rw[Hf (n:=n) (A:=P0 i A) λc a=>?_]
  ·have e:P0 i A n n=A (n+1) (n+1):=by unfold P0;rw[pW (by omega)]
   rw[e];simp only[cg,gR]
  ·unfold P0;rw[pW (by omega)];exact h (c+1) (by omega)
theorem N7{n j:Nat}{A:Mt}{a:Nat->Int}{v:Nat->Nat->Int}(b:j<n):∀m,W6 n (put j (λc=>sN m λk=>a k*v k c) A)=sN m λk=>a k*W6 n (put j (v k) A)
 | 0=>by have:W6 n (put j (λc=>0*(0:Int)+0*(0:Int)) A)=0*W6 n (put j (λ_=>0) A)+0*W6 n (put j (λ_=>0) A):=RW (u:=λ_=>0) (v:=λ_=>0) b;simp only[fE,jV] at this;exact this
 | m+1=>by have:=RW (n:=n) (A:=A) (u:=λc=>sN m λk=>a k*v k c) (v:=v m) (x:=1) (y:=a m) b;simp only[jr] at this;show W6 n (put j (λc=>(sN m λk=>a k*v k c)+a m*v m c) A)=_;rw[this,N7 b m];rfl
theorem Zfi{n j:Nat}{A:Mt}{a:Nat->Int}(d:j<n):W6 n (put j (λc=>sN n λk=>a k*A k c) A)=a j*W6 n A:=by
 rw[N7 d n,Z3 d]
 ·have:put j (A j) A=A:=by funext r;unfold put;split<;>simp_all
  rw[this]
 ·intro i e b;rw[He e d b λc _=>by rw[Vw _ _ b,YW],fD]
noncomputable def Fw(n:Nat)(A:Mt)(i j:Nat):Int:=W6 n (put j (λc=>if c=i then 1 else 0) A)
theorem Zfj{n:Nat}{A:Mt}{j:Nat}(d:j<n)(v:Nat->Int):sN n (λi=>v i*Fw n A i j)=W6 n (put j v A):=by
 unfold Fw;rw[<-N7 d n];refine WO λr c f b=>?_;unfold put;split
 ·show sN n (λk=>v k*if c=k then 1 else 0)=v c;rw[Z3 b]
  ·simp
  ·intro i e a;rw[pW (λz=>a z.symm),fD]
 ·rfl
theorem EY{n:Nat}{A:Mt}{k j:Nat}(b:k<n)(a:j<n):sN n (λi=>A k i*Fw n A i j)=if k=j then W6 n A else 0:=by
 rw[Zfj a];split
 ·rename_i h;subst h;have:put k (A k) A=A:=by funext r;unfold put;split<;>simp_all
  rw[this]
 ·rename_i h;exact He b a h λc _=>by rw[Vw _ _ h,YW]
abbrev ZE:=Nat×Nat
noncomputable def ind(a b:Nat):Int:=if a=b then 1 else 0
noncomputable def mrg(P:Nat->Nat)(a b:Nat):Nat->Nat:=λx=>if P x=P b then P a else P x
noncomputable def tau:List ZE->(Nat->Nat)->Nat->Nat
 | [],_,0=>1
 | [],_,_+1=>0
 | e::E,P,0=>tau E P 0
 | e::E,P,s+1=>(if P e.1=P e.2 then 0 else tau E (mrg P e.1 e.2) s)+tau E P (s+1)
theorem Zbb{f g:Nat->Int}{q:Nat}:∀{n:Nat},q<n->(∀x,x<n->x≠q->f x=g x)->sN n f=sN n g+(f q-g q):=by
 intro n c h;have e:=ZS (λx=>g x) (λx=>f x-g x) n;have b:sN n f=sN n λx=>g x+(f x-g x):=Zi λx _=>by omega
 rw[b,e,Z3 (f:=λx=>f x-g x) c (λx d a=>by rw[h x d a];omega)]
theorem Zbc{f:Nat->Int}:∀{n:Nat},(∀x,x<n->0<=f x)->0<=sN n f
 | 0,_=>dX 0
 | n+1,h=>by have a:=Zbc (n:=n) λx b=>h x (by omega);have c:=h n (by omega);show 0<=sN n f+f n;omega
noncomputable def prs(n:Nat):List ZE:=(aD n).flatMap λa=>(aD (n-(a+1))).map λj=>(a,a+1+j)
theorem mem_prs{n a b:Nat}:(a,b)∈prs n↔a<b/\b<n:=by
 unfold prs;simp only[g7,aY,ar,pK];constructor
 ·rintro⟨x,d,j,f,rfl,rfl⟩;omega
 ·rintro⟨c,e⟩;exact⟨a,by omega,b-(a+1),by omega,rfl,by omega⟩
structure Wt(n:Nat)(w:Nat->Nat->Int):Prop where
 nn:∀a b,a<n->b<n->0<=w a b
 sy:∀a b,a<n->b<n->w a b=w b a
 dg:∀a,a<n->w a a=0
noncomputable def Pd(n:Nat)(w:Nat->Nat->Int):List ZE:=(prs n).flatMap λp=>aS (w p.1 p.2).toNat p
theorem Zfl(f:ZE->Int):∀n,((prs n).map f).sum=sN n λa=>sN n λb=>if a<b then f (a,b) else 0:=by
 intro n;unfold prs
 have d:∀(l:List Nat)(g:Nat->List ZE),((l.flatMap g).map f).sum=(l.map λa=>((g a).map f).sum).sum:=by
  intro l g
  induction l with
  | nil=>rfl
  | cons a l ih=>rw[js,ay,gE,ih,af,bR]
 rw[d,WH];refine Zi λa e=>?_;rw[bZ,WH]
 -- the c of the row
 have c:∀k,sN (a+1+k) (λb=>if a<b then f (a,b) else 0)=sN k λj=>f (a,a+1+j):=by
  intro k
  induction k with
  | zero=>exact YH λi h=>pW (by omega)
  | succ k ih=>
   show sN (a+1+k) _+(if a<a+1+k then f (a,a+1+k) else 0)=sN k _+f (a,a+1+k);rw[ih,p9 (by omega)]
 have:=c (n-(a+1));rw[show a+1+(n-(a+1))=n by omega] at this;rw[this];rfl
theorem EZ(f:ZE->Int)(p:ZE):∀k:Nat,((aS k p).map f).sum=(k:Int)*f p
 | 0=>by simp
 | k+1=>by rw[dS,af,bR,EZ f p k,Int.natCast_succ,mD];omega
theorem CW{n:Nat}{w:Nat->Nat->Int}(ok:Wt n w)(f:ZE->Int):((Pd n w).map f).sum=sN n λa=>sN n λb=>if a<b then w a b*f (a,b) else 0:=by
 unfold Pd
 have c:∀(l:List ZE)(g:ZE->List ZE),((l.flatMap g).map f).sum=(l.map λa=>((g a).map f).sum).sum:=by
  intro l g
  induction l with
  | nil=>rfl
  | cons a l ih=>rw[js,ay,gE,ih,af,bR]
 rw[c,Zfl (λp=>((aS (w p.1 p.2).toNat p).map f).sum)];refine Zi λa d=>Zi λb e=>?_;split
 ·rw[EZ];rw[g9 (ok.nn a b d e)]
 ·rfl
theorem N8{b:Type}(p:ZE)(g:b->List ZE):∀l:List b,(l.flatMap g).count p=(l.map λa=>(g a).count p).sum
 | []=>rfl
 | a::l=>by rw[js,List.count_append,N8 p g l,af,bR]
theorem Zjn:∀n,n<=7->(prs n).Nodup:=by decide +kernel
theorem LW{f:ZE->Nat}{p:ZE}:∀{l:List ZE},l.Nodup->(∀q∈l,q≠p->f q=0)->(l.map f).sum=if p∈l then f p else 0
 | [],_,_=>by simp
 | q::l,nd,h=>by
  have a:=aq.mp nd;rw[af,bR,LW a.2 λr b=>h r (by simp[b])];by_cases e:q=p
  ·subst e;rw[pW a.1,p9 (by simp)];omega
  ·rw[h q (by simp) e,Nat.zero_add];by_cases z:p∈l
   ·rw[p9 z,p9 (by simp[z])]
   ·rw[pW z,pW (by simp[z];exact λy=>e y.symm)]
theorem Hg{n:Nat}(b:n<=7)(w:Nat->Nat->Int)(p:ZE):(Pd n w).count p=if p∈prs n then(w p.1 p.2).toNat else 0:=by
 unfold Pd;rw[N8,LW (p:=p) (Zjn n b) λq _ a=>?_]
 ·split
  ·rw[List.count_replicate_self]
  ·rfl
 ·rw[List.count_replicate,pW (by simpa using a)]
end PW
namespace PK
open PW
theorem Zbd{f:Nat->Int}{n p q:Nat}(g:p<n)(d:q<n)(ne:p≠q)(h:∀i,i<n->i≠p->i≠q->f i=0):sN n f=f p+f q:=by
 have e:sN n f=sN n (λi=>(if i=p then f p else 0)+(if i=q then f q else 0)):=Zi λi c=>by
  by_cases a:i=p
  ·subst a;simp[ne]
  ·by_cases b:i=q
   ·subst b;simp[a]
   ·simp[a,b,h i c a b]
 rw[e,ZS,Z3 g (λi _ c=>pW c),Z3 d (λi _ c=>pW c),p9 rfl,p9 rfl]
theorem Zbe(f g:Nat->Int)(n:Nat):sN n (λi=>f i-g i)=sN n f-sN n g:=by
 have:sN n (λi=>f i-g i)=sN n (λi=>f i+(-1)*g i):=Zi λi _=>by omega
 rw[this,ZS,ZJ];omega
noncomputable def Xk(m:Nat->Nat)(G:List Nat)(v:Nat):Bool:=G.any λg=>m g==v
theorem hasM_iff{m:Nat->Nat}{G:List Nat}{v:Nat}:Xk m G v=aC↔∃g,g∈G/\m g=v:=by unfold Xk;simp[g6]
noncomputable def b1(b:Bool):Int:=if b=aC then 1 else 0
noncomputable def Bx(n:Nat)(m:Nat->Nat)(G:List Nat):Int:=sN n λv=>b1 (Xk m G v)
noncomputable def ZX(m:Nat->Nat)(a b:Nat):Nat->Nat:=λx=>if m x=m a then m b else m x
theorem Zl6{m:Nat->Nat}{a b:Nat}{G:List Nat}(ne:m a≠m b):Xk (ZX m a b) G (m a)=aB:=by
 cases q:Xk (ZX m a b) G (m a) with
 | false=>rfl
 | true=>
  obtain⟨g,_,e⟩:=hasM_iff.mp q;unfold ZX at e;split at e
  ·exact absurd e.symm ne
  ·rename_i z;exact absurd e z
theorem Zl7{m:Nat->Nat}{a b:Nat}{G:List Nat}:Xk (ZX m a b) G (m b)=(Xk m G (m a) || Xk m G (m b)):=by
 rw[jG,jH,hasM_iff,hasM_iff,hasM_iff];constructor
 ·rintro⟨g,c,e⟩;unfold ZX at e;split at e
  ·rename_i z;exact .inl ⟨g,c,z⟩
  ·exact .inr ⟨g,c,e⟩
 ·rintro(⟨g,c,e⟩ | ⟨g,c,e⟩)
  ·exact⟨g,c,by unfold ZX;rw[p9 e]⟩
  ·exact⟨g,c,by unfold ZX;split<;>first | rfl | exact e⟩
theorem Zl8{m:Nat->Nat}{a b v:Nat}{G:List Nat}(d:v≠m a)(f:v≠m b):Xk (ZX m a b) G v=Xk m G v:=by
 rw[jG,hasM_iff,hasM_iff];constructor
 ·rintro⟨g,c,e⟩;unfold ZX at e;split at e
  ·exact absurd e.symm f
  ·exact⟨g,c,e⟩
 ·rintro⟨g,c,e⟩;exact⟨g,c,by unfold ZX;rw[pW (by rw[e];exact d)];exact e⟩
theorem Hh{n:Nat}{m:Nat->Nat}{a b:Nat}{G:List Nat}(c:m a<n)(f:m b<n)(ne:m a≠m b):Bx n (ZX m a b) G=Bx n m G-b1 (Xk m G (m a)&&Xk m G (m b)):=by
 have e:Bx n (ZX m a b) G-Bx n m G=sN n (λv=>b1 (Xk (ZX m a b) G v)-b1 (Xk m G v)):=(Zbe _ _ n).symm;rw[Zbd c f ne (λi _ d g=>by rw[Zl8 d g];omega),Zl6 ne,Zl7] at e;have:b1 aB-b1 (Xk m G (m a))+(b1 (Xk m G (m a) || Xk m G (m b))-b1 (Xk m G (m b))) = - b1 (Xk m G (m a)&&Xk m G (m b)):=by cases Xk m G (m a)<;>cases Xk m G (m b)<;>decide
 omega
theorem Hi(b:Bool):0<=b1 b:=by cases b<;>decide
theorem Zl9(b:Bool):b1 b<=1:=by cases b<;>decide
noncomputable def Jo(G:List Nat)(e:ZE):Bool:=decide (e.1∈G)&&decide (e.2∈G)
noncomputable def Wb(G:List Nat)(E:List ZE):Int:=(E.map λe=>b1 (Jo G e)).sum
theorem LX(G:List Nat)(E:List ZE)(e:ZE):Wb G (E++[e])=Wb G E+b1 (Jo G e):=by unfold Wb;simp
structure MkOk(n:Nat)(m:Nat->Nat)(T:List ZE):Prop where
 lt:∀x,x<n->m x<n
 le:∀G:List Nat,G.Nodup->(∀g∈G,g<n)->Wb G T+Bx n m G<=G.length
 eq:Wb (aD n) T+Bx n m (aD n)=n
 inn:∀e∈T,e.1<n/\e.2<n
theorem Oo:∀{l m:List Nat},l.Nodup->(∀x∈l,x∈m)->l.length<=m.length
 | [],m,_,_=>dq _
 | x::l,m,nd,sub=>by have a:=aq.mp nd;have c:=sub x (by simp);have:=Oo (l:=l) (m:=m.erase x) a.2 λy b=>(e8 (λz:y=x=>a.1 (by rw[<-z];exact b))).mpr (sub y (by simp[b]));rw[fI c] at this;have:0<m.length:=iT c;simp only[az];omega
theorem QW(p:Nat->Bool):∀n,sN n (λv=>b1 (p v))=(((aD n).filter p).length:Int)
 | 0=>rfl
 | n+1=>by
  show sN n _+b1 (p n)=_;rw[QW p n,eY,gA,aT];cases h:p n<;>simp[jA,h,b1]
theorem MkOk.start(n:Nat):MkOk n (λx=>x) []:=by
 have b:∀(G:List Nat)(v:Nat),Xk (λx=>x) G v=decide (v∈G):=λG v=>by rw[jG,hasM_iff,decide_eq_true_eq];exact⟨λ⟨g,h,e⟩=>e▸h,λh=>⟨v,h,rfl⟩⟩
 refine⟨λx h=>h,λG f j=>?_,?_,by simp⟩
 ·unfold Bx;rw[Zi λi _=>by rw[b],QW]
  have:=Oo (l:=(aD n).filter λv=>decide (v∈G)) (cq.filter _) (λx d=>by
   have:=(bj.mp d).2;simpa using this)
  show(0:Int)+_<=_;omega
 ·unfold Bx;rw[Zi λi _=>by rw[b],QW];rw[jO.mpr λa c=>by simpa using c];show(0:Int)+_=_;simp
theorem MkOk.step{n:Nat}{m:Nat->Nat}{T:List ZE}{a b:Nat}(h:MkOk n m T)(c:a<n)(d:b<n)(ne:m a≠m b):MkOk n (ZX m a b) (T++[(a,b)]):=by
 have i:=h.lt a c;have g:=h.lt b d;have has:∀{G:List Nat}{x:Nat},x∈G->Xk m G (m x)=aC:=λ{G x} f=>hasM_iff.mpr ⟨x,f,rfl⟩;refine⟨λx f=>?_,λG l k=>?_,?_,λe j=>?_⟩
 ·unfold ZX;split
  ·exact g
  ·exact h.lt x f
 ·have:=h.le G l k;rw[LX,Hh i g ne]
  cases q:Jo G (a,b) with
  | true=>
   unfold Jo at q;simp only[aw,decide_eq_true_eq] at q;rw[has q.1,has q.2];show _+b1 aC+(_-b1 aC)<=_;omega
  | false=>
   have:=Hi (Xk m G (m a)&&Xk m G (m b));show _+(0:Int)+_<=_;omega
 ·have:=h.eq;rw[LX,Hh i g ne];have q:Jo (aD n) (a,b)=aC:=by unfold Jo;simp[c,d]
  rw[q,has (aY.mpr c),has (aY.mpr d)];show _+b1 aC+(_-b1 aC)=_;omega
 ·rcases aV.mp j with z | z
  ·exact h.inn e z
  ·rw[aM.mp z];exact⟨c,d⟩
theorem MkOk.few{n:Nat}{m:Nat->Nat}{T:List ZE}(h:MkOk n m T){G:List Nat}(d:G.Nodup)(a:∀g∈G,g<n)(ne:G≠[]):Wb G T<=(G.length:Int)-1:=by
 have l:=h.le G d a;obtain⟨g,b⟩:=g8 G ne
 have j:(1:Int)<=Bx n m G:=by
  have c:=h.lt g (a g b)
  have le:sN n (λv=>if v=m g then(1:Int) else 0)<=sN n λv=>b1 (Xk m G v):=by
   have:0<=sN n (λv=>b1 (Xk m G v)-(if v=m g then(1:Int) else 0)):=by
    have f:∀k,0<=sN k (λv=>b1 (Xk m G v)-(if v=m g then(1:Int) else 0)):=by
     intro k
     induction k with
     | zero=>exact dX _
     | succ k ih=>
      show 0<=sN k _+(b1 (Xk m G k)-(if k=m g then(1:Int) else 0));by_cases z:k=m g
      ·rw[z,hasM_iff.mpr ⟨g,b,rfl⟩,p9 rfl];show 0<=sN (m g) _+((1:Int)-1);rw[z] at ih;omega
      ·rw[pW z];have:=Hi (Xk m G k);omega
    exact f n
   rw[Zbe] at this;omega
  rw[Z3 c λi _ e=>pW e,p9 rfl] at le;exact le
 omega
theorem MkOk.all{n:Nat}{m:Nat->Nat}{T:List ZE}(h:MkOk n m T)(b:0<n)(one:∀x,x<n->m x=m 0):(T.length:Int)=n-1:=by
 have e:=h.eq
 have l:Wb (aD n) T=T.length:=by
  have:∀T:List ZE,(∀e∈T,e.1<n/\e.2<n)->Wb (aD n) T=T.length:=by
   intro T
   induction T with
   | nil=>intro _;rfl
   | cons e T ih=>
    intro a;have q:Jo (aD n) e=aC:=by have:=a e (by simp);unfold Jo;simp[this.1,this.2]
    have:=ih λx f=>a x (by simp[f]);unfold Wb at this ⊢;rw[af,bR,q,az];show(1:Int)+_=_;omega
  exact this T h.inn
 have k:Bx n m (aD n)=1:=by
  unfold Bx;rw[Z3 (h.lt 0 b) λi o d=>?_]
  ·rw[hasM_iff.mpr ⟨0,aY.mpr b,rfl⟩];rfl
  ·cases q:Xk m (aD n) i with
   | false=>rfl
   | true=>
    obtain⟨g,j,c⟩:=hasM_iff.mp q;rw[one g (aY.mp j)] at c;exact absurd c.symm d
 omega
theorem N9{b:Type}:∀{l:List b}{p:Nat}(h:p<l.length),(l[p]::l.eraseIdx p).Perm l
 | a::l,0,h=>iR _
 | a::l,p+1,h=>by have:=N9 (l:=l) (p:=p) (by simpa using h);simp only[ko,kW];exact(oq _ _ _).trans (this.cons a)
noncomputable def Zx(E:List ZE)(i:Nat):ZE:=E.getD i (0,0)
structure TrOk(n:Nat)(E:List ZE)(m:Nat->Nat)(F L:List Nat):Prop where
 mark:MkOk n m (F.map (Zx E))
 nd:(F++L).Nodup
 inn:∀i∈F++L,i<E.length
 done:∀i,i<E.length->i∉L->m (Zx E i).1=m (Zx E i).2
theorem TrOk.start(n:Nat)(E:List ZE):TrOk n E (λx=>x) [] (aD E.length):=
 ⟨MkOk.start n,by simpa using cq,λi a=>by simpa using a,λi a b=>absurd (aY.mpr a) b⟩
theorem Ma{m:Nat->Nat}{a b x y:Nat}(h:m x=m y):ZX m a b x=ZX m a b y:=by unfold ZX;rw[h]
theorem TrOk.step{n:Nat}{E:List ZE}{m:Nat->Nat}{F L:List Nat}{p:Nat}(h:TrOk n E m F L)(l:∀e∈E,e.1<n/\e.2<n)(j:p<L.length) :
  (m (Zx E L[p]).1≠m (Zx E L[p]).2->TrOk n E (ZX m (Zx E L[p]).1 (Zx E L[p]).2) (F++[L[p]]) (L.eraseIdx p))/\
  (m (Zx E L[p]).1=m (Zx E L[p]).2->TrOk n E m F (L.eraseIdx p)):=by
 have f:(L[p]::L.eraseIdx p).Perm L:=N9 j;have d:L[p]<E.length:=h.inn _ (ah _ (bQ j));have k:Zx E L[p]∈E:=by unfold Zx;rw[aF,aE d];exact bQ d
 have sub:∀i∈L.eraseIdx p,i∈L:=λi c=>List.mem_of_mem_eraseIdx c;constructor
 ·intro ne;refine⟨?_,?_,λi c=>?_,λi c g=>?_⟩
  ·rw[ay];exact h.mark.step (l _ k).1 (l _ k).2 ne
  ·have:(F++[L[p]]++L.eraseIdx p).Perm (F++L):=by rw[dj];exact List.Perm.append_left F f
   exact(this.nodup_iff).mpr h.nd
  ·rw[dj] at c;rcases aV.mp c with z | z
   ·exact h.inn i (ao _ z)
   ·rcases aV.mp z with z | z
    ·rw[aM.mp z];exact d
    ·exact h.inn i (ah _ (sub i z))
  ·by_cases e:i=L[p]
   ·subst e;unfold ZX;rw[p9 rfl];split
    ·rfl
    ·rfl
   ·refine Ma (h.done i c λz=>?_);rcases aa.mp (f.mem_iff.mpr z) with y | y
    ·exact e y
    ·exact g y
 ·intro o;refine⟨h.mark,?_,λi c=>?_,λi c g=>?_⟩
  ·have:=h.nd;rw[cN] at this ⊢;exact⟨this.1,this.2.1.sublist (List.eraseIdx_sublist _ _),λa q b s=>this.2.2 a q b (sub b s)⟩
  ·rcases aV.mp c with z | z
   ·exact h.inn i (ao _ z)
   ·exact h.inn i (ah _ (sub i z))
  ·by_cases e:i=L[p]
   ·subst e;exact o
   ·refine h.done i c λz=>?_;rcases aa.mp (f.mem_iff.mpr z) with y | y
    ·exact e y
    ·exact g y
theorem CY(p:Nat->Bool)(f:Nat->Int):∀l:List Nat,(l.map f).sum=((l.filter p).map f).sum+((l.filter λk=>!p k).map f).sum
 | []=>rfl
 | a::l=>by
  have:=CY p f l;cases h:p a<;>simp[jA,h]<;>omega
theorem Mc{b:Type}(l:List b)(d:b):(aD l.length).map (λi=>l.getD i d)=l:=by
 apply fS
 ·simp
 ·intro i a c;simp at a;simp[a]
theorem Zbf{x:Nat}:∀{G:List Nat},G.Nodup->(G.map λg=>b1 (x==g)).sum=b1 (decide (x∈G))
 | [],_=>rfl
 | g::G,nd=>by
  have a:=aq.mp nd;rw[af,bR,Zbf a.2];by_cases e:x=g
  ·subst e;have:decide (x∈G)=aB:=by simp[a.1]
   rw[this];simp[b1]
  ·have b:(x==g)=aB:=by simp[e]
   rw[b];by_cases z:x∈G<;>simp[e,z,b1]
theorem Ts(f g:Nat->Int):∀l:List Nat,(l.map λi=>f i+g i).sum=(l.map f).sum+(l.map g).sum
 | []=>rfl
 | a::l=>by simp only[af,bR,Ts f g l];omega
theorem Hj{G:List Nat}(b:G.Nodup):∀X:List Nat,(G.map λg=>((X.count g:Nat):Int)).sum=(X.map λx=>b1 (decide (x∈G))).sum
 | []=>by
  have:∀G:List Nat,(G.map λg=>(((([]:List Nat)).count g:Nat):Int)).sum=0:=by
   intro G
   induction G with
   | nil=>rfl
   | cons a G ih=>simpa using ih
  rw[this];rfl
 | x::X=>by
  rw[af,bR,<-Hj b X,<-Zbf b,<-Ts];congr 1;refine au λg _=>?_;rw[jJ];by_cases e:x=g
  ·subst e;simp[b1];omega
  ·have:(x==g)=aB:=by simp[e]
   simp[this,b1]
noncomputable def ZV:Nat->List (List Nat)
 | 0=>[[]]
 | n+1=>ZV n++(ZV n).map (·++[n])
theorem Sf:∀{n:Nat}{G:List Nat},G∈ZV n->G.Pairwise (· < ·)/\(∀g∈G,g<n)/\G.length<=n/\(G.length=n->G=aD n)
 | 0,G,h=>by rw[ZV,aM] at h;subst h;simp
 | n+1,G,h=>by
  rw[ZV] at h;rcases aV.mp h with h | h
  ·obtain⟨a,b,c,d⟩:=Sf h;exact⟨a,λg f=>cz (b g f),by omega,λe=>by omega⟩
  ·obtain⟨k,h',rfl⟩:=ar.mp h;obtain⟨a,b,c,d⟩:=Sf h';refine⟨?_,λg f=>?_,by simp;omega,λe=>?_⟩
   ·rw[ip];exact⟨a,by simp,λx i y j=>by rw[aM.mp j];exact b x i⟩
   ·rcases aV.mp f with z | z
    ·exact cz (b g z)
    ·rw[aM.mp z];exact dt _
   ·rw[aT] at e;simp only[bu] at e;rw[d (by omega),eY]
theorem Sg:∀n,∃r,ZV n=[]::r/\∀G∈r,G≠[]
 | 0=>⟨[],rfl,by simp⟩
 | n+1=>by
  obtain⟨r,e,h⟩:=Sg n;refine⟨r++(ZV n).map (·++[n]),by rw[ZV,e];rfl,λG a=>?_⟩;rcases aV.mp a with z | z
  ·exact h G z
  ·obtain⟨b,_,rfl⟩:=ar.mp z;simp
theorem Vq(p:Nat->Bool):∀n,(aD n).filter p∈ZV n
 | 0=>by simp[ZV]
 | n+1=>by
  rw[eY,gA,ZV];have:=Vq p n;cases h:p n
  ·simp only[jA,h];rw[dW];exact ao _ this
  ·simp only[jA,h];exact ah _ (gj this)
theorem Md:∀n,(ZV n).length=2^n
 | 0=>rfl
 | n+1=>by rw[ZV,aT,aJ,Md n,Nat.pow_succ];omega
section
variable (w:Nat->Nat->Int)
noncomputable def Fx(h:Nat)(G:List Nat):Int:=(G.map (w h)).sum
noncomputable def tw(G:List Nat):Int:=(G.map λi=>Fx w i G).sum
theorem Zfm{n:Nat}(d:∀a b,a<n->b<n->w a b=w b a)(f:∀a,a<n->w a a=0){G:List Nat}(j:∀g∈G,g<n){h:Nat}(c:h<n):tw w (G++[h])=tw w G+2*Fx w h G:=by
 unfold tw Fx;simp only[af,fX,bR,List.sum_nil,ay,gE];rw[Ts (λi=>(G.map (w i)).sum) (λi=>w i h+0) G,f h c];have:(G.map λi=>w i h+0).sum=(G.map (w h)).sum:=by congr 1;refine au λg e=>?_;rw[d g h (j g e) c];omega
 rw[this];omega
noncomputable def Hk(D:Nat->Int)(G:List Nat):Int:=(G.map D).sum+G.length-1-tw w G/2
theorem Zbg{n:Nat}(d:∀a b,a<n->b<n->w a b=w b a)(f:∀a,a<n->w a a=0)(D:Nat->Int){G:List Nat}(c:∀g∈G,g<n){h:Nat}(e:h<n):Hk w D (G++[h])=Hk w D G+D h+1-Fx w h G:=by unfold Hk;rw[Zfm w d f c e,ay,gE,aT];simp only[af,fX,bR,List.sum_nil,bu];omega
end
theorem Sh{n:Nat}(f:Nat->Int):∀{G:List Nat},G.Nodup->(∀g∈G,g<n)->(G.map f).sum=sN n λi=>b1 (decide (i∈G))*f i
 | [],_,_=>by rw[YH λi _=>by simp[b1]];rfl
 | g::G,nd,hG=>by
  have a:=aq.mp nd;rw[af,bR,Sh f a.2 λx c=>hG x (by simp[c])]
  have:sN n (λi=>b1 (decide (i∈g::G))*f i)=sN n (λi=>(if i=g then f g else 0)+b1 (decide (i∈G))*f i):=Zi λi b=>by
   by_cases e:i=g
   ·subst e;simp[a.1,b1]
   ·simp[e]
  rw[this,ZS,Z3 (k:=g) (hG g (by simp)) λi _ b=>pW b,p9 rfl]
theorem Zfn{n:Nat}{u:Nat->Nat->Int}(f:∀a b,a<n->b<n->u a b=u b a)(h:∀a,a<n->u a a=0):sN n (λa=>sN n (u a))=2*sN n (λa=>sN n λb=>if a<b then u a b else 0):=by
 have e:sN n (λa=>sN n (u a))=sN n (λa=>sN n (λb=>if a<b then u a b else 0)+sN n (λb=>if b<a then u b a else 0)):=Zi λa c=>by
  rw[<-ZS];refine Zi λb g=>?_;by_cases d:a<b
  ·rw[p9 d];omega
  ·by_cases i:b<a
   ·rw[f a b c g];omega
   ·have:a=b:=by omega
    subst this;rw[h a c];simp
 rw[e,ZS,UD (λa b=>if b<a then u b a else 0) n n];omega
end PK
namespace PW
open PK
structure WS where
 L:List Nat
 F:List Nat
 B:List (Nat×Nat×Nat)
noncomputable def Vx(E:List ZE)(L F:List Nat):Option Nat:=(aD E.length).find? λk=>!decide (k∈L)&&(decide ((Zx E k).1∈F) != decide ((Zx E k).2∈F))
noncomputable def YG(E:List ZE)(F:List Nat)(k:Nat):Nat:=if(Zx E k).1∈F then(Zx E k).2 else(Zx E k).1
noncomputable def Fy(E:List ZE)(h j:Nat):Bool:=decide (h=(Zx E j).1) || decide (h=(Zx E j).2)
noncomputable def YR(E:List ZE)(L:List Nat)(h:Nat):Nat:=(L.filter (Fy E h)).length
noncomputable def Yr(E:List ZE)(φ:Nat->Nat->Nat->Bool)(s:WS)(k:Nat):WS:=
 if φ k (YG E s.F k) (YR E (s.L++[k]) (YG E s.F k))=aC then⟨s.L++[k],s.F++[YG E s.F k],s.B++[(k,YG E s.F k,YR E (s.L++[k]) (YG E s.F k))]⟩ else⟨s.L++[k],s.F,s.B⟩
noncomputable def ZZ(E:List ZE)(φ:Nat->Nat->Nat->Bool):Nat->WS->WS
 | 0,s=>s
 | n+1,s=>match Vx E s.L s.F with
  | some k=>ZZ E φ n (Yr E φ s k)
  | none=>s
noncomputable def Sn(b:Nat):WS:=⟨[],[b],[]⟩
theorem Wc{E:List ZE}{L F:List Nat}{k:Nat}(h:Vx E L F=ax k):k<E.length/\k∉L/\(decide ((Zx E k).1∈F) != decide ((Zx E k).2∈F))=aC:=by have a:=jK h;have b:=dY h;simp only[aw,ju,decide_eq_false_iff_not] at a;exact⟨aY.mp b,a⟩
theorem LY{E:List ZE}{L F:List Nat}(h:Vx E L F=aA){k:Nat}(d:k<E.length)(c:k∉L):(Zx E k).1∈F↔(Zx E k).2∈F:=by
 have:=eM.mp h k (aY.mpr d);simp only[c] at this;by_cases a:(Zx E k).1∈F
 ·by_cases b:(Zx E k).2∈F
  ·exact⟨λ_=>b,λ_=>a⟩
  ·simp[a,b] at this
 ·by_cases b:(Zx E k).2∈F
  ·simp[a,b] at this
  ·exact⟨λz=>absurd z a,λz=>absurd z b⟩
theorem Tt{E:List ZE}{L F:List Nat}{k:Nat}(h:Vx E L F=ax k):YG E F k∉F/\Fy E (YG E F k) k=aC/\∃o∈F,(Zx E k=(o,YG E F k)\/Zx E k=(YG E F k,o)):=by
 obtain⟨_,_,c⟩:=Wc h;unfold YG Fy;by_cases a:(Zx E k).1∈F
 ·by_cases b:(Zx E k).2∈F
  ·simp[a,b] at c
  ·rw[p9 a];exact⟨b,by simp,_,a,.inl rfl⟩
 ·by_cases b:(Zx E k).2∈F
  ·rw[pW a];exact⟨a,by simp,_,b,.inr rfl⟩
  ·simp[a,b] at c
theorem Hl{E:List ZE}{L:List Nat}{k h:Nat}(a:Fy E h k=aC):YR E (L++[k]) h=YR E L h+1:=by unfold YR;rw[gA,aT];simp[a]
theorem Hm{E:List ZE}{L:List Nat}{k h:Nat}(a:Fy E h k=aB):YR E (L++[k]) h=YR E L h:=by unfold YR;rw[gA,aT];simp[a]
structure WInv(E:List ZE)(n b:Nat)(s:WS):Prop where
 ndL:s.L.Nodup
 ltL:∀k∈s.L,k<E.length
 ndF:s.F.Nodup
 ltF:∀h∈s.F,h<n
 hB:s.F=b::s.B.map (·.2.1)
 bl:∀x∈s.B,x.1∈s.L
 ndB:(s.B.map (·.1)).Nodup
 cn:∀q:Nat->Nat,(∀x∈s.B,q (Zx E x.1).1=q (Zx E x.1).2)->∀h∈s.F,q h=q b
theorem WInv.start{E:List ZE}{n b:Nat}(e:b<n):WInv E n b (Sn b):=
 ⟨cH,λk c=>by simp[Sn] at c,by simp[Sn],λh a=>by simp[Sn] at a;omega,rfl,λx d=>by simp[Sn] at d,by simp[Sn],λq _ h a=>by simp[Sn] at a;rw[a]⟩
theorem Si{b:Type}{l:List b}{a:b}(h:l.Nodup)(n:a∉l):(l++[a]).Nodup:=by grind
theorem WInv.step{E:List ZE}{n b k:Nat}{s:WS}{φ:Nat->Nat->Nat->Bool}(D:∀e∈E,e.1<n/\e.2<n)(i:WInv E n b s)(u:Vx E s.L s.F=ax k):WInv E n b (Yr E φ s k):=by
 obtain⟨l,p,_⟩:=Wc u;obtain⟨w,G,o,F,t⟩:=Tt u;have c:=Si i.ndL p
 have f:∀j∈s.L++[k],j<E.length:=λj B=>by
  rcases aV.mp B with z | z
  ·exact i.ltL j z
  ·rw[aM.mp z];exact l
 have C:Zx E k∈E:=by unfold Zx;rw[aF,aE l];exact bQ l
 have lt:YG E s.F k<n:=by
  have:=D _ C;rcases t with z | z<;>rw[z] at this
  ·exact this.2
  ·exact this.1
 unfold Yr;split
 ·refine⟨c,f,Si i.ndF w,λh g=>?_,?_,λx a=>?_,?_,λq m h g=>?_⟩
  ·rcases aV.mp g with z | z
   ·exact i.ltF h z
   ·rw[aM.mp z];exact lt
  ·show s.F++[_]=b::(s.B++[_]).map _;rw[ay,<-oE,<-i.hB];rfl
  ·rcases aV.mp a with z | z
   ·exact ao _ (i.bl x z)
   ·rw[aM.mp z];exact ah _ (by simp)
  ·show((s.B++[_]).map _).Nodup;rw[ay];refine Si i.ndB λz=>?_;obtain⟨x,a,A⟩:=ar.mp z;have:=i.bl x a;rw[A] at this;exact p this
  ·have d:=i.cn q λx a=>m x (ao _ a);rcases aV.mp g with z | z
   ·exact d h z
   ·rw[aM.mp z];have:=m (k,YG E s.F k,YR E (s.L++[k]) (YG E s.F k)) (ah _ (by simp));have v:=d o F;rcases t with y | y
    ·rw[y] at this;exact this.symm.trans v
    ·rw[y] at this;exact this.trans v
 ·exact⟨c,f,i.ndF,i.ltF,i.hB,λx a=>ao _ (i.bl x a),i.ndB,i.cn⟩
theorem WInv.walk{E:List ZE}{n b:Nat}{φ:Nat->Nat->Nat->Bool}(a:∀e∈E,e.1<n/\e.2<n):∀{m:Nat}{s:WS},WInv E n b s->WInv E n b (ZZ E φ m s)
 | 0,s,i=>i
 | m+1,s,i=>by
  unfold ZZ;split
  ·rename_i k c;exact WInv.walk a (i.step a c)
  ·exact i
theorem RX{n:Nat}:∀{l:List Nat},l.Nodup->(∀x∈l,x<n)->l.length<=n:=by
 induction n with
 | zero=>
  intro l _ h
  cases l with
  | nil=>simp
  | cons a r=>exact absurd (h a (by simp)) (by omega)
 | succ n ih=>
  intro l d h
  have f:=ih (l:=l.filter (· != n)) (d.filter _) λx b=>by
   have:=bj.mp b;have i:=h x this.1;have j:x≠n:=by simpa using this.2
   omega
  have i:l.length<=(l.filter (· != n)).length+1:=by
   clear h f ih
   induction l with
   | nil=>simp
   | cons a r ih2=>
    have c:=aq.mp d;rw[List.filter_cons];by_cases e:a=n
    ·subst e;have:r.filter (· != a)=r:=jO.mpr λx b=>by have:x≠a:=λz=>c.1 (z▸b);simpa using this
     simp[this]
    ·have g:(a != n)=aC:=by simpa using e
     rw[g];simp only[if_true,az];have:=ih2 c.2;omega
  omega
theorem RY{E:List ZE}{n b:Nat}{φ:Nat->Nat->Nat->Bool}(a:∀e∈E,e.1<n/\e.2<n):∀{m:Nat}{s:WS},WInv E n b s->E.length<=m+s.L.length->Vx E (ZZ E φ m s).L (ZZ E φ m s).F=aA
 | 0,s,i,h=>by
  unfold ZZ
  cases z:Vx E s.L s.F with
  | none=>rfl
  | some k=>
   obtain⟨d,c,_⟩:=Wc z
   have:=RX (n:=E.length) (Si i.ndL c) λx f=>by
    rcases aV.mp f with y | y
    ·exact i.ltL x y
    ·rw[aM.mp y];exact d
   rw[aT,bu] at this;omega
 | m+1,s,i,h=>by
  unfold ZZ
  cases z:Vx E s.L s.F with
  | none=>exact z
  | some k=>
   refine RY a (i.step a z) ?_
   have:(Yr E φ s k).L.length=s.L.length+1:=by
    unfold Yr;split<;>simp
   omega
theorem Fz(E:List ZE)(φ:Nat->Nat->Nat->Bool)(s:WS)(k:Nat):(Yr E φ s k).L=s.L++[k]:=by unfold Yr;split<;>rfl
theorem LZ{E:List ZE}{φ:Nat->Nat->Nat->Bool}:∀{m:Nat}{s:WS}{x:Nat×Nat×Nat},x∈s.B->x∈(ZZ E φ m s).B
 | 0,s,x,h=>h
 | m+1,s,x,h=>by
  unfold ZZ;split
  ·refine LZ ?_;unfold Yr;split
   ·exact ao _ h
   ·exact h
  ·exact h
theorem Me{E:List ZE}{φ a:Nat->Nat->Nat->Bool}{b:Nat}(h:∀k g c,g≠b->φ k g c=a k g c):∀{m:Nat}{s:WS},b∈s.F->ZZ E φ m s=ZZ E a m s
 | 0,s,_=>rfl
 | m+1,s,hb=>by
  unfold ZZ
  cases z:Vx E s.L s.F with
  | none=>rfl
  | some k=>
   obtain⟨d,_⟩:=Tt z;have ne:YG E s.F k≠b:=λy=>d (y▸hb);have same:Yr E φ s k=Yr E a s k:=by unfold Yr;rw[h _ _ _ ne]
   simp only;rw[same];refine Me h ?_;unfold Yr;split
   ·exact ao _ hb
   ·exact hb
noncomputable def By(D:Nat->Int):Nat->Nat->Nat->Bool:=λ_ h c=>decide (D h<(c:Int))
structure PInv(E:List ZE)(n:Nat)(D:Nat->Int)(s:WS):Prop where
 out:∀h,h<n->h∉s.F->(YR E s.L h:Int)<=D h
 bur:∀x∈s.B,(x.2.2:Int)=D x.2.1+1
theorem PInv.step{E:List ZE}{n b k:Nat}{D:Nat->Int}{s:WS}(A:∀e∈E,e.1<n/\e.2<n)(p:PInv E n D s)(m:Vx E s.L s.F=ax k):PInv E n D (Yr E (By D) s k):=by
 obtain⟨q,F,_⟩:=Wc m;obtain⟨u,t,o,C,l⟩:=Tt m;have w:Zx E k∈E:=by unfold Zx;rw[aF,aE q];exact bQ q
 have lt:YG E s.F k<n:=by
  have:=A _ w;rcases l with z | z<;>rw[z] at this
  ·exact this.2
  ·exact this.1
 have W7:∀g,g∉s.F->g≠YG E s.F k->Fy E g k=aB:=λg B f=>by
  unfold Fy;have v:g≠o:=λz=>B (z▸C);rcases l with z | z<;>rw[z]<;>simp[v,f]
 have H:=p.out _ lt u;have G:=Hl (L:=s.L) t;unfold Yr By;split
 ·rename_i c;have c:=of_decide_eq_true c;refine⟨λh i a=>?_,λx y=>?_⟩
  ·have j:=λz=>a (ao _ z);have d:h≠YG E s.F k:=λz=>a (ah _ (by simp[z]));rw[Hm (W7 h j d)];exact p.out h i j
  ·rcases aV.mp y with z | z
   ·exact p.bur x z
   ·rw[aM.mp z];show((YR E (s.L++[k]) (YG E s.F k):Nat):Int)=D (YG E s.F k)+1;omega
 ·rename_i c;have c:¬D (YG E s.F k)<(YR E (s.L++[k]) (YG E s.F k):Int):=λz=>c (decide_eq_true z);refine⟨λh i a=>?_,p.bur⟩;by_cases d:h=YG E s.F k
  ·rw[d];show(YR E (s.L++[k]) (YG E s.F k):Int)<=_;omega
  ·rw[Hm (W7 h a d)];exact p.out h i a
theorem PInv.walk{E:List ZE}{n:Nat}{D:Nat->Int}(a:∀e∈E,e.1<n/\e.2<n):∀{m:Nat}{s:WS},PInv E n D s->PInv E n D (ZZ E (By D) m s)
 | 0,s,i=>i
 | m+1,s,i=>by
  unfold ZZ;split
  ·rename_i k c;exact PInv.walk a (i.step (b:=0) a c)
  ·exact i
theorem PInv.start{E:List ZE}{n b:Nat}{D:Nat->Int}(h:∀g,g<n->g≠b->0<=D g):PInv E n D (Sn b):=
 ⟨λg a d=>by
  have:g≠b:=λz=>d (by simp[Sn,z]);have:=h g a this;simp only[Sn,YR,List.filter_nil];omega,λx c=>by simp[Sn] at c⟩
end PW
namespace PK
open PW
noncomputable def Jp(m:Nat->Nat):List ZE->Nat->Nat
 | []=>m
 | e::T=>Jp (ZX m e.1 e.2) T
noncomputable def swE(e:ZE):ZE:=(e.2,e.1)
theorem Hn:∀{T:List ZE}{m:Nat->Nat}{x y:Nat},m x=m y->Jp m T x=Jp m T y
 | [],m,x,y,h=>h
 | e::T,m,x,y,h=>Hn (T:=T) (Ma h)
theorem FA(m:Nat->Nat)(a b:Nat):ZX m a b a=ZX m a b b:=by
 unfold ZX;rw[p9 rfl];split<;>rfl
theorem Ho:∀{T:List ZE}{m:Nat->Nat},∀e∈T,Jp m T e.1=Jp m T e.2
 | [],m,e,h=>by simp at h
 | f::T,m,e,h=>by
  rcases aa.mp h with rfl | h
  ·exact Hn (T:=T) (FA m _ _)
  ·exact Ho (T:=T) e h
theorem E1:∀(A B:List ZE)(m:Nat->Nat),Jp m (A++B)=Jp (Jp m A) B
 | [],B,m=>rfl
 | e::A,B,m=>E1 A B (ZX m e.1 e.2)
theorem CZ{n:Nat}{m:Nat->Nat}{T:List ZE}(h:MkOk n m T)(B:0<n)(len:(T.length:Int)=n-1){q:Nat->Nat}(u:∀e∈T,q e.1=q e.2):∀x,x<n->q x=q 0:=λx v=>by
 refine cA λne=>?_;let G:=(aD n).filter λy=>decide (q y=q 0);let d:=(aD n).filter λy=>!decide (q y=q 0);have i:∀y,y∈G↔y<n/\q y=q 0:=λy=>by show y∈(aD n).filter (λy=>decide (q y=q 0))↔_;rw[bj,aY,decide_eq_true_eq]
 have b:∀y,y∈d↔y<n/\¬q y=q 0:=λy=>by show y∈(aD n).filter (λy=>!decide (q y=q 0))↔_;rw[bj,aY];simp
 have f1:=h.few (G:=G) (cq.filter _) (λg s=>((i g).mp s).1) (iB ((i 0).mpr ⟨B,rfl⟩));have C:=h.few (G:=d) (cq.filter _) (λg s=>((b g).mp s).1) (iB ((b x).mpr ⟨v,ne⟩))
 have k:∀l:List ZE,(∀e∈l,q e.1=q e.2/\e.1<n/\e.2<n)->Wb G l+Wb d l=l.length:=by
  intro l
  induction l with
  | nil=>intro _;rfl
  | cons e l ih=>
   intro t;have c:=t e (by simp);have:=ih λf A=>t f (by simp[A]);unfold Wb at this ⊢;rw[af,af,bR,bR,az]
   have one:b1 (Jo G e)+b1 (Jo d e)=1:=by
    unfold Jo;by_cases z:q e.1=q 0
    ·have j:e.1∈G:=(i _).mpr ⟨c.2.1,z⟩;have p:e.2∈G:=(i _).mpr ⟨c.2.2,by rw[<-c.1];exact z⟩;have o:e.1∉d:=λw=>((b _).mp w).2 z;simp[j,p,o,b1]
    ·have j:e.1∈d:=(b _).mpr ⟨c.2.1,z⟩;have p:e.2∈d:=(b _).mpr ⟨c.2.2,by rw[<-c.1];exact z⟩;have o:e.1∉G:=λw=>z ((i _).mp w).2;simp[j,p,o,b1]
   omega
 have s1:=k T λe c=>⟨u e c,h.inn e c⟩
 have D:G.length+d.length=n:=by
  have:∀l:List Nat,(l.filter λy=>decide (q y=q 0)).length+(l.filter λy=>!decide (q y=q 0)).length=l.length:=by
   intro l
   induction l with
   | nil=>rfl
   | cons a l ih=>
    by_cases z:q a=q 0<;>simp[jA,z]<;>omega
  have:=this (aD n);rw[bt] at this;exact this
 omega
theorem Mf{a:Int}:∀{l:List Int},(∀x∈l,x=a)->l.foldl (λ(c:List Int) k=>if c.any (·==k) then c else c++[k]) [a]=[a]
 | [],_=>rfl
 | b::l,h=>by
  have d:=h b (by simp);subst d;rw[gy];have:([b].any (·==b))=aC:=by simp
  rw[p9 this];exact Mf λx e=>h x (by simp[e])
end PK
namespace PW
open L2 VL
theorem Zbh{f g:XS}{s:ZG}{v:PV}(a:f s=ax (.rt v)):Zn f g s=ax (.rt v):=by rw[O9,a];rfl
section
variable {s:ZG} {f g:XE} {a b:Int} {C:Int->Int->Prop} [∀i j,Decidable (C i j)] {op:Int->Int->Int}
theorem vC(d:f s=ax (.int a))(e:g s=ax (.int b))(c:C a b):Zm (gIC C op) f g s=ax (.int (op a b)):=by rw[XD,d,e];simp only[aQ,Zi9,p9 c]
theorem vI(c:f s=ax (.int a))(d:g s=ax (.int b)):Zm (gI op) f g s=ax (.int (op a b)):=by rw[XD,c,d];rfl
theorem vP(b:f s=ax (.int a)):eP f s=ax (.int a):=by rw[U6,b];rfl
theorem M3{v:PV}(a:f s=ax v):ZQ f s=ax (.rt v):=by rw[AF,a];rfl
end
noncomputable def C0(M:List (List Int))(a b:Nat)(t:Int):List (List Int):=Qf (Qf M a b t) b a t
theorem Oq{n:Nat}{M:List (List Int)}{a b:Nat}{t:Int}(ok:MatOk n M)(c:a<n)(d:b<n)(i j:Nat):ZM (C0 M a b t) i j=if b=i/\a=j then t else if a=i/\b=j then t else ZM M i j:=by obtain⟨f,e⟩:=WT ok.len ok.row c;unfold C0;rw[OM f e d c,OM ok.len ok.row c d]
theorem Zjo{n:Nat}{M:List (List Int)}{a b:Nat}{t:Int}(ok:MatOk n M)(f:a<n)(g:b<n)(e:a≠b)(o:0<=t)(q:t<=9):MatOk n (C0 M a b t):=by
 obtain⟨m,k⟩:=WT ok.len ok.row f;obtain⟨h,l⟩:=WT m k g;have E:=Oq (t:=t) ok f g;refine⟨h,l,λi j c d=>?_,λi j c d=>?_,λi j c d=>?_,λi c=>?_⟩
 ·have:=ok.lo i j c d;rw[E];split<;>(try split)<;>omega
 ·have:=ok.hi i j c d;rw[E];split<;>(try split)<;>omega
 ·have:=ok.sym i j c d;rw[E,E];by_cases p:b=i/\a=j
  ·rw[p9 p];by_cases p2:b=j/\a=i
   ·rw[p9 p2]
   ·rw[pW p2,p9 ⟨p.2,p.1⟩]
  ·rw[pW p];by_cases p2:a=i/\b=j
   ·rw[p9 p2,p9 ⟨p2.2,p2.1⟩]
   ·rw[pW p2,pW (λz=>p2 ⟨z.2,z.1⟩),pW (λz=>p ⟨z.2,z.1⟩)];exact this
 ·rw[E,pW (λz=>e (by omega)),pW (λz=>e (by omega))];exact ok.dia i c
theorem L0{s:ZG}{n:Nat}(h:s[3]?=ax (ax (.int (n:Int))))(a:n<=7):Zw 1 [3] (Yk [Za 3]) (.one 0) ZD (Zm Gu (WA [eC (.int 0)]) (Za 1)) s=ax (.lst (rL (aS n (aS n 0)))):=by
 rw[ZL (aD n) (λi=>.int (i:Int)) (λ_=>.lst (iL (aS n 0))) (Xd (by simp[h]) (by omega)) (by simp;omega) (λi _=>⟨_,rfl,rfl,?_⟩)]
 ·unfold rL;rw[List.map_const',bt,nE]
 ·have e:Gu (.lst [.int 0]) (.int (n:Int))=ax (.lst (iL (aS n 0))):=by show(if ZC [PV.int 0]=aC/\(-1000000:Int)<=(n:Int)/\(n:Int)<=1000000/\[PV.int 0].length*((n:Int)).toNat<=10000 then ax (PV.lst (aS ((n:Int)).toNat [PV.int 0]).flatten) else aA)=_;rw[p9 ⟨rfl,by omega,by omega,by simp;omega⟩];simp
  simp[ZH,h,e]
noncomputable def Grown(M:List (List Int))(l:List Int)(k:Nat):Prop:=∀j,1<=j->j<k->∃j',j'<j/\0<ZM M (Zl l j).toNat (Zl l j').toNat
theorem Grown.mono{M c:List (List Int)}{l:List Int}{k:Nat}(h:Grown M l k)(g:∀i j,0<ZM M i j->0<ZM c i j):Grown c l k:=λj d e=>by obtain⟨f,a,b⟩:=h j d e;exact⟨f,a,g _ _ b⟩
theorem Grown.conn{M:List (List Int)}{l:List Int}{n:Nat}(h:Grown M l n)(s:M.length=n)(d:NamesOk n l):V3 M:=by
 intro P t i j g m;rw[s] at g m;have lt:∀x,x<n->(Zl l x).toNat<M.length:=λx c=>by have:=d.at c;omega
 have all:∀k,k<n->(P (Zl l k).toNat↔P (Zl l 0).toNat):=by
  intro k
  induction k using lM with
  | ind k ih=>
   intro o;by_cases q:k=0
   ·subst q;exact Iff.rfl
   ·obtain⟨p,a,b⟩:=h k (by omega) o;exact(t _ _ (lt k o) (lt p (by omega)) b).trans (ih p a (by omega))
 have f:∀i,i<n->∃x,x<n/\(Zl l x).toNat=i:=λi g=>by have:=M1 d.nd (λx c=>⟨x.toNat,by have:=d.hi x c;omega,by have:=d.lo x c;omega⟩) d.len g;obtain⟨x,c,e⟩:=Jn this;exact⟨x,by rw[<-d.len];exact c,by rw[e];rfl⟩
 obtain⟨x,c,rfl⟩:=f i g;obtain⟨y,u,rfl⟩:=f j m;exact(all x c).trans (all y u).symm
theorem Zfo{n:Nat}{M:List (List Int)}{a b:Nat}{t:Int}(ok:MatOk n M)(d:a<n)(e:b<n)(c:0<t):(∀i j,0<ZM M i j->0<ZM (C0 M a b t) i j)/\0<ZM (C0 M a b t) a b:=by
 refine⟨λi j h=>?_,?_⟩
 ·rw[Oq ok d e];split
  ·exact c
  ·split
   ·exact c
   ·exact h
 ·rw[Oq ok d e];split
  ·exact c
  ·rw[p9 ⟨rfl,rfl⟩];exact c
noncomputable def nL(l:List Nat):List Int:=l.map λ(i:Nat)=>(i:Int)
theorem Mg{y:Nat}{l:List Nat}:(y:Int)∈nL l↔y∈l:=by unfold nL;rw[ar];exact⟨λ⟨a,h,e⟩=>by rw[show y=a by omega];exact h,λh=>⟨y,h,rfl⟩⟩
noncomputable def Z6(W:List (List Int))(h:Nat)(F:List Nat):Int:=(F.map λo=>ZM W h o).sum
theorem ties_comp2{W:List (List Int)}{h i j k:Nat}{F:List Nat}{s:ZG}(ok:Zt W)(a:h<W.length)(m:∀x∈F,x<W.length)(n:F.length<=100)(d:s[i]?=ax (ax (wP W)))(e:s[j]?=ax (ax (.int (h:Int))))(b:s[k]?=ax (ax (.lst (iL (nL F))))) :
  Ze Rq [Zw 1 [i,j] (YL (Za k)) (.one 0) ZD (Zm ZR (Zm ZR (Za 1) (Za 2)) (Za 0))] s=ax (.int (Z6 W h F)):=by
 have c:Zw 1 [i,j] (YL (Za k)) (.one 0) ZD (Zm ZR (Zm ZR (Za 1) (Za 2)) (Za 0)) s=ax (.lst (iL (F.map λo=>ZM W h o))):=by
  rw[ZL F (λ(o:Nat)=>.int (o:Int)) (λo=>.int (ZM W h o)) (by simp[b,nL]) (by omega) (λo f=>⟨_,rfl,rfl,?_⟩)]
  ·simp
  ·have g:=ok.sq h a;have:=YD (l:=ZA W h) (k:=o) (by rw[g];exact m o f);simp[ZH,d,e,TX a,this];rfl
 simp only[Yl,Zy,Od,c,aQ,bz];exact Gw _
theorem Pe{W:List (List Int)}{h:Nat}{F:List Nat}{X:PV}(ok:Zt W)(b:h<W.length)(f:∀x∈F,x<W.length)(g:F.length<=100)(e:xSq (Za 2) [ax (wP W),ax (.int (h:Int)),ax X]=ax (iL (nL F))):X3 [wP W,.int (h:Int),X]=ax (.int (Z6 W h F)):=by
 have c:Zw 1 [0,1] (xSq (Za 2)) (.one 0) ZD (Zm ZR (Zm ZR (Za 1) (Za 2)) (Za 0)) [ax (wP W),ax (.int (h:Int)),ax X]=ax (.lst (iL (F.map λo=>ZM W h o))):=by
  rw[ZL F (λ(o:Nat)=>.int (o:Int)) (λo=>.int (ZM W h o)) (by rw[e];simp[nL]) (by omega) (λo d=>⟨_,rfl,rfl,?_⟩)]
  ·simp
  ·have:=YD (l:=ZA W h) (k:=o) (by rw[ok.sq h b];exact f o d);simp[ZH,TX b,this];rfl
 show YF 3 Qp _=_;unfold Qp;show(ZQ _ [ax (wP W),ax (.int (h:Int)),ax X]).bind U5=_
 rw[M3 (vP (a:=Z6 W h F) (by
  simp only[Yl,Zy,Od,c,aQ,bz];exact Gw _))]
 rfl
theorem FC{W:List (List Int)}{h:Nat}{F:List Nat}(ok:Zt W)(b:h<W.length)(c:∀x∈F,x<W.length)(a:F.length<=100):X3 [wP W,.int (h:Int),.lst (iL (nL F))]=ax (.int (Z6 W h F)):=Pe ok b c a (Zlx rfl)
theorem QX{d:Type}{T:Tgt}{fb:XS}{q g:d->PV}{c:d->Bool}(S:ZG->Prop):∀{ls:List d}{s:ZG},(∀a∈ls,∀s,S s->∃s1,Xg T (q a) s=ax s1/\((c a=aC->fb s1=ax (.rt (g a)))/\(c a=aB->∃s2,fb s1=ax (.nx s2)/\S s2)))->S s->
  match ls.find? c with | some a=>VG T fb (ls.map q) s=ax (.rt (g a)) | none=>∃s',VG T fb (ls.map q) s=ax (.nx s')/\S s'
 | [],s,_,h0=>⟨s,rfl,h0⟩
 | a::r,s,h,h0=>by
  obtain⟨s1,f,k,m⟩:=h a ag s h0;rw[c9]
  cases ca:c a with
  | true=>
   show VG T fb (q a::r.map q) s=_;unfold VG;rw[f];simp only[aQ,k ca]
  | false=>
   obtain⟨s2,i,n⟩:=m ca;have j:=QX S (ls:=r) (s:=s2) (λb l=>h b (aN _ l)) n
   have e:VG T fb ((a::r).map q) s=VG T fb (r.map q) s2:=by
    show VG T fb (q a::r.map q) s=_;unfold VG;rw[f];simp only[aQ,i];cases r.map q<;>rfl
   rw[e];exact j
noncomputable def YX(W:List (List Int))(D:List Int)(F:List Nat):Option Nat:=(aD W.length).find? λh=>!decide (h∈F)&&decide (Zl D h<Z6 W h F)
noncomputable def UT:Option Nat->PV
 | none=>.non
 | some h=>.int (h:Int)
theorem Jq(y:Nat)(l:List Nat):PF aC (.int (y:Int)) (.lst (iL (nL l)))=ax (.bl (!decide (y∈l))):=by rw[Zhf];have:=Mg (y:=y) (l:=l);simp[this]
theorem RZ(y:Nat)(l:List Nat):PF aB (.int (y:Int)) (.lst (iL (nL l)))=ax (.bl (decide (y∈l))):=by rw[Zhf];have:=Mg (y:=y) (l:=l);simp[this]
theorem QY{W:List (List Int)}{D:List Int}{F:List Nat}(ok:Zt W)(hd:D.length=W.length)(l:∀x∈F,x<W.length)(j:F.length<=100):Z5 [wP W,pP D,.lst (iL (nL F))]=ax (UT (YX W D F)):=by
 have m:=ok.few
 have a:=QX (T:=.many [3,4]) (fb:=Ru (OO (xB (Zm (PF aC) (Za 3) (Za 2))) (xB (Zm MO (Za 4) (Ze X3 [Za 0,Za 3,Za 2])))) (ZQ (eP (Za 3))) YE) (q:=λ(i:Nat)=>.tup [.int (i:Int),.int (Zl D i)]) (g:=λ(i:Nat)=>.int (i:Int)) (c:=λh=>!decide (h∈F)&&decide (Zl D h<Z6 W h F))
  (λst=>∃x y,st=[ax (wP W),ax (pP D),ax (.lst (iL (nL F))),x,y]) (ls:=aD W.length) (s:=[ax (wP W),ax (pP D),ax (.lst (iL (nL F))),aA,aA]) (by
   rintro h d st ⟨x,y,rfl⟩;have d:=aY.mp d;have e:=FC ok d l j;refine⟨_,rfl,λb=>?_,λb=>?_⟩
   ·simp only[aw,ju,decide_eq_false_iff_not,decide_eq_true_eq] at b;simp[setAll,Jq,b.1,e,b.2]
   ·refine⟨[ax (wP W),ax (pP D),ax (.lst (iL (nL F))),ax (.int (h:Int)),ax (.int (Zl D h))],?_,_,_,rfl⟩;by_cases q:h∈F
    ·simp[setAll,Jq,q]
    ·have:¬Zl D h<Z6 W h F:=λz=>by simp[q,z] at b
     simp[setAll,Jq,q,e,this]) ⟨_,_,rfl⟩
 have f:Xf aB [Za 1] [ax (wP W),ax (pP D),ax (.lst (iL (nL F))),aA,aA]=ax ((aD W.length).map λ(i:Nat)=>.tup [.int (i:Int),.int (Zl D i)]):=by have:=Oj D;rw[hd] at this;simp[this]
 show YF 5 Wo _=_;unfold Wo;show(Zn (YU [] _ _ _) _ [ax (wP W),ax (pP D),ax (.lst (iL (nL F))),aA,aA]).bind U5=_;unfold YX
 cases q:(aD W.length).find? λh=>!decide (h∈F)&&decide (Zl D h<Z6 W h F) with
 | some h=>
  rw[q] at a;rw[Zbh (v:=.int (h:Int))]
  ·rfl
  ·show(Xf aB [Za 1] [ax (wP W),ax (pP D),ax (.lst (iL (nL F))),aA,aA]).bind _=_;rw[f];exact a
 | none=>
  rw[q] at a;obtain⟨n,k,x,y,rfl⟩:=a;rw[W5 (s1:=[ax (wP W),ax (pP D),ax (.lst (iL (nL F))),x,y])]
  ·rfl
  ·show(Xf aB [Za 1] [ax (wP W),ax (pP D),ax (.lst (iL (nL F))),aA,aA]).bind _=_;rw[f];exact k
theorem Zjp{c:XT}{fb:XS}(g:ZG->Prop)(j:ZG->Nat)(step:∀st,g st->c st=ax aB\/(c st=ax aC/\∃s2,fb st=ax (.nx s2)/\g s2/\j s2<j st)){s:ZG}(o:g s) :
  ∃f,XC c fb s=ax (.nx f)/\g f/\c f=ax aB:=by
 have l:∀(k:Nat)(st:ZG),j st<k->g st->∃f,YT c fb k st=ax (.nx f)/\g f/\c f=ax aB:=by
  intro k
  induction k with
  | zero=>intro st h;omega
  | succ k ih=>
   intro st p n;rcases step st n with i | ⟨i,s2,e,m,q⟩
   ·exact⟨st,by unfold YT;rw[i];rfl,n,i⟩
   ·obtain⟨f,a,b,d⟩:=ih s2 (by omega) m;refine⟨f,?_,b,d⟩;unfold YT;rw[i];simp only[aQ,if_true,e];exact a
 obtain⟨f,a,b,d⟩:=l (j s+1) s (by omega) o;exact⟨f,Lx a,b,d⟩
structure Burn(W:List (List Int))(D:List Int)(b:Nat)(F:List Nat):Prop where
 nd:F.Nodup
 lt:∀x∈F,x<W.length
 hd:F[0]?=ax b
 st:∀k,1<=k->k<F.length->YX W D (F.take k)=F[k]?
theorem Burn.len{W:List (List Int)}{D:List Int}{b:Nat}{F:List Nat}(h:Burn W D b F):F.length<=W.length:=by
 have d:(nL F).Nodup:=List.Pairwise.map _ (λa b z=>by omega) h.nd;have:=V4 d λy e=>by obtain⟨a,c,rfl⟩:=ar.mp e;exact ar.mpr ⟨a,aY.mpr (h.lt a c),rfl⟩
 simpa [nL] using this
theorem Burn.pos{W:List (List Int)}{D:List Int}{b:Nat}{F:List Nat}(h:Burn W D b F):1<=F.length:=(aR.mp h.hd).1
theorem Burn.one{W:List (List Int)}{D:List Int}{b:Nat}(a:b<W.length):Burn W D b [b]:=⟨by simp,λx c=>by rw[aM.mp c];exact a,rfl,λk e d=>by simp at d;omega⟩
theorem UE{W:List (List Int)}{D:List Int}{F:List Nat}{h:Nat}(e:YX W D F=ax h):h<W.length/\h∉F/\Zl D h<Z6 W h F:=by have a:=jK e;have b:=dY e;simp only[aw,ju,decide_eq_false_iff_not,decide_eq_true_eq] at a;exact⟨aY.mp b,a⟩
theorem Mh{W:List (List Int)}{D:List Int}{F:List Nat}(e:YX W D F=aA){h:Nat}(a:h<W.length)(b:h∉F):Z6 W h F<=Zl D h:=by have:=eM.mp e h (aY.mpr a);simp[b] at this;exact this
theorem Burn.add{W:List (List Int)}{D:List Int}{b h:Nat}{F:List Nat}(B:Burn W D b F)(e:YX W D F=ax h):Burn W D b (F++[h]):=by
 obtain⟨i,g,_⟩:=UE e;have n:=B.pos;refine⟨?_,λx d=>?_,?_,λk m j=>?_⟩
 ·rw[cN];exact⟨B.nd,by simp,λa f c l z=>by rw[aM.mp l] at z;exact g (z▸f)⟩
 ·rcases aV.mp d with d | d
  ·exact B.lt x d
  ·rw[aM.mp d];exact i
 ·rw[aj (by omega)];exact B.hd
 ·rw[aT,bu] at j;by_cases q:k<F.length
  ·rw[fU (by omega),aj q];exact B.st k m q
  ·have:k=F.length:=by omega
   subst this;rw[oQ,e]
   ·simp
   ·rfl
theorem Mi{W:List (List Int)}{D:List Int}{b:Nat}(ok:Zt W)(hd:D.length=W.length)(j:b<W.length):∃F,Vl [wP W,pP D,.int (b:Int)]=ax (.lst (iL (nL F)))/\Burn W D b F/\YX W D F=aA:=by
 have q:=ok.few;have i:∀F:List Nat,Burn W D b F->Z5 [wP W,pP D,.lst (iL (nL F))]=ax (UT (YX W D F)):=λF B=>QY ok hd B.lt (by have:=B.len;omega)
 obtain⟨t,n,⟨F,rfl,B⟩,g⟩:=Zjp (c:=xB (Rj aC (Za 4))) (fb:=Zn (Yz 3 (eP (Za 4))) (Zs 4 (Ze Z5 [Za 0,Za 1,Za 3])))
  (λst=>∃F,st=[ax (wP W),ax (pP D),ax (.int (b:Int)),ax (.lst (iL (nL F))),ax (UT (YX W D F))]/\Burn W D b F)
  (λst=>match st[3]? with | some (ax (PV.lst l))=>8-l.length | _=>0) (by
   rintro st ⟨F,rfl,B⟩
   cases e:YX W D F with
   | none=>exact .inl (by simp[Af,UT])
   | some h=>
    have f:=B.add e;have k:=f.len;rw[aT,bu] at k;refine .inr ⟨by simp[Af,UT],[ax (wP W),ax (pP D),ax (.int (b:Int)),ax (.lst (iL (nL (F++[h])))),ax (UT (YX W D (F++[h])))],?_,⟨F++[h],rfl,f⟩,?_⟩
    ·have d:Yz 3 (eP (Za 4)) [ax (wP W),ax (pP D),ax (.int (b:Int)),ax (.lst (iL (nL F))),ax (UT (ax h))]=ax (.nx [ax (wP W),ax (pP D),ax (.int (b:Int)),ax (.lst (iL (nL (F++[h])))),ax (UT (ax h))]):=by rw[Um (m:=iL (nL F)) (l:=.int (h:Int)) rfl rfl (by simp[nL];omega)];simp[nL]
     have a:Zs 4 (Ze Z5 [Za 0,Za 1,Za 3]) [ax (wP W),ax (pP D),ax (.int (b:Int)),ax (.lst (iL (nL (F++[h])))),ax (UT (ax h))]=ax (.nx [ax (wP W),ax (pP D),ax (.int (b:Int)),ax (.lst (iL (nL (F++[h])))),ax (UT (YX W D (F++[h])))]):=by have:=i _ f;generalize p:iL (nL (F++[h]))=z at this ⊢;simp[this]
     rw[W5 d,a]
    ·show 8-(iL (nL (F++[h]))).length<8-(iL (nL F)).length;simp[nL];omega) (s:=[ax (wP W),ax (pP D),ax (.int (b:Int)),ax (.lst (iL (nL [b]))),ax (UT (YX W D [b]))]) ⟨[b],rfl,Burn.one j⟩
 have o:YX W D F=aA:=by
  cases e:YX W D F with
  | none=>rfl
  | some h=>rw[e] at g;simp[Af,UT] at g
 refine⟨F,?_,B,o⟩;have d:Zs 3 (WA [eP (Za 2)]) [ax (wP W),ax (pP D),ax (.int (b:Int)),aA,aA]=ax (.nx [ax (wP W),ax (pP D),ax (.int (b:Int)),ax (.lst (iL (nL [b]))),aA]):=by simp[nL]
 have a:Zs 4 (Ze Z5 [Za 0,Za 1,Za 3]) [ax (wP W),ax (pP D),ax (.int (b:Int)),ax (.lst (iL (nL [b]))),aA]=ax (.nx [ax (wP W),ax (pP D),ax (.int (b:Int)),ax (.lst (iL (nL [b]))),ax (UT (YX W D [b]))]):=by have:=i _ (Burn.one j);generalize p:iL (nL [b])=z at this ⊢;simp[this]
 show YF 5 KQ _=_;unfold KQ;show(Zn _ _ [ax (wP W),ax (pP D),ax (.int (b:Int)),aA,aA]).bind U5=_;rw[W5 d,W5 a,W5 n];rfl
noncomputable def Hq(W:List (List Int))(D:List Int)(b:Nat):List Nat:=open Classical in if h:∃F,Vl [wP W,pP D,.int (b:Int)]=ax (.lst (iL (nL F)))/\Burn W D b F/\YX W D F=aA then h.choose else []
theorem C1{W:List (List Int)}{D:List Int}{b:Nat}(ok:Zt W)(hd:D.length=W.length)(a:b<W.length):Vl [wP W,pP D,.int (b:Int)]=ax (.lst (iL (nL (Hq W D b))))/\Burn W D b (Hq W D b)/\YX W D (Hq W D b)=aA:=by have:=Mi ok hd a;unfold Hq;rw[dif_pos this];exact this.choose_spec
theorem Burn.uniq{W:List (List Int)}{D:List Int}{b:Nat}{F G:List Nat}(f:Burn W D b F)(d:Burn W D b G)(i:YX W D F=aA)(g:YX W D G=aA):F=G:=by
 have n:=f.pos;have m:=d.pos
 have a:∀k,k<=F.length->k<=G.length->F.take k=G.take k:=by
  intro k
  induction k with
  | zero=>intros;simp
  | succ k ih=>
   intro l j;have e:=ih (by omega) (by omega);rw[gY,gY,e];congr 1;by_cases q:k=0
   ·subst q;rw[f.hd,d.hd]
   ·rw[<-f.st k (by omega) (by omega),<-d.st k (by omega) (by omega),e]
 rcases Nat.lt_trichotomy F.length G.length with h | h | h
 ·have:=a F.length (by omega) (by omega);rw[ck] at this;have c:=d.st F.length (by omega) h;rw[<-this,i,aE h] at c;cases c
 ·have:=a F.length (by omega) (by omega);rw[ck,h,ck] at this;exact this
 ·have:=a G.length (by omega) (by omega);rw[ck] at this;have c:=f.st G.length (by omega) h;rw[this,g,aE h] at c;cases c
noncomputable def Xl(D:List Int)(b:Nat):List Nat:=(aD D.length).filter λh=>!decide (h=b)&&decide (Zl D h<0)
theorem S3{D:List Int}{b:Nat}(e:D.length<=1000):YZ [pP D,.int (b:Int)]=ax (.lst (iL (nL (Xl D b)))):=by
 have d:Xf aB [Za 0] [ax (pP D),ax (.int (b:Int))]=ax ((aD D.length).map λ(i:Nat)=>.tup [.int (i:Int),.int (Zl D i)]):=by have:=Oj D;simp[this]
 have a:Zw 2 [1] (Xf aB [Za 0]) (.many [0,1]) (OO (xB (Zm (Xz aC) (Za 0) (Za 2))) (xB (Zm MO (Za 1) (eC (.int 0))))) (eP (Za 0)) [ax (pP D),ax (.int (b:Int))]=ax (.lst (iL (nL (Xl D b)))):=by
  rw[XG (aD D.length) (λ(i:Nat)=>.tup [.int (i:Int),.int (Zl D i)]) (λ(i:Nat)=>.int (i:Int)) (λh=>!decide (h=b)&&decide (Zl D h<0)) d (by simp;omega) λy f=>⟨[ax (.int (y:Int)),ax (.int (Zl D y)),ax (.int (b:Int))],by simp[ZH,D5],?_,λ_=>by simp⟩]
  ·unfold nL Xl iL;rw[bZ];rfl
  ·by_cases q:y=b
   ·subst q;simp
   ·have c:¬(y:Int)=(b:Int):=by omega
    simp[q,c]
 show YF 2 Qq _=_;unfold Qq;show(ZQ _ [ax (pP D),ax (.int (b:Int))]).bind U5=_;rw[M3 a];rfl
theorem debt_nil{D:List Int}{b:Nat}:Xl D b=[]↔∀h,h<D.length->h≠b->0<=Zl D h:=by
 unfold Xl;rw[kz];constructor
 ·intro h x a c;have:=h x (aY.mpr a);simp[c] at this;exact this
 ·intro h x a;by_cases q:x=b
  ·simp[q]
  ·have:=h x (aY.mp a) q;simp[q];omega
theorem Zbi{D:List Int}{b h:Nat}:h∈Xl D b↔h<D.length/\h≠b/\Zl D h<0:=by unfold Xl;rw[bj,aY];simp
theorem Mj:∀{l:List Int},(∀x∈l,0<=x)->0<=l.sum
 | [],_=>by simp
 | x::r,h=>by rw[bR];have:=h x ag;have:=Mj (l:=r) λy a=>h y (aN _ a);omega
end PW
set_option maxHeartbeats 2000000
namespace PW
open PySem L2 VL VX
section
variable {f g h k l:XE} {s s1:ZG} {a b c d e v r:PV} {i m:Nat} {F G:XS} {x y:XT} {o:Option Out} {p:Bool} {D:List PV->Option PV} {R:Option PV} {ls:List PV}
theorem XX(q:F (ZP m ls)=ax (.rt v)):YF m F ls=ax v:=by show(F (ZP m ls)).bind U5=_;rw[q];rfl
theorem Zma(q:F (ZP m ls)=ax (.nx s)):YF m F ls=ax .non:=by show(F (ZP m ls)).bind U5=_;rw[q];rfl
theorem sq(q:F s=ax (.nx s1))(w:G s1=o):Zn F G s=o:=(W5 q).trans w
theorem Zp(q:f s=ax v):Zs i f s=ax (.nx (s.set i (ax v))):=by rw[Yf,q];rfl
theorem ep(q:f s=ax v)(w:ZO v=aC:=by rfl):eP f s=ax v:=by rw[U6,q,aQ,p9 w]
theorem HS{l:List Int}(q:f s=ax (pP l)):eP f s=ax (pP l):=ep q (ZY _)
theorem c1(q:f s=ax a)(w:D [a]=R):Ze D [f] s=R:=by show((f s).bind λx=>ax [x]).bind D=_;rw[q];exact w
theorem c2(q:f s=ax a)(c:g s=ax b)(w:D [a,b]=R):Ze D [f,g] s=R:=by rw[Yl,Zy,q,Zy,c];exact w
theorem c3(q:f s=ax a)(e:g s=ax b)(d:h s=ax c)(w:D [a,b,c]=R):Ze D [f,g,h] s=R:=by rw[Yl,Zy,q,Zy,e,Zy,d];exact w
theorem c4(q:f s=ax a)(j:g s=ax b)(i:h s=ax c)(e:k s=ax d)(w:D [a,b,c,d]=R):Ze D [f,g,h,k] s=R:=by rw[Yl,Zy,q,Zy,j,Zy,i,Zy,e];exact w
theorem c5(q:f s=ax a)(n:g s=ax b)(m:h s=ax c)(i:k s=ax d)(j:l s=ax e)(w:D [a,b,c,d,e]=R):Ze D [f,g,h,k,l] s=R:=by rw[Yl,Zy,q,Zy,n,Zy,m,Zy,i,Zy,j];exact w
theorem o2{op:PV->PV->Option PV}(q:f s=ax a)(c:g s=ax b)(w:op a b=R):Zm op f g s=R:=by rw[XD,q,c];exact w
theorem xb(q:f s=ax (.bl p)):xB f s=ax p:=by rw[U7,q];rfl
theorem xn(q:x s=ax p):Py x s=ax !p:=by rw[Ry,q];rfl
theorem xo{p2:Bool}(q:x s=ax p)(a:y s=ax p2):Gj x y s=ax (p || p2):=by
 rw[Rx,q];cases p
 ·exact a
 ·rfl
theorem ea{p2:Bool}(q:f s=ax (.bl p))(a:g s=ax (.bl p2)):Kr f g s=ax (.bl (p&&p2)):=by
 rw[Io,xb q];cases p
 ·rfl
 ·exact a
theorem gof(q:x s=ax aB):Ru x F YE s=ax (.nx s):=by rw[Vk,q];rfl
theorem ret(q:f s=ax v):ZQ f s=ax (.rt v):=M3 q
theorem neq{l:List Int}(q:f s=ax (pP l))(a:g s=ax (pP l)):xB (Zm (Xz aC) f g) s=ax aB:=xb (o2 q a (by simp))
theorem Zmb{w:PV}(q:f s=ax w):sEx f s=ax (.nx s):=by show(f s).map _=_;rw[q];rfl
end
theorem Zfp{f g:XE}{s:ZG}{l:List Int}{k:Nat}(b:f s=ax (pP l))(a:g s=ax (.int (k:Int)))(h:k<l.length):O0 PH f MR (Qk g) s=ax (pP (l.take k)):=by rw[Oe,b];simp only[aQ,EC];unfold Qk;rw[a];simp only[aQ];unfold PH;simp only[];rw[pW,Za8];rw[HT.sIx_none,HT.sIx_nat,aJ];omega
theorem Zfq{f g:XE}{s:ZG}{l:List Int}{k:Nat}(b:f s=ax (pP l))(a:g s=ax (.int (k:Int)))(h:k<l.length):O0 PH f (Qk (Zm YJ g (eC (.int 1)))) MR s=ax (pP (l.drop (k+1))):=by
 have a:Zm YJ g (eC (.int 1)) s=ax (.int ((k+1:Nat):Int)):=by rw[XD,a];rfl
 rw[Oe,b];simp only[aQ,EC];unfold Qk;rw[a];simp only[aQ];unfold PH;simp only[];rw[pW,Za9];rw[HT.sIx_none,HT.sIx_nat,aJ];omega
theorem E2{a b:List Int}(h:a.length+b.length<=1000):LF (pP a) (pP b)=ax (pP (a++b)):=by unfold LF;simp only[];rw[p9 (by rw[aJ,aJ];omega),<-ay]
noncomputable def Y9(F:XS)(s:ZG)(Q:PV->Prop):Prop:=∃v,F s=ax (.rt v)/\Q v
noncomputable def WI(F:XS)(s:ZG)(R:ZG->Prop):Prop:=∃s1,F s=ax (.nx s1)/\R s1
section
variable {F G:XS} {s s1:ZG} {Q:PV->Prop} {R:ZG->Prop} {v:PV} {f g:XE} {x:XT} {p:Bool} {m i k n:Nat} {ls:List PV} {O:List Nat} {fi:XL} {T:Tgt} {fb:XS} {a b:Int}
theorem Pf(h:Y9 F (ZP m ls) Q):∃v,YF m F ls=ax v/\Q v:=by obtain⟨v,e,q⟩:=h;exact⟨v,XX e,q⟩
theorem Pg(h:Y9 F (ZP m ls) λw=>w=v):YF m F ls=ax v:=by obtain⟨_,e,rfl⟩:=Pf h;exact e
theorem ZU(q:F s=ax (.nx s1))(h:Y9 G s1 Q):Y9 (Zn F G) s Q:=by obtain⟨v,e,a⟩:=h;exact⟨v,sq q e,a⟩
theorem Wv(h:WI F s R)(a:∀s1,R s1->Y9 G s1 Q):Y9 (Zn F G) s Q:=by obtain⟨s1,e,r⟩:=h;exact ZU e (a s1 r)
theorem Vy(q:f s=ax v)(h:Q v):Y9 (ZQ f) s Q:=⟨v,ret q,h⟩
theorem Zmc(q:x s=ax aC)(h:Y9 F s Q):Y9 (Zn (Ru x F YE) G) s Q:=by obtain⟨v,e,a⟩:=h;exact⟨v,Zbh (by rw[Vk,q];exact e),a⟩
theorem R0(q:F s=ax (.nx s1))(h:R s1):WI F s R:=⟨s1,q,h⟩
theorem Z4(q:F s=ax (.nx s1))(h:WI G s1 R):WI (Zn F G) s R:=by obtain⟨s2,e,r⟩:=h;exact⟨s2,sq q e,r⟩
theorem L3{R2:ZG->Prop}(h:WI F s R)(a:∀s1,R s1->WI G s1 R2):WI (Zn F G) s R2:=by obtain⟨s1,e,r⟩:=h;exact Z4 e (a s1 r)
theorem Zfr{R2:ZG->Prop}(h:WI F s R)(a:∀s1,R s1->R2 s1):WI F s R2:=by obtain⟨s1,e,r⟩:=h;exact⟨s1,e,a s1 r⟩
theorem L4(q:x s=ax p)(a:p=aC->WI F s R)(b:p=aB->WI G s R):WI (Ru x F G) s R:=by
 unfold WI;rw[Vk,q];cases p
 ·exact b rfl
 ·exact a rfl
theorem Tu(I:Nat->ZG->Prop)(b:fi (Xr O s)=ax ls)(c:I 0 s)(st:∀i l s,ls[i]?=ax l->I i s->∃s1,Xg T l s=ax s1/\WI fb s1 (I (i+1))):WI (YU O fi T fb) s (I ls.length):=by
 obtain⟨j,e,q⟩:=U9 I c λi l s d h=>by obtain⟨s1,f,s2,a,g⟩:=st i l s d h;exact⟨s1,s2,f,a,g⟩
 refine⟨j,?_,q⟩;unfold YU;rw[b];exact e
theorem Mk(I:Nat->ZG->Prop)(e:f (Xr O s)=ax (.int (n:Int)))(a:I 0 s)(st:∀i s,i<n->I i s->WI fb (s.set k (ax (.int (i:Int)))) (I (i+1)))(d:n<=10000:=by omega):WI (YU O (Yk [f]) (.one k) fb) s (I n):=by
 have:=Tu (T:=.one k) (fb:=fb) I (Xd e d) a λi l s b h=>by obtain⟨c,rfl⟩:=AK b;exact⟨_,rfl,st i s c h⟩
 rwa [AL] at this
theorem Zbj(I:Nat->ZG->Prop)(d:f (Xr O s)=ax (.int (m:Int)))(j:g (Xr O s)=ax (.int (n:Int)))(a:I m s)(st:∀i s,m<=i->i<n->I i s->WI fb (s.set k (ax (.int (i:Int)))) (I (i+1)))(c:m<=n:=by omega)(p:n<=10000:=by omega):WI (YU O (VF [f,g]) (.one k) fb) s (I n):=by
 have e:((n:Int)-(m:Int)).toNat=n-m:=by omega
 have:=Tu (T:=.one k) (fb:=fb) (λi=>I (m+i)) (LD d j (by omega) (by omega)) a λi l s b h=>by obtain⟨o,rfl⟩:=Ir b;exact⟨_,rfl,st (m+i) s (by omega) (by omega) h⟩
 rwa [Iu,e,show m+(n-m)=n by omega] at this
theorem Zfs{d:Type}{L:List d}{q g:d->PV}(c:d->Bool)(I:ZG->Prop)(f:fi (Xr O s)=ax (L.map q))(j:I s)(st:∀a∈L,∀s,I s->∃s1,Xg T (q a) s=ax s1/\(c a=aC->fb s1=ax (.rt (g a)))/\(c a=aB->WI fb s1 I))(l:∀a,L.find? c=ax a->Q (g a))(m:L.find? c=aA->∀s1,I s1->Y9 G s1 Q):Y9 (Zn (YU O fi T fb) G) s Q:=by
 have b:=QX (T:=T) (fb:=fb) (g:=g) I st j;have e:∀o,VG T fb (L.map q) s=o->YU O fi T fb s=o:=λo h=>by unfold YU;rw[f];exact h
 cases z:L.find? c with
 | some a=>rw[z] at b;exact⟨_,Zbh (e _ b),l a z⟩
 | none=>
  rw[z] at b;obtain⟨s1,k,i⟩:=b;exact ZU (e _ k) (m z s1 i)
theorem goT{o:Option Out}(q:x s=ax aC)(w:F s=o):Ru x F G s=o:=by rw[Vk,q];exact w
theorem Zhg{b:Type}{L:List b}{q g:b->PV}{H:XS}(c:b->Bool)(I:ZG->Prop)(k:fi (Xr O s)=ax (L.map q))(j:I s)(st:∀a∈L,∀s,I s->∃s1,Xg T (q a) s=ax s1/\x s1=ax (c a)/\H s1=ax (.rt (g a))/\I s1)(n:∀a,L.find? c=ax a->Q (g a))(m:L.find? c=aA->∀s1,I s1->Y9 G s1 Q):Y9 (Zn (YU O fi T (Ru x H YE)) G) s Q:=
 Zfs (g:=g) c I k j (λa f s i=>by
  obtain⟨s1,e,d,l,o⟩:=st a f s i;exact⟨s1,e,λh=>goT (by rw[d,h]) l,λh=>R0 (gof (by rw[d,h])) o⟩) n m
theorem Zmd{X:List Nat}(I:Nat->ZG->Prop)(a:fi (Xr O s)=ax (iL (nL X)))(c:I 0 s)(st:∀i s (h:i<X.length),I i s->WI fb (s.set k (ax (.int ((X[i]:Nat):Int)))) (I (i+1))):WI (YU O fi (.one k) fb) s (I X.length):=by
 have:=Tu (T:=.one k) (fb:=fb) I a c λi l s b h=>by
  have a:i<X.length:=by have:=(aR.mp b).1;simpa [nL] using this
  have e:l = .int ((X[i]:Nat):Int):=by rw[Qm (by simpa [nL] using a)] at b;rw[<-bC b];simp[nL,Zl,a]
  subst e;exact⟨_,rfl,st i s a h⟩
 rwa [show(iL (nL X)).length=X.length by simp[nL]] at this
theorem vmd(q:f s=ax (.int a))(c:g s=ax (.int b))(h:0<b:=by omega):Zm Ve f g s=ax (.int (a%b)):=vC q c h
theorem vdv(q:f s=ax (.int a))(c:g s=ax (.int b))(h:0<b:=by omega)(d:b<=10000:=by omega):Zm SD f g s=ax (.int (a/b)):=vC q c (Zjb h d)
theorem FD(q:f s=ax (.int a))(c:g s=ax (.int b)):Zm YJ f g s=ax (.int (a+b)):=vI q c
theorem Bz(q:f s=ax (.int a))(c:g s=ax (.int b)):Zm Wi f g s=ax (.int (a-b)):=vI q c
theorem vlt{a b:Nat}(q:f s=ax (.int (a:Int)))(c:g s=ax (.int (b:Int))):Zm MO f g s=ax (.bl (decide (a<b))):=o2 q c (by
 show ax (PV.bl (decide ((a:Int)<(b:Int))))=_;rw[decide_eq_decide.mpr Int.ofNat_lt])
theorem vgt{a b:Nat}(q:f s=ax (.int (a:Int)))(c:g s=ax (.int (b:Int))):Zm El f g s=ax (.bl (decide (b<a))):=o2 q c (by
 show ax (PV.bl (decide ((a:Int)>(b:Int))))=_;rw[decide_eq_decide.mpr Int.ofNat_lt])
theorem vge(q:f s=ax (.int a))(c:g s=ax (.int b)):Zm oGe f g s=ax (.bl (decide (b<=a))):=o2 q c rfl
theorem C2(q:f s=ax (.int a))(c:g s=ax (.int b)):Zm (Xz aB) f g s=ax (.bl (decide (a=b))):=o2 q c (by rw[Uk];rfl)
theorem xa{y:XT}{p2:Bool}(q:x s=ax p)(a:y s=ax p2):OO x y s=ax (p&&p2):=by
 rw[AE,q];cases p
 ·rfl
 ·exact a
theorem un1{op:PV->Option PV}{S:Option PV}(q:f s=ax v)(w:op v=S):Pz op f s=S:=by unfold Pz;rw[q];exact w
theorem Zme{u w:PV}(q:f s=ax u)(a:g s=ax w):Wz [f,g] s=ax (.tup [u,w]):=by rw[Rw,Zy,q,Zy,a];rfl
theorem Ml{S:Option PV}(q:x s=ax aC)(w:f s=S):OP x f g s=S:=by rw[Rz,q];exact w
theorem Mm{S:Option PV}(q:x s=ax aB)(w:g s=S):OP x f g s=S:=by rw[Rz,q,aQ,pW (by decide)];exact w
theorem Jr{a:Type}(h:a->PV){L:List a}{y:a}(q:f s=ax (h y))(b:MI s i=ax (L.map h))(c:L.length<=9000):Yz i f s=ax (.nx (s.set i (ax (.lst ((L++[y]).map h))))):=by rw[Um q b (by rw[aJ];omega),ay];rfl
theorem Zft{a:Type}(h:a->PV){L M:List a}(q:f s=ax (.lst (M.map h)))(b:MI s i=ax (L.map h))(c:L.length+M.length<=10000):WC i f s=ax (.nx (s.set i (ax (.lst ((L++M).map h))))):=by rw[Nc q b (by rw[aJ,aJ];omega),ay]
theorem Js{L:List Nat}(q:f s=ax (.int (k:Int)))(a:MI s i=ax (iL (nL L)))(b:L.length<=9000):Yz i f s=ax (.nx (s.set i (ax (.lst (iL (nL (L++[k]))))))):=by rw[Um q a (by simp[nL];omega)];simp[nL]
theorem Zjq{l:List Int}(q:f s=ax (.int (Zl l k)))(c:MI s i=ax (iL (l.take k)))(a:k<l.length)(d:l.length<=9000):Yz i f s=ax (.nx (s.set i (ax (.lst (iL (l.take (k+1))))))):=by
 have e:l.take (k+1)=l.take k++[Zl l k]:=by rw[dP a];simp[Zl,aF,aE a]
 rw[Um q c (by simp;omega),e];have b:iL (l.take k++[Zl l k])=iL (l.take k)++[PV.int (Zl l k)]:=ay;rw[b]
theorem Zjr(Q:List Int):Xt (iL Q)=(aD Q.length).map λ(i:Nat)=>.tup [.int (i:Int),.int (Zl Q i)]:=by
 rw[Y6,aJ];exact au λi a=>by rw[XH Q i (aY.mp a)]
theorem Vr{W:List (List Int)}:ZN [wP W]=ax (.int (W.length:Int)):=by show ax (PV.int ((W.map pP).length:Int))=_;rw[aJ]
theorem Zmf{W:List (List Int)}{a b:Nat}{h:XE}(c:a<W.length)(i:b<(ZA W a).length)(q:f s=ax (wP W))(e:g s=ax (.int (a:Int)))(d:h s=ax (.int (b:Int))):Zm ZR (Zm ZR f g) h s=ax (.int (ZM W a b)):=o2 (o2 q e (TX c)) d (YD i)
theorem FE{l:List Int}(q:f s=ax (.int (k:Int)))(d:g s=ax (.int a))(c:MI s i=ax (iL l))(b:k<l.length):SM i f g s=ax (.nx (s.set i (ax (.lst (iL (l.set k a)))))):=by rw[D6 d q c (ZY _) rfl (RF (by rw[aJ];exact b)),<-ky]
theorem Zbk{o:List Int}(q:f s=ax (.int (n:Int)))(c:g s=ax (.int a))(b:MI s i=ax (iL o))(e:n<=1000)(d:o.length<=1000):TR i f g s=ax (.nx (s.set i (ax (.lst (iL (o.take n++a::o.drop n)))))):=by rw[Gx q c b (ZY o) rfl (by omega) (by omega) (by rw[aJ];omega),bV,Zjm]
end
end PW
namespace PW
theorem QZ{f:Nat->Int}{q:Nat}:∀{m:Nat},q<=m->(∀k,q<=k->k<m->f k=0)->sN m f=sN q f
 | 0,h,_=>by rw[show q=0 by omega]
 | m+1,h,z=>by
  by_cases e:q=m+1
  ·rw[e]
  ·show sN m f+f m=_;rw[QZ (m:=m) (by omega) (λk a b=>z k a (by omega)),z m (by omega) (by omega)];omega
theorem E3{f:Nat->Int}{q i:Nat}:∀{m:Nat},q<=i->i<m->(∀k,q<=k->k<m->k≠i->f k=0)->sN m f=sN q f+f i
 | 0,_,h,_=>by omega
 | m+1,hq,hi,z=>by
  show sN m f+f m=_;by_cases e:i=m
  ·subst e;rw[QZ (q:=q) (by omega) λk a b=>z k a (by omega) (by omega)]
  ·rw[E3 (m:=m) hq (by omega) (λk a b=>z k a (by omega)),z m (by omega) (by omega) (λq=>e q.symm)];omega
noncomputable def Ww(m:Nat)(X:Mt):Nat->Mt×Int
 | 0=>(X,1)
 | p+1=>(λi j=>if i=p then(Ww m X p).1 i j else((Ww m X p).1 p p*(Ww m X p).1 i j-(Ww m X p).1 i p*(Ww m X p).1 p j).fdiv (Ww m X p).2,(Ww m X p).1 p p)
structure BOk(m:Nat)(A X:Mt):Prop where
 sym:∀i j,i<m->j<m->A i j=A j i
 inj:∀p,p<=m->∀z:Nat->Int,(∀j,j<p->sN p (λk=>z k*A k j)=0)->∀k,k<p->z k=0
 ext:∀i j,i<m->j<m->X i j=A i j
structure Zn6(m p:Nat)(X:Mt)(E:Mt)(d:Int)(i:Nat)(a:Nat->Int):Prop where
 off:∀k,k<m->p<=k->k≠i->a k=0
 on:p<=i->a i=d
 val:∀j,j<=m->E i j=sN m (λk=>a k*X k j)
 uni:∀j,j<p->E i j=if i=j then d else 0
structure Zjt(m:Nat)(A X:Mt)(p:Nat)(E:Mt)(d:Int):Prop where
 de:d=W6 p A
 nz:d≠0
 row:∀i,i<m->∃a,Zn6 m p X E d i a
theorem Mn{m:Nat}{A X:Mt}{p:Nat}{E:Mt}{d:Int}(ok:BOk m A X)(S:p<m)(I:Zjt m A X p E d) :
  Zjt m A X (p+1) (λi j=>if i=p then E i j else(E p p*E i j-E i p*E p j).fdiv d) (E p p)/\∀i j,i<m->j<=m->i≠p->∃q,E p p*E i j-E i p*E p j=d*q:=by
 obtain⟨u,t⟩:=I.row p S;have hd:=I.nz
 -- the pivot's row
 have x:∀j,j<m->E p j=sN (p+1) (λk=>u k*A k j):=λj g=>by
  rw[t.val j (by omega),QZ (q:=p+1) (by omega) λk w v=>by rw[t.off k v (by omega) (by omega),fE]];exact Zi λk f=>by rw[ok.ext k j (by omega) g]
 have R:E p p=W6 (p+1) A:=by
  have w:=Zfi (n:=p+1) (j:=p) (A:=A) (a:=u) (by omega);have v:=Hf (A:=put p (λc=>sN (p+1) λk=>u k*A k c) A) λc U=>by rw[YW];rw[<-x c (by omega),t.uni c U,pW (by omega)]
  have P:W6 p (put p (λc=>sN (p+1) λk=>u k*A k c) A)=W6 p A:=WO λr c hr U=>by rw[Vw _ _ (by omega)]
  rw[YW,P,w,t.on (aZ p),<-I.de] at v;have h4:d*W6 (p+1) A=E p p*d:=by rw[v];rw[<-x p S]
  have h5:d*(W6 (p+1) A)=d*E p p:=by rw[h4,cQ]
  exact(ji hd h5).symm
 have pz:E p p≠0:=λz=>by
  have:=ok.inj (p+1) (by omega) u (λj g=>by
   rw[<-x j (by omega)];by_cases q:j=p
   ·rw[q];exact z
   ·rw[t.uni j (by omega),pW (by omega)]) p (by omega)
  rw[t.on (aZ p)] at this;exact hd this
 -- the s rows
 have s:∀i,i<m->i≠p->∃b:Nat->Int,(∀k,k<m->p+1<=k->k≠i->b k=0)/\(p+1<=i->b i=E p p)/\(∀l,l<p+1->sN m (λk=>b k*A k l)=if i=l then E p p else 0)/\∀j,j<=m->E p p*E i j-E i p*E p j=d*sN m (λk=>b k*X k j):=by
  intro i C o
  obtain⟨b,b1,F,G⟩:∃b:Nat->Int,(∀k,k<m->p+1<=k->k≠i->b k=0)/\(p+1<=i->b i=E p p)/\(∀l,l<p+1->sN m (λk=>b k*A k l)=if i=l then E p p else 0):=by
   have T:∀j l,j<p+1->l<p+1->sN (p+1) (λk=>Fw (p+1) A k j*A k l)=if l=j then E p p else 0:=λj l g y=>by
    rw[R,<-EY y g];exact Zi λk f=>by rw[ok.sym l k (by omega) (by omega),cQ]
   by_cases q:i<p
   ·obtain⟨b,B⟩:∃b:Nat->Int,∀k,b k=if k<p+1 then Fw (p+1) A k i else 0:=⟨_,λ_=>rfl⟩
    refine⟨b,λk f w _=>by rw[B,pW (by omega)],λh=>by omega,λl y=>?_⟩;rw[QZ (q:=p+1) (by omega) λk w v=>by rw[B,pW (by omega),fE]];rw[Zi λk f=>by rw[B,p9 f],T i l (by omega) y];by_cases e:i=l
    ·rw[p9 e,p9 e.symm]
    ·rw[pW e,pW (λz=>e z.symm)]
   ·obtain⟨b,B⟩:∃b:Nat->Int,∀k,b k=if k<p+1 then-sN (p+1) (λj=>A i j*Fw (p+1) A k j) else if k=i then E p p else 0:=⟨_,λ_=>rfl⟩
    have J:b i=E p p:=by rw[B,pW (by omega),p9 rfl]
    refine⟨b,λk f w v=>by rw[B,pW (by omega),pW v],λh=>J,λl y=>?_⟩;rw[E3 (q:=p+1) (by omega) C λk w v P=>by rw[B,pW (by omega),pW P,fE]];rw[J]
    have N:sN (p+1) (λk=>b k*A k l)=sN (p+1) (λk=>(-1)*sN (p+1) (λj=>A i j*(Fw (p+1) A k j*A k l))):=Zi λk f=>by
     rw[B,p9 f,dJ,cQ _ (A k l),<-ZJ,dJ,jr];congr 1;exact Zi λj _=>by rw[cQ (A k l),cg]
    rw[N,ZJ,UD];have e2:(sN (p+1) λj=>sN (p+1) λk=>A i j*(Fw (p+1) A k j*A k l))=A i l*E p p:=by rw[Zi λj g=>by rw[ZJ,T j l g y]];rw[Z3 y λj _ Q=>by rw[pW (λz=>Q z.symm),fD],p9 rfl]
    rw[e2,cQ (E p p)];omega
  refine⟨b,b1,F,G,?_⟩;obtain⟨D,L⟩:=I.row i C
  have hw:∀k,k<m->E p p*D k-E i p*u k-d*b k=0:=by
   have H:∀k,k<m->p+1<=k->E p p*D k-E i p*u k-d*b k=0:=λk f w=>by
    have Z:=t.off k f (by omega) (by omega);by_cases q:k=i
    ·subst q;rw[L.on (by omega),Z,F w,cQ d];omega
    ·rw[L.off k f (by omega) q,Z,b1 k f w q];omega
   intro k f;by_cases q:k<p+1
   ·refine ok.inj (p+1) (by omega) (λk=>E p p*D k-E i p*u k-d*b k) (λl y=>?_) k q;rw[<-QZ (m:=m) (by omega) λk w v=>by rw[H k v w,fE]]
    have N:sN m (λk=>(E p p*D k-E i p*u k-d*b k)*A k l)=E p p*sN m (λk=>D k*A k l)+((- E i p)*sN m (λk=>u k*A k l)+(- d)*sN m (λk=>b k*A k l)):=by
     rw[<-ZJ,<-ZJ,<-ZJ,<-ZS,<-ZS];exact Zi λk _=>by rw[Int.sub_mul,Int.sub_mul];simp only[cg,dJ];omega
    have Y:∀a:Nat->Int,sN m (λk=>a k*X k l)=sN m (λk=>a k*A k l):=λa=>Zi λk f=>by rw[ok.ext k l f (by omega)]
    rw[N,G l y,<-Y,<-Y,<-L.val l (by omega),<-t.val l (by omega)];by_cases q2:l=p
    ·subst q2;rw[pW o,cQ (E l l),dJ];omega
    ·rw[L.uni l (by omega),t.uni l (by omega),pW (show ¬p=l by omega)];by_cases M:i=l
     ·rw[p9 M,p9 M,dJ d,cQ d];omega
     ·rw[pW M,pW M];omega
   ·exact H k f (by omega)
  intro j g;rw[L.val j g,t.val j g,<-ZJ,<-ZJ,<-ZJ];have:sN m (λk=>E p p*(D k*X k j))=sN m (λk=>d*(b k*X k j))+sN m (λk=>E i p*(u k*X k j)):=by rw[<-ZS];refine Zi λk f=>?_;have:=hw k f;rw[<-cg,<-cg,<-cg,<-mD];congr 1;omega
  omega
 refine⟨⟨R,pz,λi C=>?_⟩,λi j C g o=>?_⟩
 ·by_cases o:i=p
  ·subst o;refine⟨u,λk f w v=>t.off k f (by omega) v,λh=>by omega,λj g=>by rw[p9 rfl];exact t.val j g,λj g=>?_⟩;rw[p9 rfl];by_cases q:i=j
   ·subst q;rw[p9 rfl]
   ·rw[pW q,t.uni j (by omega),pW q]
  ·obtain⟨b,b1,F,G,O⟩:=s i C o;have W:∀j,j<=m->(E p p*E i j-E i p*E p j).fdiv d=sN m (λk=>b k*X k j):=λj g=>by rw[O j g,kJ _ hd]
   refine⟨b,b1,F,λj g=>by rw[pW o];exact W j g,λj g=>?_⟩;rw[pW o,W j (by omega),<-G j g];exact Zi λk f=>by rw[ok.ext k j f (by omega)]
 ·obtain⟨b,b1,F,G,O⟩:=s i C o;exact⟨_,O j g⟩
theorem Xx{m:Nat}{A X:Mt}(ok:BOk m A X):∀{p:Nat},p<=m->Zjt m A X p (Ww m X p).1 (Ww m X p).2
 | 0,_=>⟨rfl,(show(1:Int)≠0 by decide),λi a=>⟨λk=>if k=i then 1 else 0,λk _ _ h=>pW h,λ_=>p9 rfl,λj c=>by rw[Z3 (k:=i) a λk _ b=>by rw[pW b,fE],p9 rfl,jr];rfl,λj c=>by omega⟩⟩
 | p+1,h=>(Mn ok (by omega) (Xx ok (p:=p) (by omega))).1
theorem C3{m:Nat}{A X:Mt}(ok:BOk m A X){k:Nat}(b:k<m):sN m (λi=>A k i*(Ww m X m).1 i m)=(Ww m X m).2*X k m:=by
 have I:=Xx ok (aZ m);generalize s:(Ww m X m).1=E at I ⊢;generalize hd:(Ww m X m).2=d at I ⊢;have q:=I.nz
 have f:∀k,k<m->sN m (λi=>A k i*sN m (λj=>Fw m A i j*X j m))=d*X k m:=λk b=>by
  rw[Zi (g:=λi=>sN m (λj=>A k i*(Fw m A i j*X j m))) λi _=>by rw[ZJ]]
  rw[UD,Zi (g:=λj=>(if k=j then d else 0)*X j m) λj p=>by
   rw[I.de,<-EY b p,cQ _ (X j m),<-ZJ];exact Zi λi _=>by rw[cQ (X j m),cg]]
  rw[Z3 b λj _ h=>by rw[pW (λz=>h z.symm),fE],p9 rfl]
 have o:∀i,i<m->E i m=sN m (λj=>Fw m A i j*X j m):=λi c=>by
  obtain⟨a,R⟩:=I.row i c;refine ji q ?_;rw[R.val m (aZ m),<-ZJ];have n:sN m (λk=>d*(a k*X k m))=sN m (λk=>a k*sN m (λl=>A k l*sN m (λj=>Fw m A l j*X j m))):=Zi λk b=>by rw[f k b,gR]
  rw[n,Zi (g:=λk=>sN m (λl=>a k*A k l*sN m (λj=>Fw m A l j*X j m))) λk _=>by rw[<-ZJ];exact Zi λl _=>by rw[cg]]
  rw[UD,Zi (g:=λl=>(if i=l then d else 0)*sN m (λj=>Fw m A l j*X j m)) λl e=>by
   rw[<-R.uni l e,R.val l (by omega),cQ _ (sN m λj=>Fw m A l j*X j m),<-ZJ];exact Zi λk b=>by rw[ok.ext k l b e,cQ]]
  rw[Z3 c λl _ h=>by rw[pW (λz=>h z.symm),fE],p9 rfl]
 rw[Zi λi c=>by rw[o i c]];exact f k b
open L2 VL
theorem Zbl{z:Int}(h:z.natAbs<2^1000):z.natAbs.log2<1000:=by
 by_cases a:z.natAbs=0
 ·rw[a];decide +kernel
 ·exact(Nat.log2_lt a).mpr h
theorem E4{a b:Int}(h:a.natAbs<2^1000)(h':b.natAbs<2^1000):CMulW a b:=⟨by have:=Zbl h;omega,by have:=Zbl h';omega⟩
theorem E5{a b:Int}(c:b≠0)(h:b.natAbs<2^1000):Nm a b:=⟨c,by have:=Zbl h;omega⟩
noncomputable def Mb:Nat->Nat
 | 0=>2^7
 | p+1=>2*Mb p*Mb p
noncomputable def Nb:Nat->Nat
 | 0=>2^208
 | p+1=>2*Mb p*Nb p
theorem Zmg{p:Nat}(h:p<=6):Mb p<2^1000:=by
 have:p=0\/p=1\/p=2\/p=3\/p=4\/p=5\/p=6:=by omega
 rcases this with rfl | rfl | rfl | rfl | rfl | rfl | rfl<;>decide +kernel
theorem Zn7{p:Nat}(h:p<=6):Nb p<2^1000:=by
 have:p=0\/p=1\/p=2\/p=3\/p=4\/p=5\/p=6:=by omega
 rcases this with rfl | rfl | rfl | rfl | rfl | rfl | rfl<;>decide +kernel
theorem E6{a b c d:Int}{M N:Nat}(e:a.natAbs<=M)(g:b.natAbs<=N)(f:c.natAbs<=M)(hd:d.natAbs<=N):(a*b-c*d).natAbs<=2*M*N:=by
 have h:(a*b).natAbs<=M*N:=by rw[mK];exact j9 e g
 have i:(c*d).natAbs<=M*N:=by rw[mK];exact j9 f hd
 have k:(a*b-c*d).natAbs<=(a*b).natAbs+(c*d).natAbs:=by omega
 have j:2*M*N=M*N+M*N:=by rw[Nat.mul_assoc];omega
 omega
theorem Hr{x d q:Int}(hd:d≠0)(e:x=d*q):(x.fdiv d).natAbs<=x.natAbs:=by
 rw[e,kJ _ hd,mK];have:1<=d.natAbs:=by omega
 calc q.natAbs=1*q.natAbs:=by omega
  _<=d.natAbs*q.natAbs:=jC _ this
theorem Zfu(p:Nat):Mb p<=Mb (p+1):=by
 have h:∀p,1<=Mb p:=λp=>by
  induction p with
  | zero=>decide
  | succ p ih=>show 1<=2*Mb p*Mb p;exact j9 (show 1<=2*Mb p by omega) ih
 show Mb p<=2*Mb p*Mb p
 calc Mb p=1*Mb p:=by omega
  _<=2*Mb p*Mb p:=jC _ (by have:=h p;omega)
theorem Zfv(p:Nat):Nb p<=Nb (p+1):=by
 have h:∀p,1<=Mb p:=λp=>by
  induction p with
  | zero=>decide
  | succ p ih=>show 1<=2*Mb p*Mb p;exact j9 (show 1<=2*Mb p by omega) ih
 show Nb p<=2*Mb p*Nb p
 calc Nb p=1*Nb p:=by omega
  _<=2*Mb p*Nb p:=jC _ (by have:=h p;omega)
theorem Q0{m:Nat}{A X:Mt}(ok:BOk m A X)(g:∀i j,i<m->j<m->(X i j).natAbs<=2^7)(f:∀i,i<m->(X i m).natAbs<=2^208):∀{p:Nat},p<=m->(∀i j,i<m->j<m->((Ww m X p).1 i j).natAbs<=Mb p)/\∀i,i<m->((Ww m X p).1 i m).natAbs<=Nb p
 | 0,_=>⟨g,f⟩
 | p+1,hp=>by
  obtain⟨b1,c⟩:=Q0 ok g f (p:=p) (by omega);have I:=Xx ok (p:=p) (by omega);have h:=(Mn ok (by omega) I).2;refine⟨λi j a d=>?_,λi a=>?_⟩
  ·show(if i=p then(Ww m X p).1 i j else _).natAbs<=_;split
   ·exact cD (b1 i j a d) (Zfu p)
   ·rename_i b;obtain⟨q,e⟩:=h i j a (by omega) b;exact cD (Hr I.nz e) (E6 (b1 p p (by omega) (by omega)) (b1 i j a d) (b1 i p a (by omega)) (b1 p j (by omega) d))
  ·show(if i=p then(Ww m X p).1 i m else _).natAbs<=_;split
   ·exact cD (c i a) (Zfv p)
   ·rename_i b;obtain⟨q,e⟩:=h i m a (by omega) b;exact cD (Hr I.nz e) (E6 (b1 p p (by omega) (by omega)) (c i a) (b1 i p a (by omega)) (c p (by omega)))
noncomputable def Xp(w:Nat)(f:Nat->Int):List Int:=(aD w).map f
theorem Xs(w:Nat)(f:Nat->Int):(Xp w f).length=w:=by simp[Xp]
theorem S4{w:Nat}{f:Nat->Int}{j:Nat}(h:j<w):Zl (Xp w f) j=f j:=ZF h
theorem Zn8{l:List Int}:(oM ((oM (ax (PV.lst (iL l))) λx=>(PB [] s).map (x::·)).bind Z1) λl=>if ZO l=aC then ax l else aA)=ax (pP l):=by show(if ZO (pP l)=aC then ax (pP l) else aA)=_;rw[p9 (by simp)]
theorem Jt{n:Nat}{c:List Nat}{e:XL}{T:Tgt}{d:XE}{s:ZG}{w:Nat}{q:Nat->PV}(g:Nat->Int)(i:e s=ax ((aD w).map q))(k:w<=100)(h:∀j,j<w->∃s1,Xg T (q j) (ZH n c s)=ax s1/\d s1=ax (.int (g j))):Zw n c e T ZD d s=ax (.lst (iL (Xp w g))):=by
 rw[ZL (aD w) q (λj=>.int (g j)) i (by rw[bt];omega) λj f=>by
  obtain⟨s1,a,b⟩:=h j (aY.mp f);exact⟨s1,a,rfl,b⟩]
 simp[Xp]
theorem FF{w:Nat}{f:Nat->Int}{j:Nat}(h:j<w):R9 (iL (Xp w f)) (j:Int)=ax (.int (f j)):=by rw[YD (by rw[Xs];exact h),S4 h]
theorem FG{w p:Nat}{f g:Nat->Int}{d:Int}(n:w<=100)(e:p<w)(m:∀j,j<w->(f j).natAbs<2^1000)(l:∀j,j<w->(g j).natAbs<2^1000)(hd:d≠0)(h:d.natAbs<2^1000) :
  Qr [pP (Xp w f),pP (Xp w g),.int (p:Int),.int d]=ax (pP (Xp w λj=>(g p*f j-f p*g j).fdiv d)):=by
 refine XX (ret (HS (c1 (Jt (q:=λj=>.tup [.int (f j),.int (g j)]) (λj=>(g p*f j-f p*g j).fdiv d) ?_ n λj k=>⟨_,rfl,?_⟩) rfl)))
 ·show ax (Qj (iL (Xp w f)) (iL (Xp w g)))=_;rw[Ul _ _ (by simp[Xs]),aJ,Xs];congr 1;refine au λi c=>?_;have c:=aY.mp c;rw[XH _ i (by rw[Xs];exact c),XH _ i (by rw[Xs];exact c),S4 c,S4 c]
 ·exact vC (C:=Nm) (op:=pV) (vI (vC (C:=CMulW) (op:=(· * ·)) (a:=g p) (b:=f j) (o2 rfl rfl (FF e)) rfl (E4 (l p e) (m j k))) (vC (C:=CMulW) (op:=(· * ·)) (a:=f p) (b:=g j) (o2 rfl rfl (FF e)) rfl (E4 (m p e) (l j k)))) rfl (E5 hd h)
noncomputable def L5(m w:Nat)(E:Mt):List (List Int):=(aD m).map λi=>Xp w (E i)
theorem Zfw(m w:Nat)(E:Mt):(L5 m w E).length=m:=by simp[L5]
noncomputable def tL(M:List (List Int)):List PV:=M.map pP
theorem FH(m w:Nat)(E:Mt):tL (L5 m w E)=(aD m).map λi=>pP (Xp w (E i)):=by unfold tL L5;rw[bZ];rfl
theorem Mo(m w:Nat)(E:Mt):(tL (L5 m w E)).length=m:=by simp[tL,Zfw]
theorem FI{m w:Nat}{E:Mt}{i:Nat}(h:i<m):(tL (L5 m w E))[i]?=ax (pP (Xp w (E i))):=by rw[FH,aX,cC h];rfl
theorem E7(M:List (List Int)):ZC (tL M)=aC:=Ip M
theorem Ju{n:Nat}{c:List Nat}{e:XL}{T:Tgt}{d:XE}{s:ZG}{m w:Nat}{q:Nat->PV}(E:Mt)(g:e s=ax ((aD m).map q))(i:m<=100)(h:∀j,j<m->∃s1,Xg T (q j) (ZH n c s)=ax s1/\d s1=ax (pP (Xp w (E j)))):Zw n c e T ZD d s=ax (.lst (tL (L5 m w E))):=by
 rw[ZL (aD m) q (λj=>pP (Xp w (E j))) g (by rw[bt];omega) λj f=>by
  obtain⟨s1,a,b⟩:=h j (aY.mp f);exact⟨s1,a,rfl,b⟩,FH]
theorem C4{m w:Nat}{A X:Mt}(C:m<=6)(B:m<=w)(y:w<=m+1)(ok:BOk m A X)(u:∀i j,i<m->j<m->(X i j).natAbs<=2^7)(x:∀i,i<m->(X i m).natAbs<=2^208){R:PV}(o:R = .lst (tL (L5 m w X))\/R = .tup (tL (L5 m w X))) :
  Np [R]=ax (.tup [.int (Ww m X m).2,.lst (tL (L5 m w (Ww m X m).1))]):=by
 have g:∀{p:Nat},p<=m->∀i j,i<m->j<m+1->((Ww m X p).1 i j).natAbs<2^1000:=λ{p} b i j a f=>by
  obtain⟨b1,t⟩:=Q0 ok u x b;by_cases q:j<m
  ·exact fZ (b1 i j a q) (Zmg (by omega))
  ·rw[show j=m by omega];exact fZ (t i a) (Zn7 (by omega))
 have z:∀{p:Nat},p<=m->(Ww m X p).2.natAbs<2^1000:=λ{p} b=>by
  cases p with
  | zero=>show(1:Int).natAbs<_;decide +kernel
  | succ p=>exact g (p:=p) (by omega) p p (by omega) (by omega)
 let st:Nat->Option PV->Option PV->ZG:=λp d c=>[ax R,ax (.lst (tL (L5 m w (Ww m X p).1))),ax (.int (Ww m X p).2),d,c]
 have k:Vs [R]=ax (.lst (tL (L5 m w X)))/\ZN [R]=ax (.int (m:Int)):=by
  rcases o with rfl | rfl
  ·exact⟨by rw[AI,p9 (E7 _)],by show ax (PV.int ((tL (L5 m w X)).length:Int))=_;rw[Mo]⟩
  ·exact⟨by rw[Iq,p9 (E7 _)],by show ax (PV.int ((tL (L5 m w X)).length:Int))=_;rw[Mo]⟩
 suffices h:Y9 Iw (ZP 5 [R]) λv=>v = .tup [.int (Ww m X m).2,.lst (tL (L5 m w (Ww m X m).1))] by obtain⟨v,e,rfl⟩:=Pf h;exact e
 refine ZU (Zp (c1 rfl k.1)) (ZU (Zp (vP rfl)) (Wv (Mk (n:=m) (λp s=>∃d c,s=st p d c) (c1 rfl k.2) ⟨aA,aA,rfl⟩ ?_) ?_))
 ·rintro p s b ⟨d,c,rfl⟩;have I:=Xx ok (p:=p) (by omega);have l:=λi j a f=>g (p:=p) (by omega) i j a f;refine Z4 (Zp (HS (o2 rfl rfl (TJ (FI b))))) (Z4 (Zp (Ju (w:=w) (Ww m X (p+1)).1 (q:=λi=>.tup [.int (i:Int),pP (Xp w ((Ww m X p).1 i))]) ?_ (by omega) λi a=>⟨_,rfl,HS ?_⟩)) (R0 (Zp (vP (o2 rfl rfl (FF (by omega))))) ⟨_,_,rfl⟩))
  ·show ax (Xt (tL (L5 m w (Ww m X p).1)))=_;rw[Y6,Mo];congr 1;refine au λi a=>?_;rw[aF,FI (aY.mp a)];rfl
  ·by_cases q:i=p
   ·exact Ml (xb ((C2 rfl rfl).trans (by rw[decide_eq_true (by omega)]))) (by rw[show(Ww m X (p+1)).1 i=(Ww m X p).1 i from funext λj=>p9 q];rfl)
   ·refine Mm (xb ((C2 rfl rfl).trans (by rw[decide_eq_false (by omega)]))) ?_;rw[show(Ww m X (p+1)).1 i=_ from funext λj=>pW q];exact c4 rfl rfl rfl rfl (FG (by omega) (by omega) (λj f=>l i j a (by omega)) (λj f=>l p j b (by omega)) I.nz (z (by omega)))
 ·rintro s ⟨d,c,rfl⟩;exact⟨_,rfl,rfl⟩
theorem C5{m:Nat}{A X:Mt}(f:m<=6)(ok:BOk m A X)(c:∀i j,i<m->j<m->(X i j).natAbs<=2^7)(b:∀i,i<m->(X i m).natAbs<=2^208) :
  WU [wP (L5 m m A),pP (Xp m λi=>X i m)]=ax (.lst (iL (Xp m λi=>((Ww m X m).1 i m).fdiv (Ww m X m).2))):=by
 have I:=Xx ok (aZ m)
 have e:(Ww m X m).2.natAbs<2^1000:=by
  cases m with
  | zero=>show(1:Int).natAbs<_;decide +kernel
  | succ k=>exact fZ ((Q0 ok c b (p:=k) (by omega)).1 k k (by omega) (by omega)) (Zmg (by omega))
 refine XX (sq (Zp (c1 (Ju (w:=m+1) X (q:=λi=>.tup [pP (Xp m (A i)),.int (X i m)]) ?_ (by omega) λi a=>⟨_,rfl,?_⟩) (C4 f (by omega) (by omega) ok c b (.inl rfl)))) (ret (Jt (q:=λi=>pP (Xp (m+1) ((Ww m X m).1 i))) _ ?_ (by omega) λi a=>⟨_,rfl,vP (vC (C:=Nm) (op:=pV) (o2 rfl rfl ?_) rfl (E5 I.nz e))⟩)))
 ·show ax (Qj (tL (L5 m m A)) (iL (Xp m λi=>X i m)))=_;rw[Ul _ _ (by rw[Mo,aJ,Xs]),Mo];congr 1;refine au λi a=>?_;have a:=aY.mp a;rw[XH _ i (by rw[Xs];exact a),S4 a,aF,FI a];rfl
 ·have d:iL (Xp m (A i))++[PV.int (X i m)]=iL (Xp (m+1) (X i)):=by unfold Xp;rw[eY,ay];simp;exact λj g=>(ok.ext i j a g).symm
  show(if(iL (Xp m (A i))).length+[PV.int (X i m)].length<=10000 then ax (PV.tup (iL (Xp m (A i))++[PV.int (X i m)])) else aA)=_;rw[p9 (by simp[Xs];omega),d]
 ·show ax (tL (L5 m (m+1) (Ww m X m).1))=_;rw[FH]
 ·show R9 (iL (Xp (m+1) ((Ww m X m).1 i))) (-1)=_;unfold R9 J0;rw[aJ,Xs,pW (by omega),p9 (by omega),show(-1+((m+1:Nat):Int)).toNat=m by omega];show(iL (Xp (m+1) ((Ww m X m).1 i)))[m]?=_;rw[Qm (by rw[Xs];omega),S4 (by omega)]
noncomputable def W7(b i:Nat):Nat:=if i<b then i else i+1
noncomputable def E8(b h:Nat):Nat:=if h<b then h else h-1
theorem Zbm(b i:Nat):W7 b i≠b:=by unfold W7;split<;>omega
theorem UG{b i m:Nat}(h:i<m):W7 b i<m+1:=by unfold W7;split<;>omega
theorem E9(b i:Nat):E8 b (W7 b i)=i:=by unfold E8 W7;split<;>(try split)<;>omega
theorem Ot{b h:Nat}(q:h≠b):W7 b (E8 b h)=h:=by unfold E8 W7;split<;>(try split)<;>omega
theorem Zbn{b h m:Nat}(a:b<m+1)(c:h<m+1)(q:h≠b):E8 b h<m:=by unfold E8;split<;>omega
theorem Hs{n b:Nat}(c:n<=7)(a:b<n):(aD n).filter (λh=>!decide (h=b))=(aD (n-1)).map (W7 b):=by
 have:∀n,n<8->∀b,b<8->b<n->(aD n).filter (λh=>!decide (h=b))=(aD (n-1)).map (W7 b):=by decide
 exact this n (by omega) b (by omega) a
theorem Zbo{f:Nat->Int}{b:Nat}(a:f b=0):∀{m:Nat},b<m+1->sN (m+1) f=sN m (λi=>f (W7 b i))
 | 0,h=>by
  have:b=0:=by omega
  subst this;show 0+f 0=0;rw[a];rfl
 | m+1,h=>by
  by_cases q:b=m+1
  ·subst q;show sN (m+1) f+f (m+1)=_;rw[a,jV];exact Zi λi c=>by unfold W7;rw[p9 c]
  ·show sN (m+1) f+f (m+1)=sN m (λi=>f (W7 b i))+f (W7 b m);rw[Zbo a (m:=m) (by omega),show W7 b m=m+1 by unfold W7;rw[pW (by omega)]]
theorem Tv{f:Nat->Int}:∀{n:Nat},(∀i,i<n->0<=f i)->sN n f<=0->∀i,i<n->f i=0
 | 0,_,_,i,h=>by omega
 | n+1,h,s,i,a=>by
  have s:sN n f+f n<=0:=s
  have b:0<=sN n f:=by
   have:∀k,k<=n->0<=sN k f:=by
    intro k
    induction k with
    | zero=>intro _;exact dX 0
    | succ k ih=>intro c;have:=ih (by omega);have:=h k (by omega);show 0<=sN k f+f k;omega
   exact this n (aZ n)
  have d:=h n (by omega);by_cases q:i=n
  ·subst q;omega
  ·exact Tv (n:=n) (λi a=>h i (by omega)) (by omega) i (by omega)
theorem Ym{f:Nat->Int}:∀{n:Nat},(∀i,i<n->0<=f i)->0<=sN n f
 | 0,_=>dX 0
 | n+1,h=>by have:=Ym (n:=n) λi a=>h i (by omega);have:=h n (by omega);show 0<=sN n f+f n;omega
theorem Mp(Y:Nat->Int):∀{n:Nat},0<n->∃h,h<n/\∀g,g<n->Y h<=Y g
 | 0,h=>by omega
 | 1,_=>⟨0,by omega,λg a=>by rw[show g=0 by omega];exact dX _⟩
 | n+2,_=>by
  obtain⟨h,c,b⟩:=Mp Y (n:=n+1) (by omega);by_cases q:Y h<=Y (n+1)
  ·exact⟨h,by omega,λg a=>by
    by_cases e:g=n+1
    ·rw[e];exact q
    ·exact b g (by omega)⟩
  ·exact⟨n+1,by omega,λg a=>by
    by_cases e:g=n+1
    ·rw[e];exact dX _
    ·have:=b g (by omega);omega⟩
noncomputable def gN(W:List (List Int))(Y:Nat->Int)(h:Nat):Int:=sN W.length (λg=>ZM W h g*(Y g-Y h))
theorem Zfx{W:List (List Int)}(ok:Zt W)(o:V3 W){Y:Nat->Int}{b:Nat}(v:b<W.length)(k:∀h,h<W.length->h≠b->Y h<Y b->gN W Y h<=0):∀h,h<W.length->Y b<=Y h:=by
 intro h p;refine pA.mp λw=>?_;obtain⟨e,u,l⟩:=Mp Y (n:=W.length) (by omega);have q:Y e<Y b:=by have:=l h p;omega
 have step:∀a c,a<W.length->c<W.length->0<ZM W a c->Y a=Y e->Y c=Y e:=λa c d i j ea=>by
  have s:=k a d (λz=>by rw[z] at ea;omega) (by omega);have t:=Tv (f:=λg=>ZM W a g*(Y g-Y a)) (λg m=>dQ (ok.lo a g d m) (by have:=l g m;omega)) s c i
  have:Y c-Y a=0:=by
   rcases Int.mul_eq_zero.mp t with z | z
   ·omega
   ·exact z
  omega
 have:=(o (λx=>Y x=Y e) (λa c d i j=>⟨step a c d i j,step c a i d (by rw[ok.sym c a i d];exact j)⟩) e b u v).mp rfl;omega
theorem Vz{W:List (List Int)}(Y Z:Nat->Int)(h:Nat):gN W (λx=>Y x+Z x) h=gN W Y h+gN W Z h:=by
 unfold gN;rw[<-ZS];exact Zi λg _=>by show ZM W h g*(Y g+Z g-(Y h+Z h))=_;rw[<-jB];congr 1;omega
theorem Wd{W:List (List Int)}(c:Int)(Y:Nat->Int)(h:Nat):gN W (λx=>c*Y x) h=c*gN W Y h:=by
 unfold gN;rw[<-ZJ];exact Zi λg _=>by show ZM W h g*(c*Y g-c*Y h)=_;rw[<-fC,gR]
theorem V6{W:List (List Int)}{Y Z:Nat->Int}{h:Nat}(b:h<W.length)(e:∀g,g<W.length->Y g=Z g):gN W Y h=gN W Z h:=Zi λg a=>by rw[e g a,e h b]
theorem Zfy(W:List (List Int))(S:List Int)(h:Nat):V2 W S h=gN W (Zl S) h:=by unfold V2 gN;rw[WH]
noncomputable def Q1(W:List (List Int))(b:Nat):Mt:=λi j=>if W7 b j=W7 b i then(ZA W (W7 b i)).sum else-ZM W (W7 b i) (W7 b j)
noncomputable def VB(W:List (List Int))(b:Nat)(c:Nat->Int):Mt:=λi j=>if j<W.length-1 then Q1 W b i j else c (W7 b i)
theorem Zbp{W:List (List Int)}(ok:Zt W){b:Nat}(w:b<W.length){Y:Nat->Int}(o:Y b=0){k:Nat}(e:k<W.length-1):gN W Y (W7 b k) = - sN (W.length-1) (λi=>Q1 W b k i*Y (W7 b i)):=by
 have u:=ok.pos;obtain⟨m,c⟩:∃m,W.length=m+1:=⟨W.length-1,by omega⟩;have d:W.length-1=m:=by omega
 rw[d] at e ⊢;generalize j:W7 b k=h;have a:h<W.length:=by rw[c,<-j];exact UG e
 have n:sN m (λi=>Q1 W b k i*Y (W7 b i))=sN (m+1) (λg=>(if g=h then(ZA W h).sum else-ZM W h g)*Y g):=by
  rw[Zbo (b:=b) (f:=λg=>(if g=h then(ZA W h).sum else-ZM W h g)*Y g) (by rw[o,fD]) (by omega)];exact Zi λi _=>by unfold Q1;rw[j]
 have l:sN (m+1) (λg=>(if g=h then(ZA W h).sum else-ZM W h g)*Y g)=(-1)*sN (m+1) (λg=>ZM W h g*Y g)+(ZA W h).sum*Y h:=by
  have:sN (m+1) (λg=>if g=h then(ZA W h).sum*Y h else 0)=(ZA W h).sum*Y h:=by rw[Z3 (k:=h) (by omega) λi _ p=>pW p,p9 rfl]
  rw[<-this,<-ZJ,<-ZS];refine Zi λg v=>?_;by_cases q:g=h
  ·subst q;rw[p9 rfl,p9 rfl,ok.dia g a];omega
  ·rw[pW q,pW q,dJ,dJ,jr];omega
 have s:(ZA W h).sum=sN (m+1) (λg=>ZM W h g):=by rw[Ol ok a,WH,c]
 have t:gN W Y h=sN (m+1) (λg=>ZM W h g*Y g)+(- Y h)*sN (m+1) (λg=>ZM W h g):=by
  unfold gN;rw[c,<-ZJ,<-ZS];exact Zi λg _=>by rw[fC,cQ (- Y h),Int.mul_neg];omega
 rw[t,n,l,s,cQ (sN (m+1) λg=>ZM W h g) (Y h),dJ];omega
theorem Mq{W:List (List Int)}(ok:Zt W)(C:V3 W){b:Nat}(B:b<W.length)(c:Nat->Int):BOk (W.length-1) (Q1 W b) (VB W b c):=by
 have H:=ok.pos;obtain⟨m,t⟩:∃m,W.length=m+1:=⟨W.length-1,by omega⟩;have d:W.length-1=m:=by omega
 have f:∀i j,i<m->j<m->Q1 W b i j=Q1 W b j i:=λi j s g=>by
  unfold Q1;by_cases q:W7 b j=W7 b i
  ·rw[p9 q,p9 q.symm,q]
  ·rw[pW q,pW (λz=>q z.symm),ok.sym _ _ (by rw[t];exact UG s) (by rw[t];exact UG g)]
 rw[d];refine⟨f,λp A z G k y=>?_,λi j s g=>by unfold VB;rw[d,p9 g]⟩;obtain⟨Z,v⟩:∃Z:Nat->Int,∀h,Z h=if h=b then 0 else if E8 b h<p then z (E8 b h) else 0:=⟨_,λ_=>rfl⟩
 have o:Z b=0:=by rw[v,p9 rfl]
 have w:∀i,Z (W7 b i)=if i<p then z i else 0:=λi=>by rw[v,pW (Zbm b i),E9]
 have l:∀j,j<p->gN W Z (W7 b j)=0:=λj g=>by
  rw[Zbp ok B o (by omega),d]
  have e:sN m (λi=>Q1 W b j i*Z (W7 b i))=sN p (λk=>z k*Q1 W b k j):=by
   rw[QZ (q:=p) A λk E D=>by rw[w,pW (by omega),fD]];exact Zi λk y=>by rw[w,p9 y,f j k (by omega) (by omega),cQ]
  rw[e,G j g];rfl
 have off:∀h,h<W.length->Z h≠0->gN W Z h=0:=λh u ne=>by
  have n:h≠b:=λz=>ne (by rw[z];exact o);have s:E8 b h<p:=by refine Nat.not_le.mp λq=>ne ?_;rw[v,pW n,pW (by omega)]
  have:=l _ s;rw[Ot n] at this;exact this
 have up:=Zfx ok C (Y:=Z) B (λh u _ a=>by rw[off h u (by rw[o] at a;omega)];exact dX _)
 have F:=Zfx ok C (Y:=λx=>(-1)*Z x) B (λh u _ a=>by
  simp only[o] at a;rw[Wd,off h u (by omega)];decide)
 have E:=up (W7 b k) (by rw[t];exact UG (by omega));have D:=F (W7 b k) (by rw[t];exact UG (by omega));simp only[o,w,p9 y] at E D;omega
theorem Q2{W:List (List Int)}(ok:Zt W)(l:V3 W){b:Nat}(j:b<W.length)(c:Nat->Int) :
  ∃R:Nat->Int,R b=0/\(∀i,i<W.length-1->R (W7 b i)=(Ww (W.length-1) (VB W b c) (W.length-1)).1 i (W.length-1))/\∀h,h<W.length->h≠b->gN W R h = - ((Ww (W.length-1) (VB W b c) (W.length-1)).2*c h):=by
 have n:=ok.pos;have bk:=Mq ok l j c;obtain⟨R,d⟩:∃R:Nat->Int,∀h,R h=if h=b then 0 else(Ww (W.length-1) (VB W b c) (W.length-1)).1 (E8 b h) (W.length-1):=⟨_,λ_=>rfl⟩
 have k:R b=0:=by rw[d,p9 rfl]
 have f:∀i,R (W7 b i)=(Ww (W.length-1) (VB W b c) (W.length-1)).1 i (W.length-1):=λi=>by rw[d,pW (Zbm b i),E9]
 refine⟨R,k,λi _=>f i,λh o a=>?_⟩;have g:E8 b h<W.length-1:=Zbn (m:=W.length-1) (by omega) (by omega) a;have e:=Zbp ok j k g;rw[Ot a] at e;have s:=C3 bk g;have x:VB W b c (E8 b h) (W.length-1)=c h:=by unfold VB;rw[pW (by omega),Ot a]
 rw[x] at s;rw[e,<-s];congr 1;exact Zi λi _=>by rw[f]
theorem Zbq(l:List Int)(g:Int->Int):l.map g=(aD l.length).map λi=>g (Zl l i):=by refine WG (by simp) λi a=>?_;rw[aJ] at a;rw[ZF (by omega)];simp[Zl,aF,aE a]
theorem FJ{n:Nat}{b:List Nat}{e:XL}{c:XT}{d:XE}{s:ZG}{l:List Int}(g:Int->Int)(a:e s=ax (iL l))(i:l.length<=1000)(h:∀x∈l,∃s1,Xg (.one 0) (.int x) (ZH n b s)=ax s1/\c s1=ax aC/\d s1=ax (.int (g x))) :
  Zw n b e (.one 0) c d s=ax (.lst (iL (l.map g))):=by
 rw[ZL l (λ(x:Int)=>.int x) (λx=>.int (g x)) a (by omega) (λx f=>h x f)];simp
theorem Mr{l:List Int}(c:0<l.length)(b:l.length<=1000):T1 [pP l]=ax (pP (Y2 l)):=by
 have a:Zw 1 [1] (U2 (Za 0)) (.one 0) ZD (Zm Wi (Za 0) (Za 1)) [ax (pP l),ax (.int (XI l))]=ax (.lst (iL (Y2 l))):=by rw[show Y2 l=l.map λx=>x-XI l from(Zbq l λx=>x-XI l).symm];exact FJ (λx=>x-XI l) (RE rfl) b λx e=>⟨_,rfl,rfl,by simp[ZH]⟩
 have d:=EK XI (l:=l) (fK.mp c);simp[T1,EN,YF,ZP,d,a]
theorem C6{W:List (List Int)}{h m:Nat}{f:Nat->Nat}(ok:Zt W)(a:h<W.length)(d:m<=6)(b:∀i,i<m->f i<W.length) :
  Nr [wP W,.int (h:Int),.lst (iL (nL ((aD m).map f)))]=ax (pP (Xp m λj=>if f j=h then(ZA W h).sum else-ZM W h (f j))):=by
 refine XX (ret (HS (c1 (Jt (q:=λj=>.int ((f j:Nat):Int)) _ (by show ax (iL (nL ((aD m).map f)))=_;simp[nL]) (by omega) λj c=>⟨_,rfl,?_⟩) rfl)));by_cases q:f j=h
 ·rw[p9 q];exact Ml (xb ((C2 rfl rfl).trans (by rw[decide_eq_true (by omega)]))) (c2 rfl rfl (N5 a))
 ·rw[pW q];exact Mm (xb ((C2 rfl rfl).trans (by rw[decide_eq_false (by omega)]))) (un1 (o2 (o2 rfl rfl (TX a)) rfl (YD (by rw[ok.sq h a];exact b j c))) rfl)
theorem R1{W:List (List Int)}{b:Nat}(ok:Zt W)(l:b<W.length) :
  X4 [wP W,.int (b:Int)]=ax (wP (L5 (W.length-1) (W.length-1) (Q1 W b))):=by
 have o:=ok.pos;have g:=ok.few;obtain⟨m,k⟩:∃m,W.length=m+1:=⟨W.length-1,by omega⟩;have a:W.length-1=m:=by omega
 rw[a];have d:∀i,i<m->W7 b i<W.length:=λi c=>by rw[k];exact UG c
 have j:Zw 1 [1] (Yk [Ze ZN [Za 0]]) (.one 0) (xB (Zm (Xz aC) (Za 0) (Za 1))) (eP (Za 0)) [ax (wP W),ax (.int (b:Int)),aA]=ax (.lst (iL (nL ((aD m).map (W7 b))))):=by
  rw[XG (aD W.length) (λ(i:Nat)=>.int (i:Int)) (λ(i:Nat)=>.int (i:Int)) (λh=>!decide (h=b)) (Xd (n:=W.length) (by simp) (by omega)) (by simp;omega) λy p=>⟨[ax (.int (y:Int)),ax (.int (b:Int))],rfl,?_,λ_=>by simp⟩]
  ·rw[Hs g l,a];simp[nL]
  ·by_cases q:y=b
   ·simp[q]
   ·have e:¬(y:Int)=(b:Int):=by omega
    simp[q,e]
 exact XX (sq (Zp j) (ret (ep (c1 (Ju (w:=m) (Q1 W b) (q:=λi=>.int ((W7 b i:Nat):Int)) (by show ax (iL (nL ((aD m).map (W7 b))))=_;simp[nL]) (by omega) λi c=>⟨_,rfl,c3 rfl rfl rfl (C6 (f:=W7 b) ok (d i c) (by omega) d)⟩) rfl) (Ip _))))
theorem Zfz{l:List Int}{b h:Nat}{x:Int}(c:b<=l.length)(d:h<l.length+1):Zl (l.take b++x::l.drop b) h=if h=b then x else Zl l (E8 b h):=by
 unfold Zl E8;rw[aF,aF];by_cases q:h<b
 ·rw[pW (by omega),p9 q,aj (by rw[bG];omega),dA q]
 ·rw[bA (by rw[bG];omega),bG,eV c];by_cases a:h=b
  ·rw[p9 a,a,Nat.sub_self];rfl
  ·rw[pW a,pW q,show h-b=(h-b-1)+1 by omega,kX,fg,show b+(h-b-1)=h-1 by omega]
theorem Jw{f:Nat->Int}:∀{n:Nat},(∀i,i<n->0<=f i/\f i<=9)->0<=sN n f/\sN n f<=9*n
 | 0,_=>⟨dX _,by show(0:Int)<=_;omega⟩
 | n+1,h=>by
  obtain⟨a,b⟩:=Jw (n:=n) λi c=>h i (by omega);have:=h n (by omega);refine⟨?_,?_⟩
  ·show 0<=sN n f+f n;omega
  ·show sN n f+f n<=_;omega
theorem C7{W:List (List Int)}(ok:Zt W){b:Nat}{c:Nat->Int}{i j:Nat}(h:i<W.length-1)(e:j<W.length-1):(VB W b c i j).natAbs<=2^7:=by
 have k:=ok.pos;have l:=ok.few;have d:W7 b i<W.length:=by have:=UG (b:=b) h;omega
 have g:W7 b j<W.length:=by have:=UG (b:=b) e;omega
 unfold VB Q1;rw[p9 e];split
 ·rw[Ol ok d,WH];obtain⟨a,b⟩:=Jw (f:=λj=>ZM W (W7 b i) j) (n:=W.length) λj e=>⟨ok.lo _ j d e,ok.hi _ j d e⟩;omega
 ·have:=ok.lo _ _ d g;have:=ok.hi _ _ d g;omega
noncomputable def Ms(W:List (List Int))(D:List Int)(b:Nat):List Int:=
 (Xp (W.length-1) λi=>((Ww (W.length-1) (VB W b (Zl D)) (W.length-1)).1 i (W.length-1)).fdiv (Ww (W.length-1) (VB W b (Zl D)) (W.length-1)).2).take b++0::(Xp (W.length-1) λi=>((Ww (W.length-1) (VB W b (Zl D)) (W.length-1)).1 i (W.length-1)).fdiv (Ww (W.length-1) (VB W b (Zl D)) (W.length-1)).2).drop b
theorem Ht{W:List (List Int)}{D:List Int}{b:Nat}(a:b<W.length):(Ms W D b).length=W.length:=by unfold Ms;rw[aT,bG,az,bU,Xs];omega
theorem Hu{W:List (List Int)}{D:List Int}{b:Nat}(ok:Zt W)(f:V3 W)(hd:D.length=W.length)(d:b<W.length)(k:∀h,h<W.length->(Zl D h).natAbs<=2^208):X5 [wP W,pP D,.int (b:Int)]=ax (pP (Ms W D b)):=by
 have l:=ok.few
 have e:D.take b++D.drop (b+1)=Xp (W.length-1) λi=>VB W b (Zl D) i (W.length-1):=by
  refine WG (by rw[aT,bG,bU,Xs];omega) λi a=>?_;have a:i<W.length-1:=by rw[aT,bG,bU] at a;omega
  rw[S4 a];unfold VB W7 Zl;rw[pW (by omega),aF,aF];by_cases q:i<b
  ·rw[p9 q,aj (by rw[bG];omega),dA q]
  ·rw[pW q,bA (by rw[bG];omega),bG,eV (by omega),fg];congr 2;omega
 have c:=C5 (by omega) (Mq ok f d (Zl D)) (λi j a g=>C7 ok a g) (λi a=>by
  unfold VB;rw[pW (by omega)];exact k _ (by have:=UG (b:=b) a;omega))
 rw[<-e] at c;exact XX (sq (Zp (HS (o2 (Zfp rfl rfl (by omega)) (Zfq rfl rfl (by omega)) (E2 (by rw[bG,bU];omega))))) (sq (Zp (c2 (c2 rfl rfl (R1 ok d)) rfl c)) (sq (Zbk (n:=b) rfl rfl rfl (by omega) (by rw[Xs];omega)) (ret (HS (c1 rfl rfl))))))
theorem FK{W:List (List Int)}{D:List Int}{b:Nat}(ok:Zt W)(n:V3 W)(hd:D.length=W.length)(j:b<W.length)(s:∀h,h<W.length->(Zl D h).natAbs<=2^208) :
  ∃(S0:List Int) (d:Int) (R:Nat->Int),X5 [wP W,pP D,.int (b:Int)]=ax (pP S0)/\S0.length=W.length/\0<d/\R b=0/\Zl S0 b=0/\(∀h,h<W.length->d*Zl S0 h<=R h/\R h<d*Zl S0 h+d)/\∀h,h<W.length->h≠b->gN W R h = - (d*Zl D h):=by
 have w:=ok.few;obtain⟨R,o,t,p⟩:=Q2 ok n j (Zl D);have u:=(Xx (Mq ok n j (Zl D)) (aZ _)).nz;have run:=Hu ok n hd j s;have len:=Ht (W:=W) (D:=D) j
 have a:∀h,h<W.length->Zl (Ms W D b) h=if h=b then 0 else(R h).fdiv (Ww (W.length-1) (VB W b (Zl D)) (W.length-1)).2:=λh c=>by
  unfold Ms;rw[Zfz (by rw[Xs];omega) (by rw[Xs];omega)];by_cases q:h=b
  ·rw[p9 q,p9 q]
  ·have i:=Zbn (m:=W.length-1) (by omega) (by omega) q;rw[pW q,pW q,S4 i,<-t _ i,Ot q]
 generalize (Ww (W.length-1) (VB W b (Zl D)) (W.length-1)).2=d at *;generalize Ms W D b=l at *;have f:Zl l b=0:=by rw[a b j,p9 rfl]
 have a:∀h,h<W.length->Zl l h=(R h).fdiv d:=λh c=>by
  rw[a h c];split
  ·rename_i q;rw[q,o];simp
  ·rfl
 rcases ja u with v | pos
 ·refine⟨_,- d,λh=>- R h,run,len,by omega,by show-R b=0;rw[o];rfl,f,λh c=>?_,λh c k=>?_⟩
  ·have e:(R h).fdiv d=(- R h)/(- d):=by rw[<-Int.neg_fdiv_neg,gS _ (by omega)]
   rw[a h c,e];exact⟨mL (by omega),kK (by omega)⟩
  ·have:=Wd (W:=W) (-1) R h;rw[p h c k] at this;rw[V6 (Z:=λx=>(-1)*R x) c (λg _=>by show-R g=(-1)*R g;omega),this,dJ d];omega
 ·refine⟨_,d,R,run,len,pos,o,f,λh c=>?_,p⟩;rw[a h c,gS _ (by omega)];exact⟨mL (by omega),kK pos⟩
theorem Zbr{c:XT}{fb:XS}(g:Nat->ZG->Prop)(step:∀k st,g k st->c st=ax aB\/(c st=ax aC/\∃s2 k',fb st=ax (.nx s2)/\k'<k/\g k' s2)){k:Nat}{s:ZG}(o:g k s) :
  ∃f k',XC c fb s=ax (.nx f)/\g k' f/\c f=ax aB:=by
 have j:∀(n k:Nat)(st:ZG),k<n->g k st->∃f k',YT c fb n st=ax (.nx f)/\g k' f/\c f=ax aB:=by
  intro n
  induction n with
  | zero=>intro k st h;omega
  | succ n ih=>
   intro k st q m;rcases step k st m with i | ⟨i,s2,k',e,t,l⟩
   ·exact⟨st,k,by unfold YT;rw[i];rfl,m,i⟩
   ·obtain⟨f,p,a,b,d⟩:=ih k' s2 (by omega) l;refine⟨f,p,?_,b,d⟩;unfold YT;rw[i];simp only[e];exact a
 obtain⟨f,k',a,b,d⟩:=j (k+1) k s (by omega) o;exact⟨f,k',Lx a,b,d⟩
noncomputable def XM(n:Nat)(L:List Nat):List Int:=(aD n).map λh=>if h∈L then -1 else 0
theorem Jx{W:List (List Int)}{L:List Nat}(c:W.length<=7):YB [wP W,.lst (iL (nL L))]=ax (pP (XM W.length L)):=by
 have a:Zw 1 [1] (Yk [Ze ZN [Za 0]]) (.one 0) ZD (OP (xB (Zm (PF aB) (Za 0) (Za 1))) (Pz Ie (eC (.int 1))) (eC (.int 0))) [ax (wP W),ax (.lst (iL (nL L)))]=ax (.lst (iL (XM W.length L))):=by
  rw[Se (λh=>if h∈L then -1 else 0) (Xd (n:=W.length) (by simp) (by omega)) (by omega) λi b=>⟨[ax (.int (i:Int)),ax (.lst (iL (nL L)))],rfl,rfl,?_⟩]
  ·rfl
  ·have g:=RZ i L;have t:xB (Zm (PF aB) (Za 0) (Za 1)) [ax (.int (i:Int)),ax (.lst (iL (nL L)))]=ax (decide (i∈L)):=by rw[U7];show(PF aB (.int (i:Int)) (.lst (iL (nL L)))).bind blO=_;rw[g];rfl
   rw[Rz,t];by_cases q:i∈L
   ·rw[p9 q,decide_eq_true q];rfl
   ·rw[pW q,decide_eq_false q];rfl
 show YF 2 Ta _=_;unfold Ta;show(ZQ _ [ax (wP W),ax (.lst (iL (nL L)))]).bind U5=_;have:Ze Z1 [Zw 1 [1] (Yk [Ze ZN [Za 0]]) (.one 0) ZD (OP (xB (Zm (PF aB) (Za 0) (Za 1))) (Pz Ie (eC (.int 1))) (eC (.int 0)))] [ax (wP W),ax (.lst (iL (nL L)))]=ax (pP (XM W.length L)):=by simp only[Yl,Zy,Od,a,aQ,bz,RA]
 rw[M3 (v:=pP (XM W.length L)) (by rw[U6,this];simp)];rfl
theorem Jy{n:Nat}{L:List Nat}{h:Nat}(a:h<n):Zl (XM n L) h=if h∈L then -1 else 0:=ZF a
theorem W8{W:List (List Int)}{D S:List Int}{h:Nat}(a:h<D.length):Zl (ZT W D S) h=Zl D h+gN W (Zl S) h:=by rw[RU a,Zfy]
structure Hv(W:List (List Int))(b:Nat)(n0:Nat->Int)(B:Nat->Int):Prop where
 pos:∀h,h<W.length->0<=B h
 base:B b=0
 free:∀h,h<W.length->h≠b->0<=n0 h-gN W B h
theorem Zf0{W:List (List Int)}(ok:Zt W)(j:V3 W){b:Nat}(l:b<W.length)(n0:Nat->Int):∃B,Hv W b n0 B:=by
 obtain⟨z,m,_,k⟩:=Q2 ok j l (λ_=>1);have s:=(Xx (Mq ok j l (λ_=>1)) (aZ _)).nz;generalize (Ww (W.length-1) (VB W b λ_=>1) (W.length-1)).2=d at k s
 obtain⟨y,p,u⟩:∃y:Nat->Int,y b=0/\∀h,h<W.length->h≠b->gN W y h<=-1:=by
  rcases ja s with A | pos
  ·exact⟨λx=>(-1)*z x,by show(-1)*z b=0;rw[m];rfl,λh c a=>by rw[Wd,k h c a];omega⟩
  ·exact⟨z,m,λh c a=>by rw[k h c a];omega⟩
 have v:=Zfx ok j (Y:=y) l (λh c a _=>by have:=u h c a;omega);rw[p] at v;obtain⟨K,o⟩:∃K:Int,K=sN W.length (λh=>((n0 h).natAbs:Int)):=⟨_,rfl⟩;have t:0<=K:=by rw[o];exact Ym λi _=>by omega
 have g:∀h,h<W.length->- n0 h<=K:=λh c=>by
  have:∀n,h<n->- n0 h<=sN n (λh=>((n0 h).natAbs:Int)):=by
   intro n
   induction n with
   | zero=>intro q;omega
   | succ n ih=>
    intro q;show _<=sN n (λh=>((n0 h).natAbs:Int))+((n0 n).natAbs:Int);by_cases e:h=n
    ·subst e;have:=Ym (f:=λh=>((n0 h).natAbs:Int)) (n:=h) λi _=>by omega
     omega
    ·have:=ih (by omega);omega
  rw[o];exact this _ c
 refine⟨λx=>K*y x,λh c=>dQ t (v h c),by show K*y b=0;rw[p,fD],λh c a=>?_⟩;rw[Wd];have w:=u h c a;have C:K*gN W y h<=K*(-1):=fV w t;have D:=g h c;omega
theorem C8{W:List (List Int)}(ok:Zt W){b:Nat}{n0 B a:Nat->Int}(f:Hv W b n0 a)(le:∀h,h<W.length->B h<=a h){h:Nat}(d:h<W.length)(c:h≠b)(j:n0 h-gN W B h<0):B h<a h:=by
 refine Int.lt_iff_le_and_ne.mpr ⟨le h d,λe=>?_⟩;have l:=f.free h d c
 have m:gN W B h<=gN W a h:=by
  have:0<=sN W.length (λg=>ZM W h g*(a g-a h)+(-1)*(ZM W h g*(B g-B h))):=Ym λg i=>by
   have k:ZM W h g*(a g-a h)+(-1)*(ZM W h g*(B g-B h))=ZM W h g*(a g-B g):=by rw[e,dJ,jr,<-Int.sub_eq_add_neg,<-fC];congr 1;omega
   rw[k];exact dQ (ok.lo h g d i) (by have:=le g i;omega)
  rw[ZS,ZJ] at this;unfold gN;omega
 omega
structure Settled(W:List (List Int))(b:Nat)(N:List Int)(F:List Nat):Prop where
 free:∀h,h<W.length->h≠b->0<=Zl N h
 burn:Burn W N b F
 stop:YX W N F=aA
 all:∀h,h<W.length->h∈F
theorem Zbs{W:List (List Int)}{N:List Int}(ok:Zt W)(Q:V3 W){b:Nat}(hb:b<W.length){n0 B R:Nat->Int}{d:Int}(O:0<d)(Rb:R b=0)(M:∀h,h<W.length->0<=R h/\R h<d)(S:∀h,h<W.length->h≠b->gN W R h = - (d*n0 h))
  (hN:∀h,h<W.length->Zl N h=n0 h-gN W B h) (f:Hv W b n0 B) (j:∀B',Hv W b n0 B'->∀h,h<W.length->B h<=B' h) {F:List Nat} (u:Burn W N b F) (st:YX W N F=aA):∀h,h<W.length->h∈F:=by
 intro x A;refine cA λv=>?_;have bF:b∈F:=av u.hd;obtain⟨T,m⟩:∃T:Nat->Int,∀h,T h=if h∈F then 0 else 1:=⟨_,λ_=>rfl⟩
 have H:T b=0:=by rw[m,p9 bF]
 have C:∀h,0<=T h/\T h<=1:=λh=>by rw[m];split<;>omega
 -- what the houses outside lend to those that burn
 have G:∀h,h<W.length->h∉F->gN W T h = - Z6 W h F:=λh c w=>by
  have L:gN W T h=(-1)*sN W.length (λg=>if g∈F then ZM W h g else 0):=by
   unfold gN;rw[<-ZJ];refine Zi λg E=>?_;rw[m,m,pW w];split
   ·rw[Int.zero_sub,Int.mul_neg,oH];omega
   ·simp
  have I:sN W.length (λg=>if g∈F then ZM W h g else 0)=Z6 W h F:=by
   have D:∀l:List Nat,l.Nodup->(∀x∈l,x<W.length)->sN W.length (λg=>if g∈l then ZM W h g else 0)=(l.map λo=>ZM W h o).sum:=by
    intro l
    induction l with
    | nil=>intro _ _;rw[YH λi _=>by simp];rfl
    | cons a r ih=>
     intro y lt;rw[aq] at y;rw[af,bR,<-ih y.2 λx A=>lt x (aN _ A)];have:ZM W h a=sN W.length (λg=>if g=a then ZM W h a else 0):=by rw[Z3 (k:=a) (lt a ag) λi _ Z=>pW Z,p9 rfl]
     rw[this,<-ZS];refine Zi λg E=>?_;by_cases q:g=a
     ·subst q;rw[p9 ag,p9 rfl,pW y.1];omega
     ·by_cases s:g∈r
      ·rw[p9 (aN _ s),pW q,p9 s];omega
      ·rw[pW (λz=>(aa.mp z).elim q s),pW q,pW s];rfl
   exact D F u.nd u.lt
  rw[L,I];omega
 have n:∀h,h<W.length->h∈F->0<=gN W T h:=λh c w=>Ym λg E=>by rw[show T h=0 by rw[m,p9 w]];exact dQ (ok.lo h g c E) (by have:=(C g).1;omega)
 have sub:∀h,gN W (λx=>B x+(-1)*T x) h=gN W B h-gN W T h:=λh=>by rw[Vz,Wd];omega
 have free:∀h,h<W.length->h≠b->0<=n0 h-gN W (λx=>B x+(-1)*T x) h:=λh c e=>by
  rw[sub];by_cases q:h∈F
  ·have:=n h c q;have:=f.free h c e;omega
  ·have t:=G h c q;have U:=Mh st c q;rw[hN h c] at U;omega
 have J:Hv W b n0 (λx=>B x+(-1)*T x):=by
  refine⟨λh c=>?_,by show B b+(-1)*T b=0;rw[f.base,H];rfl,free⟩
  have up:=Zfx ok Q (Y:=λx=>R x+d*(B x+(-1)*T x)) hb (λh c e _=>by
   rw[Vz R (λx=>d*(B x+(-1)*T x)),Wd,S h c e];have:=free h c e;have X:0<=d*(n0 h-gN W (λx=>B x+(-1)*T x) h):=dQ (by omega) this;rw[fC] at X;omega) h c
  have up:R b+d*(B b+(-1)*T b)<=R h+d*(B h+(-1)*T h):=up;rw[Rb,f.base,H] at up;have:=(M h c).2;refine pA.mp λp=>?_;have P:B h+(-1)*T h<=-1:=by have p:B h+(-1)*T h<0:=p;omega
  have h5:d*(B h+(-1)*T h)<=d*(-1):=fV P (by omega);omega
 have t:=j _ J x A;have t:B x<=B x+(-1)*T x:=t;rw[show T x=1 by rw[m,pW v]] at t;omega
theorem C9{W:List (List Int)}{D:List Int}{b:Nat}(ok:Zt W)(U:V3 W)(hd:D.length=W.length)(P:b<W.length)(hD:∀h,h<W.length->(Zl D h).natAbs<=2^208) :
  ∃(S N:List Int) (F:List Nat),Tc [wP W,pP D,.int (b:Int)]=ax (.tup [pP (Y2 S),pP N,.lst (iL (nL F))])/\S.length=W.length/\N=ZT W D S/\Settled W b N F:=by
 have hp:=ok.pos;have hf:=ok.few;obtain⟨a,d,R,en,l0,d0,Rb,S0b,Rs,Rg⟩:=FK ok U hd P hD;obtain⟨n0,H⟩:∃n0:Nat->Int,∀h,n0 h=Zl D h+gN W (Zl a) h:=⟨_,λ_=>rfl⟩;obtain⟨y,fs⟩:=Zf0 ok U P n0;have A:∀S:List Int,(ZT W D S).length=W.length:=λS=>by rw[Z9,hd]
 let st:List Int->Option PV->ZG:=λS n=>[ax (wP W),ax (pP D),ax (.int (b:Int)),ax (pP S),ax (pP (ZT W D S)),ax (.lst (iL (nL (Xl (ZT W D S) b)))),n];have u:∀(S:List Int)(B:Nat->Int),(∀h,h<W.length->Zl S h=Zl a h-B h)->∀h,h<W.length->Zl (ZT W D S) h=n0 h-gN W B h:=λS B e h j=>by rw[W8 (by omega),H,V6 (Z:=λx=>Zl a x+(-1)*B x) j (λg hg=>by rw[e g hg];omega),Vz,Wd];omega
 let J:Nat->ZG->Prop:=λk s=>∃(S:List Int) (B:Nat->Int) (n:Option PV),s=st S n/\S.length=W.length/\(∀h,h<W.length->Zl S h=Zl a h-B h)/\(∀h,h<W.length->0<=B h)/\B b=0/\(∀t,Hv W b n0 t->∀h,h<W.length->B h<=t h)/\k=(sN W.length (λh=>y h-B h)).toNat;have j0:J (sN W.length (λh=>y h-0)).toNat (st a aA):=⟨a,λ_=>0,aA,rfl,l0,λh _=>by(show Zl a h=Zl a h-0);omega,λh _=>dX 0,rfl,λt f h j=>f.pos h j,rfl⟩
 obtain⟨s',k',w1,⟨S,B,n,rfl,lS,M,X,Bb,I,_⟩,w3⟩:=Zbr (c:=xB (Zm El (Ze ZN [Za 5]) (eC (.int 0)))) (fb:=(Zn (Zs 6 (Ze YB [Za 0,Za 5]))
  (Zn (Zs 3 (Ze Vu [Za 3,Za 6]))
  (Zn (Zs 4 (Ze VQ [Za 0,Za 4,Za 6]))
  (Zs 5 (Ze YZ [Za 4,Za 2])))))) J (by
   rintro k s ⟨S,B,n,rfl,lS,M,X,Bb,I,rfl⟩;have O:xB (Zm El (Ze ZN [Za 5]) (eC (.int 0))) (st S n)=ax (decide ((0:Int)<((Xl (ZT W D S) b).length:Int))):=by show ax (decide ((0:Int)<((iL (nL (Xl (ZT W D S) b))).length:Int)))=_;simp[nL]
   by_cases q:Xl (ZT W D S) b=[]
   ·left;rw[O,q];rfl
   ·right;have ql:0<(Xl (ZT W D S) b).length:=fK.mpr q;refine⟨by rw[O,decide_eq_true (by omega)],?_⟩;generalize hL:Xl (ZT W D S) b=L at *;have o:∀h,h∈L↔h<W.length/\h≠b/\Zl (ZT W D S) h<0:=λh=>by rw[<-hL,Zbi,A]
    let m:=PY S (XM W.length L);have lb:(XM W.length L).length=W.length:=by simp[XM]
    have Q:m.length=W.length:=by rw[V5];exact lS
    have e1:Zs 6 (Ze YB [Za 0,Za 5]) [ax (wP W),ax (pP D),ax (.int (b:Int)),ax (pP S),ax (pP (ZT W D S)),ax (.lst (iL (nL L))),n]=ax (.nx [ax (wP W),ax (pP D),ax (.int (b:Int)),ax (pP S),ax (pP (ZT W D S)),ax (.lst (iL (nL L))),ax (pP (XM W.length L))]):=by have:Ze YB [Za 0,Za 5] [ax (wP W),ax (pP D),ax (.int (b:Int)),ax (pP S),ax (pP (ZT W D S)),ax (.lst (iL (nL L))),n]=ax (pP (XM W.length L)):=Jx hf;rw[Yf,this];rfl
    have e2:Zs 3 (Ze Vu [Za 3,Za 6]) [ax (wP W),ax (pP D),ax (.int (b:Int)),ax (pP S),ax (pP (ZT W D S)),ax (.lst (iL (nL L))),ax (pP (XM W.length L))]=ax (.nx [ax (wP W),ax (pP D),ax (.int (b:Int)),ax (pP m),ax (pP (ZT W D S)),ax (.lst (iL (nL L))),ax (pP (XM W.length L))]):=by have:Ze Vu [Za 3,Za 6] [ax (wP W),ax (pP D),ax (.int (b:Int)),ax (pP S),ax (pP (ZT W D S)),ax (.lst (iL (nL L))),ax (pP (XM W.length L))]=ax (pP m):=Jl (by omega) (by omega);rw[Yf,this];rfl
    have rr:ZT W (ZT W D S) (XM W.length L)=ZT W D m:=Zfg hd λi hi=>RT (by omega)
    have T:Zs 4 (Ze VQ [Za 0,Za 4,Za 6]) [ax (wP W),ax (pP D),ax (.int (b:Int)),ax (pP m),ax (pP (ZT W D S)),ax (.lst (iL (nL L))),ax (pP (XM W.length L))]=ax (.nx [ax (wP W),ax (pP D),ax (.int (b:Int)),ax (pP m),ax (pP (ZT W D m)),ax (.lst (iL (nL L))),ax (pP (XM W.length L))]):=by
     have:Ze VQ [Za 0,Za 4,Za 6] [ax (wP W),ax (pP D),ax (.int (b:Int)),ax (pP m),ax (pP (ZT W D S)),ax (.lst (iL (nL L))),ax (pP (XM W.length L))]=ax (pP (ZT W D m)):=by rw[<-rr];exact Jm ok (A S) lb
     rw[Yf,this];rfl
    have e4:Zs 5 (Ze YZ [Za 4,Za 2]) [ax (wP W),ax (pP D),ax (.int (b:Int)),ax (pP m),ax (pP (ZT W D m)),ax (.lst (iL (nL L))),ax (pP (XM W.length L))]=ax (.nx (st m (ax (pP (XM W.length L))))):=by have:Ze YZ [Za 4,Za 2] [ax (wP W),ax (pP D),ax (.int (b:Int)),ax (pP m),ax (pP (ZT W D m)),ax (.lst (iL (nL L))),ax (pP (XM W.length L))]=ax (.lst (iL (nL (Xl (ZT W D m) b)))):=S3 (by rw[A];omega);rw[Yf,this];rfl
    obtain⟨t,p⟩:∃t:Nat->Int,∀h,t h=B h+(if h∈L then 1 else 0):=⟨_,λ_=>rfl⟩
    have less:∀C,Hv W b n0 C->∀h,h<W.length->t h<=C h:=λC Y h j=>by
     rw[p];by_cases z:h∈L
     ·rw[p9 z];obtain⟨_,z2,z3⟩:=(o h).mp z;rw[u S B M h j] at z3;have:=C8 ok Y (λg hg=>I C Y g hg) j z2 z3;omega
     ·rw[pW z];have:=I C Y h j;omega
    refine⟨st m (ax (pP (XM W.length L))),(sN W.length (λh=>y h-t h)).toNat,?_,?_,m,t,_,rfl,Q,λh j=>?_,λh j=>?_,?_,less,rfl⟩
    ·show Zn _ _ [ax (wP W),ax (pP D),ax (.int (b:Int)),ax (pP S),ax (pP (ZT W D S)),ax (.lst (iL (nL (Xl (ZT W D S) b)))),n]=_;rw[hL,W5 e1,W5 e2,W5 T,e4]
    ·have p1:0<=sN W.length (λh=>y h-t h):=Ym λh j=>by have:=less y fs h j;omega
     have p2:sN W.length (λh=>y h-B h)=sN W.length (λh=>y h-t h)+sN W.length (λh=>if h∈L then 1 else 0):=by
      rw[<-ZS];exact Zi λh _=>by rw[p];omega
     have p3:0<sN W.length (λh=>if h∈L then(1:Int) else 0):=by refine Int.not_le.mp λz=>?_;obtain⟨x,hx⟩:=List.exists_mem_of_length_pos ql;have:=Tv (f:=λh=>if h∈L then(1:Int) else 0) (λi _=>by split<;>omega) z x ((o x).mp hx).1;rw[p9 hx] at this;omega
     omega
    ·rw[RT (by omega),Jy j,M h j,p];split<;>omega
    ·have:=X h j;rw[p];split<;>omega
    ·rw[p,pW (λz=>((o b).mp z).2.1 rfl),Bb];rfl) j0
 have G:Xl (ZT W D S) b=[]:=by
  refine cA λq=>?_;have ql:0<(Xl (ZT W D S) b).length:=fK.mpr q;have O:xB (Zm El (Ze ZN [Za 5]) (eC (.int 0))) (st S n)=ax (decide ((0:Int)<((Xl (ZT W D S) b).length:Int))):=by show ax (decide ((0:Int)<((iL (nL (Xl (ZT W D S) b))).length:Int)))=_;simp[nL]
  rw[O,decide_eq_true (by omega)] at w3;cases w3
 have free:=debt_nil.mp G;rw[A] at free;have nr:=u S B M;have fB:Hv W b n0 B:=⟨X,Bb,λh j w=>by rw[<-nr h j];exact free h j w⟩;obtain⟨F,eF,Bu,E⟩:=Mi (D:=ZT W D S) ok (A S) P
 -- what the rounding left
 have all:=Zbs (N:=ZT W D S) ok U P (n0:=n0) (B:=B) (R:=λh=>R h+(- d)*Zl a h) d0 (by show R b+(- d)*Zl a b=0;rw[Rb,S0b,fD];rfl)
  (λh j=>by
   have:=Rs h j;show 0<=R h+(- d)*Zl a h/\R h+(- d)*Zl a h<d;rw[dJ];omega)
  (λh j w=>by rw[Vz R (λx=>(- d)*Zl a x),Wd,Rg h j w,H,jB,dJ];omega) nr fB I Bu E
 refine⟨S,ZT W D S,F,?_,lS,rfl,free,Bu,E,all⟩;have e1:Zs 3 (Ze X5 [Za 0,Za 1,Za 2]) [ax (wP W),ax (pP D),ax (.int (b:Int)),aA,aA,aA,aA]=ax (.nx [ax (wP W),ax (pP D),ax (.int (b:Int)),ax (pP a),aA,aA,aA]):=by have:Ze X5 [Za 0,Za 1,Za 2] [ax (wP W),ax (pP D),ax (.int (b:Int)),aA,aA,aA,aA]=ax (pP a):=en;rw[Yf,this];rfl
 have e2:Zs 4 (Ze VQ [Za 0,Za 1,Za 3]) [ax (wP W),ax (pP D),ax (.int (b:Int)),ax (pP a),aA,aA,aA]=ax (.nx [ax (wP W),ax (pP D),ax (.int (b:Int)),ax (pP a),ax (pP (ZT W D a)),aA,aA]):=by have:Ze VQ [Za 0,Za 1,Za 3] [ax (wP W),ax (pP D),ax (.int (b:Int)),ax (pP a),aA,aA,aA]=ax (pP (ZT W D a)):=Jm ok hd l0;rw[Yf,this];rfl
 have T:Zs 5 (Ze YZ [Za 4,Za 2]) [ax (wP W),ax (pP D),ax (.int (b:Int)),ax (pP a),ax (pP (ZT W D a)),aA,aA]=ax (.nx (st a aA)):=by have:Ze YZ [Za 4,Za 2] [ax (wP W),ax (pP D),ax (.int (b:Int)),ax (pP a),ax (pP (ZT W D a)),aA,aA]=ax (.lst (iL (nL (Xl (ZT W D a) b)))):=S3 (by rw[A];omega);rw[Yf,this];rfl
 show YF 7 Nt _=_;unfold Nt;show(Zn _ _ [ax (wP W),ax (pP D),ax (.int (b:Int)),aA,aA,aA,aA]).bind U5=_;rw[W5 e1,W5 e2,W5 T,W5 w1];have g1:Ze T1 [Za 3] (st S n)=ax (pP (Y2 S)):=Mr (by omega) (by omega);have g2:eP (Za 4) (st S n)=ax (pP (ZT W D S)):=by show(ax (pP (ZT W D S))).bind (λl=>if ZO l=aC then ax l else aA)=_;simp
 have g3:Ze Vl [Za 0,Za 4,Za 2] (st S n)=ax (.lst (iL (nL F))):=eF;rw[M3 (v:=.tup [pP (Y2 S),pP (ZT W D S),.lst (iL (nL F))]) (by rw[Rw,Zy,Zy,Zy,g1,g2,g3];rfl)];rfl
theorem gIx_p{n:Nat}{l:List Int}(h:l.length=n):∀k:Nat,k<n->ZR (pP l) (.int (k:Int))=ax (.int (Zl l k)):=λk a=>YD (by omega)
theorem Zhh{n:Nat}{l:List Int}(h:l.length=n):∀k:Nat,k<n->ZR (.lst (iL l)) (.int (k:Int))=ax (.int (Zl l k)):=λk a=>YD (by omega)
theorem Zf1(Y:Nat->Int){n:Nat}(h:0<n):∃h,h<n/\∀g,g<n->Y g<=Y h:=by obtain⟨x,a,c⟩:=Mp (λi=>- Y i) h;exact⟨x,a,λg b=>by have:=c g b;have : - Y x<=- Y g:=this;omega⟩
theorem Dc{W:List (List Int)}(ok:Zt W){h:Nat}(n:h<W.length){P:Nat->Prop}[DecidablePred P]:∀{l:List Nat},l.Nodup->(∀x∈l,x<W.length/\¬P x)->Z6 W h l<=sN W.length (λg=>if P g then 0 else ZM W h g):=by
 intro l b f
 have e:∀l:List Nat,l.Nodup->(∀x∈l,x<W.length)->sN W.length (λg=>if g∈l then ZM W h g else 0)=(l.map λo=>ZM W h o).sum:=by
  intro l
  induction l with
  | nil=>intro _ _;rw[YH λi _=>by simp];rfl
  | cons a r ih=>
   intro b lt;rw[aq] at b;rw[af,bR,<-ih b.2 λx d=>lt x (aN _ d)];have:ZM W h a=sN W.length (λg=>if g=a then ZM W h a else 0):=by rw[Z3 (k:=a) (lt a ag) λi _ m=>pW m,p9 rfl]
   rw[this,<-ZS];refine Zi λg j=>?_;by_cases q:g=a
   ·subst q;rw[p9 ag,p9 rfl,pW b.1];omega
   ·by_cases c:g∈r
    ·rw[p9 (aN _ c),pW q,p9 c];omega
    ·rw[pW (λz=>(aa.mp z).elim q c),pW q,pW c];rfl
 unfold Z6;rw[<-e l b λx d=>(f x d).1]
 have:0<=sN W.length (λg=>(if P g then 0 else ZM W h g)+(-1)*(if g∈l then ZM W h g else 0)):=Ym λg j=>by
  have:=ok.lo h g n j;by_cases q:g∈l
  ·rw[p9 q,pW (f g q).2];omega
  ·rw[pW q];split<;>omega
 rw[ZS,ZJ] at this;omega
theorem Dd{W:List (List Int)}{N M:List Int}{b:Nat}{F:List Nat}(ok:Zt W)(R:b<W.length){T:Nat->Int}(B:Burn W N b F)(all:∀h,h<W.length->h∈F)(G:∀h,h<W.length->Zl M h=Zl N h+gN W T h)(fr:∀h,h<W.length->h≠b->0<=Zl M h):∀h,h<W.length->T h<=T b:=by
 intro x E;refine pA.mp λO=>?_;obtain⟨m,H,s⟩:=Zf1 T (n:=W.length) (by omega);have L:T b<T m:=by have:=s x E;omega
 -- the first of the greatest that burns
 have A:∀k:Nat,(∃j,j<k/\∃h,F[j]?=ax h/\T h=T m)\/∀j,j<k->∀h,F[j]?=ax h->T h≠T m:=by
  intro k;by_cases q:∃j,j<k/\∃h,F[j]?=ax h/\T h=T m
  ·exact .inl q
  ·exact .inr λj a h c e=>q ⟨j,a,h,c,e⟩
 have first:∀k:Nat,(∃h,F[k]?=ax h/\T h=T m)->∃k h:Nat,F[k]?=ax h/\T h=T m/\∀j,j<k->∀h,F[j]?=ax h->T h≠T m:=by
  intro k
  induction k using lM with
  | ind k ih=>
   rintro⟨h,e,t⟩;rcases A k with⟨j,a,q⟩ | q
   ·exact ih j a q
   ·exact⟨k,h,e,t,q⟩
 obtain⟨I,l,w⟩:=bp (all m H);obtain⟨k,h,i,p,d⟩:=first I ⟨m,by rw[aE l,w],rfl⟩
 have C:1<=k:=by
  refine Nat.not_lt.mp λq=>?_;have:k=0:=by omega
  subst this;rw[B.hd] at i;cases i;omega
 have J:=(aR.mp i).1;have c:h<W.length:=B.lt h (av i);have st:=B.st k C J;rw[i] at st;obtain⟨_,_,lt⟩:=UE st;have o:h≠b:=λz=>by rw[z] at p;omega
 have D:(F.take k).Nodup:=B.nd.sublist (e7 _ _);have S:=Dc (h:=h) ok c (P:=λg=>T g=T m) D λy v=>by refine⟨B.lt y (cW v),λz=>?_⟩;obtain⟨j,a,e⟩:=bp v;rw[bG] at a;exact d j (by omega) y (by rw[<-dA (show j<k by omega),aE (by rw[bG];exact a),e]) z
 have Q:gN W T h<=- sN W.length (λg=>if T g=T m then 0 else ZM W h g):=by
  have:0<=sN W.length (λg=>(-1)*(if T g=T m then 0 else ZM W h g)+(-1)*(ZM W h g*(T g-T h))):=Ym λg u=>by
   have lo:=ok.lo h g c u;have mg:=s g u;rw[p];by_cases q:T g=T m
   ·rw[p9 q,q];simp
   ·rw[pW q];have:0<=ZM W h g*(T m-T g-1):=dQ lo (by omega);have e:ZM W h g*(T m-T g-1)=(-1)*ZM W h g+(-1)*(ZM W h g*(T g-T m)):=by rw[fC,fC,oH,fC];omega
    omega
  rw[ZS,ZJ,ZJ] at this;unfold gN;omega
 have f:=fr h c o;rw[G h c] at f;omega
theorem Hw{W:List (List Int)}{N M:List Int}{b:Nat}{F G:List Nat}(ok:Zt W)(c:b<W.length){T:Nat->Int}(s1:Settled W b N F)(s2:Settled W b M G)(e:∀h,h<W.length->Zl M h=Zl N h+gN W T h):∀h,h<W.length->T h=T b:=by intro h a;have g:=Dd ok c s1.burn s1.all e s2.free h a;have d:=Dd (T:=λx=>(-1)*T x) ok c s2.burn s2.all (λx f=>by rw[e x f,Wd];omega) s1.free h a;have d:(-1)*T h<=(-1)*T b:=d;omega
theorem R3{W:List (List Int)}{T:Nat->Int}{c:Int}(e:∀h,h<W.length->T h=c){h:Nat}(b:h<W.length):gN W T h=0:=YH λg a=>by rw[e g a,e h b];simp
theorem Ba{W:List (List Int)}{D S N:List Int}{b:Nat}{F:List Nat}(ok:Zt W)(s:V3 W)(hd:D.length=W.length)(o:b<W.length)(q:∀h,h<W.length->(Zl D h).natAbs<=2^208)
  (E:S.length=W.length) (p:N=ZT W D S) (st:Settled W b N F):Tc [wP W,pP D,.int (b:Int)]=ax (.tup [pP (Y2 S),pP N,.lst (iL (nL F))]):=by
 have B:=ok.pos;obtain⟨d,k,z,e,v,f,a⟩:=C9 ok s hd o q;have C:N.length=W.length:=by rw[p,Z9,hd]
 have t:k.length=W.length:=by rw[f,Z9,hd]
 have g:∀h,h<W.length->Zl N h=Zl k h+gN W (λx=>Zl S x+(-1)*Zl d x) h:=λh m=>by rw[p,f,W8 (by omega),W8 (by omega),Vz (Zl S) (λx=>(-1)*Zl d x),Wd];omega
 have j:=Hw ok o a st g;obtain⟨c,u⟩:∃c,c=Zl S b+(-1)*Zl d b:=⟨_,rfl⟩;have j:∀h,h<W.length->Zl S h+(-1)*Zl d h=c:=λh m=>by rw[u];exact j h m
 have n:N=k:=WG (by omega) λi w=>by rw[g i (by omega),R3 (c:=c) j (by omega)];omega
 have A:Y2 S=Y2 d:=Hd c (by omega) (by omega) λi w=>by have:=j i (by omega);omega
 have y:F=z:=by have b1:=st.burn;have l:=st.stop;rw[n] at b1 l;exact Burn.uniq b1 a.burn l a.stop
 rw[e,A,n,y]
theorem FL{f:Nat->Int}{M:Nat}:∀{n:Nat},(∀i,i<n->(f i).natAbs<=M)->(sN n f).natAbs<=n*M
 | 0,_=>by show(0:Int).natAbs<=_;simp
 | n+1,h=>by have a:=FL (n:=n) λi b=>h i (by omega);have c:=h n (by omega);show(sN n f+f n).natAbs<=_;rw[Nat.add_mul,Nat.one_mul];omega
theorem Hx{W:List (List Int)}{N:List Int}{b:Nat}{F:List Nat}(ok:Zt W)(st:Settled W b N F){h:Nat}(a:h<W.length)(j:h≠b):0<=Zl N h/\Zl N h<=63:=by
 have t:=ok.few;refine⟨st.free h a j,?_⟩;obtain⟨k,d,e⟩:=bp (st.all h a);have c:F[k]?=ax h:=by rw[aE d,e]
 have m:1<=k:=by
  refine Nat.not_lt.mp λq=>?_;have:k=0:=by omega
  subst this;rw[st.burn.hd] at c;cases c;exact j rfl
 have s:=st.burn.st k m d;rw[c] at s;obtain⟨_,_,lt⟩:=UE s;have u:=Dc (h:=h) ok a (P:=λ_=>False) (l:=F.take k) (st.burn.nd.sublist (e7 _ _)) λy o=>⟨st.burn.lt y (cW o),λz=>z⟩;have p:=Jw (f:=λg=>if False then 0 else ZM W h g) (n:=W.length) λg i=>by rw[pW (λz=>z)];exact⟨ok.lo h g a i,ok.hi h g a i⟩
 omega
theorem Tw(l:List Int):l.sum=sN l.length (Zl l):=by rw[<-WH,Ko]
theorem Mu{b:Type}{p q:b->Bool}:∀{l:List b},(∀x∈l,p x=q x)->l.find? p=l.find? q
 | [],_=>rfl
 | a::r,h=>by rw[c9,c9,h a ag,Mu (l:=r) λx c=>h x (aN _ c)]
theorem Sj{f:Nat->Int}:∀{n:Nat},(∀i,i<n->0<=f i)->∀{k:Nat},k<n->f k<=sN n f
 | 0,_,k,h=>by omega
 | n+1,z,k,h=>by
  show f k<=sN n f+f n;have b:=z n (by omega);by_cases q:k=n
  ·subst q;have:=Ym (n:=k) λi a=>z i (by omega);omega
  ·have:=Sj (n:=n) (λi a=>z i (by omega)) (k:=k) (by omega);omega
noncomputable def kI(N:List Int):List Y8:=N.map nJ
theorem FN(N:List Int):MT (pP N)=ax (kI N):=by
 show LA (iL N)=_
 induction N with
 | nil=>rfl
 | cons x r ih=>
  show(MS (.int x)).bind (λk=>(LA (iL r)).map (k::·))=_;rw[ih];rfl
theorem FO{N M:List Int}(h:kI N=kI M):N=M:=by
 have:∀{N M:List Int},kI N=kI M->N=M:=by
  intro N
  induction N with
  | nil=>intro M h;cases M with
   | nil=>rfl
   | cons y s=>simp[kI] at h
  | cons x r ih=>intro M h;cases M with
   | nil=>simp[kI] at h
   | cons y s=>
    simp[kI] at h;obtain⟨a,b⟩:=h;rw[a,ih (by unfold kI;exact(by simpa using b))]
 exact this h
noncomputable def Zbt(n h:Nat):List Int:=(aD n).map λg=>if g=h then 1 else 0
theorem Bc{W:List (List Int)}{h:Nat}(d:W.length<=7):Nv [wP W,.int (h:Int)]=ax (pP (Zbt W.length h)):=by
 have a:Zw 1 [1] (Yk [Ze ZN [Za 0]]) (.one 0) ZD (OP (xB (Zm (Xz aB) (Za 0) (Za 1))) (eC (.int 1)) (eC (.int 0))) [ax (wP W),ax (.int (h:Int))]=ax (.lst (iL (Zbt W.length h))):=
  Se (λg=>if g=h then 1 else 0) (Xd (by simp) (by omega)) (by omega) λg c=>⟨[ax (.int (g:Int)),ax (.int (h:Int))],rfl,rfl,by
   by_cases q:g=h
   ·subst q;simp
   ·have b:¬(g:Int)=(h:Int):=by omega
    simp[q,b]⟩
 show(ZQ _ [ax (wP W),ax (.int (h:Int))]).bind U5=_;rw[M3 (by rw[U6,Yl,Zy,a];exact Zn8)];rfl
theorem R4{ns:List Int}(h:ns.length<=63)(k:Nat):Vv [.cst (iL ns),.int (k:Int)]=ax (.int (Zl ns k)):=by
 have c:xB (Zm MO (Za 1) (Ze ZN [Za 0])) [ax (.cst (iL ns)),ax (.int (k:Int))]=ax (decide (k<ns.length)):=by
  show ax (decide ((k:Int)<((iL ns).length:Int)))=_;congr 1;rw[aJ];by_cases q:k<ns.length
  ·rw[decide_eq_true q,decide_eq_true (by omega)]
  ·rw[decide_eq_false q,decide_eq_false (by omega)]
 have v:OP (xB (Zm MO (Za 1) (Ze ZN [Za 0]))) (Zm ZR (Za 0) (Za 1)) (eC (.int 0)) [ax (.cst (iL ns)),ax (.int (k:Int))]=ax (.int (Zl ns k)):=by
  rw[Rz,c];by_cases q:k<ns.length
  ·rw[decide_eq_true q];exact YD q
  ·rw[decide_eq_false q];have:Zl ns k=0:=by unfold Zl;rw[aF,bw (by omega)];rfl
   rw[this];rfl
 show(ZQ _ [ax (.cst (iL ns)),ax (.int (k:Int))]).bind U5=_;rw[M3 (vP v)];rfl
theorem Xy(c:Int){t m:Nat}(o:t<=1000)(q:0<m):∃v:Nat,v<m/\Xj [.int c,.int (t:Int),.int (m:Int)]=ax (.int (v:Int)):=by
 have b:(0:Int)<(m:Int):=by omega
 have g:∀x:Int,∃v:Nat,v<m/\x%(m:Int)=(v:Int):=λx=>by have n:=oR x (show(m:Int)≠0 by omega);have p:=nF x b;exact⟨(x%(m:Int)).toNat,by omega,by omega⟩
 generalize e:(c%999983+(t:Int))*((t:Int)+389)%999983=x1;have b1:0<=x1/\x1<2000000:=by omega
 generalize f:(x1*x1+c/999983+(t:Int))%999979=x2;obtain⟨v,l,k⟩:=g (x2/3);refine⟨v,l,?_⟩;have h:CMul (c%999983+(t:Int)) ((t:Int)+389):=.inl (by omega);have d:CMul x1 x1:=.inl (by omega)
 have j:Zs 3 (eP (Zm Ve (Zm Px (Zm YJ (Zm Ve (Za 0) (eC (.int 999983))) (Za 1)) (Zm YJ (Za 1) (eC (.int 389)))) (eC (.int 999983)))) [ax (.int c),ax (.int (t:Int)),ax (.int (m:Int)),aA]=ax (.nx [ax (.int c),ax (.int (t:Int)),ax (.int (m:Int)),ax (.int x1)]):=by
  rw[Yf,vP (a:=x1) (by
   rw[<-e];exact vC (vC (vI (vC rfl rfl (by decide)) rfl) (vI rfl rfl) h) rfl (by decide))]
  rfl
 have i:Zs 3 (eP (Zm Ve (Zm YJ (Zm YJ (Zm Px (Za 3) (Za 3)) (Zm SD (Za 0) (eC (.int 999983)))) (Za 1)) (eC (.int 999979)))) [ax (.int c),ax (.int (t:Int)),ax (.int (m:Int)),ax (.int x1)]=ax (.nx [ax (.int c),ax (.int (t:Int)),ax (.int (m:Int)),ax (.int x2)]):=by
  rw[Yf,vP (a:=x2) (by
   rw[<-f];exact vC (vI (vI (vC rfl rfl d) (vC rfl rfl ⟨by decide,by decide⟩)) rfl) rfl (by decide))]
  rfl
 show(Zn _ _ [ax (.int c),ax (.int (t:Int)),ax (.int (m:Int)),aA]).bind U5=_
 rw[W5 j,W5 i,M3 (v:=.int (v:Int)) (vP (by
  rw[<-k];exact vC (vC rfl rfl ⟨by decide,by decide⟩) rfl b))]
 rfl
theorem Ph{a:Type}(l:List a)(f:a->Int):iL (l.map f)=l.map λg=>.int (f g):=bZ
noncomputable def Mv(n:Nat)(M:List (List Int)):Int:=sN n (λi=>sN n (λj=>ZM M i j))
structure Tied(n:Nat)(M:List (List Int))(t:Nat):Prop where
 mat:MatOk n M
 few:∀i j,i<n->j<n->ZM M i j<=(t:Int)
 sum:Mv n M=2*(t:Int)
noncomputable def upM(M:List (List Int))(a b:Nat):List (List Int):=C0 M a b (ZM M a b+1)
theorem Zbu{n:Nat}{M:List (List Int)}{a b:Nat}(ok:MatOk n M)(e:a<n)(f:b<n)(ne:a≠b)(i j:Nat):ZM (upM M a b) i j=ZM M i j+((if i=a then(if j=b then 1 else 0) else 0)+(if i=b then(if j=a then 1 else 0) else 0)):=by
 unfold upM;rw[Oq ok e f];by_cases c:b=i/\a=j
 ·obtain⟨rfl,rfl⟩:=c;rw[ok.sym a b e f];omega
 ·rw[pW c];by_cases d:a=i/\b=j
  ·obtain⟨rfl,rfl⟩:=d;rw[pW ne];omega
  ·rw[pW d]
   have g:(if i=a then(if j=b then(1:Int) else 0) else 0)=0:=by
    by_cases z:i=a
    ·rw[p9 z,pW (λy=>d ⟨z.symm,y.symm⟩)]
    ·rw[pW z]
   have h:(if i=b then(if j=a then(1:Int) else 0) else 0)=0:=by
    by_cases z:i=b
    ·rw[p9 z,pW (λy=>c ⟨z.symm,y.symm⟩)]
    ·rw[pW z]
   rw[g,h];omega
theorem De{n a b:Nat}(c:a<n)(e:b<n):sN n (λi=>sN n (λj=>if i=a then(if j=b then(1:Int) else 0) else 0))=1:=by rw[Z3 c λi _ d=>YH λj _=>pW d];rw[Z3 e λj _ f=>by rw[p9 rfl,pW f],p9 rfl,p9 rfl]
theorem Tied.up{n t:Nat}{M:List (List Int)}{a b:Nat}(h:Tied n M t)(o:t<=8)(c:a<n)(d:b<n)(ne:a≠b):Tied n (upM M a b) (t+1):=by
 have f:=h.few a b c d;have lo:=h.mat.lo a b c d;refine⟨Zjo h.mat c d ne (by omega) (by omega),λi j m l=>?_,?_⟩
 ·rw[Zbu h.mat c d ne];have g:=h.few i j m l;by_cases k:i=a
  ·have:=λz=>ne (k.symm.trans z);split<;>omega
  ·rw[pW k];by_cases e:i=b
   ·rw[p9 e];split<;>omega
   ·rw[pW e];omega
 ·unfold Mv
  have:sN n (λi=>sN n (λj=>ZM (upM M a b) i j))=sN n (λi=>sN n (λj=>ZM M i j)+(sN n (λj=>if i=a then(if j=b then(1:Int) else 0) else 0)+sN n (λj=>if i=b then(if j=a then(1:Int) else 0) else 0))):=
   Zi λi _=>by rw[<-ZS,<-ZS];exact Zi λj _=>Zbu h.mat c d ne i j
  rw[this,ZS,ZS,De c d,De d c];have:=h.sum;unfold Mv at this;omega
theorem Tied.zero(n:Nat):Tied n (aS n (aS n 0)) 0:=by
 have z:∀i j,i<n->j<n->ZM (aS n (aS n (0:Int))) i j=0:=λi j b c=>by
  have a:=(MatOk.zero n).lo i j b c;have:ZA (aS n (aS n (0:Int))) i=aS n 0:=by unfold ZA;rw[aF,b7,p9 b];rfl
  unfold ZM;rw[this];unfold Zl;rw[aF,b7,p9 c];rfl
 refine⟨MatOk.zero n,λi j b c=>by rw[z i j b c];omega,?_⟩;unfold Mv;exact YH λi b=>YH λj c=>z i j b c
theorem Tied.grow{n t:Nat}{M:List (List Int)}{a b:Nat}(h:Tied n M t)(c:a<n)(d:b<n):(∀i j,0<ZM M i j->0<ZM (upM M a b) i j)/\0<ZM (upM M a b) a b:=by have lo:=h.mat.lo a b c d;exact Zfo h.mat c d (by omega)
theorem Hy{i:Nat}{f fb e:XE}{s:ZG}{n:Nat}{M:List (List Int)}{a b:Nat}(ok:MatOk n M)(d:a<n)(l:b<n)(h:MI s i=ax (rL M))(t:Int)(j:f s=ax (.int (a:Int)))(g:fb s=ax (.int (b:Int)))(k:e s=ax (.int t)) :
  WD i f fb e s=ax (.nx (s.set i (ax (.lst (rL (Qf M a b t)))))):=by
 have c:(rL M).length=n:=by unfold rL;rw[aJ];exact ok.len
 rw[Nd k j g h (RF (by rw[c];exact d)) (Fu (by rw[ok.len];exact d)) (ZY _) rfl (RF (by rw[aJ,ok.row a d];exact l)),Za5]
theorem L6{i:Nat}{h fb f:XE}{s:ZG}{n:Nat}{M:List (List Int)}{a b:Nat}{u:Int}(ok:MatOk n M)(g:a<n)(e:b<n)(m:MI s i=ax (rL (Qf M a b u)))(t:Int)(k:h s=ax (.int (b:Int)))(j:fb s=ax (.int (a:Int)))(l:f s=ax (.int t)) :
  WD i h fb f s=ax (.nx (s.set i (ax (.lst (rL (Qf (Qf M a b u) b a t)))))):=by
 have d:=WT (t:=u) (b:=b) ok.len ok.row g;have c:(rL (Qf M a b u)).length=n:=by unfold rL;rw[aJ];exact d.1
 rw[Nd l k j m (RF (by rw[c];exact e)) (Fu (by rw[d.1];exact e)) (ZY _) rfl (RF (by rw[aJ,d.2 b e];exact g)),Za5]
theorem Jz{s:ZG}{c d fb:XE}{n:Nat}{M:List (List Int)}{a b:Nat}(h:M.length=n)(o:∀i,i<n->(ZA M i).length=n)(e:a<n)(p:b<n)(g:c s=ax (.lst (rL M)))(j:d s=ax (.int (a:Int)))(f:fb s=ax (.int (b:Int))):Zm ZR (Zm ZR c d) fb s=ax (.int (ZM M a b)):=by
 have k:=TJ (Fu (by rw[h];exact e));have l:=YD (by rw[o a e];exact p);have m:Zm ZR c d s=ax (.lst (iL (ZA M a))):=by rw[XD,g,j];exact k
 rw[XD,m,f];exact l
theorem Dg{M:List (List Int)}{n k:Nat}{s:ZG}(c:M.length<=7)(h:s[k]?=ax (ax (.lst (rL M)))):eP (Ze Z1 [Zw 1 [] (YL (Za k)) (.one 0) ZD (Ze Z1 [Za 0])]) s=ax (wP M):=by
 have a:Za k s=ax (.lst (rL M)):=by show s[k]?.bind id=_;rw[h];rfl
 have b:Zw 1 [] (YL (Za k)) (.one 0) ZD (Ze Z1 [Za 0]) s=ax (.lst (tL M)):=by refine ZL M (λr=>.lst (iL r)) pP (by unfold YL;rw[a];rfl) (by omega) (λr _=>⟨[ax (.lst (iL r))],rfl,rfl,rfl⟩)
 rw[U6,Yl,Zy,b];show(if ZO (wP M)=aC then ax (wP M) else aA)=_;rw[p9 (by simp)]
structure SzOk(Z:List Int)(mo:Nat):Prop where
 ne:0<Z.length
 le:Z.length<=100
 m8:mo<=8
 rg:∀v,v<Z.length->1<=Zl Z v/\Zl Z v<=5/\Zl Z v<=(mo:Int)+1
variable {Z:List Int} {mo:Nat}
theorem SzOk.at(z:SzOk Z mo){v:Nat}(h:v<Z.length):∃n:Nat,1<=n/\n<=5/\n<=mo+1/\ZR (.lst (iL Z)) (.int (v:Int))=ax (.int (n:Int)):=by have:=z.rg v h;exact⟨(Zl Z v).toNat,by omega,by omega,by omega,(YD h).trans (by rw[g9 (by omega)])⟩
theorem Zbv{l:List Int}:ZN [.lst (iL l)]=ax (.int (l.length:Int)):=by show ax (PV.int ((iL l).length:Int))=_;rw[aJ]
theorem XN(x:Int){m:Nat}(h:0<m):∃v:Nat,v<m/\x%(m:Int)=(v:Int):=by have b:=oR x (show(m:Int)≠0 by omega);have a:=nF x (show(0:Int)<(m:Int) by omega);exact⟨(x%(m:Int)).toNat,by omega,by omega⟩
theorem vmn{f g:XE}{s:ZG}{x:Int}{m v:Nat}(e:x%(m:Int)=(v:Int))(h:0<m)(q:f s=ax (.int x))(a:g s=ax (.int (m:Int))):Zm Ve f g s=ax (.int (v:Int)):=by rw[<-e];exact vmd q a
theorem vsc{f:XE}{s:ZG}{i:Nat}(q:f s=ax (.int (i:Int))):Zm YJ f (eC (.int 1)) s=ax (.int ((i+1:Nat):Int)):=FD (b:=1) q rfl
theorem Dh{a b c n:Nat}(f:a<n)(g:b<n-1)(e:((a:Int)+1+(b:Int))%(n:Int)=(c:Int)):a≠c:=λz=>by
 subst z;have d:(a+1+b)%n=a:=by rw[show((a:Int)+1+(b:Int))=((a+1+b:Nat):Int) by omega,<-Int.natCast_emod] at e;omega
 by_cases w:a+1+b<n
 ·rw[du w] at d;omega
 ·rw[nH (by omega),du (by omega)] at d;omega
noncomputable def Zju(n:Nat)(p:Nat×Nat):Prop:=p.1<n/\p.2<n/\p.1≠p.2
noncomputable def JA(p:Nat×Nat):PV:=.tup [.int (p.1:Int),.int (p.2:Int)]
theorem Zhj{f g:XE}{s:ZG}{a b:Nat}(q:f s=ax (.int (a:Int)))(c:g s=ax (.int (b:Int))):eP (Wz [f,g]) s=ax (JA (a,b)):=ep (by rw[Rw,Zy,q,Zy,c];rfl)
theorem Hz(z:SzOk Z mo)(x:Int):∃(W:List (List Int)) (t:Nat),Ut [.int x,.lst (iL Z),.int (mo:Int)]=ax (wP W)/\Zt W/\V3 W/\W.length<=5/\Mv W.length W=2*(t:Int)/\t<=mo:=by
 have m8:=z.m8;have zl:=z.le;have zn:=z.ne
 suffices h:Y9 Us (ZP 12 [.int x,.lst (iL Z),.int (mo:Int)]) λv=>∃(W:List (List Int)) (t:Nat),v=wP W/\Zt W/\V3 W/\W.length<=5/\Mv W.length W=2*(t:Int)/\t<=mo by obtain⟨v,e,W,t,rfl,r⟩:=Pf h;exact⟨W,t,e,r⟩
 obtain⟨v,hv,ev⟩:=XN x zn;obtain⟨n,n1,n5,nm,en⟩:=z.at hv;let st:Int->List Int->List (Nat×Nat)->Option PV->Option PV->Option PV->ZG:=λx o d x6 x7 x8=>[ax (.int x),ax (.lst (iL Z)),ax (.int (mo:Int)),ax (.int (n:Int)),ax (.lst (iL o)),ax (.lst (d.map JA)),x6,x7,x8,aA,aA,aA];refine ZU (Zp (vP (o2 rfl (vmn ev zn rfl (c1 rfl Zbv)) en))) (ZU (Zp (vP (vdv rfl (c1 rfl Zbv)))) (ZU rfl (ZU rfl ?_)));refine Wv (Mk (n:=n) (λi s=>∃y o u,s=st y o [] u aA aA/\NamesOk i o) rfl ⟨_,[],aA,rfl,NamesOk.nil⟩ ?_) ?_
 ·rintro i s hi ⟨y,o,u,rfl,G⟩;obtain⟨r,hr,R⟩:=XN y (m:=i+1) (by omega);exact Z4 (Zbk (n:=r) (vmn R (by omega) rfl (vsc rfl)) rfl rfl (by omega) (by rw[G.len];omega)) (R0 (Zp (vP (vdv rfl (FD rfl rfl)))) ⟨_,_,_,rfl,G.ins r⟩)
 rintro s ⟨y1,o,u,rfl,G⟩;let U:List (Nat×Nat)->Prop:=λd=>∀j p,d[j]?=ax p->p.1=j+1/\p.2<j+1;refine Wv (Zbj (m:=1) (n:=n) (λi s=>∃y d u,s=st y o d u aA aA/\d.length+1=i/\U d) rfl rfl ⟨y1,[],u,rfl,rfl,λj p h=>by simp at h⟩ ?_) ?_
 ·rintro i s A hi ⟨y,d,u,rfl,lp,B⟩;obtain⟨r,hr,R⟩:=XN y (m:=i) (by omega);refine Z4 (Jr JA (y:=(i,r)) (Zhj rfl (vmn R (by omega) rfl rfl)) rfl (by omega)) (R0 (Zp (vP (vdv rfl rfl))) ⟨_,d++[(i,r)],_,rfl,by simp;omega,λj p h=>?_⟩);by_cases z:j<d.length
  ·rw[aj z] at h;exact B j p h
  ·have:j=d.length:=by have:=(aR.mp h).1;simp at this;omega
   subst this;simp at h;subst h;exact⟨lp.symm,by omega⟩
 rintro s ⟨y2,d,w6,rfl,lp,B⟩;obtain⟨r,hr,R⟩:=XN y2 (m:=mo+2-n) (by omega);have c7:(mo:Int)-(n:Int)+2=((mo+2-n:Nat):Int):=by omega
 obtain⟨H,hmo,m1,em⟩:∃H:Nat,H+n<=mo+1/\(1<=H->2<=n)/\Zm Px (Ze OV [Zm El (Za 3) (eC (.int 1))]) (Zm Ve (Za 0) (Zm YJ (Zm Wi (Za 2) (Za 3)) (eC (.int 2)))) (st y2 o d w6 aA aA)=ax (.int (H:Int)):=by
  have g:Ze OV [Zm El (Za 3) (eC (.int 1))] (st y2 o d w6 aA aA)=ax (.int (if 1<n then 1 else 0)):=c1 (vgt (b:=1) rfl rfl) (by
   by_cases q:1<n
   ·rw[decide_eq_true q,p9 q];rfl
   ·rw[decide_eq_false q,pW q];rfl)
  refine⟨if 1<n then r else 0,by split<;>omega,λh=>by revert h;split<;>omega,(vC (C:=CMul) (op:=(· * ·)) g (vmn R (by omega) rfl (by rw[<-c7];exact FD (Bz rfl rfl) rfl)) (.inl (by split<;>omega))).trans ?_⟩;split<;>simp
 refine ZU (Zp (vP em)) (ZU (Zp (vP (vdv rfl (FD (Bz rfl rfl) rfl)))) ?_);let P:List (Nat×Nat)->Prop:=λk=>(∀j,j<n-1->k[j]?=d[j]?)/\∀p∈k,Zju n p
 have Q:P d:=⟨λj _=>rfl,λp J=>by
  obtain⟨j,X,e⟩:=bp J;have:=B j p (by rw[aE X,e]);exact⟨by omega,by omega,by omega⟩⟩
 refine Wv (Mk (n:=H) (λi s=>∃y k u L,s=st y o k u (ax (.int (H:Int))) L/\k.length=n-1+i/\P k) rfl ⟨_,d,w6,aA,rfl,by omega,Q⟩ ?_) ?_
 ·rintro i s hi ⟨y,k,u,L,rfl,lq,all⟩;have n2:=m1 (by omega);obtain⟨a,I,ea⟩:=XN y (m:=n) (by omega);obtain⟨b,N,T⟩:=XN (y/(n:Int)) (m:=n-1) (by omega);obtain⟨c,hc,ec⟩:=XN ((a:Int)+1+(b:Int)) (m:=n) (by omega);have cn:(n:Int)-1=((n-1:Nat):Int):=by omega
  refine Z4 (Zp (vP (vmn ea (by omega) rfl rfl))) (Z4 (Zp (vP (vdv rfl rfl))) (Z4 (Jr JA (y:=(a,c)) (Zhj rfl (vmn ec (by omega) (FD (FD rfl rfl) (vmn T (by omega) rfl (by rw[<-cn];exact Bz rfl rfl))) rfl)) rfl (by omega)) (R0 (Zp (vP (vdv rfl (Bz rfl rfl)))) ⟨_,k++[(a,c)],_,_,rfl,by simp;omega,λj X=>?_,λp J=>?_⟩)))
  ·rw[aj (by omega)];exact all.1 j X
  ·rcases aV.mp J with h | h
   ·exact all.2 p h
   ·rw[aM.mp h];exact⟨I,hc,Dh I N ec⟩
 rintro s ⟨y3,k,v6,v8,rfl,lq,all⟩;let stT:List (List Int)->Option PV->Option PV->Option PV->ZG:=λM L E D=>[ax (.int y3),ax (.lst (iL Z)),ax (.int (mo:Int)),ax (.int (n:Int)),ax (.lst (iL o)),ax (.lst (k.map JA)),v6,ax (.int (H:Int)),L,ax (.lst (rL M)),E,D];refine ZU (Zp (L0 (n:=n) rfl (by omega))) (Wv (Tu (ls:=k.map JA) (λi s=>∃M L E D,s=stT M L E D/\Tied n M i/\Grown M o (min (i+1) n)) rfl ⟨_,v8,aA,aA,rfl,Tied.zero n,λj A O=>by omega⟩ ?_) ?_)
 ·rintro i l s hl ⟨M,L,E,D,rfl,f,S⟩;obtain⟨⟨F,p2⟩,J,rfl⟩:∃p,k[i]?=ax p/\JA p=l:=by simpa using hl
  have hi:i<k.length:=(aR.mp J).1;obtain⟨A,O,h3⟩:F<n/\p2<n/\F≠p2:=all.2 _ (av J);have na:=G.at (x:=F) A;have nb:=G.at (x:=p2) O;have nn:=G.ne (x:=F) (y:=p2) A O h3;obtain⟨a,ea⟩:∃a:Nat,Zl o F=(a:Int):=⟨(Zl o F).toNat,by omega⟩;obtain⟨b,T⟩:∃b:Nat,Zl o p2=(b:Int):=⟨(Zl o p2).toNat,by omega⟩;have I:a<n:=by omega
  have N:b<n:=by omega
  have ia:R9 (iL o) (F:Int)=ax (.int (a:Int)):=by rw[YD (by rw[G.len];exact A),ea]
  have ib:R9 (iL o) (p2:Int)=ax (.int (b:Int)):=by rw[YD (by rw[G.len];exact O),T]
  obtain⟨Y,gr2⟩:=f.grow I N;refine⟨_,rfl,Z4 (Zp (vP (FD (Jz f.mat.len f.mat.row I N rfl (o2 rfl rfl ia) (o2 rfl rfl ib)) rfl))) (Z4 (Hy f.mat I N rfl _ (o2 rfl rfl ia) (o2 rfl rfl ib) rfl) (R0 (L6 f.mat I N rfl _ (o2 rfl rfl ib) (o2 rfl rfl ia) rfl) ⟨upM M a b,_,_,_,rfl,f.up (by omega) I N (by omega),λj A O=>?_⟩))⟩;by_cases w:j<min (i+1) n
  ·exact(S.mono Y) j A w
  ·have pp:=B i (F,p2) (by rw[<-all.1 i (by omega)];exact J);refine⟨p2,by omega,?_⟩;rw[show j=F by have:=pp.1;simp at this;omega,ea,T];exact gr2
 rintro s ⟨M,t8,t10,t11,rfl,f,S⟩;rw[aJ,lq] at f S;exact Vy (Dg (n:=n) (by rw[f.mat.len];omega) rfl) ⟨M,n-1+H,rfl,f.mat.web (by omega) (by omega),Grown.conn (n:=n) (λj A O=>S j A (by omega)) f.mat.len G,by rw[f.mat.len];exact n5,by rw[f.mat.len];exact f.sum,by omega⟩
end PW
namespace PW
open L2 VL
variable {Z:List Int} {mo:Nat}
theorem HA{t:Nat}{W:List (List Int)}(ok:Zt W)(b:Mv W.length W=2*(t:Int)):(Z8 W).length=t:=by
 have a:=Hb ok;have d:sN W.length (λi=>(ZA W i).sum)=Mv W.length W:=Zi λi c=>by rw[Ol ok c,WH]
 rw[WH,d,b] at a;omega
theorem Zf3(l:List PV){k:Nat}(h:k<=l.length):WB l aA (ax (k:Int))=l.take k:=by unfold WB;rw[HT.sIx_nat,HT.sIx_none,eV h,oz,Nat.sub_zero]
theorem Di(l:List PV){k:Nat}(h:k<=l.length):WB l (ax (k:Int)) aA=l.drop k:=by unfold WB;rw[HT.sIx_nat,HT.sIx_none,eV h,bY (by rw[bU];omega)]
noncomputable def P4{α:Type}(k:Nat)(l:List α):List α:=l.drop k++l.take k
theorem JB{a:Type}{k:Nat}{l:List a}(h:k<=l.length):(P4 k l).length=l.length:=by unfold P4;rw[aT,bU,bG];omega
theorem JC{a:Type}{k i:Nat}{l:List a}(h:k<=l.length)(b:i<l.length):(P4 k l)[i]?=l[(i+k)%l.length]?:=by
 unfold P4;by_cases q:i<l.length-k
 ·rw[aj (by rw[bU];exact q),fg,du (by omega),Nat.add_comm]
 ·rw[bA (by rw[bU];omega),bU,nH (by omega),du (by omega),dA (by omega)];congr 1;omega
noncomputable def P5(k:Nat)(M:List (List Int)):List (List Int):=(P4 k M).map (P4 k)
theorem W9{n k:Nat}{M:List (List Int)}(ok:MatOk n M)(f:k<n){i j:Nat}(d:i<n)(e:j<n):ZM (P5 k M) i j=ZM M ((i+k)%n) ((j+k)%n):=by
 have b:(i+k)%n<n:=gW _ (by omega);have c:ZA (P5 k M) i=P4 k (ZA M ((i+k)%n)):=by unfold ZA P5;rw[aF,aX,JC (by rw[ok.len];omega) (by rw[ok.len];exact d),ok.len,aE (by rw[ok.len];exact b),aF,aE (by rw[ok.len];exact b)];rfl
 have a:=ok.row _ b;unfold ZM;rw[c];unfold Zl;rw[aF,aF,JC (by rw[a];omega) (by rw[a];exact e),a]
theorem Dj{n k:Nat}{M:List (List Int)}(ok:MatOk n M)(d:k<n):MatOk n (P5 k M):=by
 have b:∀i,(i+k)%n<n:=λi=>gW _ (by omega);refine⟨by unfold P5;rw[aJ,JB (by rw[ok.len];omega),ok.len],λi a=>?_,λi j a c=>?_,λi j a c=>?_,λi j a c=>?_,λi a=>?_⟩
 ·have:ZA (P5 k M) i=P4 k (ZA M ((i+k)%n)):=by unfold ZA P5;rw[aF,aX,JC (by rw[ok.len];omega) (by rw[ok.len];exact a),ok.len,aE (by rw[ok.len];exact b i),aF,aE (by rw[ok.len];exact b i)];rfl
  rw[this,JB (by rw[ok.row _ (b i)];omega),ok.row _ (b i)]
 ·rw[W9 ok d a c];exact ok.lo _ _ (b i) (b j)
 ·rw[W9 ok d a c];exact ok.hi _ _ (b i) (b j)
 ·rw[W9 ok d a c,W9 ok d c a];exact ok.sym _ _ (b i) (b j)
 ·rw[W9 ok d a a];exact ok.dia _ (b i)
theorem HB{n k:Nat}(b:n<=5)(a:k<n)(f:Nat->Int):sN n (λi=>f ((i+k)%n))=sN n f:=by
 have:n=1\/n=2\/n=3\/n=4\/n=5:=by omega
 have:k=0\/k=1\/k=2\/k=3\/k=4:=by omega
 rcases ‹n=1\/_› with rfl | rfl | rfl | rfl | rfl<;>rcases ‹k=0\/_› with rfl | rfl | rfl | rfl | rfl<;>first
  | (exfalso;omega)
  | (simp[sN];done)
  | (simp[sN];omega)
theorem Zf4{n k:Nat}{M:List (List Int)}(ok:MatOk n M)(b:n<=5)(a:k<n):Mv n (P5 k M)=Mv n M:=by unfold Mv;rw[Zi (g:=λi=>sN n (λj=>ZM M ((i+k)%n) ((j+k)%n))) λi c=>Zi λj d=>W9 ok a c d];rw[HB b a (λx=>sN n (λj=>ZM M x ((j+k)%n)))];exact Zi λx _=>HB b a (λy=>ZM M x y)
noncomputable def upL(n:Nat):List Int:=(aD n).map λ(i:Nat)=>(i:Int)
theorem JD{n i:Nat}(h:i<n):Zl (upL n) i=(i:Int):=ZF h
noncomputable def bkL(n k:Nat):List Int:=(aD n).map λ(i:Nat)=>(((i+n-k)%n:Nat):Int)
theorem Zbw{n k i:Nat}(h:i<n):Zl (bkL n k) i=(((i+n-k)%n:Nat):Int):=ZF h
theorem Dk{n k i:Nat}(b:k<n)(a:i<n):((i+n-k)%n+k)%n=i:=by rw[Nat.mod_add_mod,show i+n-k+k=i+n by omega,Nat.add_mod_right,du a]
theorem Zbx{n k:Nat}(c:n<=5)(b:k<n):NamesOk n (bkL n k):=by
 refine⟨by simp[bkL],?_,λx a=>?_,λx a=>?_⟩
 ·have:n=1\/n=2\/n=3\/n=4\/n=5:=by omega
  have:k=0\/k=1\/k=2\/k=3\/k=4:=by omega
  rcases ‹n=1\/_› with rfl | rfl | rfl | rfl | rfl<;>rcases ‹k=0\/_› with rfl | rfl | rfl | rfl | rfl<;>first
   | (exfalso;omega)
   | decide
 ·obtain⟨i,_,rfl⟩:=ar.mp a;omega
 ·obtain⟨i,_,rfl⟩:=ar.mp a;have:(i+n-k)%n<n:=gW _ (by omega);omega
theorem Zby{n k:Nat}{M:List (List Int)}(ok:MatOk n M)(h:n<=5)(a:k<n)(f:Grown M (upL n) n):V3 (P5 k M):=by refine Grown.conn (n:=n) (l:=bkL n k) (λj d b=>?_) (Dj ok a).len (Zbx h a);obtain⟨g,c,e⟩:=f j d b;refine⟨g,c,?_⟩;rw[Zbw b,Zbw (by omega),bV,bV,W9 ok a (gW _ (by omega)) (gW _ (by omega)),Dk a b,Dk a (by omega)];rw[JD b,JD (by omega),bV,bV] at e;exact e
theorem Zbz{n k:Nat}{M:List (List Int)}(ok:MatOk n M)(q:n<=5)(p:k<n){s:ZG}(d:Za 4 s=ax (.lst (rL M)))(c:Za 11 s=ax (.int (k:Int)))(m:ZH 1 [11] s=[aA,ax (.int (k:Int))]) :
  Zw 1 [11] (YL (Zm Az (O0 SK (Za 4) (Qk (Za 11)) MR) (O0 SK (Za 4) MR (Qk (Za 11))))) (.one 0) ZD (Zm LB (O0 SK (Za 0) (Qk (Za 1)) MR) (O0 SK (Za 0) MR (Qk (Za 1)))) s=ax (.lst (rL (P5 k M))):=by
 have j:(rL M).length=n:=by unfold rL;rw[aJ];exact ok.len
 have g:Qk (Za 11) s=ax (ax (k:Int)):=by unfold Qk;rw[c]
 have s1:O0 SK (Za 4) (Qk (Za 11)) MR s=ax (.lst ((rL M).drop k)):=by rw[Oe,d,g];show ax (PV.lst (WB (rL M) (ax (k:Int)) aA))=_;rw[Di _ (by omega)]
 have s2:O0 SK (Za 4) MR (Qk (Za 11)) s=ax (.lst ((rL M).take k)):=by rw[Oe,d,g];show ax (PV.lst (WB (rL M) aA (ax (k:Int))))=_;rw[Zf3 _ (by omega)]
 have o:YL (Zm Az (O0 SK (Za 4) (Qk (Za 11)) MR) (O0 SK (Za 4) MR (Qk (Za 11)))) s=ax ((P4 k M).map λr=>.lst (iL r)):=by unfold YL;rw[XD,s1,s2];show((if((rL M).drop k).length+((rL M).take k).length<=10000 then ax (PV.lst ((rL M).drop k++(rL M).take k)) else aA).bind _)=_;rw[p9 (by rw[bU,bG];omega)];unfold P4 rL;rw[ay,gH,gu];rfl
 rw[ZL (P4 k M) (λr=>.lst (iL r)) (λr=>.lst (iL (P4 k r))) o (by rw[JB (by rw[ok.len];omega),ok.len];omega) (λr l=>⟨[ax (.lst (iL r)),ax (.int (k:Int))],by rw[m];rfl,rfl,?_⟩)]
 ·unfold P5 rL;rw[bZ];rfl
 ·have t:r.length=n:=by
   have:r∈M:=by
    rcases aV.mp l with h | h
    ·exact dh h
    ·exact cW h
   obtain⟨i,f,e⟩:=bp this;have:=ok.row i (by rw[<-ok.len];exact f);unfold ZA at this;rw[aF,aE f] at this;rw[<-e];exact this
  refine o2 (a:=.lst (iL (r.drop k))) (b:=.lst (iL (r.take k))) ?_ ?_ ?_
  ·show ax (PV.lst (WB (iL r) (ax (k:Int)) aA))=_;rw[Za9]
  ·show ax (PV.lst (WB (iL r) aA (ax (k:Int))))=_;rw[Za8]
  ·show(if(iL (r.drop k)).length+(iL (r.take k)).length<=10000/\ZC (iL (r.drop k))=aC/\ZC (iL (r.take k))=aC then ax (PV.lst (iL (r.drop k)++iL (r.take k))) else aA)=_;rw[p9 ⟨by rw[aJ,aJ,bU,bG];omega,ZY _,ZY _⟩,<-ay];rfl
theorem Zob:SzOk [1,2,3,4,5] 8:=⟨by decide,by decide,by decide,by decide⟩
theorem Zb0{ns:List Int}(A:ns.length<=63)(z:SzOk Z mo):∃W,KR [.cst (iL ns),.lst (iL Z),.int (mo:Int)]=ax (wP W)/\Zt W/\V3 W/\W.length<=5/\(Z8 W).length<=mo:=by
 have m8:=z.m8
 suffices h:Y9 EO (ZP 12 [.cst (iL ns),.lst (iL Z),.int (mo:Int)]) λv=>∃W,v=wP W/\Zt W/\V3 W/\W.length<=5/\(Z8 W).length<=mo by obtain⟨v,e,W,rfl,r⟩:=Pf h;exact⟨W,e,r⟩
 have at0:=R4 A 0;have S:=λ{s:ZG} (h:Za 0 s=ax (.cst (iL ns)))=>xb (C2 (vmd (c2 (g:=eC (.int 0)) h rfl at0) (show eC (.int 2) s=ax (.int 2) from rfl) (by decide)) (show eC (.int 1) s=ax (.int 1) from rfl));by_cases q:Zl ns 0%2=1
 ·obtain⟨W,t,e,ok,cn,l5,sm,B⟩:=Hz z (Zl ns 1);exact Zmc ((S rfl).trans (by rw[decide_eq_true q])) (Vy (c3 (c2 rfl rfl (R4 A 1)) rfl rfl e) ⟨W,rfl,ok,cn,l5,by rw[HA ok sm];exact B⟩)
 obtain⟨v,hv,ev⟩:=Xy (Zl ns 0) (t:=1) (m:=Z.length) (by omega) z.ne;obtain⟨n,n1,F,nm,en⟩:=z.at hv;let st:List (List Int)->Nat->Option PV->Option PV->Option PV->Option PV->Option PV->ZG:=λM t E G H I o=>[ax (.cst (iL ns)),ax (.lst (iL Z)),ax (.int (mo:Int)),ax (.int (n:Int)),ax (.lst (rL M)),ax (.int (t:Int)),E,G,H,I,o,aA];refine ZU (gof ((S rfl).trans (by rw[decide_eq_false q]))) (ZU (Zp (vP (o2 rfl (c3 (c2 rfl rfl at0) rfl (c1 rfl Zbv) ev) en))) (ZU (Zp (L0 (n:=n) rfl (by omega))) (ZU (Zp (vP rfl)) (Wv (Zbj (m:=1) (n:=13) (λi s=>∃M t E G H I o,s=st M t E G H I o/\Tied n M t/\t<=mo/\(i<=n->t+1=i)/\Grown M (upL n) (min i n)) rfl rfl ⟨_,0,aA,aA,aA,aA,aA,rfl,Tied.zero n,by omega,λ_=>rfl,λj x O=>by omega⟩ ?_) ?_))))
 ·rintro i s x hi ⟨M,t,E,G,H,I,o,rfl,f,B,tl,D⟩;let c:=Zl ns i;obtain⟨a,l,L⟩:=Xy c (t:=13) (m:=n) (by omega) (by omega);obtain⟨b,hb,eb⟩:=Xy c (t:=17) (m:=max 1 (n-1)) (by omega) (by omega);obtain⟨d,hd,U⟩:=XN ((a:Int)+1+(b:Int)) (m:=n) (by omega);obtain⟨r,hr,er⟩:=Xy c (t:=3) (m:=3) (by omega) (by omega);obtain⟨u,Q,X⟩:=Xy c (t:=5) (m:=i) (by omega) (by omega)
  refine Z4 (Zp (c2 rfl rfl (R4 A i))) (Z4 (Zp (c3 rfl rfl rfl L)) (Z4 (Zp (vP (vmn U (by omega) (FD (FD rfl rfl) (c3 rfl rfl (c2 (b:=.int ((n:Int)-1)) rfl (Bz rfl rfl) (R:=ax (.int ((max 1 (n-1):Nat):Int))) (by
   show ax (PV.int (if(n:Int)-1>1 then(n:Int)-1 else 1))=_;congr 2;split<;>omega)) eb)) rfl))) (L3 (R:=λs=>∃a d:Nat,s=st M t (ax (.int (i:Int))) (ax (.int c)) (ax (.int (a:Int))) (ax (.int (d:Int))) o/\a<n/\d<n/\(1<n->a≠d)/\(i<n->a=i/\d<i)) (L4 (xb (vlt rfl rfl)) (λw=>Z4 (Zp (vP rfl)) (R0 (Zp (c3 rfl rfl rfl X)) ⟨i,u,rfl,of_decide_eq_true w,nU Q (of_decide_eq_true w),λ_=>by omega,λ_=>⟨rfl,Q⟩⟩)) λw=>R0 rfl ⟨a,d,rfl,l,hd,λP=>Dh l (by omega) U,λY=>absurd Y (of_decide_eq_false w)⟩) ?_)))
  rintro s ⟨a,d,rfl,l,hd,ne,ia⟩;refine Z4 (Zp (ep (ea (vgt (b:=1) rfl rfl) (ea (vlt rfl rfl) (vgt (b:=0) (c3 rfl rfl rfl er) rfl))))) (L4 (xo (xb (vlt rfl rfl)) (xb rfl)) (λw=>?_) λw=>R0 rfl ⟨M,t,_,_,_,_,_,rfl,f,B,λh=>?_,λj x O=>?_⟩)
  ·have w:i<n\/1<n/\t<mo/\0<r:=by simpa using w
   have P:1<n:=by omega
   have T:=WT (t:=ZM M a d+1) (b:=d) f.mat.len f.mat.row l;obtain⟨J,N⟩:=f.grow l hd;refine Z4 (Hy f.mat l hd rfl _ rfl rfl (FD (Jz f.mat.len f.mat.row l hd rfl rfl rfl) rfl)) (Z4 (L6 f.mat l hd rfl (ZM M a d+1) rfl rfl ((Jz T.1 T.2 l hd rfl rfl rfl).trans (by rw[OM f.mat.len f.mat.row l hd,p9 ⟨rfl,rfl⟩]))) (R0 (Zp (vP (vsc rfl))) ⟨upM M a d,t+1,_,_,_,_,_,rfl,f.up (by omega) l hd (ne P),by omega,λh=>by omega,λj x O=>?_⟩));by_cases y:j<min i n
   ·exact(D.mono J) j x y
   ·obtain⟨rfl,hd'⟩:=ia (by omega);have hj:j=a:=by omega
    refine⟨d,by omega,?_⟩;rw[hj,JD l,JD hd,bV,bV];exact N
  ·have:¬i<n:=λy=>by rw[decide_eq_true y] at w;cases w
   omega
  ·have:¬i<n:=λy=>by rw[decide_eq_true y] at w;cases w
   exact D j x (by omega)
 rintro s ⟨M,t,y6,y7,y8,y9,y10,rfl,f,B,_,D⟩;obtain⟨k,C,ek⟩:=Xy (Zl ns 0) (t:=7) (m:=n) (by omega) (by omega);have p:=Dj f.mat C;have ok:Zt (P5 k M):=p.web (by omega) (by omega);exact ZU (Zp (c3 (c2 rfl rfl at0) rfl rfl ek)) (ZU (Zp (Zbz f.mat F C rfl rfl rfl)) (Vy (Dg (n:=n) (by rw[p.len];omega) rfl) ⟨_,rfl,ok,Zby f.mat F C λj x O=>D j x (by omega),by rw[p.len];exact F,by rw[HA (t:=t) ok (by rw[p.len,Zf4 f.mat F C];exact f.sum)];exact B⟩))
end PW
namespace PW
open L2 VL VX PK
noncomputable def eW(W:List (List Int)):List ZE:=Pd W.length (ZM W)
noncomputable def eAB(W:List (List Int))(a b:Nat):List ZE:=aS (ZM W a b).toNat (a,b)
noncomputable def eA(W:List (List Int))(a:Nat):List ZE:=(aD (W.length-(a+1))).flatMap λj=>eAB W a (a+1+j)
theorem JE(W:List (List Int)):eW W=(aD W.length).flatMap (eA W):=by unfold eW Pd prs;rw[List.flatMap_assoc];congr 1;funext a;rw[List.flatMap_map];rfl
theorem Va(W:List (List Int)):(eW W).length=(Z8 W).length:=by rw[JE];unfold Z8;rw[gk,gk];congr 1;refine au λa _=>?_;unfold eA UP;rw[gk,gk];congr 1;refine au λj _=>?_;unfold eAB XJ;simp
theorem Zoc{W:List (List Int)}(ok:Zt W):Wt W.length (ZM W):=⟨λa b c d=>ok.lo a b c d,λa b c d=>ok.sym a b c d,λa c=>ok.dia a c⟩
theorem HC{W:List (List Int)}:∀e∈eW W,e.1<e.2/\e.2<W.length/\0<ZM W e.1 e.2:=λe b=>by unfold eW Pd at b;obtain⟨p,d,c⟩:=g7.mp b;have a:=nI.mp c;obtain⟨f,rfl⟩:=a;have:=mem_prs.mp (show(e.1,e.2)∈prs W.length from d);exact⟨by omega,by omega,by omega⟩
theorem Zjv{W:List (List Int)}{a b:Nat}(c:a<b)(d:b<W.length)(h:0<ZM W a b):(a,b)∈eW W:=by unfold eW Pd;refine g7.mpr ⟨(a,b),mem_prs.mpr ⟨by omega,by omega⟩,nI.mpr ⟨?_,rfl⟩⟩;show(ZM W a b).toNat≠0;omega
theorem Zb1{W:List (List Int)}(ok:Zt W)(l:V3 W){m:Nat->Nat}{F:List Nat}(h:TrOk W.length (eW W) m F []):∀x,x<W.length->m x=m 0:=λx n=>by
 have lt:∀a b,a<b->b<W.length->0<ZM W a b->m a=m b:=λa b f d c=>by
  obtain⟨i,j,e⟩:=bp (Zjv f d c);have:=h.done i j (by simp);have o:Zx (eW W) i=(a,b):=by unfold Zx;rw[aF,aE j,e];rfl
  rw[o] at this;exact this
 refine(l (λx=>m x=m 0) (λa b g d c=>?_) x 0 n ok.pos).mpr rfl
 have e:m a=m b:=by
  by_cases q:a<b
  ·exact lt a b q d c
  ·by_cases k:b<a
   ·exact(lt b a k g (by rw[ok.sym b a d g];exact c)).symm
   ·rw[show a=b by omega]
 rw[e]
theorem Ou{W:List (List Int)}(ok:Zt W){G:List Nat}(d:G.Nodup)(e:∀g∈G,g<W.length):tw (ZM W) G=2*Wb G (eW W):=by
 let u:Nat->Nat->Int:=λi j=>b1 (decide (i∈G))*(b1 (decide (j∈G))*ZM W i j);have f:tw (ZM W) G=sN W.length (λi=>sN W.length (u i)):=by unfold tw;rw[Sh _ d e];refine Zi λi l=>?_;unfold Fx;rw[Sh _ d e,<-ZJ]
 have k:Wb G (eW W)=sN W.length λa=>sN W.length λb=>if a<b then u a b else 0:=by
  unfold Wb eW;rw[CW (Zoc ok)];refine Zi λa _=>Zi λb _=>?_;split
  ·show ZM W a b*b1 (decide (a∈G)&&decide (b∈G))=b1 (decide (a∈G))*(b1 (decide (b∈G))*ZM W a b);by_cases x:a∈G<;>by_cases y:b∈G<;>simp[x,y,b1]
  ·rfl
 rw[f,k];refine Zfn (λa b c h=>?_) λa c=>?_
 ·show b1 (decide (a∈G))*(b1 (decide (b∈G))*ZM W a b)=b1 (decide (b∈G))*(b1 (decide (a∈G))*ZM W b a);rw[ok.sym a b c h,<-cg,<-cg,cQ (b1 _) (b1 _)]
 ·show b1 (decide (a∈G))*(b1 (decide (a∈G))*ZM W a a)=0;rw[ok.dia a c];simp
theorem Zf6{W:List (List Int)}:Wb (aD W.length) (eW W)=((eW W).length:Int):=by
 have:∀T:List ZE,(∀e∈T,e.1<W.length/\e.2<W.length)->Wb (aD W.length) T=(T.length:Int):=by
  intro T
  induction T with
  | nil=>intro _;rfl
  | cons e T ih=>
   intro a;have q:Jo (aD W.length) e=aC:=by have:=a e (by simp);unfold Jo;simp[this.1,this.2]
   have:=ih λx b=>a x (by simp[b]);unfold Wb at this ⊢;rw[af,bR,this,q,az];show(1:Int)+_=_;omega
 exact this _ λe c=>by have:=HC e c;exact⟨by omega,by omega⟩
theorem Zf7{W:List (List Int)}(ok:Zt W){a b:Nat}(c:a<W.length)(d:b<W.length):(eAB W a b).length<=9:=by have:=ok.hi a b c d;unfold eAB;simp;omega
theorem Zjw{W:List (List Int)}(ok:Zt W){a b:Nat}(c:a<W.length)(d:b<W.length){s:ZG}(f:Za 0 s=ax (wP W))(g:Za 2 s=ax (.int (a:Int)))(h:Za 3 s=ax (.int (b:Int)))(e:ZH 1 [2,3] s=[aA,ax (.int (a:Int)),ax (.int (b:Int))]):Zw 1 [2,3] (Yk [Zm ZR (Zm ZR (Za 0) (Za 2)) (Za 3)]) (.one 0) ZD (eP (Wz [Za 1,Za 2])) s=ax (.lst ((eAB W a b).map JA)):=by have b1:=ok.lo a b c d;have k:=ok.hi a b c d;rw[ZL (aD (ZM W a b).toNat) (λ(i:Nat)=>.int (i:Int)) (λ_=>JA (a,b)) (Xd ((Zmf c (by rw[ok.sq a c];exact d) f g h).trans (by rw[g9 b1])) (by omega)) (by simp;omega) (λi j=>⟨_,by rw[e];rfl,rfl,rfl⟩)];unfold eAB;rw[nE];congr 2;exact fS (by simp) (by intros;simp)
theorem Bd{W:List (List Int)}(ok:Zt W):Nx [wP W]=ax (.lst ((eW W).map JA))/\(eW W).length<=441:=by
 have h:=ok.few;refine⟨Pg (ZU (s1:=[ax (wP W),ax (.lst []),aA,aA]) rfl (Wv (Mk (n:=W.length) (λi st=>∃y z,st=[ax (wP W),ax (.lst (((aD i).flatMap (eA W)).map JA)),y,z]/\((aD i).flatMap (eA W)).length<=63*i) (c1 rfl Vr) ⟨aA,aA,by simp,by simp⟩ ?_) ?_)),by rw[Va];exact(Wa ok).2⟩
 ·rintro i s b ⟨y,z,rfl,f⟩;let A:Nat->List ZE:=λj=>(aD (j-(i+1))).flatMap λj=>eAB W i (i+1+j);refine Zfr (Zbj (m:=i+1) (n:=W.length) (λj st=>∃z,st=[ax (wP W),ax (.lst (((aD i).flatMap (eA W)++A j).map JA)),ax (.int (i:Int)),z]/\(A j).length<=9*(j-(i+1))) (vsc rfl) (c1 rfl Vr) ⟨z,by simp[A],by simp[A]⟩ ?_) ?_
  ·rintro j s d c ⟨z,rfl,a⟩;have e:A (j+1)=A j++eAB W i j:=by show(aD (j+1-(i+1))).flatMap _=_;rw[show j+1-(i+1)=j-(i+1)+1 by omega,Xw,show i+1+(j-(i+1))=j by omega]
   have g:=Zf7 ok b c;refine R0 (Zft JA (Zjw ok b c rfl rfl rfl rfl) rfl (by rw[aT];omega)) ⟨_,by rw[e,<-dj];rfl,?_⟩;rw[e,aT];omega
  ·rintro s ⟨z,rfl,a⟩;refine⟨_,z,by rw[Xw];rfl,?_⟩;rw[Xw,aT];have:(eA W i).length<=9*(W.length-(i+1)):=a;omega
 ·rintro s ⟨y,z,rfl,_⟩;rw[<-JE];exact⟨_,rfl,rfl⟩
theorem Zb2{W:List (List Int)}(ok:Zt W):RG [wP W]=ax (.int (((eW W).length:Int)-(W.length:Int)+1)):=by rw[Va];exact Za4 ok
noncomputable def R5(n:Nat)(m:Nat->Nat):List Int:=(aD n).map λx=>((m x:Nat):Int)
theorem JF(n:Nat)(m:Nat->Nat):(R5 n m).length=n:=by simp[R5]
theorem Dl{n:Nat}{m:Nat->Nat}{x:Nat}(h:x<n):Zl (R5 n m) x=(m x:Int):=ZF h
theorem Mw{F:List Nat}(h:F.length<64):RJ [.lst (iL (nL F))]=ax (.lst (iL (sortI (nL F)))):=by show(Ys (iL (nL F))).bind (λns=>if ns.length<64 then ax (PV.lst (iL (sortI ns))) else aA)=_;rw[Yc];rw[aQ,p9 (by simpa [nL] using h)]
theorem HD{n:Nat}{E:List ZE}{m:Nat->Nat}{F L:List Nat}(h:TrOk n E m F L):F.length<=n:=by
 have e:=h.mark.eq
 have b:Wb (aD n) (F.map (Zx E))=((F.map (Zx E)).length:Int):=by
  have:∀T:List ZE,(∀e∈T,e.1<n/\e.2<n)->Wb (aD n) T=(T.length:Int):=by
   intro T
   induction T with
   | nil=>intro _;rfl
   | cons e T ih=>
    intro a;have q:Jo (aD n) e=aC:=by have:=a e (by simp);unfold Jo;simp[this.1,this.2]
    have:=ih λx c=>a x (by simp[c]);unfold Wb at this ⊢;rw[af,bR,this,q,az];show(1:Int)+_=_;omega
  exact this _ h.mark.inn
 have d:0<=Bx n m (aD n):=Ym λi _=>Hi _;rw[aJ] at b;omega
section
variable {W:List (List Int)} {c:Int}
abbrev Zmh(W:List (List Int))(c:Int)(m:Nat->Nat)(F L:List Nat)(num:Int)(x7 x8 x9 x10 x11:Option PV):ZG:=
 [ax (wP W),ax (.int c),ax (.lst ((eW W).map JA)),ax (.lst (iL (R5 W.length m))),ax (.lst (iL (nL F))),ax (.lst (iL (nL L))),ax (.int num),x7,x8,x9,x10,x11]
theorem Dm{n:Nat}{m:Nat->Nat}{z:Nat}(a:z<n):ZR (.lst (iL (R5 n m))) (.int (z:Int))=ax (.int (m z:Int)):=by rw[Zhh (JF n m) z a,Dl a]
theorem Dn{k:Nat}(a:k<=10000):Uq (.int (k:Int))=ax (.lst (iL (nL (aD k)))):=by show(if 0<=(k:Int)/\(k:Int)<=10000 then ax (PV.lst (iL ((aD (k:Int).toNat).map λ(i:Nat)=>(i:Int)))) else aA)=_;rw[p9 ⟨by omega,by omega⟩,bV];rfl
theorem Zf8{W:List (List Int)}{i:Nat}(a:i<(eW W).length):ZR (.lst ((eW W).map JA)) (.int (i:Int))=ax (JA (Zx (eW W) i)):=by refine Na (l:=(eW W).map JA) (k:=i) ?_;unfold Zx;rw[aX,aF,aE a];rfl
theorem Zhk{W:List (List Int)}:ZN [.lst ((eW W).map JA)]=ax (.int ((eW W).length:Int)):=by show ax (PV.int (((eW W).map JA).length:Int))=_;rw[aJ]
theorem Mx{L:List Nat}:ZN [.lst (iL (nL L))]=ax (.int (L.length:Int)):=by show ax (PV.int ((iL (nL L)).length:Int))=_;simp[nL]
theorem Zmi{f:XE}{s:ZG}{v:PV}{i k:Nat}{a b:Int}(q:f s=ax v)(c:v = .tup [.int a,.int b]):Eu (.many [i,k]) f s=ax (.nx ((s.set i (ax (.int a))).set k (ax (.int b)))):=by subst c;unfold Eu;rw[q];rfl
theorem FP{n:Nat}{m:Nat->Nat}{a b:Nat}{s:ZG}(d:b<n)(g:n<=7)(e:Za 3 s=ax (.lst (iL (R5 n m))))(c:ZH 1 [11,3,10] s=[aA,ax (.int (m a:Int)),ax (.lst (iL (R5 n m))),ax (.int (b:Int))]) :
  Zw 1 [11,3,10] (YL (Za 3)) (.one 0) ZD (eP (OP (xB (Zm (Xz aB) (Za 0) (Za 1))) (Zm ZR (Za 2) (Za 3)) (Za 0))) s=ax (.lst (iL (R5 n (ZX m a b)))):=by
 rw[ZL (aD n) (λx=>.int (m x:Int)) (λx=>.int (ZX m a b x:Int)) (by unfold YL;rw[e,R5,Ph];rfl) (by simp;omega) (λx f=>⟨_,by rw[c];rfl,rfl,vP ?_⟩),R5,Ph];unfold ZX;by_cases q:m x=m a
 ·rw[p9 q];exact Ml (xb ((C2 rfl rfl).trans (by rw[decide_eq_true (by omega)]))) (o2 rfl rfl (Dm d))
 ·rw[pW q];exact Mm (xb ((C2 rfl rfl).trans (by rw[decide_eq_false (by omega)]))) rfl
theorem Zjx(L:List Nat)(p:Nat):(iL (nL L)).take p++(iL (nL L)).drop (p+1)=iL (nL (L.eraseIdx p)):=by rw[iU];unfold nL iL;rw[ay,ay,<-gu,<-gu,<-gH,<-gH]
theorem Zjy{L:List Nat}{s:ZG}{f:XE}{i j p:Nat}(a:p<L.length)(c:L.length<=1000)(q:f s=ax (.int (p:Int)))(b:MI s i=ax (iL (nL L))):Zer j i f s=ax (.nx ((s.set i (ax (.lst (iL (nL (L.eraseIdx p)))))).set j (ax (.int ((L[p]:Nat):Int))))):=by
 have g:(iL (nL L))[p]?=ax (.int ((L[p]:Nat):Int)):=by rw[Qm (by simpa [nL] using a)];simp[nL,Zl,a]
 unfold Zer;rw[q];simp only[aQ,TY,b]
 rw[TZ (by
  rw[aw];exact⟨ZY _,decide_eq_true ⟨by omega,by omega,by simp[nL];omega⟩⟩),aQ,bV,g,aQ,Zjx]
theorem Be(ok:Zt W)(c:Int):∃(m:Nat->Nat) (F:List Nat),Ny [wP W,.int c]=ax (pP (sortI (nL F)))/\TrOk W.length (eW W) m F []:=by
 have P:=ok.few;obtain⟨G,le⟩:=Bd ok;have D:∀e∈eW W,e.1<W.length/\e.2<W.length:=λe H=>by have:=HC e H;exact⟨by omega,by omega⟩
 suffices g:Y9 IC (ZP 12 [wP W,.int c]) λv=>∃(m:Nat->Nat) (F:List Nat),v=pP (sortI (nL F))/\TrOk W.length (eW W) m F [] by obtain⟨v,e,m,F,rfl,r⟩:=Pf g;exact⟨m,F,e,r⟩
 refine ZU (Zp (c1 rfl G)) (ZU (Zp (un1 (c1 rfl Vr) (Dn (by omega)))) (ZU rfl (ZU (Zp (un1 (c1 rfl Zhk) (Dn (by omega)))) (ZU (Zp (vP (vdv rfl rfl))) (Wv (Mk (n:=(eW W).length) (λi s=>∃m F L d u y o h f,s=Zmh W c m F L d u y o h f/\TrOk W.length (eW W) m F L/\L.length+i=(eW W).length) (c1 rfl Zhk) ⟨λx=>x,[],_,_,aA,aA,aA,aA,aA,rfl,TrOk.start _ _,by simp⟩ ?_) ?_)))))
 ·rintro i s U ⟨m,F,L,d,u,y,o,h,f,rfl,tr,O⟩;have J:=HD tr;obtain⟨v,T,S⟩:=Xy (c+53*(i:Int)*(i:Int)) (t:=47+i) (m:=L.length) (by omega) (by omega);refine Z4 (Zp (c3 (FD rfl (vC (C:=CMul) (op:=(· * ·)) (vC (C:=CMul) (op:=(· * ·)) (a:=53) rfl rfl (AO (by omega) (by omega))) rfl (.inl (by omega)))) (b:=.int ((47+i:Nat):Int)) (by rw[Int.natCast_add];exact FD rfl rfl) (c1 rfl Mx) S)) (L3 (R:=λs=>∃(p:Nat) (j:Int),p<L.length/\s=Zmh W c m F L j (ax (.int (i:Int))) (ax (.int (p:Int))) o h f) (L4 (xb (C2 (vmd rfl rfl (by decide)) rfl)) (λ_=>?_) λ_=>R0 rfl ⟨v,d,T,rfl⟩) ?_)
  ·obtain⟨r,N,I⟩:=XN d (m:=L.length) (by omega);exact Z4 (Zp (vP (vmn I (by omega) rfl (c1 rfl Mx)))) (R0 (Zp (vP (vdv rfl (c1 rfl Mx)))) ⟨r,_,N,rfl⟩)
  ·rintro s ⟨p,j,l,rfl⟩;have q:L[p]<(eW W).length:=tr.inn _ (ah _ (bQ l));have Q:Zx (eW W) L[p]∈eW W:=by unfold Zx;rw[aF,aE q];exact bQ q
   obtain⟨E,B⟩:=D _ Q;obtain⟨z,A⟩:=tr.step D l;have k:(L.eraseIdx p).length+(i+1)=(eW W).length:=by rw[j7 l];omega
   refine Z4 (Zjy l (by omega) rfl rfl) (Z4 (Zmi (o2 rfl rfl (Zf8 q)) rfl) (L4 (xb (o2 (o2 rfl rfl (Dm E)) (o2 rfl rfl (Dm B)) (Uk ..))) (λw=>?_) λw=>R0 rfl ⟨_,_,_,_,_,_,_,_,_,rfl,A (by simpa [gv] using w),k⟩));exact Z4 (Zp (vP (o2 rfl rfl (Dm E)))) (Z4 (Zp (FP B P rfl rfl)) (R0 (Js rfl rfl (by omega)) ⟨_,_,_,_,_,_,_,_,_,rfl,z (by simpa [gv] using w),k⟩))
 ·rintro s ⟨m,F,L,d,u,y,o,h,f,rfl,tr,O⟩;have M:L=[]:=dI.mp (by omega);subst M;have J:=HD tr;exact Vy (HS (c1 (c1 rfl (Mw (by omega))) rfl)) ⟨m,F,rfl,tr⟩
end
theorem Dp(b:Bool)(a:Int)(l:List Int):PF b (.int a) (pP l)=ax (.bl (if b then !decide (a∈l) else decide (a∈l))):=by
 unfold PF;have c:((iL l).all λz=>Wk 8 z (.int a))=aC:=by rw[jT,bK];intro x _;rfl
 show(ax (iL l)).bind _=_;simp only[aQ,p9 c]
 have:decide (PV.int a∈iL l)=decide (a∈l):=decide_eq_decide.mpr (by
  rw[ar];constructor
  ·rintro⟨x,d,e⟩;cases e;exact d
  ·intro h;exact⟨a,h,rfl⟩)
 rw[this]
theorem HE{W:List (List Int)}{i:Nat}(h:i<(eW W).length):∃t:Int,(Z8 W)[i]?=ax [((Zx (eW W) i).1:Int),((Zx (eW W) i).2:Int),t]:=by
 have f:(Z8 W).map (λr=>((Zl r 0).toNat,(Zl r 1).toNat))=eW W:=by rw[JE];unfold Z8;rw[oF];congr 1;funext a;unfold UP eA;rw[oF];congr 1;funext j;unfold XJ eAB;exact fS (by simp) (by intros;simp[Zl];omega)
 have c:∀r∈Z8 W,∃(a b:Nat) (t:Int),r=[(a:Int),(b:Int),t]:=λr d=>by obtain⟨a,_,d⟩:=g7.mp d;obtain⟨j,_,d⟩:=g7.mp d;obtain⟨t,_,rfl⟩:=ar.mp d;exact⟨a,a+1+j,t,rfl⟩
 have k:i<(Z8 W).length:=by rw[<-Va];exact h
 obtain⟨a,b,t,e⟩:=c _ (bQ k);refine⟨t,?_⟩;have m:Zx (eW W) i=(a,b):=by have g:=congrArg (λl=>l[i]?) f;simp only[aX] at g;rw[aE k,aE h,e] at g;unfold Zx;rw[aF,aE h];rw[<-g];rfl
 rw[aE k,e,m]
theorem Zf9{n:Nat}{m:Nat->Nat}{a b:Nat}{s:ZG}(h:n<=7)(f:s[3]?=ax (ax (.lst (iL (R5 n m)))))(e:s[6]?=ax (ax (.int (m a:Int))))(c:s[7]?=ax (ax (.int (m b:Int)))) :
  Zw 1 [6,7] (YL (Za 3)) (.one 0) ZD (eP (OP (xB (Zm (Xz aB) (Za 0) (Za 2))) (Za 1) (Za 0))) s=ax (.lst (iL (R5 n (ZX m b a)))):=by
 have d:Za 3 s=ax (.lst (iL (R5 n m))):=by show s[3]?.bind id=_;rw[f];rfl
 rw[ZL (aD n) (λx=>.int (m x:Int)) (λx=>.int (ZX m b a x:Int)) (by
  unfold YL;rw[d];show ax (iL (R5 n m))=_;rw[R5,Ph]) (by simp;omega) (λx g=>⟨[ax (.int (m x:Int)),ax (.int (m a:Int)),ax (.int (m b:Int))],by simp[ZH,e,c,Xg],rfl,?_⟩)]
 ·rw[R5,Ph]
 ·have t:xB (Zm (Xz aB) (Za 0) (Za 2)) [ax (.int (m x:Int)),ax (.int (m a:Int)),ax (.int (m b:Int))]=ax (decide (m x=m b)):=by show(Xz aB (.int (m x:Int)) (.int (m b:Int))).bind blO=_;rw[Uk];show ax (decide ((m x:Int)=(m b:Int)))=_;rw[decide_eq_decide.mpr (gv (m:=m x) (n:=m b))]
  refine vP ?_;rw[Rz,t,aQ];unfold ZX;by_cases q:m x=m b
  ·rw[decide_eq_true q,p9 rfl,p9 q];rfl
  ·rw[decide_eq_false q,pW (by decide),pW q];rfl
noncomputable def Dq(W:List (List Int))(K:List Nat):Nat->Nat:=Jp (λx=>x) ((K.map (Zx (eW W))).map swE)
theorem Zb3(W:List (List Int))(K:List Nat)(k:Nat):Dq W (K++[k])=ZX (Dq W K) (Zx (eW W) k).2 (Zx (eW W) k).1:=by unfold Dq;rw[ay,ay,E1];rfl
theorem Bf{W:List (List Int)}(ok:Zt W){K:List Nat}(D:∀k∈K,k<(eW W).length):Y7 [wP W,.lst ((Z8 W).map pP),pP (nL K)]=ax (.lst (iL (R5 W.length (Dq W K)))):=by
 have F:=ok.few;let st:List Nat->Option PV->Option PV->Option PV->Option PV->ZG:=λA h f d c=>[ax (wP W),ax (.lst ((Z8 W).map pP)),ax (pP (nL K)),ax (.lst (iL (R5 W.length (Dq W A)))),h,f,d,c]
 let fb:XS:=(Zn (Zs 5 (eP (Zm ZR (Za 1) (Za 4))))
  (Zn (Zs 6 (eP (Zm ZR (Za 3) (Zm ZR (Za 5) (eC (.int 0))))))
  (Zn (Zs 7 (eP (Zm ZR (Za 3) (Zm ZR (Za 5) (eC (.int 1))))))
  (Zs 3 (Zw 1 [6,7] (YL (Za 3)) (.one 0) ZD (eP (OP (xB (Zm (Xz aB) (Za 0) (Za 2))) (Za 1) (Za 0))))))))
 obtain⟨M,f1,h,f,d,c,J⟩:=U9 (T:=.one 4) (fb:=fb) (ls:=iL (nL K)) (s:=st [] aA aA aA aA) (λi s=>∃h f d c,s=st (K.take i) h f d c) ⟨aA,aA,aA,aA,by simp[st]⟩ (by
  rintro i l s p ⟨h,f,d,c,rfl⟩;have j:i<K.length:=by have:=(aR.mp p).1;simpa [nL] using this
  have L:l = .int ((K[i]:Nat):Int):=by rw[Qm (by simpa [nL] using j)] at p;rw[<-bC p];simp[nL,Zl,j]
  subst L;have u:K[i]<(eW W).length:=D _ (bQ j);obtain⟨t,o⟩:=HE u;have q:Zx (eW W) K[i]∈eW W:=by unfold Zx;rw[aF,aE u];exact bQ u
  have x:=HC _ q;generalize y:Zx (eW W) K[i]=e at o x;obtain⟨a,b⟩:=e;simp only at o x;let m:=Dq W (K.take i);let R:PV:=pP [(a:Int),(b:Int),t]
  have G:Zs 5 (eP (Zm ZR (Za 1) (Za 4))) (st (K.take i) (ax (.int ((K[i]:Nat):Int))) f d c)=ax (.nx (st (K.take i) (ax (.int ((K[i]:Nat):Int))) (ax R) d c)):=by
   have g:Zm ZR (Za 1) (Za 4) (st (K.take i) (ax (.int ((K[i]:Nat):Int))) f d c)=ax R:=by refine Na (l:=(Z8 W).map pP) (k:=K[i]) ?_;rw[aX,o];rfl
   rw[Yf,U6,g];rfl
  have w:∀z:Nat,z<W.length->ZR (.lst (iL (R5 W.length m))) (.int (z:Int))=ax (.int (m z:Int)):=λz v=>by rw[Zhh (JF W.length m) z v,Dl v]
  have E:Zs 6 (eP (Zm ZR (Za 3) (Zm ZR (Za 5) (eC (.int 0))))) (st (K.take i) (ax (.int ((K[i]:Nat):Int))) (ax R) d c)=ax (.nx (st (K.take i) (ax (.int ((K[i]:Nat):Int))) (ax R) (ax (.int (m a:Int))) c)):=by have g:Zm ZR (Za 3) (Zm ZR (Za 5) (eC (.int 0))) (st (K.take i) (ax (.int ((K[i]:Nat):Int))) (ax R) d c)=ax (.int (m a:Int)):=w a (by omega);rw[Yf,vP g];rfl
  have I:Zs 7 (eP (Zm ZR (Za 3) (Zm ZR (Za 5) (eC (.int 1))))) (st (K.take i) (ax (.int ((K[i]:Nat):Int))) (ax R) (ax (.int (m a:Int))) c)=ax (.nx (st (K.take i) (ax (.int ((K[i]:Nat):Int))) (ax R) (ax (.int (m a:Int))) (ax (.int (m b:Int))))):=by have g:Zm ZR (Za 3) (Zm ZR (Za 5) (eC (.int 1))) (st (K.take i) (ax (.int ((K[i]:Nat):Int))) (ax R) (ax (.int (m a:Int))) c)=ax (.int (m b:Int)):=w b (by omega);rw[Yf,vP g];rfl
  have H:Zs 3 (Zw 1 [6,7] (YL (Za 3)) (.one 0) ZD (eP (OP (xB (Zm (Xz aB) (Za 0) (Za 2))) (Za 1) (Za 0)))) (st (K.take i) (ax (.int ((K[i]:Nat):Int))) (ax R) (ax (.int (m a:Int))) (ax (.int (m b:Int))))=ax (.nx (st (K.take (i+1)) (ax (.int ((K[i]:Nat):Int))) (ax R) (ax (.int (m a:Int))) (ax (.int (m b:Int))))):=by
   rw[Yf,Zf9 (n:=W.length) (m:=m) (a:=a) (b:=b) F rfl rfl rfl];have:Dq W (K.take (i+1))=ZX m b a:=by rw[dP j,Zb3,y]
   show ax (Out.nx [_,_,_,_,_,_,_,_])=ax (Out.nx [_,_,_,ax (.lst (iL (R5 W.length (Dq W (K.take (i+1)))))),_,_,_,_]);rw[this]
  exact⟨st (K.take i) (ax (.int ((K[i]:Nat):Int))) f d c,_,rfl,(by show Zn _ _ _=_;rw[W5 G,W5 E,W5 I,H]),_,_,_,_,rfl⟩)
 subst J;rw[show(iL (nL K)).length=K.length by simp[nL],ck] at f1
 have C:Zs 3 (Pz Uq (Ze ZN [Za 0])) [ax (wP W),ax (.lst ((Z8 W).map pP)),ax (pP (nL K)),aA,aA,aA,aA,aA]=ax (.nx (st [] aA aA aA aA)):=by
  have l:Ze ZN [Za 0] [ax (wP W),ax (.lst ((Z8 W).map pP)),ax (pP (nL K)),aA,aA,aA,aA,aA]=ax (.int (W.length:Int)):=by show ax (PV.int ((W.map pP).length:Int))=_;rw[aJ]
  have g:Pz Uq (Ze ZN [Za 0]) [ax (wP W),ax (.lst ((Z8 W).map pP)),ax (pP (nL K)),aA,aA,aA,aA,aA]=ax (.lst (iL (R5 W.length (Dq W [])))):=by show(Ze ZN [Za 0] _).bind Uq=_;rw[l];show(if 0<=(W.length:Int)/\(W.length:Int)<=10000 then ax (PV.lst (iL ((aD (W.length:Int).toNat).map λ(i:Nat)=>(i:Int)))) else aA)=_;rw[p9 ⟨by omega,by omega⟩,bV];rfl
  rw[Yf,g];rfl
 have B:YU [3] (U2 (Za 2)) (.one 4) fb (st [] aA aA aA aA)=ax (.nx (st K h f d c)):=by show(U2 (Za 2) (Xr [3] (st [] aA aA aA aA))).bind _=_;exact f1
 show YF 8 Te _=_;unfold Te;show(Zn _ _ [ax (wP W),ax (.lst ((Z8 W).map pP)),ax (pP (nL K)),aA,aA,aA,aA,aA]).bind U5=_;rw[W5 C,W5 B];rfl
noncomputable def FQ(K:List Nat):List Int:=(nL K).foldl UR []
noncomputable def Bg(W:List (List Int))(K:List Nat):Bool:=K.all λk=>decide (k<(eW W).length)
noncomputable def ddW(W:List (List Int))(K:List Nat):Nat:=((R5 W.length (Dq W K)).foldl iI []).length
noncomputable def isT(W:List (List Int))(K:List Nat):Bool:=decide (K.length+1=W.length)&&Bg W K&&(decide (nL K=sortI (FQ K))&&decide (ddW W K=1))
theorem Zjz{K:List Nat}(a:∀k∈K,k<=31)(c:K.length<=17):VW.gSN (pP (nL K))=ax (.lst (iL (sortI (FQ K)))):=by
 show(Ys (iL (nL K))).bind (λns=>if VW.inS ns=aC then ax (PV.lst (iL (sortI (ns.foldl UR [])))) else aA)=_;rw[Yc,aQ,p9]
 ·rfl
 ·unfold VW.inS;simp only[aw,decide_eq_true_eq,bK];refine⟨λk b=>?_,by simpa [nL] using c⟩;unfold nL at b;obtain⟨j,d,rfl⟩:=ar.mp b;have:=a j d;omega
theorem Zb4{W:List (List Int)}{K:List Nat}{s:ZG}{m:Nat}{l:List PV}(h:K.length<=100)(f:l.length=(eW W).length)(a:s[1]?=ax (ax (pP (nL K))))(e:s[2]?=ax (ax (.lst l))) :
  Ze Kv [Zw 1 [2] (U2 (Za 1)) (.one 0) ZD (eCh oLe MO (eC (.int 0)) (Za 0) (Ze ZN [Za 1]))] s=ax (.bl (Bg W K)):=by
 have d:Za 1 s=ax (pP (nL K)):=by show s[1]?.bind id=_;rw[a];rfl
 have c:Zw 1 [2] (U2 (Za 1)) (.one 0) ZD (eCh oLe MO (eC (.int 0)) (Za 0) (Ze ZN [Za 1])) s=ax (.lst ((K.map λk=>decide (k<(eW W).length)).map PV.bl)):=by
  rw[ZL K (λ(k:Nat)=>.int (k:Int)) (λk=>.bl (decide (k<(eW W).length))) (by
   rw[RE d];unfold nL;rw[Ph]) (by omega) (λk i=>⟨[ax (.int (k:Int)),ax (.lst l)],by simp[ZH,e,Xg],rfl,?_⟩),bZ]
  ·rfl
  ·have g:oLe (.int 0) (.int (k:Int))=ax (.bl aC):=by show ax (PV.bl (decide ((0:Int)<=(k:Int))))=_;rw[decide_eq_true (by omega)]
   show((oLe (.int 0) (.int (k:Int))).bind blO).bind (λb=>if b=aC then(Ze ZN [Za 1] [ax (.int (k:Int)),ax (.lst l)]).bind λz=>MO (.int (k:Int)) z else ax (.bl aB))=_;rw[g];show(ax (PV.int (l.length:Int))).bind (λz=>MO (.int (k:Int)) z)=_;show ax (PV.bl (decide ((k:Int)<(l.length:Int))))=_;rw[f];congr 2;exact decide_eq_decide.mpr (by omega)
 rw[Yl,Zy,c];show Kv [.lst ((K.map λk=>decide (k<(eW W).length)).map PV.bl)]=_;rw[AH];unfold Bg;rw[jT];rfl
theorem Zb5{W:List (List Int)}{K:List Nat}{s:ZG}(h:1<=W.length)(g:s[0]?=ax (ax (wP W)))(c:s[1]?=ax (ax (pP (nL K)))) :
  xB (Zm (Xz aC) (Ze ZN [Za 1]) (Zm Wi (Ze ZN [Za 0]) (eC (.int 1)))) s=ax (!decide (K.length+1=W.length)):=by
 have e:Za 0 s=ax (wP W):=by show s[0]?.bind id=_;rw[g];rfl
 have f:Za 1 s=ax (pP (nL K)):=by show s[1]?.bind id=_;rw[c];rfl
 have a:Ze ZN [Za 1] s=ax (.int (K.length:Int)):=by rw[Yl,Zy,f];show ax (PV.int ((iL (nL K)).length:Int))=_;simp[nL]
 have b:Ze ZN [Za 0] s=ax (.int (W.length:Int)):=by rw[Yl,Zy,e];show ax (PV.int ((W.map pP).length:Int))=_;rw[aJ]
 have d:Zm Wi (Ze ZN [Za 0]) (eC (.int 1)) s=ax (.int ((W.length:Int)-1)):=vI (op:=(· - ·)) b rfl;rw[U7,XD,a,d];show(Xz aC (.int (K.length:Int)) (.int ((W.length:Int)-1))).bind blO=_;rw[Uk];show ax (!decide ((K.length:Int)=(W.length:Int)-1))=_;rw[decide_eq_decide.mpr (show((K.length:Int)=(W.length:Int)-1)↔K.length+1=W.length by omega)]
theorem HF{W:List (List Int)}(ok:Zt W){K:List Nat}(c:∀k∈K,k<=31)(e:K.length<=17):T2 [wP W,pP (nL K)]=ax (.bl (isT W K)):=by
 have o:=ok.few;let s:ZG:=[ax (wP W),ax (pP (nL K)),ax (.lst ((Z8 W).map pP))];have f:Zs 2 (Ze Xv [Za 0]) [ax (wP W),ax (pP (nL K)),aA]=ax (.nx s):=by have:Ze Xv [Za 0] [ax (wP W),ax (pP (nL K)),aA]=ax (.lst ((Z8 W).map pP)):=(Wa ok).1;rw[Yf,this];rfl
 have lt:=Zb5 (W:=W) (K:=K) (s:=s) ok.pos rfl rfl;have d:=Zb4 (W:=W) (K:=K) (s:=s) (m:=0) (l:=(Z8 W).map pP) (by omega) (by rw[aJ,Va]) rfl rfl;show YF 3 Qw _=_;unfold Qw;show(Zn _ _ [ax (wP W),ax (pP (nL K)),aA]).bind U5=_;rw[W5 f];by_cases c1:K.length+1=W.length
 ·by_cases c2:Bg W K=aC
  ·rw[W5 (s1:=s) (by
    rw[Vk,Rx,lt,decide_eq_true c1];simp only[aQ,m9,jc,if_false];rw[Ry,U7,d,c2];rfl)]
   have i:∀k∈K,k<(eW W).length:=λk j=>by unfold Bg at c2;exact of_decide_eq_true (bK.mp c2 k j)
   have h:Zm (Xz aB) (Ze Vs [Za 1]) (Pz VW.gSN (Za 1)) s=ax (.bl (decide (nL K=sortI (FQ K)))):=by
    have a:Ze Vs [Za 1] s=ax (.lst (iL (nL K))):=by show(if ZC (iL (nL K))=aC then ax (PV.lst (iL (nL K))) else aA)=_;rw[p9 (ZY _)]
    have b:Pz VW.gSN (Za 1) s=ax (.lst (iL (sortI (FQ K)))):=Zjz c e;rw[XD,a,b];show Xz aB (.lst ((nL K).map PV.int)) (.lst ((sortI (FQ K)).map PV.int))=_;rw[Zja];rfl
   have n:Zm (Xz aB) (Pz VW.gLS (Ze Y7 [Za 0,Za 2,Za 1])) (eC (.int 1)) s=ax (.bl (decide (ddW W K=1))):=by
    have p:Ze Y7 [Za 0,Za 2,Za 1] s=ax (.lst (iL (R5 W.length (Dq W K)))):=Bf ok i;have g:Pz VW.gLS (Ze Y7 [Za 0,Za 2,Za 1]) s=ax (.int (ddW W K:Int)):=by show(Ze Y7 [Za 0,Za 2,Za 1] s).bind VW.gLS=_;rw[p];show(Ys (iL (R5 W.length (Dq W K)))).bind (λns=>if ns.length<=1000 then ax (PV.int ((ns.foldl iI []).length:Int)) else aA)=_;rw[Yc,aQ,p9 (by rw[JF];omega)];rfl
    rw[XD,g];show Xz aB (.int (ddW W K:Int)) (.int 1)=_;rw[Uk];show ax (PV.bl (decide ((ddW W K:Int)=1)))=_;congr 2;exact decide_eq_decide.mpr (by omega)
   rw[M3 (v:=.bl (isT W K)) (by
    rw[U6,Io,U7,h];unfold isT;rw[decide_eq_true c1,c2];by_cases c3:nL K=sortI (FQ K)
    ·rw[decide_eq_true c3];simp only[aQ,AD,if_true];rw[n];simp
    ·rw[decide_eq_false c3];rfl)]
   rfl
  ·rw[Zbh (v:=.bl aB)]
   ·show ax (PV.bl aB)=_;unfold isT;rw[oG] at c2;rw[c2];simp
   ·rw[Vk,Rx,lt,decide_eq_true c1];simp only[aQ,m9,jc,if_false];rw[oG] at c2;rw[Ry,U7,d,c2];rfl
 ·rw[Zbh (v:=.bl aB)]
  ·show ax (PV.bl aB)=_;unfold isT;rw[decide_eq_false c1];rfl
  ·rw[Vk,Rx,lt,decide_eq_false c1];rfl
theorem Zj0{n:Nat}{m:Nat->Nat}(d:0<n)(h:∀x,x<n->m x=m 0):((R5 n m).foldl iI []).length=1:=by
 have e:R5 n m=(m 0:Int)::(R5 n m).tail:=by unfold R5;obtain⟨k,rfl⟩:∃k,n=k+1:=⟨n-1,by omega⟩;rw[fu,af,List.tail_cons]
 rw[e];have:=Mf λx b=>by have a:x∈R5 n m:=List.mem_of_mem_tail b;obtain⟨y,c,rfl⟩:=ar.mp a;rw[h y (aY.mp c)]
 exact congrArg df this
theorem HG:∀{l acc:List Int},(acc++l).Nodup->l.foldl UR acc=acc++l
 | [],acc,_=>by simp
 | k::l,acc,h=>by
  have a:k∉acc:=λz=>by rw[cN] at h;exact h.2.2 k z k (by simp) rfl
  have ea:UR acc k=acc++[k]:=by unfold UR;rw[pW a]
  rw[gy,ea];have:=HG (l:=l) (acc:=acc++[k]) (by simpa using h);rw[this];simp
noncomputable def Vf(F:List Nat):List Nat:=(sortI (nL F)).map iH
theorem Ov(F:List Nat):nL (Vf F)=sortI (nL F):=by
 show((sortI (nL F)).map iH).map (λ(i:Nat)=>(i:Int))=_;rw[bZ]
 conv=>rhs;rw[<-mI (sortI (nL F))]
 refine au λx a=>?_;have:=(sortI_perm _).mem_iff.mp a;obtain⟨j,_,rfl⟩:=ar.mp this;rfl
theorem JG{a b:Nat}:(λ(i:Nat)=>(i:Int)) a=(λ(i:Nat)=>(i:Int)) b->a=b:=by grind
theorem V7(F:List Nat):(Vf F).Perm F:=by
 have:=(sortI_perm (nL F)).map iH
 have e:(nL F).map iH=F:=by
  unfold nL;rw[bZ]
  conv=>rhs;rw[<-mI F]
  exact au λx _=>rfl
 rw[e] at this;exact this
theorem Dr{n b:Nat}{E:List ZE}{s:WS}(i:WInv E n b s)(all:∀h,h<n->h∈s.F):s.B.length+1=n:=by
 have f:=RX i.ndF i.ltF;have d:=V4 (fF.mpr (cq.imp λz e=>z (JG e))) λx c=>by obtain⟨k,a,rfl⟩:=ar.mp c;exact ar.mpr ⟨k,all k (aY.mp a),rfl⟩
 have e:s.F.length=s.B.length+1:=by rw[i.hB];simp
 simp only[nL,aJ,bt] at d;omega
theorem Zb6{W:List (List Int)}(ok:Zt W){b:Nat}{s:WS}(i:WInv (eW W) W.length b s)(all:∀h,h<W.length->h∈s.F):isT W (Vf (s.B.map (·.1)))=aC:=by
 have f:=V7 (s.B.map (·.1));have l:=Dr i all;have j:∀k∈Vf (s.B.map (·.1)),k<(eW W).length:=λk d=>by obtain⟨x,a,rfl⟩:=ar.mp (f.mem_iff.mp d);exact i.ltL _ (i.bl x a)
 have g:(nL (Vf (s.B.map (·.1)))).Nodup:=by exact fF.mpr ((f.nodup_iff.mpr i.ndB).imp λz e=>z (JG e))
 unfold isT;simp only[aw,decide_eq_true_eq];refine⟨⟨by rw[f.length_eq,aJ];exact l,?_⟩,?_,?_⟩
 ·unfold Bg;exact bK.mpr λk d=>decide_eq_true (j k d)
 ·unfold FQ;rw[HG (by simpa using g)];refine sortI_eq (iR _) ?_;rw[Ov];exact Uo _
 ·have c:∀x,x<W.length->Dq W (Vf (s.B.map (·.1))) x=Dq W (Vf (s.B.map (·.1))) b:=λx a=>i.cn _ (λy m=>by
   have d:=f.mem_iff.mpr (ar.mpr ⟨y,m,rfl⟩);have:swE (Zx (eW W) y.1)∈((Vf (s.B.map (·.1))).map (Zx (eW W))).map swE:=gj (gj d);exact(Ho _ this).symm) x (all x a)
  exact Zj0 ok.pos λx a=>(c x a).trans (c 0 ok.pos).symm
theorem FR(E:List ZE):(aD E.length).map (Zx E)=E:=by
 apply fS
 ·simp
 ·intro i b a;rw[oA,nA];unfold Zx;rw[aF,aE a];rfl
theorem Zb7{b:Type}{p q:b->Bool}:∀{l:List b},(∀x∈l,¬(p x=aC/\q x=aC))->l.countP (λx=>p x || q x)=l.countP p+l.countP q
 | [],_=>rfl
 | a::r,h=>by
  have d:=Zb7 (l:=r) λx e=>h x (aN _ e);have c:=h a (by simp);rw[i6,i6,i6,d];cases e1:p a<;>cases e2:q a<;>simp[e1,e2] at c ⊢<;>omega
noncomputable def FT(h o:Nat):ZE:=if h<o then(h,o) else(o,h)
theorem Zga{h o a:Nat}(c:o≠h)(b:a≠h)(e:FT h o=FT h a):o=a:=by
 unfold FT at e;split at e<;>split at e<;>cases e<;>first | rfl | omega
noncomputable def Pj(E:List ZE)(h:Nat)(G:List Nat)(j:Nat):Bool:=G.any λo=>decide (Zx E j=FT h o)
theorem Zj1{W:List (List Int)}(ok:Zt W){h o:Nat}(b:h<W.length)(a:o<W.length)(ne:o≠h):((aD (eW W).length).countP (λj=>decide (Zx (eW W) j=FT h o)):Int)=ZM W h o:=by
 have c:(aD (eW W).length).countP (λj=>decide (Zx (eW W) j=FT h o))=(eW W).count (FT h o):=by
  conv=>rhs;rw[<-FR (eW W)]
  rw[List.count,List.countP_map];refine List.countP_congr λx _=>?_;simp
 rw[c];unfold eW;rw[Hg ok.few];unfold FT;have d:=ok.lo h o b a;split
 ·rw[p9 (mem_prs.mpr ⟨by omega,by omega⟩)];show((ZM W h o).toNat:Int)=_;omega
 ·rw[p9 (mem_prs.mpr ⟨by omega,by omega⟩)];show((ZM W o h).toNat:Int)=_;rw[ok.sym o h a b];omega
theorem My{W:List (List Int)}(ok:Zt W){h:Nat}(g:h<W.length):∀{G:List Nat},G.Nodup->(∀o∈G,o<W.length/\o≠h)->((aD (eW W).length).countP (Pj (eW W) h G):Int)=Z6 W h G
 | [],_,_=>by
  have:(aD (eW W).length).countP (Pj (eW W) h [])=0:=by rw[List.countP_eq_zero];intro a _;simp[Pj]
  rw[this];rfl
 | o::G,nd,hG=>by
  have d:=aq.mp nd;have i:=My ok g d.2 λx k=>hG x (aN _ k);have l:=Zj1 ok g (hG o (by simp)).1 (hG o (by simp)).2
  have e:(aD (eW W).length).countP (Pj (eW W) h (o::G))=(aD (eW W).length).countP (λj=>decide (Zx (eW W) j=FT h o))+(aD (eW W).length).countP (Pj (eW W) h G):=by
   rw[<-Zb7]
   ·rfl
   ·intro x _ ⟨a,c⟩;have a:Zx (eW W) x=FT h o:=of_decide_eq_true a;obtain⟨f,b,c⟩:=g6.mp c;have c:Zx (eW W) x=FT h f:=of_decide_eq_true c;have:=Zga (hG o (by simp)).2 (hG f (aN _ b)).2 (a.symm.trans c);exact d.1 (this▸b)
  rw[e]
  push_cast
  rw[i,l];unfold Z6;rw[af,bR]
theorem Zb8{W:List (List Int)}(ok:Zt W){b:Nat}{s:WS}(i:WInv (eW W) W.length b s)(q:Vx (eW W) s.L s.F=aA){h:Nat}(u:h<W.length)(n:h∉s.F):Z6 W h s.F<=(YR (eW W) s.L h:Int):=by
 rw[<-My ok u i.ndF λo d=>⟨i.ltF o d,λz=>n (z▸d)⟩]
 have sub:∀x∈(aD (eW W).length).filter (Pj (eW W) h s.F),x∈s.L.filter (Fy (eW W) h):=λx f=>by
  obtain⟨g,p⟩:=bj.mp f;have g:=aY.mp g;obtain⟨o,d,c⟩:=g6.mp p;have c:Zx (eW W) x=FT h o:=of_decide_eq_true c
  have j:Fy (eW W) h x=aC:=by
   unfold Fy;rw[c];unfold FT;split<;>simp
  refine bj.mpr ⟨?_,j⟩;by_cases z:x∈s.L
  ·exact z
  ·have a:=LY q g z;rw[c] at a;unfold FT at a;split at a
   ·exact absurd (a.mpr d) n
   ·exact absurd (a.mp d) n
 have:=V4 (l:=nL ((aD (eW W).length).filter (Pj (eW W) h s.F))) (m:=nL (s.L.filter (Fy (eW W) h))) (fF.mpr ((cq.filter _).imp λz e=>z (JG e))) λx f=>by obtain⟨k,t,rfl⟩:=ar.mp f;exact ar.mpr ⟨k,sub k t,rfl⟩
 simp only[nL,aJ] at this;rw[jL];unfold YR;omega
theorem Zb9{l m:List Int}(h:l.Perm m):l.sum=m.sum:=by
 induction h with
 | nil=>rfl
 | cons x _ ih=>rw[bR,bR,ih]
 | swap x y l=>simp only[bR];omega
 | trans _ _ a b=>exact a.trans b
theorem Mz{W:List (List Int)}(ok:Zt W){h:Nat}(c:h<W.length):∀{G F:List Nat},G.Nodup->(∀x∈G,x∈F)->(∀x∈F,x<W.length)->Z6 W h G<=Z6 W h F
 | [],F,_,_,hF=>by
  show(0:Int)<=_;unfold Z6;exact Mj λx a=>by obtain⟨o,f,rfl⟩:=ar.mp a;exact ok.lo h o c (hF o f)
 | g::G,F,nd,sub,hF=>by
  have b:=aq.mp nd;have i:=sub g (by simp)
  have k:=Mz ok c (G:=G) (F:=F.erase g) b.2 (λx a=>by
   have:x≠g:=λz=>b.1 (z▸a);exact(e8 this).mpr (sub x (aN _ a))) λx a=>hF x (List.mem_of_mem_erase a)
  have d:F.Perm (g::F.erase g):=mE i;have e:Z6 W h F=ZM W h g+Z6 W h (F.erase g):=by unfold Z6;rw[Zb9 (d.map _)];rw[af,bR]
  have j:Z6 W h (g::G)=ZM W h g+Z6 W h G:=by unfold Z6;rw[af,bR]
  omega
theorem HH{W:List (List Int)}(ok:Zt W){D:List Int}{b:Nat}{s:WS}{G:List Nat}(i:WInv (eW W) W.length b s)(p:PInv (eW W) W.length (Zl D) s)(g:Vx (eW W) s.L s.F=aA)(B:Burn W D b G):∀k,k<=G.length->∀x∈G.take k,x∈s.F
 | 0,_,x,hx=>by simp at hx
 | k+1,hk,x,hx=>by
  have f:=HH ok i p g B k (by omega);have a:k<G.length:=by omega
  rw[gY,aE a] at hx;rcases aV.mp hx with z | z
  ·exact f x z
  ·have e:x=G[k]:=by simpa using z
   by_cases h:k=0
   ·subst h;have:=B.hd;rw[aE a] at this;have:G[0]=b:=bC this;rw[e,this,i.hB];simp
   ·have st:=B.st k (by omega) a;rw[aE a] at st;obtain⟨d,l,m⟩:=UE st;by_cases c:x∈s.F
    ·exact c
    ·rw[e] at c;have j:=p.out _ d c;have o:=Zb8 ok i g d c;have n:=Mz ok d (B.nd.sublist (e7 _ _)) f i.ltF;omega
end PW
namespace PW
open PySem L2 VL VX
theorem Ds{F:XS}{x:XT}{s:ZG}{k:Nat}(J:Nat->ZG->Prop)(g:J k s)(st:∀k s,J k s->x s=ax aB\/(x s=ax aC/\WI F s λs2=>∃k',k'<k/\J k' s2)):WI (XC x F) s λd=>∃k,J k d/\x d=ax aB:=by
 obtain⟨d,k',a,b,c⟩:=Zbr (c:=x) (fb:=F) J (λk s h=>by
  rcases st k s h with z | ⟨z,s2,e,k',f,i⟩
  ·exact .inl z
  ·exact .inr ⟨z,s2,k',e,f,i⟩) g
 exact⟨d,a,k',b,c⟩
end PW
namespace PW
open PySem L2 VL VX PK
noncomputable def P6(W:List (List Int))(k:Nat):List Int:=(Z8 W).getD k []
theorem Zgb{W:List (List Int)}{k:Nat}(a:k<(eW W).length):∃t:Int,P6 W k=[((Zx (eW W) k).1:Int),((Zx (eW W) k).2:Int),t]:=by obtain⟨t,e⟩:=HE a;refine⟨t,?_⟩;unfold P6;rw[aF,e];rfl
noncomputable def Tx(W:List (List Int)):PV:=.lst ((Z8 W).map pP)
theorem Bh(W:List (List Int)):Xt ((Z8 W).map pP)=(aD (eW W).length).map λ(i:Nat)=>.tup [.int (i:Int),pP (P6 W i)]:=by rw[Y6,aJ,Va];refine au λi a=>?_;have a:=aY.mp a;rw[aF,aX,aE a];unfold P6;rw[aF,aE a];rfl
theorem JH{W:List (List Int)}{k:Nat}(b:k<(eW W).length):ZR (Tx W) (.int (k:Int))=ax (pP (P6 W k)):=by
 have a:k<(Z8 W).length:=by rw[<-Va];exact b
 refine TJ (xs:=(Z8 W).map pP) ?_;unfold P6;rw[aX,aF,aE a];rfl
theorem Tz{W:List (List Int)}{k:Nat}(b:k<(eW W).length):ZR (pP (P6 W k)) (.int 0)=ax (.int ((Zx (eW W) k).1:Int))/\ZR (pP (P6 W k)) (.int 1)=ax (.int ((Zx (eW W) k).2:Int))/\PH (pP (P6 W k)) aA (ax 2)=ax (pP [((Zx (eW W) k).1:Int),((Zx (eW W) k).2:Int)]):=by obtain⟨t,a⟩:=Zgb b;rw[a];exact⟨rfl,rfl,rfl⟩
theorem Pk{W:List (List Int)}{L F:List Nat}:Xe [Tx W,.lst (iL (nL L)),.lst (iL (nL F))]=ax (UT (Vx (eW W) L F)):=by
 refine Pg (Zhg (L:=aD (eW W).length) (q:=λ(i:Nat)=>.tup [.int (i:Int),pP (P6 W i)]) (g:=λ(i:Nat)=>.int (i:Int)) (λk=>!decide (k∈L)&&(decide ((Zx (eW W) k).1∈F) != decide ((Zx (eW W) k).2∈F))) (λst=>∃x y,st=[ax (Tx W),ax (.lst (iL (nL L))),ax (.lst (iL (nL F))),x,y]) (by rw[<-Bh];rfl) ⟨aA,aA,rfl⟩ ?_ (λa e=>by unfold Vx;rw[e];rfl) λe s=>?_)
 ·rintro k d s ⟨x,y,rfl⟩;obtain⟨f,c,_⟩:=Tz (aY.mp d)
  have b:∀p q:Bool,Xz aC (.bl p) (.bl q)=ax (.bl (p != q)):=λp q=>by
   unfold Xz;rw[p9 (by rfl)];cases p<;>cases q<;>simp
  exact⟨_,rfl,xa (xb (o2 rfl rfl (Jq k L))) (xb (o2 (o2 (o2 rfl rfl f) rfl (RZ _ F)) (o2 (o2 rfl rfl c) rfl (RZ _ F)) (b _ _))),rfl,_,_,rfl⟩
 ·rintro⟨x,y,rfl⟩;refine⟨.non,rfl,?_⟩;unfold Vx;rw[e];rfl
noncomputable def bI(x:Nat×Nat×Nat):List Int:=[(x.1:Int),(x.2.1:Int),(x.2.2:Int)]
abbrev Zmk(W:List (List Int))(b:Nat)(C:PV)(s:WS)(x7 x8 x9:Option PV):ZG:=[ax (wP W),ax (.int (b:Int)),ax C,ax (Tx W),ax (.lst (iL (nL s.F))),ax (.lst (iL (nL s.L))),ax (.lst (s.B.map λx=>pP (bI x))),x7,x8,x9]
theorem Vb{W:List (List Int)}:∀e∈eW W,e.1<W.length/\e.2<W.length:=λe a=>by have:=HC e a;omega
theorem Ox{E:List ZE}{k:Nat}(h:k<E.length):Zx E k∈E:=by unfold Zx;rw[aF,aE h];exact bQ h
theorem Zj2{s:ZG}{i:Nat}{fs:List XE}{ls:List PV}{Lm:Lam}{l:PV}{v:Bool}(g:s[i]?=ax (ax (.clo Lm l)))(c:PB fs s=ax ls)(b:YM l=aC)(d:Xh ls=aC)(a:V0 Lm l ls=ax (.bl v)):xV (Zak V0 i fs) s=ax v:=by unfold xV Zak;rw[g];simp only;rw[c];simp only[aQ];rw[p9 (by rw[b,d];rfl),a];rfl
theorem Bi{W:List (List Int)}{L:List Nat}{h:Nat}{s:ZG}(a:∀j∈L,j<(eW W).length)(g:L.length<=1000)(f:Za 5 s=ax (.lst (iL (nL L))))(d:ZH 1 [8,3] s=[aA,ax (.int (h:Int)),ax (Tx W)]) :
  Ze ZN [Zw 1 [8,3] (YL (Za 5)) (.one 0) (xB (Zm (PF aB) (Za 1) (O0 PH (Zm ZR (Za 2) (Za 0)) MR (Qk (eC (.int 2)))))) (Za 0)] s=ax (.int (YR (eW W) L h:Int)):=by
 refine c1 (XG L (λ(i:Nat)=>.int (i:Int)) (λ(i:Nat)=>.int (i:Int)) (Fy (eW W) h) (by unfold YL;rw[f];simp[nL]) (by omega) λy c=>⟨[ax (.int (y:Int)),ax (.int (h:Int)),ax (Tx W)],by rw[d];rfl,?_,λ_=>rfl⟩) (by simp[YR]);obtain⟨_,_,e⟩:=Tz (a y c);refine xb (o2 (b:=pP [((Zx (eW W) y).1:Int),((Zx (eW W) y).2:Int)]) rfl ?_ ?_)
 ·show((ZR (Tx W) (.int (y:Int))).bind λx=>PH x aA (ax 2))=_;rw[JH (a y c)];exact e
 ·rw[Dp];simp[Fy,gv]
theorem L7{W:List (List Int)}(ok:Zt W){b:Nat}(J:b<W.length){Lm:Lam}{l:PV}{φ:Nat->Nat->Nat->Bool}(G:YM l=aC)
  (C:∀k h c:Nat,k<(eW W).length->h<W.length->V0 Lm l [.int (k:Int),.int (h:Int),.int (c:Int)]=ax (.bl (φ k h c))) :
  V1 [wP W,.int (b:Int),.clo Lm l]=ax (.lst ((ZZ (eW W) φ (eW W).length (Sn b)).B.map λx=>pP (bI x))):=by
 have P:=ok.few;have B:=Wa ok;have Q:(eW W).length<=441:=by rw[Va];exact B.2
 refine Pg (ZU (Zp (c1 rfl B.1)) (ZU rfl (ZU rfl (ZU rfl (ZU (Zp (c3 rfl rfl rfl (Pk (L:=[]) (F:=[b])))) (Wv (Ds (k:=(eW W).length) (λk st=>∃s u w,st=Zmk W b (.clo Lm l) s (ax (UT (Vx (eW W) s.L s.F))) u w/\WInv (eW W) W.length b s/\(eW W).length<=k+s.L.length/\ZZ (eW W) φ k s=ZZ (eW W) φ (eW W).length (Sn b)) ⟨Sn b,aA,aA,rfl,WInv.start J,by simp,rfl⟩ ?_) ?_))))))
 ·rintro k st ⟨s,u,w,rfl,d,E,t⟩
  cases e:Vx (eW W) s.L s.F with
  | none=>exact .inl rfl
  | some j=>
   cases k with
   | zero=>
    have:=RY (φ:=φ) Vb d (m:=0) (by omega);unfold ZZ at this;rw[e] at this;cases this
   | succ k=>
    obtain⟨f,N,_⟩:=Wc e;obtain⟨U,T,o,X,I⟩:=Tt e
    have A:YG (eW W) s.F j<W.length:=by
     have:=Vb _ (Ox f);rcases I with z | z<;>rw[z] at this
     ·exact this.2
     ·exact this.1
    have O:=RX d.ndL d.ltL;have S:=RX d.ndF d.ltF;have M:s.F.length=s.B.length+1:=by rw[d.hB];simp
    obtain⟨p,D,_⟩:=Tz f;have g:=JH f;let h:=YG (eW W) s.F j;let c:=YR (eW W) (s.L++[j]) h;refine .inr ⟨rfl,Z4 (Js rfl rfl (by omega)) (Z4 (Zp (vP (a:=(h:Int)) ?_)) (Z4 (Zp (vP (Bi (h:=h) (L:=s.L++[j]) (λi H=>?_) (by rw[aT,bu];omega) rfl rfl))) (L3 (R:=λst=>st=Zmk W b (.clo Lm l) (Yr (eW W) φ s j) (ax (.int (j:Int))) (ax (.int (h:Int))) (ax (.int (c:Int)))) (L4 (Zj2 rfl rfl G rfl (C j h c f A)) (λv=>Z4 (Js (k:=h) rfl rfl (by omega)) (R0 (Jr (λx=>pP (bI x)) (y:=(j,h,c)) rfl rfl (by omega)) ?_)) λv=>R0 rfl ?_) ?_)))⟩
    ·show _=ax (PV.int (YG (eW W) s.F j:Int));unfold YG;by_cases q:(Zx (eW W) j).1∈s.F
     ·rw[p9 q];exact Ml (xb ((o2 (o2 (o2 rfl rfl g) rfl p) rfl (RZ _ _)).trans (by rw[decide_eq_true q]))) (o2 (o2 rfl rfl g) rfl D)
     ·rw[pW q];exact Mm (xb ((o2 (o2 (o2 rfl rfl g) rfl p) rfl (RZ _ _)).trans (by rw[decide_eq_false q]))) (o2 (o2 rfl rfl g) rfl p)
    ·rcases aV.mp H with z | z
     ·exact d.ltL i z
     ·rw[aM.mp z];exact f
    ·unfold Yr;rw[p9 v];rfl
    ·unfold Yr;rw[pW (by rw[v];decide)];rfl
    ·rintro st rfl;refine R0 (Zp (c3 rfl rfl rfl Pk)) ⟨k,by omega,Yr (eW W) φ s j,_,_,rfl,d.step Vb e,by rw[Fz,aT,bu];omega,?_⟩;rw[<-t]
     conv=>rhs;unfold ZZ
     rw[e]
 ·rintro st ⟨k,⟨s,u,w,rfl,d,E,t⟩,q⟩;refine⟨_,rfl,?_⟩;rw[<-t]
  cases k with
  | zero=>rfl
  | succ n=>
   unfold ZZ
   cases e:Vx (eW W) s.L s.F with
   | none=>rfl
   | some h=>rw[e] at q;cases q
theorem HI(st:cB)(i:Nat)(q f:bH):(NG st i q f).free=f:=by
 unfold NG;split
 ·split<;>rfl
 ·rfl
theorem FU{s t:cB}{i j:Nat}{p q f g:bH}(h:f≠g):NG s i p f≠NG t j q g:=λz=>h (by
 have:=congrArg Lam.free z
 rwa [HI,HI] at this)
theorem FV{K:List Nat}{k h c:Nat}:V0 Yn (pP (nL K)) [.int (k:Int),.int (h:Int),.int (c:Int)]=ax (.bl (decide (k∈K))):=by unfold V0;rw[p9 rfl];exact o2 rfl rfl (by rw[Dp];simp only[Mg];rfl)
theorem Bj{D:List Int}{k h c:Nat}(a:h<D.length):V0 YO (pP D) [.int (k:Int),.int (h:Int),.int (c:Int)]=ax (.bl (By (Zl D) k h c)):=by unfold V0;rw[pW (show YO≠Yn from FU (by decide)),pW (show YO≠YN from FU (by decide)),p9 rfl];exact o2 (o2 rfl rfl (YD a)) rfl rfl
theorem We(D:List Int):YM (pP D)=aC:=by
 show Xh (iL D)=aC
 induction D with
 | nil=>rfl
 | cons a r ih=>exact ih
theorem MA{W:List (List Int)}(ok:Zt W){b:Nat}(d:b<W.length){Lm:Lam}{l:PV}{φ:Nat->Nat->Nat->Bool}(j:YM l=aC)
  (f:∀k h c:Nat,k<(eW W).length->h<W.length->V0 Lm l [.int (k:Int),.int (h:Int),.int (c:Int)]=ax (.bl (φ k h c))) :
  WM [wP W,.int (b:Int),.clo Lm l]=ax (pP (nL (Vf ((ZZ (eW W) φ (eW W).length (Sn b)).B.map (·.1))))):=by
 have e:=L7 ok d j f;generalize i:ZZ (eW W) φ (eW W).length (Sn b)=s at e ⊢;have a:WInv (eW W) W.length b s:=by rw[<-i];exact WInv.walk Vb (WInv.start d)
 have p:=RX a.ndF a.ltF;have o:s.F.length=s.B.length+1:=by rw[a.hB];simp
 have n:=ok.few;have g:(s.B.map λx=>PV.int (x.1:Int))=iL (nL (s.B.map (·.1))):=by simp[nL]
 refine XX (ret (HS ?_));rw[Ov];exact c1 (c1 ((ZL s.B (λx=>pP (bI x)) (λx=>.int (x.1:Int)) (by unfold YL;rw[c3 (D:=V1) rfl rfl rfl e];rfl) (by omega) λx m=>⟨_,rfl,rfl,rfl⟩).trans (by rw[g])) (Mw (by rw[aJ];omega))) rfl
theorem M4{W:List (List Int)}{D:List Int}{b:Nat}{F:List Nat}(d:D.length<=1000)(c:Vl [wP W,pP D,.int (b:Int)]=ax (.lst (iL (nL F))))(hd:Xl D b=[])(e:F.length=W.length) :
  WE [wP W,pP D,.int (b:Int)]=ax (.bl aC):=by
 have a:=S3 (b:=b) d;rw[hd] at a;exact XX (ret (ep (ea (p:=aC) (p2:=aC) ((C2 (b:=0) (c1 (c2 rfl rfl a) (Mx (L:=[]))) rfl).trans rfl) ((C2 (c1 (c3 rfl rfl rfl c) Mx) (c1 rfl Vr)).trans (by rw[decide_eq_true (by omega)])))))
noncomputable def R6(W:List (List Int))(D:List Int)(b:Nat):WS:=ZZ (eW W) (By (Zl D)) (eW W).length (Sn b)
noncomputable def MB(W:List (List Int))(D:List Int)(b:Nat):List Nat:=Vf ((R6 W D b).B.map (·.1))
theorem FW{W:List (List Int)}(ok:Zt W){D:List Int}(hd:D.length=W.length){b:Nat}(e:b<W.length)(a:WE [wP W,pP D,.int (b:Int)]=ax (.bl aC)):T7 [wP W,.int (b:Int),pP D]=ax (pP (nL (MB W D b))):=by have d:=MA ok e (We D) (Lm:=YO) (φ:=By (Zl D)) λk h c _ f=>Bj (by rw[hd];exact f);refine XX (sq (gof (xn (p:=aC) (xb (c3 rfl rfl rfl a)))) (ret ?_));show(WM [wP W,.int (b:Int),.clo YO (pP D)]).bind _=_;rw[d,aQ,p9 (We _)];rfl
theorem Zca{W:List (List Int)}(ok:Zt W){D:List Int}{b:Nat}(a:b<W.length){G:List Nat}(B:Burn W D b G)(all:G.length=W.length)(o:∀g,g<W.length->g≠b->0<=Zl D g):∀h,h<W.length->h∈(R6 W D b).F:=λh k=>by
 have c:WInv (eW W) W.length b (R6 W D b):=WInv.walk Vb (WInv.start a);have d:PInv (eW W) W.length (Zl D) (R6 W D b):=PInv.walk Vb (PInv.start o);have j:Vx (eW W) (R6 W D b).L (R6 W D b).F=aA:=RY Vb (WInv.start a) (by simp)
 have f:h∈G:=by
  have:=V4 (l:=nL (aD W.length)) (m:=nL G) (fF.mpr (cq.imp λz e=>z (JG e)));by_cases z:h∈G
  ·exact z
  ·have:=RX (n:=W.length) (Si B.nd z) λx i=>by
    rcases aV.mp i with y | y
    ·exact B.lt x y
    ·rw[aM.mp y];exact k
   rw[aT,bu] at this;omega
 exact HH ok c d j B G.length (aZ _) h (by rw[ck];exact f)
theorem L8{W:List (List Int)}{D a:List Int}{b:Nat}(h:∀g,g≠b->Zl D g=Zl a g):R6 W D b=R6 W a b:=
 Me (λk g c d=>by unfold By;rw[h g d]) (by simp[Sn])
noncomputable def So(B:List (Nat×Nat×Nat))(c:List Int):List Int:=B.foldl (λc x=>c.set x.2.1 ((x.2.2:Int)-1)) c
theorem MC:∀(B:List (Nat×Nat×Nat))(c:List Int),(So B c).length=c.length
 | [],_=>rfl
 | x::B,c=>by show(So B (c.set _ _)).length=_;rw[MC,cG]
theorem Bk(B:List (Nat×Nat×Nat))(x:Nat×Nat×Nat)(c:List Int):So (B++[x]) c=(So B c).set x.2.1 ((x.2.2:Int)-1):=by unfold So;rw[jq];rfl
theorem Zml{n:Nat}(a:n<=1000):Gu (.lst [.int 0]) (.int (n:Int))=ax (.lst (iL (aS n 0))):=by show(if ZC [PV.int 0]=aC/\(-1000000:Int)<=(n:Int)/\(n:Int)<=1000000/\[PV.int 0].length*((n:Int)).toNat<=10000 then ax (PV.lst (aS ((n:Int)).toNat [PV.int 0]).flatten) else aA)=_;rw[p9 ⟨rfl,by omega,by omega,by simp;omega⟩,bV,Ib];simp
theorem HJ{W:List (List Int)}(ok:Zt W){b:Nat}(m:b<W.length){K:List Nat} :
  Uw [wP W,.int (b:Int),pP (nL K)]=ax (pP (So (ZZ (eW W) (λk _ _=>decide (k∈K)) (eW W).length (Sn b)).B (aS W.length 0))):=by
 have j:=L7 ok m (We (nL K)) (Lm:=Yn) (φ:=λk _ _=>decide (k∈K)) λk h c _ _=>FV;generalize u:ZZ (eW W) (λk _ _=>decide (k∈K)) (eW W).length (Sn b)=s at j ⊢;have g:WInv (eW W) W.length b s:=by rw[<-u];exact WInv.walk Vb (WInv.start m)
 have w:=ok.few;have o:∀x∈s.B,x.2.1<W.length:=λx p=>g.ltF _ (by rw[g.hB];exact aN _ (ar.mpr ⟨x,p,rfl⟩))
 have t:∀B:List (Nat×Nat×Nat),Xh (B.map λx=>pP (bI x))=aC:=λB=>by
  induction B with
  | nil=>rfl
  | cons x r ih=>
   show(YM (pP (bI x))&&Xh _)=aC;rw[We];exact ih
 refine Pg (ZU (Zp (o2 (a:=.lst [.int 0]) rfl (c1 rfl Vr) (Zml (by omega)))) (ZU (Zp (v:=.lst (s.B.map λx=>pP (bI x))) ?_) (Wv (Tu (ls:=s.B.map λx=>pP (bI x)) (λi st=>∃d f e,st=[ax (wP W),ax (.int (b:Int)),ax (pP (nL K)),ax (.lst (iL (So (s.B.take i) (aS W.length 0)))),ax (.lst (s.B.map λx=>pP (bI x))),d,f,e]) rfl ⟨aA,aA,aA,rfl⟩ ?_) ?_)))
 ·show(V1 [wP W,.int (b:Int),.clo Yn (pP (nL K))]).bind _=_;rw[j,aQ,p9 (show YM (PV.lst _)=aC from t _)]
 ·rintro i l st n ⟨d,f,e,rfl⟩;obtain⟨x,q,rfl⟩:∃x,s.B[i]?=ax x/\pP (bI x)=l:=by simpa using n
  refine⟨_,rfl,R0 (FE (k:=x.2.1) rfl (Bz rfl rfl) rfl (by rw[MC,cL];exact o x (av q))) ⟨ax (.int (x.1:Int)),ax (.int (x.2.1:Int)),ax (.int (x.2.2:Int)),?_⟩⟩;rw[show s.B.take (i+1)=s.B.take i++[x] by rw[gY,q];rfl,Bk];rfl
 ·rintro st ⟨d,f,e,rfl⟩;exact Vy (HS (c1 rfl rfl)) (by rw[aJ,ck])
theorem MD{h:Nat}:∀{B:List (Nat×Nat×Nat)}{c:List Int},(∀x∈B,x.2.1≠h)->(So B c)[h]?=c[h]?
 | [],_,_=>rfl
 | x::B,c,hb=>by show(So B (c.set x.2.1 _))[h]?=_;rw[MD λy a=>hb y (aN _ a),i9 (hb x (by simp))]
theorem Dt{x:Nat×Nat×Nat}:∀{B:List (Nat×Nat×Nat)}{c:List Int},(B.map (·.2.1)).Nodup->x∈B->x.2.1<c.length->(So B c)[x.2.1]?=ax ((x.2.2:Int)-1)
 | [],_,_,h,_=>by simp at h
 | y::B,c,nd,h,hl=>by
  rw[af] at nd;have a:=aq.mp nd;show(So B (c.set y.2.1 _))[x.2.1]?=_;rcases aa.mp h with e | h
  ·subst e;rw[MD λz b e=>a.1 (ar.mpr ⟨z,b,e⟩),iK hl]
  ·exact Dt a.2 h (by rw[cG];exact hl)
section
variable {E:List ZE} {n b m:Nat} {s:WS} {φ:Nat->Nat->Nat->Bool} {g:List Nat}
theorem Q3:∀{m:Nat}{s:WS}{x:Nat×Nat×Nat},x∈(ZZ E φ m s).B->x∈s.B\/YR E s.L x.2.1+1<=x.2.2
 | 0,s,x,h=>.inl h
 | m+1,s,x,h=>by
  unfold ZZ at h;split at h
  ·rename_i k a;rcases Q3 (s:=Yr E φ s k) h with z | z
   ·unfold Yr at z;split at z
    ·rcases aV.mp z with y | y
     ·exact .inl y
     ·rw[aM.mp y];exact .inr (by rw[Hl (Tt a).2.1];exact aZ _)
    ·exact .inl z
   ·rw[Fz] at z;refine .inr (cD (ng ?_) z);unfold YR;rw[gA,aT];omega
  ·exact .inl h
theorem Du{D:Nat->Int}(f:∀e∈E,e.1<n/\e.2<n):∀{m:Nat}{s:WS},WInv E n b s->(∀x∈(ZZ E φ m s).B,(x.2.2:Int)=D x.2.1+1)->(∀h,h<n->h∈(ZZ E φ m s).F)->ZZ E (By D) m s=ZZ E φ m s
 | 0,s,_,_,_=>rfl
 | m+1,s,i,hD,all=>by
  have g:=WInv.walk (φ:=φ) (m:=m+1) f i;unfold ZZ at hD all g ⊢
  cases z:Vx E s.L s.F with
  | none=>rfl
  | some k=>
   rw[z] at hD all g;simp only at hD all g ⊢;obtain⟨C,G,_⟩:=Wc z;obtain⟨p,F,o,H,A⟩:=Tt z;have v:=Ox (E:=E) C
   have lt:YG E s.F k<n:=by
    have:=f _ v;rcases A with y | y<;>rw[y] at this
    ·exact this.2
    ·exact this.1
   have same:Yr E (By D) s k=Yr E φ s k:=by
    by_cases c:φ k (YG E s.F k) (YR E (s.L++[k]) (YG E s.F k))=aC
    ·have d:(k,YG E s.F k,YR E (s.L++[k]) (YG E s.F k))∈(Yr E φ s k).B:=by unfold Yr;rw[p9 c];simp
     have:=hD _ (LZ d);simp only at this;unfold Yr;have j:By D k (YG E s.F k) (YR E (s.L++[k]) (YG E s.F k))=aC:=decide_eq_true (by omega);rw[p9 c,p9 j]
    ·have t:=all _ lt;rw[g.hB] at t;have l:(Yr E φ s k).B=s.B:=by unfold Yr;rw[pW c]
     rcases aa.mp t with y | y
     ·exact absurd (y▸(by rw[i.hB];simp:b∈s.F)) p
     ·obtain⟨x,d,a⟩:=ar.mp y;have a:x.2.1=YG E s.F k:=a;have u:=hD x d;rcases Q3 d with w | w
      ·rw[l] at w;have B:YG E s.F k∈b::s.B.map (·.2.1):=aN _ (ar.mpr ⟨x,w,a⟩);exact absurd (i.hB.symm▸B) p
      ·rw[Fz,a] at w;rw[a] at u;unfold Yr;rw[pW c,pW];exact λq=>by have:=of_decide_eq_true q;omega
   rw[same];exact Du f (i.step f z) hD all
structure TInv(E:List ZE)(g:List Nat)(s:WS):Prop where
 two:∀k∈s.L,k∈g->(Zx E k).1∈s.F/\(Zx E k).2∈s.F
 sub:∀x∈s.B,x.1∈g
theorem TInv.walk:∀{m:Nat}{s:WS},TInv E g s->TInv E g (ZZ E (λk _ _=>decide (k∈g)) m s)
 | 0,s,i=>i
 | m+1,s,i=>by
  unfold ZZ;split
  ·rename_i k f;refine TInv.walk ?_;obtain⟨p,n,o,a,e⟩:=Tt f;unfold Yr;by_cases q:k∈g
   ·rw[p9 (decide_eq_true q)];refine⟨λj d b=>?_,λx l=>?_⟩
    ·rcases aV.mp d with y | y
     ·have:=i.two j y b;exact⟨ao _ this.1,ao _ this.2⟩
     ·rw[aM.mp y];have a:o∈s.F++[YG E s.F k]:=ao _ a;have c:YG E s.F k∈s.F++[YG E s.F k]:=by simp
      generalize YG E s.F k=h at e a c;rcases e with y | y<;>rw[y]
      ·exact⟨a,c⟩
      ·exact⟨c,a⟩
    ·rcases aV.mp l with y | y
     ·exact i.sub x y
     ·rw[aM.mp y];exact q
   ·rw[pW (by simpa using q)];refine⟨λj d b=>?_,i.sub⟩;rcases aV.mp d with y | y
    ·exact i.two j y b
    ·rw[aM.mp y] at b;exact absurd b q
  ·exact i
end
structure QInv(W:List (List Int))(s:WS):Prop where
 lk:∀k∈s.L,(Zx (eW W) k).1∈s.F\/(Zx (eW W) k).2∈s.F
 few:∀i x,s.B[i]?=ax x->(x.2.2:Int)<=Z6 W x.2.1 (s.F.take (i+1))
theorem Zcb{W:List (List Int)}(ok:Zt W){L F:List Nat}(l:L.Nodup)(lt:∀k∈L,k<(eW W).length)(c:F.Nodup)(b:∀h∈F,h<W.length)(s:∀k∈L,(Zx (eW W) k).1∈F\/(Zx (eW W) k).2∈F){h:Nat}(p:h<W.length)(f:h∉F):(YR (eW W) L h:Int)<=Z6 W h F:=by
 rw[<-My ok p c λo i=>⟨b o i,λz=>f (z▸i)⟩]
 have sub:∀x∈L.filter (Fy (eW W) h),x∈(aD (eW W).length).filter (Pj (eW W) h F):=λx n=>by
  obtain⟨e,d⟩:=bj.mp n;refine bj.mpr ⟨aY.mpr (lt x e),?_⟩;have j:=lt x e;have m:=Ox (E:=(eW W)) j;have t:=(HC _ m).1;have a:=s x e;unfold Fy at d;simp only[jH,decide_eq_true_eq] at d;refine g6.mpr ?_;unfold FT;by_cases q:h=(Zx (eW W) x).1
  ·rcases a with y | y
   ·exact absurd (q▸y) f
   ·exact⟨_,y,decide_eq_true (by rw[p9 (by omega),q])⟩
  ·have g:h=(Zx (eW W) x).2:=d.resolve_left q;rcases a with y | y
   ·exact⟨_,y,decide_eq_true (by rw[pW (by omega),g])⟩
   ·exact absurd (g▸y) f
 have:=Oo (l.filter _) sub;rw[jL];unfold YR;omega
theorem QInv.walk{W:List (List Int)}(ok:Zt W){b:Nat}{φ:Nat->Nat->Nat->Bool}:∀{m:Nat}{s:WS},WInv (eW W) W.length b s->QInv W s->QInv W (ZZ (eW W) φ m s)
 | 0,s,_,i=>i
 | m+1,s,wi,i=>by
  unfold ZZ;split
  ·rename_i k e;refine QInv.walk ok (wi.step Vb e) ?_;obtain⟨g,v,_⟩:=Wc e;obtain⟨p,w,o,l,d⟩:=Tt e;have u:=Ox (E:=(eW W)) g
   have lt:YG (eW W) s.F k<W.length:=by
    have:=Vb _ u;rcases d with y | y<;>rw[y] at this
    ·exact this.2
    ·exact this.1
   have f:∀j∈s.L++[k],(Zx (eW W) j).1∈s.F\/(Zx (eW W) j).2∈s.F:=λj c=>by
    rcases aV.mp c with y | y
    ·exact i.lk j y
    ·rw[aM.mp y];generalize YG (eW W) s.F k=h at d;rcases d with y | y<;>rw[y]
     ·exact .inl l
     ·exact .inr l
   unfold Yr;split
   ·refine⟨λj c=>?_,λj x a=>?_⟩
    ·rcases f j c with y | y
     ·exact .inl (ao _ y)
     ·exact .inr (ao _ y)
    ·have t:s.F.length=s.B.length+1:=by rw[wi.hB];simp
     by_cases q:j<s.B.length
     ·rw[aj q] at a;rw[fU (by omega)];exact i.few j x a
     ·have n:=(aR.mp a).1;rw[aT,bu] at n;have:j=s.B.length:=by omega
      subst this;rw[bA (aZ _),Nat.sub_self] at a;have a:=bC a;subst a;rw[show s.B.length+1=s.F.length from t.symm,oQ rfl];refine Zcb ok (Si wi.ndL v) (λj c=>?_) wi.ndF wi.ltF f lt p;rcases aV.mp c with y | y
      ·exact wi.ltL j y
      ·rw[aM.mp y];exact g
   ·exact⟨f,i.few⟩
  ·exact i
theorem QInv.start(W:List (List Int))(b:Nat):QInv W (Sn b):=⟨λk a=>by simp[Sn] at a,λi x c=>by simp[Sn] at c⟩
structure Zmm(W:List (List Int))(b:Nat)(D:List Int):Prop where
 len:D.length=W.length
 base:Zl D b=0
 set:∃F,Settled W b D F
noncomputable def stl(W:List (List Int))(b:Nat)(g:List Nat):List Int:=So (ZZ (eW W) (λk _ _=>decide (k∈g)) (eW W).length (Sn b)).B (aS W.length 0)
theorem HK{l:List Int}{i:Nat}{v:Int}(h:l[i]?=ax v):Zl l i=v:=by unfold Zl;rw[aF,h];rfl
theorem FX{W:List (List Int)}(ok:Zt W){b:Nat}(m:b<W.length){g:List Nat}(lt:∀t∈g,t<(eW W).length)(E:g.Pairwise (· < ·))(P:∀q:Nat->Nat,(∀t∈g,q (Zx (eW W) t).1=q (Zx (eW W) t).2)->∀x,x<W.length->q x=q 0)(Z:g.length+1=W.length):Zmm W b (stl W b g)/\MB W (stl W b g) b=g:=by
 unfold stl MB R6;generalize j:ZZ (eW W) (λk _ _=>decide (k∈g)) (eW W).length (Sn b)=s;have d:WInv (eW W) W.length b s:=by rw[<-j];exact WInv.walk Vb (WInv.start m)
 have N:TInv (eW W) g s:=by rw[<-j];exact TInv.walk ⟨λk y=>by simp[Sn] at y,λx a=>by simp[Sn] at a⟩
 have X:QInv W s:=by rw[<-j];exact QInv.walk ok (WInv.start m) (QInv.start W b)
 have Q:Vx (eW W) s.L s.F=aA:=by rw[<-j];exact RY Vb (WInv.start m) (by simp)
 have T:b∈s.F:=by rw[d.hB];simp
 have all:∀h,h<W.length->h∈s.F:=λh f=>by
  have n:=P (λx=>if x∈s.F then 1 else 0) λt M=>by
   by_cases q:t∈s.L
   ·have:=N.two t q M;simp only[this.1,this.2,if_true]
   ·have:=LY Q (lt t M) q;simp only[this]
  have u:=n h f;have I:=n b m;simp only[T,if_true] at I;rw[<-I] at u;by_cases q:h∈s.F
  ·exact q
  ·simp[q] at u
 have C:(s.B.map (·.2.1)).Nodup:=by have:=d.ndF;rw[d.hB] at this;exact(aq.mp this).2
 have Y:∀x∈s.B,x.2.1≠b:=λx a e=>by have:=d.ndF;rw[d.hB] at this;exact(aq.mp this).1 (ar.mpr ⟨x,a,e⟩)
 have o:∀x∈s.B,x.2.1<W.length:=λx a=>d.ltF _ (by rw[d.hB];exact aN _ (ar.mpr ⟨x,a,rfl⟩));let D:=So s.B (aS W.length 0);have L:D.length=W.length:=by show(So _ _).length=_;rw[MC,cL]
 have G:∀x∈s.B,(x.2.2:Int)=Zl D x.2.1+1:=λx a=>by have:=HK (v:=(x.2.2:Int)-1) (Dt (c:=aS W.length 0) C a (by rw[cL];exact o x a));show(x.2.2:Int)=Zl (So s.B (aS W.length 0)) x.2.1+1;rw[this];omega
 have O:Zl D b=0:=HK (by show(So _ _)[b]?=_;rw[MD Y,b7,p9 m]);have same:ZZ (eW W) (By (Zl D)) (eW W).length (Sn b)=s:=by rw[<-j];exact Du (b:=b) Vb (WInv.start m) (by rw[j];exact G) (by rw[j];exact all)
 have one:∀h,h<W.length->h≠b->∃(i:Nat) (x:Nat×Nat×Nat),s.B[i]?=ax x/\x.2.1=h:=λh f l=>by
  have:=all h f;rw[d.hB] at this;rcases aa.mp this with z | z
  ·exact absurd z l
  ·obtain⟨x,a,A⟩:=ar.mp z;obtain⟨i,R,e⟩:=bp a;exact⟨i,x,by rw[aE R,e],A⟩
 refine⟨⟨L,O,?_⟩,?_⟩
 ·obtain⟨F,_,B,nx⟩:=Mi ok L m
  have sub:∀k,k<=s.B.length->∀h∈s.F.take (k+1),h∈F:=by
   intro k
   induction k with
   | zero=>
    intro _ h f;rw[d.hB] at f;rw[show h=b by simpa using f];exact av B.hd
   | succ k w=>
    intro y h f;have w:=w (by omega);rw[gY] at f;rcases aV.mp f with z | z
    ·exact w h z
    ·obtain⟨x,a⟩:∃x,s.B[k]?=ax x:=⟨_,aE (by omega)⟩;have J:h=x.2.1:=by rw[d.hB,kX,aX,a] at z;simpa using z
     have p:h<W.length:=by rw[J];exact o x (av a)
     by_cases q:h∈F
     ·exact q
     ·have n1:=Mh nx p q;have n2:=Mz ok p (d.ndF.sublist (e7 _ _)) w B.lt;have S:=X.few k x a;have H:=G x (av a);rw[<-J] at S H;omega
  refine⟨F,λh f l=>?_,B,nx,λh f=>?_⟩
  ·obtain⟨i,x,a,A⟩:=one h f l;have H:=G x (av a);rw[A] at H;have:=Q3 (s:=Sn b) (by rw[j];exact av a);rcases this with z | z
   ·simp[Sn] at z
   ·show 0<=Zl D h;omega
  ·have lF:s.F.length=s.B.length+1:=by rw[d.hB];simp
   have:=sub s.B.length (aZ _) h;rw[bY (by omega)] at this;exact this (all h f)
 ·show Vf ((ZZ (eW W) (By (Zl D)) (eW W).length (Sn b)).B.map (·.1))=g;rw[same];have ln:=Dr d all
  have U:(s.B.map (·.1)).Perm g:=Q8 d.ndB (λk y=>by
   obtain⟨x,a,rfl⟩:=ar.mp y;exact N.sub x a) (by rw[aJ];omega)
  unfold Vf;have u:nL g=sortI (nL (s.B.map λx=>x.1)):=sortI_eq (U.symm.map _) (fF.mpr (E.imp λh=>by omega));rw[<-u];unfold nL;rw[bZ]
  conv=>rhs;rw[<-mI g]
  exact au λx _=>bV x
theorem Settled.len{W:List (List Int)}{b:Nat}{D:List Int}{F:List Nat}(s:Settled W b D F):F.length=W.length:=by have d:=s.burn.len;have c:=Oo (l:=aD W.length) (m:=F) cq λx a=>s.all x (aY.mp a);rw[bt] at c;omega
end PW
namespace PW
open L2 VL VX PK
theorem FY{W:List (List Int)}{D S:List Int}{X Y:PV}(ok:Zt W)(hd:D.length=W.length)(u:∀k:Nat,k<W.length->ZR X (.int (k:Int))=ax (.int (Zl D k)))(t:∀k:Nat,k<W.length->ZR Y (.int (k:Int))=ax (.int (Zl S k))) :
  Nu [wP W,X,Y]=ax (pP (ZT W D S)):=by
 have w:=ok.few;have y:(ZT W D S).length=W.length:=by rw[Z9,hd]
 let st:Nat->Option PV->Option PV->Option PV->Option PV->ZG:=λi m f d c=>[ax (wP W),ax X,ax Y,ax (.lst (iL ((ZT W D S).take i))),m,f,d,c];let part:Nat->Nat->Int:=λh j=>Zl D h-sN j (λg=>ZM W h g*(Zl S h-Zl S g));refine Pg (ZU (s1:=st 0 aA aA aA aA) rfl (Wv (Mk (n:=W.length) (λi s=>∃m f d c,s=st i m f d c) (c1 rfl Vr) ⟨aA,aA,aA,aA,rfl⟩ ?_) ?_))
 ·rintro h s b ⟨m,f,d,c,rfl⟩
  have v:part h W.length=Zl (ZT W D S) h:=by
   rw[W8 (by omega)];show Zl D h-sN W.length _=_
   have:sN W.length (λg=>ZM W h g*(Zl S h-Zl S g))=(-1)*gN W (Zl S) h:=by
    unfold gN;rw[<-ZJ];exact Zi λg _=>by rw[fC,fC];omega
   rw[this];omega
  refine Z4 (Zp (vP (a:=part h 0) ((o2 rfl rfl (u h b)).trans (by rw[show part h 0=Zl D h from Int.sub_zero _])))) (L3 (Mk (n:=W.length) (λj s=>∃q p,s=st h (ax (.int (h:Int))) (ax (.int (part h j))) q p) (c1 rfl Vr) ⟨d,c,rfl⟩ ?_) ?_)
  ·rintro j s o ⟨q,p,rfl⟩;have lo:=ok.lo h j b o;have x:=ok.hi h j b o;have e:part h j-ZM W h j*(Zl S h-Zl S j)=part h (j+1):=by show Zl D h-sN j (λg=>ZM W h g*(Zl S h-Zl S g))-ZM W h j*(Zl S h-Zl S j)=Zl D h-(sN j (λg=>ZM W h g*(Zl S h-Zl S g))+ZM W h j*(Zl S h-Zl S j));omega
   exact Z4 (Zp (vP (Bz (o2 rfl rfl (t h b)) (o2 rfl rfl (t j o))))) (R0 (Zp (vP (a:=part h (j+1)) ((Bz rfl (vC (C:=CMul) (op:=(· * ·)) (Zmf b (by rw[ok.sq h b];exact o) rfl rfl rfl) rfl (.inl (by omega)))).trans (by rw[<-e])))) ⟨_,_,rfl⟩)
  ·rintro s ⟨q,p,rfl⟩;exact R0 (Zjq (l:=ZT W D S) (k:=h) (by rw[<-v];exact vP rfl) rfl (by omega) (by omega)) ⟨_,_,_,_,rfl⟩
 ·rintro s ⟨m,f,d,c,rfl⟩;exact Vy (HS (c1 rfl (by rw[bY (by omega)];rfl))) rfl
theorem Zgc{l:List Int}{k:Nat}{v:Int}(b:k<l.length):(l.set k v).sum=l.sum+(v-Zl l k):=by
 rw[Tw,Tw l,cG]
 have e:sN l.length (Zl (l.set k v))=sN l.length (λi=>Zl l i+(if i=k then v-Zl l k else 0)):=Zi λi a=>by
  rw[PW.nth_set a];by_cases q:i=k
  ·subst q;rw[p9 rfl,p9 rfl];omega
  ·rw[pW q,pW q];omega
 rw[e,ZS,Z3 (k:=k) b λi _ a=>pW a,p9 rfl]
end PW
namespace PK
open PW
theorem Zcc{f g:Nat->Int}:∀{n:Nat},(∀i,i<n->f i<=g i)->sN n f<=sN n g
 | 0,_=>dX _
 | n+1,h=>by have a:=Zcc λi c=>h i (cz c);have b:=h n (dt n);show sN n f+f n<=sN n g+g n;omega
noncomputable def s2(n:Nat)(f:Nat->Nat->Int):Int:=sN n λi=>sN n (f i)
theorem Zmo{n:Nat}{f g:Nat->Nat->Int}(h:∀i,i<n->∀j,j<n->f i j<=g i j):s2 n f<=s2 n g:=Zcc λi a=>Zcc λj b=>h i a j b
theorem S5(n:Nat)(f g:Nat->Nat->Int):s2 n (λi j=>f i j+g i j)=s2 n f+s2 n g:=by unfold s2;rw[<-ZS];exact Zi λi _=>ZS _ _ _
theorem TB{n:Nat}{f g:Nat->Nat->Int}(h:∀i,i<n->∀j,j<n->f i j=g i j):s2 n f=s2 n g:=Zi λi a=>Zi λj b=>h i a j b
theorem FZ(n:Nat)(f:Nat->Nat->Int):2*s2 n f=s2 n λi j=>f i j+f j i:=by rw[S5];have:s2 n (λi j=>f j i)=s2 n f:=(UD f n n).symm;omega
noncomputable def lw(n:Nat)(D:Nat->Int)(g:Nat->Bool):Int:=sN n λi=>b1 (g i)*(D i+1)
noncomputable def qw(n:Nat)(w:Nat->Nat->Int)(g:Nat->Bool):Int:=s2 n λi j=>b1 (g i)*b1 (g j)*w i j
noncomputable def uw(n:Nat)(w:Nat->Nat->Int)(D:Nat->Int)(g:Nat->Bool):Int:=2*lw n D g-qw n w g
noncomputable def gw(n:Nat)(w:Nat->Nat->Int)(R:Nat->Int)(v:Nat):Int:=sN n λu=>w v u*(R u-R v)
theorem Zmp{w x:Int}(h:0<=w)(a:1<=x):w<=w*x:=by have:=fV a h;omega
theorem Zcd{n:Nat}{w:Nat->Nat->Int}{N P R:Nat->Int}(p:∀a b,a<n->b<n->0<=w a b)(l:∀a b,a<n->b<n->w a b=w b a)(h:∀i,i<n->0<=R i)(q:∀i,i<n->N i=P i+gw n w R i)(g:Nat->Bool) :
  uw n w N (λi=>g i&&!decide (R i=0))+uw n w P (λi=>g i&&decide (R i=0))<=uw n w N g:=by
 have A:lw n N g=lw n N (λi=>g i&&!decide (R i=0))+lw n N (λi=>g i&&decide (R i=0)):=by
  unfold lw;rw[<-ZS];refine Zi λi _=>?_;by_cases z:R i=0<;>cases e:g i<;>simp[b1,z,e]
 have v:lw n N (λi=>g i&&decide (R i=0))=lw n P (λi=>g i&&decide (R i=0))+s2 n (λi u=>b1 (g i&&decide (R i=0))*(w i u*(R u-R i))):=by
  unfold lw s2;rw[<-ZS];refine Zi λi c=>?_;rw[ZJ,q i c];unfold gw;by_cases z:R i=0<;>cases e:g i<;>simp[b1,z,e]
  omega
 have y:=FZ n (λi u=>b1 (g i&&decide (R i=0))*(w i u*(R u-R i)))
 have t:qw n w g<=(qw n w (λi=>g i&&!decide (R i=0))+qw n w (λi=>g i&&decide (R i=0)))+s2 n λi j=>b1 (g i&&decide (R i=0))*(w i j*(R j-R i))+b1 (g j&&decide (R j=0))*(w j i*(R i-R j)):=by
  unfold qw;rw[<-S5,<-S5];refine Zmo λi c j f=>?_;rw[l j i f c];have d:=p i j c f;have k:=h i c;have m:=h j f;have x:=dQ d m;have B:=dQ d k;by_cases s:R i=0<;>by_cases o:R j=0<;>cases ei:g i<;>cases ej:g j<;>simp[b1,s,o,ei,ej]<;>try omega
  ·exact Zmp d (by omega)
  ·exact Zmp d (by omega)
 unfold uw;omega
theorem Bm{n:Nat}{w:Nat->Nat->Int}{N P R:Nat->Int}(o:∀a b,a<n->b<n->0<=w a b)(d:∀a b,a<n->b<n->w a b=w b a)(e:∀i,i<n->0<=R i)(p:∀i,i<n->N i=P i+gw n w R i)
  {z:Nat} (l:z<n) (m:R z=0) (q:∀g:Nat->Bool,(∃i,i<n/\g i=aC)->2<=uw n w N g) (f:∀g:Nat->Bool,(∃i,i<n/\g i=aC)->2<=uw n w P g) (j:uw n w N (λ_=>aC)=2):∀i,i<n->R i=0:=λi k=>by
 refine cA λc=>?_;have h:=Zcd o d e p λ_=>aC;have a:=q (λi=>aC&&!decide (R i=0)) ⟨i,k,by simp[c]⟩;have b:=f (λi=>aC&&decide (R i=0)) ⟨z,l,by simp[m]⟩;omega
theorem JI{n:Nat}{w:Nat->Nat->Int}{N P R:Nat->Int}(v:∀a b,a<n->b<n->0<=w a b)(s:∀a b,a<n->b<n->w a b=w b a)(m:∀i,i<n->0<=R i)(x:∀i,i<n->N i=P i+gw n w R i)
  (t:∀g:Nat->Bool,(∃i,i<n/\g i=aC)->2<=uw n w P g) {g:Nat->Bool} (z:uw n w N g<2) (u:∀f:Nat->Bool,(∃i,i<n/\f i=aC)->(∀i,i<n->f i=aC->g i=aC)->uw n w N f<2->∀i,i<n->g i=aC->f i=aC):∀i,i<n->g i=aC->1<=R i:=λi l p=>by
 have y:=m i l;refine cA λc=>?_;have o:R i=0:=by omega
 have h:=Zcd v s m x g;have b:=t (λi=>g i&&decide (R i=0)) ⟨i,l,by simp[o,p]⟩;by_cases e:∃k,k<n/\(g k&&!decide (R k=0))=aC
 ·have:=u (λi=>g i&&!decide (R i=0)) e (λk _ q=>(mJ.mp q).1) (by omega) i l p;simp[o] at this
 ·have:uw n w N (λi=>g i&&!decide (R i=0))=0:=by have f:=λk d=>Bool.eq_false_iff.mpr λq=>e ⟨k,d,q⟩;unfold uw lw qw s2;rw[YH λk d=>by simp only[f k d];simp[b1],YH λk d=>YH λj _=>by simp only[f k d];simp[b1]];rfl
  omega
theorem TC:∀{n:Nat}{p:List Nat->Bool}{G:List Nat},(ZV n).find? p=ax G->∀H∈ZV n,(∀x∈H,x∈G)->p H=aC->H=G
 | 0,p,G,h,H,hH,_,hp=>by have e:H=[]:=aM.mp hH;subst e;have:(List.find? p [[]])=ax G:=h;rw[c9,hp] at this;exact bC this
 | n+1,p,G,h,H,hH,sub,hp=>by
  have h':(ZV n++(ZV n).map (·++[n])).find? p=ax G:=h;rw[List.find?_append] at h';have lt:∀{K:List Nat},K∈ZV n->∀x∈K,x<n:=λg=>(Sf g).2.1;rcases aV.mp (show H∈ZV n++(ZV n).map (·++[n]) from hH) with a | a
  ·cases q:(ZV n).find? p with
   | none=>exact absurd hp (by simpa using eM.mp q H a)
   | some K=>
    rw[q] at h';cases h';exact TC q H a sub hp
  ·obtain⟨j,c,rfl⟩:=ar.mp a;have i:n∈G:=sub n (by simp)
   cases q:(ZV n).find? p with
   | some K=>
    rw[q] at h';cases h';exact absurd (lt (dY q) n i) (cS n)
   | none=>
    rw[q,Option.none_or,List.find?_map] at h';obtain⟨k,f,d⟩:=ke.mp h';subst d
    rw[TC f j c (λx b=>by
     rcases aV.mp (sub x (by simp[b])) with z | z
     ·exact z
     ·have:=lt c x b;rw[aM.mp z] at this;exact absurd this (cS n)) hp]
theorem Zce{n:Nat}{w:Nat->Nat->Int}{D:Nat->Int}{G:List Nat}(c:G.Nodup)(d:∀g∈G,g<n)(e:tw w G%2=0):2*Hk w D G+2=uw n w D λi=>decide (i∈G):=by
 have a:(G.map D).sum+(G.length:Int)=lw n D λi=>decide (i∈G):=by
  unfold lw;rw[<-Sh (λi=>D i+1) c d,Ts];congr 1
  have:∀G:List Nat,(G.length:Int)=(G.map λ_=>(1:Int)).sum:=λG=>by
   induction G with
   | nil=>rfl
   | cons a G ih=>simp only[az,af,bR];omega
  exact this G
 have b:tw w G=qw n w λi=>decide (i∈G):=by unfold tw qw s2;rw[Sh _ c d];refine Zi λi _=>?_;unfold Fx;rw[Sh _ c d,<-ZJ];exact Zi λj _=>(cg _ _ _).symm
 unfold Hk uw;omega
end PK
namespace PW
open L2 VL VX PK
noncomputable def M5(W:List (List Int))(D:List Int)(G:List Nat):PV:=.tup [pP (nL G),.int (Hk (ZM W) (Zl D) G)]
theorem HL(W:List (List Int))(D:List Int)(l:List (List Nat)):ZC (l.map (M5 W D))=aC:=TV λG _=>by unfold M5;simp
theorem JJ{W:List (List Int)}{h:Nat}{F:List Nat}(ok:Zt W)(b:h<W.length)(c:∀x∈F,x<W.length)(a:F.length<=100):X3 [wP W,.int (h:Int),pP (nL F)]=ax (.int (Fx (ZM W) h F)):=Pe ok b c a (Zly rfl)
noncomputable def LG(W:List (List Int))(D:List Int):List (List Nat):=((ZV W.length).drop 1).filter λG=>decide (Hk (ZM W) (Zl D) G<0)
noncomputable def Pl(W:List (List Int))(D:List Int):PV:=match LG W D with
 | []=>.non
 | G::_=>pP (nL G)
theorem V8{W:List (List Int)}(ok:Zt W){D:List Int}(hd:D.length=W.length):YV [wP W,pP D]=ax (Pl W D):=by
 have t:=ok.few;have p:∀i,i<=7->(ZV i).length<=128:=λi c=>by rw[Md];have:2^i<=2^7:=Nat.pow_le_pow_right (by decide) c;omega
 let st:Nat->Option PV->Option PV->ZG:=λi h f=>[ax (wP W),ax (pP D),ax (.lst ((ZV i).map (M5 W D))),h,f,aA];refine Pg (ZU (s1:=st 0 aA aA) ?_ (Wv (Tu (ls:=Xt (iL D)) (λi s=>∃h f,s=st i h f) rfl ⟨aA,aA,rfl⟩ ?_) ?_))
 ·have:(ZV 0).map (M5 W D)=[.tup [.tup [],.int (-1)]]:=by show [M5 W D []]=_;unfold M5 Hk tw;simp[nL]
  show _=ax (Out.nx [_,_,ax (PV.lst ((ZV 0).map (M5 W D))),aA,aA,aA]);rw[this];rfl
 ·rintro i l s j ⟨h,f,rfl⟩;have c:i<W.length:=by have:=(aR.mp j).1;rw[WK,aJ,hd] at this;exact this
  rw[Y6,aJ,hd,aX,cC c,bz,XH D i (by rw[hd];exact c)] at j;cases j;have u:=p i (by omega);refine⟨_,rfl,R0 (Zp (o2 rfl (ZL (ZV i) (M5 W D) (λG=>M5 W D (G++[i])) rfl (by omega) λG o=>⟨_,rfl,rfl,?_⟩) ?_)) ⟨_,_,rfl⟩⟩
  ·obtain⟨_,lt,y,_⟩:=Sf o;have d:∀g∈G,g<W.length:=λg w=>nU (lt g w) c;refine(Zme (o2 (b:=pP [(i:Int)]) rfl rfl (E2 (by simp[nL];omega))) (Bz (FD (FD rfl rfl) rfl) (c3 rfl rfl rfl (JJ ok c d (by omega))))).trans ?_;unfold M5;rw[Zbg (ZM W) (n:=W.length) (λa b m x=>ok.sym a b m x) (λa m=>ok.dia a m) (Zl D) d c];simp[nL]
  ·have e:(ZV i).map (λG=>M5 W D (G++[i]))=((ZV i).map (·++[i])).map (M5 W D):=by rw[bZ];rfl
   rw[e];show(if((ZV i).map (M5 W D)).length+(((ZV i).map (·++[i])).map (M5 W D)).length<=10000/\ZC ((ZV i).map (M5 W D))=aC/\ZC (((ZV i).map (·++[i])).map (M5 W D))=aC then ax (PV.lst ((ZV i).map (M5 W D)++((ZV i).map (·++[i])).map (M5 W D))) else aA)=ax (PV.lst ((ZV (i+1)).map (M5 W D)));rw[p9 ⟨by simp;omega,HL W D _,HL W D _⟩,ZV,ay]
 ·rintro s ⟨h,f,rfl⟩;rw[WK,aJ,hd];have u:=p W.length t;refine ZU (Zp (v:=.lst ((LG W D).map λG=>pP (nL G))) (XG ((ZV W.length).drop 1) (M5 W D) (λG=>pP (nL G)) (λG=>decide (Hk (ZM W) (Zl D) G<0)) ?_ (by rw[bU];omega) λG o=>⟨_,rfl,rfl,λ_=>HS rfl⟩)) ?_
  ·show ax (WB ((ZV W.length).map (M5 W D)) (ax ((1:Nat):Int)) aA)=_
   rw[Di _ (by
    rw[aJ,Md];exact Nat.one_le_two_pow),gH]
  ·refine⟨Pl W D,ret ?_,rfl⟩;unfold Pl
   cases q:LG W D with
   | nil=>exact ep (Mm rfl rfl)
   | cons G r=>exact HS (Ml (xb ((vgt (a:=r.length+1) (b:=0) (by show ax (PV.int (((G::r).map λG=>pP (nL G)).length:Int))=_;simp) rfl).trans (by rw[decide_eq_true (by omega)]))) (o2 rfl rfl (Na (l:=(G::r).map λG=>pP (nL G)) (k:=0) rfl)))
theorem Zgd{n:Nat}{G:List Nat}(h:G∈(ZV n).drop 1):G∈ZV n/\G≠[]:=by
 obtain⟨r,e,a⟩:=Sg n;rw[e] at h ⊢;have h':G∈r:=by simpa using h
 exact⟨aN _ h',a G h'⟩
theorem Bn{n:Nat}{G:List Nat}(h:G∈ZV n)(ne:G≠[]):G∈(ZV n).drop 1:=by
 obtain⟨r,e,a⟩:=Sg n;rw[e] at h ⊢;rcases aa.mp h with z | z
 ·exact absurd z ne
 ·simpa using z
theorem Dv{G:List Nat}(h:G.Pairwise (· < ·)):G.Nodup:=h.imp λz=>by omega
theorem Zcf{W:List (List Int)}(ok:Zt W){D:List Int}(hd:D.length=W.length)(d:D.sum=((eW W).length:Int)-(W.length:Int)+1):Hk (ZM W) (Zl D) (aD W.length)=0:=by
 unfold Hk;have b:((aD W.length).map (Zl D)).sum=D.sum:=by rw[WH,Tw D,hd]
 have a:=Ou ok (G:=aD W.length) cq λg c=>aY.mp c;rw[Zf6] at a;rw[b,a,bt,d];omega
noncomputable def uW(W:List (List Int))(D:List Int)(g:Nat->Bool):Int:=uw W.length (ZM W) (Zl D) g
noncomputable def UH(W:List (List Int))(D:List Int):Prop:=∀g:Nat->Bool,(∃i,i<W.length/\g i=aC)->2<=uW W D g
theorem Zcg{n:Nat}{w:Nat->Nat->Int}{D:Nat->Int}{f g:Nat->Bool}(h:∀i,i<n->f i=g i):uw n w D f=uw n w D g:=by unfold uw lw qw s2;rw[Zi λi a=>by rw[h i a],Zi λi a=>Zi λj b=>by rw[h i a,h j b]]
section
variable {W:List (List Int)} {D:List Int} (ok:Zt W)
include ok
theorem Zch{G:List Nat}(c:G∈ZV W.length):2*Hk (ZM W) (Zl D) G+2=uW W D λi=>decide (i∈G):=by obtain⟨a,lt,_,_⟩:=Sf c;have b:=Dv a;refine Zce b lt ?_;rw[Ou ok b lt];omega
theorem JK(g:Nat->Bool):uW W D g=2*Hk (ZM W) (Zl D) ((aD W.length).filter g)+2:=by
 rw[Zch ok (Vq g _)];exact Zcg λi a=>by cases e:g i<;>simp[e,a]
theorem Zci(hd:D.length=W.length)(a:D.sum=((eW W).length:Int)-(W.length:Int)+1):uW W D (λ_=>aC)=2:=by have:=Zcf ok hd a;rw[JK ok,jO.mpr λ_ _=>rfl,this];rfl
theorem ME:(Pl W D = .non/\UH W D)\/∃G,Pl W D=pP (nL G)/\G≠[]/\(∀x∈G,x<W.length)/\G.Nodup/\uW W D (λi=>decide (i∈G))<2/\
  ∀f:Nat->Bool,(∃i,i<W.length/\f i=aC)->(∀i,i<W.length->f i=aC->decide (i∈G)=aC)->uW W D f<2->∀i,i<W.length->decide (i∈G)=aC->f i=aC:=by
 have ne:∀{f:Nat->Bool},(∃i,i<W.length/\f i=aC)->(aD W.length).filter f≠[]:=λ⟨i,m,s⟩=>iB (bj.mpr ⟨aY.mpr m,s⟩);unfold Pl
 cases e:LG W D with
 | nil=>
  refine .inl ⟨rfl,λg d=>?_⟩;have:=kz.mp e _ (Bn (Vq g _) (ne d));rw[JK ok g];simp only[decide_eq_true_eq] at this;omega
 | cons G r=>
  have y:G∈LG W D:=by rw[e];simp
  obtain⟨w,u⟩:=bj.mp y;obtain⟨k,b⟩:=Zgd w;obtain⟨c,lt,_,_⟩:=Sf k;have z:uW W D (λi=>decide (i∈G))<2:=by rw[<-Zch ok k];have:=of_decide_eq_true u;omega
  refine .inr ⟨G,rfl,b,lt,Dv c,z,λf t sub v i m d=>?_⟩
  have h:(ZV W.length).find? (λG=>decide (G≠[])&&decide (Hk (ZM W) (Zl D) G<0))=ax G:=by
   obtain⟨q,j,n⟩:=Sg W.length;have:(LG W D).head?=ax G:=by rw[e];rfl
   unfold LG at this;rw[List.head?_filter,j] at this;rw[j,c9];have a:(decide (([]:List Nat)≠[])&&decide (Hk (ZM W) (Zl D) []<0))=aB:=by simp
   rw[a];rw[<-this];show q.find? _=q.find? _;refine Mu λK p=>?_;simp[n K p]
  have o:=TC h _ (Vq f W.length) (λx l=>of_decide_eq_true (sub x (aY.mp (bj.mp l).1) (bj.mp l).2)) (by
   rw[JK ok f] at v;rw[decide_eq_true (ne t),decide_eq_true (show Hk (ZM W) (Zl D) ((aD W.length).filter f)<0 by omega)];rfl)
  have:i∈(aD W.length).filter f:=by rw[o];exact of_decide_eq_true d
  exact(bj.mp this).2
end
theorem HM{W:List (List Int)}{L:List Nat}(b:W.length<=7):YB [wP W,pP (nL L)]=ax (pP (XM W.length L)):=by
 refine XX (ret (HS (c1 (Se (λh=>if h∈L then -1 else 0) (Xd (c1 rfl Vr) (by omega)) (by omega) λi a=>⟨_,rfl,rfl,?_⟩) (RA _))));have t:PF aB (.int (i:Int)) (pP (nL L))=ax (.bl (decide (i∈L))):=by rw[Dp];simp only[Mg];rfl
 by_cases q:i∈L
 ·rw[p9 q];exact Ml (xb ((o2 rfl rfl t).trans (by rw[decide_eq_true q]))) rfl
 ·rw[pW q];exact Mm (xb ((o2 rfl rfl t).trans (by rw[decide_eq_false q]))) rfl
theorem Zj3(f:Nat->Int){n:Nat}(c:0<n):∃z,z<n/\∀i,i<n->f z<=f i:=by have s:=VU (l:=(aD n).map f) (by simp;omega);obtain⟨z,b,e⟩:=ar.mp s.1;exact⟨z,aY.mp b,λi a=>by rw[e];exact s.2 _ (ar.mpr ⟨i,aY.mpr a,rfl⟩)⟩
theorem Zj4{W:List (List Int)}(Y:Nat->Int)(c:Int){h:Nat}(a:h<W.length):gN W (λx=>Y x-c) h=gN W Y h:=by show gN W (λx=>Y x + -c) h=_;rw[Vz,R3 (T:=λ_=>-c) (c:=-c) (λ_ _=>rfl) a];omega
abbrev stQ(W:List (List Int))(D S N:List Int)(x5:Option PV):ZG:=[ax (wP W),ax (pP D),ax (pP S),ax (pP N),ax (Pl W N),x5,aA]
structure Way(W:List (List Int))(P:List Int)(L:Nat->Int)(c:Int)(S N:List Int):Prop where
 ls:S.length=W.length
 ln:N.length=W.length
 sm:N.sum=P.sum
 lo:∀i,i<W.length->0<=L i+Zl S i-c
 z:∃i,i<W.length/\L i+Zl S i-c=0
 at':∀i,i<W.length->Zl N i=Zl P i+gN W (λi=>L i+Zl S i-c) i
section
variable {W:List (List Int)} {P:List Int} {L:Nat->Int} {c:Int} {D S N:List Int}
theorem Way.step(ok:Zt W)(p:UH W P)(w:Way W P L c S N){G:List Nat}(ne:G≠[])(lt:∀x∈G,x<W.length)(j:∀i,i<W.length->i∈G->1<=L i+Zl S i-c) :
  Way W P L c (PY S (XM W.length G)) (ZT W N (XM W.length G))/\sN W.length (λi=>L i+Zl (PY S (XM W.length G)) i-c)<sN W.length (λi=>L i+Zl S i-c):=by
 have e:∀i,i<W.length->Zl (PY S (XM W.length G)) i=Zl S i+if i∈G then -1 else 0:=λi d=>by rw[RT (by rw[w.ls];exact d),Jy d]
 obtain⟨z,h,t⟩:=w.z;refine⟨⟨by rw[V5,w.ls],by rw[Z9,w.ln],by rw[RV ok w.ln,w.sm],λi d=>?_,⟨z,h,?_⟩,λi d=>?_⟩,?_⟩
 ·have a:=w.lo i d;have b:=j i d;rw[e i d];split
  ·rename_i q;have:=b q;omega
  ·omega
 ·rw[e z h];have b:=j z h;split
  ·rename_i q;have:=b q;omega
  ·omega
 ·rw[W8 (by rw[w.ln];exact d),w.at' i d,Int.add_assoc,<-Vz];congr 1;exact V6 d λk l=>by rw[e k l,Jy l];omega
 ·obtain⟨g,m⟩:=g8 G ne
  have s:sN W.length (λi=>L i+Zl (PY S (XM W.length G)) i-c)+sN W.length (λi=>if i∈G then 1 else 0)=sN W.length (λi=>L i+Zl S i-c):=by
   rw[<-ZS]
   exact Zi λi d=>by
    rw[e i d];split<;>omega
  have o:=Sj (f:=λi=>if i∈G then 1 else 0) (n:=W.length) (λi _=>by split<;>decide) (lt g m);rw[p9 m] at o;omega
theorem Zcj{F:XS}{d:Option PV}{Z:PV->Prop}(ok:Zt W)(q:UH W P)(J:P.length=W.length)(C:P.sum=((eW W).length:Int)-(W.length:Int)+1)(w:Way W P L c S N)(h:∀m x5',Pl W P = .non->m.length=W.length->(∀i,i<W.length->L i+Zl m i=c)->Y9 F (stQ W D m P x5') Z) :
  Y9 (Zn (XC (xB (Rj aC (Za 4))) (Zn (Zs 5 (Ze YB [Za 0,Za 4])) (Zn (Zs 2 (Ze Vu [Za 2,Za 5])) (Zn (Zs 3 (Ze VQ [Za 0,Za 3,Za 5])) (Zs 4 (Ze YV [Za 0,Za 3])))))) F) (stQ W D S N d) Z:=by
 have v:=ok.few;refine Wv (Ds (λk st=>∃S N d,Way W P L c S N/\st=stQ W D S N d/\k=(sN W.length (λi=>L i+Zl S i-c)).toNat) ⟨S,N,d,w,rfl,rfl⟩ ?_) ?_
 ·rintro k st ⟨S,N,d,w,rfl,rfl⟩;rcases ME (D:=N) ok with⟨e,_⟩ | ⟨G,e,ne,lt,_,E,x⟩
  ·rw[show stQ W D S N d=[ax (wP W),ax (pP D),ax (pP S),ax (pP N),ax .non,d,aA] by unfold stQ;rw[e]];exact .inl rfl
  ·have u:∀i,i<W.length->i∈G->1<=L i+Zl S i-c:=λi j H=>JI (P:=Zl P) (λa b g l=>ok.lo a b g l) (λa b g l=>ok.sym a b g l) w.lo w.at' q E x i j (decide_eq_true H);obtain⟨p,Q⟩:=w.step ok q ne lt u;have R:=Ym (n:=W.length) p.lo;have t:(XM W.length G).length=W.length:=by simp[XM]
   rw[show stQ W D S N d=[ax (wP W),ax (pP D),ax (pP S),ax (pP N),ax (pP (nL G)),d,aA] by unfold stQ;rw[e]];exact .inr ⟨rfl,Z4 (Zp (c2 rfl rfl (HM v))) (Z4 (Zp (c2 rfl rfl (Jl (by rw[t,w.ls]) (by rw[w.ls];omega)))) (Z4 (Zp (c3 rfl rfl rfl (Jm ok w.ln t))) (R0 (Zp (c2 rfl rfl (V8 ok p.ln))) ⟨_,by omega,_,_,_,p,rfl,rfl⟩)))⟩
 rintro st ⟨k,⟨m,s,M,f,rfl,_⟩,o⟩;rcases ME (D:=s) ok with⟨y,O⟩ | ⟨G,e,_⟩
 case inr=>
  unfold stQ at o;rw[e] at o;cases o
 obtain⟨z,A,B⟩:=f.z;have all:=Bm (N:=Zl s) (P:=Zl P) (w:=ZM W) (λa b g l=>ok.lo a b g l) (λa b g l=>ok.sym a b g l) f.lo f.at' A B O q (Zci ok f.ln (by rw[f.sm,C]));have I:s=P:=WG (by rw[f.ln,J]) λi j=>by rw[f.ln] at j;rw[f.at' i j,R3 (T:=λi=>L i+Zl m i-c) (c:=0) all j];omega
 subst I;exact h m M y f.ls λi j=>by have:=all i j;omega
end
end PW
namespace PK
open PW
noncomputable def hd(h:List Nat)(k:Nat):Nat:=h.getD k 0
noncomputable def UI(e:ZE)(x:Nat):Nat:=if x=e.1 then e.2 else e.1
noncomputable def TF(E:List ZE)(h:List Nat)(k:Nat):List Nat:=h.set k (UI (Zx E k) (hd h k))
noncomputable def Vc(E:List ZE)(h ks:List Nat):List Nat:=ks.foldl (TF E) h
structure HOk(E:List ZE)(h:List Nat):Prop where
 len:h.length=E.length
 at':∀k,k<E.length->hd h k=(Zx E k).1\/hd h k=(Zx E k).2
theorem Zck{h:List Nat}{k j y:Nat}(a:k<h.length):hd (h.set k y) j=if k=j then y else hd h j:=by
 unfold hd;rw[aF,bW];split<;>rfl
theorem Zge{h:List Nat}{k y v:Nat}(b:k<h.length):((h.set k y).count v:Int)=h.count v-b1 (decide (hd h k=v))+b1 (decide (y=v)):=by
 have e:hd h k=h[k]:=by unfold hd;rw[aF,aE b];rfl
 have le:h[k]=v->1<=h.count v:=λq=>List.count_pos_iff.mpr (by rw[<-q];exact bQ b);rw[List.count_set b,e];by_cases a:h[k]=v
 ·have:=le a;by_cases c:y=v<;>simp[a,c,b1]<;>omega
 ·by_cases c:y=v<;>simp[a,c,b1]
theorem HOk.turn{E:List ZE}{h:List Nat}(o:HOk E h){k:Nat}:HOk E (TF E h k):=by
 refine⟨by unfold TF;rw[cG,o.len],λj a=>?_⟩;by_cases q:k<h.length
 ·unfold TF;rw[Zck q];split
  ·rename_i e;subst e;unfold UI;split
   ·exact .inr rfl
   ·exact .inl rfl
  ·exact o.at' j a
 ·unfold TF;rw[gs (by omega)];exact o.at' j a
structure Pth(E:List ZE)(h F:List Nat)(a:Nat)(ks:List Nat)(x:Nat):Prop where
 lt:∀k∈ks,k<E.length
 inn:∀k∈ks,hd h k∈F/\hd h k≠x
 keep:∀k,k∉ks->hd (Vc E h ks) k=hd h k
 ok:HOk E (Vc E h ks)
 cn:∀v,((Vc E h ks).count v:Int)=h.count v-b1 (decide (a=v))+b1 (decide (x=v))
theorem Pth.start{E:List ZE}{h F:List Nat}{a:Nat}(o:HOk E h):Pth E h F a [] a:=
 ⟨λ_ z=>(br z).elim,λ_ z=>(br z).elim,λ_ _=>rfl,o,λv=>by show(h.count v:Int)=_;omega⟩
theorem Pth.more{E:List ZE}{h F G:List Nat}{a x:Nat}{c:List Nat}(p:Pth E h F a c x)(s:∀z∈F,z∈G):Pth E h G a c x:=⟨p.lt,λk b=>⟨s _ (p.inn k b).1,(p.inn k b).2⟩,p.keep,p.ok,p.cn⟩
theorem Pth.snoc{E:List ZE}{h F:List Nat}{a x k:Nat}{c:List Nat}(o:HOk E h)(p:Pth E h F a c x)(m:x∈F)(g:k<E.length)(d:hd h k=x)(l:UI (Zx E k) x∉F):Pth E h F a (c++[k]) (UI (Zx E k) x):=by
 have n:=λz=>(p.inn k z).2 d;have e:Vc E h (c++[k])=TF E (Vc E h c) k:=by unfold Vc;rw[jq];rfl
 have f:k<(Vc E h c).length:=by rw[p.ok.len];exact g
 have i:hd (Vc E h c) k=x:=by rw[p.keep k n,d]
 refine⟨λj b=>?_,λj b=>?_,λj b=>?_,by rw[e];exact p.ok.turn,λv=>?_⟩
 ·rcases aV.mp b with z | z
  ·exact p.lt j z
  ·rw[aM.mp z];exact g
 ·have:hd h j∈F:=by
   rcases aV.mp b with z | z
   ·exact(p.inn j z).1
   ·rw[aM.mp z,d];exact m
  exact⟨this,λz=>l (by rw[<-z];exact this)⟩
 ·have s:=λz=>b (ao _ z);have q:¬k=j:=λz=>b (by rw[z];simp);rw[e];unfold TF;rw[Zck f,pW q];exact p.keep j s
 ·rw[e];unfold TF;rw[Zge f,p.cn v,i];omega
structure BSr(E:List ZE)(h:List Nat)(q:Nat->Int)(n a:Nat)(F:List Nat)(p:Nat->List Nat)(j:Nat):Prop where
 nd:F.Nodup
 lt:∀x∈F,x<n
 fl:a∈F
 jl:j<=F.length
 pt:∀x∈F,Pth E h F a (p x) x
 sh:∀x∈F,(p x).length<F.length
 cl:∀x∈F.take j,∀k,k<E.length->hd h k=x->UI (Zx E k) x∈F
 ge:∀x∈F.take j,q x<=(h.count x:Int)
theorem F0{f g:Nat->Int}:∀{l:List Nat},(∀x∈l,f x<=g x)->(l.map f).sum<=(l.map g).sum
 | [],_=>dX _
 | x::l,h=>by have a:=h x (by simp);have b:=F0 (l:=l) λy c=>h y (by simp[c]);simp only[af,bR];omega
theorem Zcl{f g:Nat->Int}{a:Nat}:∀{l:List Nat},(∀x∈l,f x<=g x)->a∈l->f a<g a->(l.map f).sum<(l.map g).sum
 | x::l,h,ha,lt=>by
  have d:=h x (by simp);simp only[af,bR];rcases aa.mp ha with rfl | z
  ·have b:=F0 (l:=l) λy c=>h y (by simp[c]);omega
  ·have b:=Zcl (l:=l) (λy c=>h y (by simp[c])) z lt;omega
theorem Zgf{h:List Nat}:(aD h.length).map (hd h)=h:=Mc h 0
theorem BSr.goes{E:List ZE}{h:List Nat}{q:Nat->Int}{n a:Nat}{F:List Nat}{p:Nat->List Nat}{j:Nat}(i:BSr E h q n a F p j)(o:HOk E h)(M1:q a<(h.count a:Int))(l:∀G:List Nat,G.Nodup->(∀g∈G,g<n)->G≠[]->Wb G E<=(G.map q).sum):j<F.length:=by
 refine cA λc=>?_;have t:F.take j=F:=bY (by omega);have cl:=i.cl;have d:=i.ge;rw[t] at cl d;have v:=l F i.nd i.lt (iB i.fl);have s:=Zcl d i.fl M1;rw[Hj i.nd h] at s
 have u:(h.map λx=>b1 (decide (x∈F))).sum<=Wb F E:=by
  have m:h.map (λx=>b1 (decide (x∈F)))=(aD E.length).map λk=>b1 (decide (hd h k∈F)):=by
   conv=>lhs;rw[<-Zgf (h:=h),o.len]
   rw[bZ];rfl
  have f:E.map (λe=>b1 (Jo F e))=(aD E.length).map λk=>b1 (Jo F (Zx E k)):=by
   conv=>lhs;rw[<-Mc E (0,0)]
   rw[bZ];rfl
  unfold Wb;rw[m,f];refine F0 λk b=>?_;have b:=aY.mp b;by_cases z:hd h k∈F
  ·have y:=cl _ z k b rfl
   have:Jo F (Zx E k)=aC:=by
    unfold Jo;unfold UI at y;rcases o.at' k b with w | w
    ·rw[w] at y z;rw[p9 rfl] at y;rw[decide_eq_true z,decide_eq_true y];rfl
    ·rw[w] at y z;split at y
     ·rename_i e;rw[e] at z;rw[decide_eq_true z,decide_eq_true y];rfl
     ·rw[decide_eq_true z,decide_eq_true y];rfl
   rw[this];exact Zl9 _
  ·rw[decide_eq_false z];exact Hi _
 omega
structure BIn(E:List ZE)(h:List Nat)(q:Nat->Int)(n a:Nat)(F:List Nat)(p:Nat->List Nat)(j x i:Nat):Prop where
 b:BSr E h q n a F p j
 hx:F[j]?=ax x
 dn:∀k,k<i->hd h k=x->UI (Zx E k) x∈F
theorem BIn.pass{E:List ZE}{h:List Nat}{q:Nat->Int}{n a:Nat}{F:List Nat}{p:Nat->List Nat}{j x i:Nat}(s:BIn E h q n a F p j x i)(c:hd h i=x->UI (Zx E i) x∈F):BIn E h q n a F p j x (i+1):=
 ⟨s.b,s.hx,λk b e=>by
  rcases kL.mp b with z | rfl
  ·exact s.dn k z e
  ·exact c e⟩
noncomputable def F1(p:Nat->List Nat)(y:Nat)(ks:List Nat):Nat->List Nat:=λz=>if z=y then ks else p z
theorem BIn.add{E:List ZE}{h:List Nat}{q:Nat->Int}{n a:Nat}{F:List Nat}{p:Nat->List Nat}{j x i:Nat}(s:BIn E h q n a F p j x i)(o:HOk E h)(A:∀e∈E,e.1<n/\e.2<n)(g:i<E.length)(c:hd h i=x)(m:UI (Zx E i) x∉F) :
  BIn E h q n a (F++[UI (Zx E i) x]) (F1 p (UI (Zx E i) x) (p x++[i])) j x (i+1):=by
 have b:=s.b;have sub:∀z∈F,z∈F++[UI (Zx E i) x]:=λz d=>ao _ d;have t:(F++[UI (Zx E i) x]).take j=F.take j:=fU b.jl;have f:=av s.hx;have y:Zx E i∈E:=by unfold Zx;rw[aF,aE g];exact bQ g
 refine⟨⟨?_,λz d=>?_,sub _ b.fl,by rw[aT];exact cD b.jl (fQ _ _),λz d=>?_,λz d=>?_,λz d k l e=>?_,λz d=>?_⟩,?_,λk l e=>?_⟩
 ·exact cN.mpr ⟨b.nd,by simp,λu C w B z=>m (by rw[<-aM.mp B,<-z];exact C)⟩
 ·rcases aV.mp d with w | w
  ·exact b.lt z w
  ·rw[aM.mp w];unfold UI;split
   ·exact(A _ y).2
   ·exact(A _ y).1
 ·unfold F1;by_cases w:z=UI (Zx E i) x
  ·rw[p9 w,w];exact((b.pt x f).snoc o f g c m).more sub
  ·rw[pW w];rcases aV.mp d with v | v
   ·exact(b.pt z v).more sub
   ·exact absurd (aM.mp v) w
 ·unfold F1;rw[aT];by_cases w:z=UI (Zx E i) x
  ·rw[p9 w,aT];exact Nat.add_lt_add_right (b.sh x f) 1
  ·rw[pW w];rcases aV.mp d with v | v
   ·exact cz (b.sh z v)
   ·exact absurd (aM.mp v) w
 ·rw[t] at d;exact sub _ (b.cl z d k l e)
 ·rw[t] at d;exact b.ge z d
 ·rw[aj (aR.mp s.hx).1];exact s.hx
 ·rcases kL.mp l with z | rfl
  ·exact sub _ (s.dn k z e)
  ·simp
theorem BIn.done{E:List ZE}{h:List Nat}{q:Nat->Int}{n a:Nat}{F:List Nat}{p:Nat->List Nat}{j x:Nat}(s:BIn E h q n a F p j x E.length)(i:q x<=(h.count x:Int)):BSr E h q n a F p (j+1):=by
 have b:=s.b;have g:=(aR.mp s.hx).1;have e:F.take (j+1)=F.take j++[x]:=by rw[gY,s.hx];rfl
 refine⟨b.nd,b.lt,b.fl,g,b.pt,b.sh,λz c k f d=>?_,λz c=>?_⟩
 ·rw[e] at c;rcases aV.mp c with w | w
  ·exact b.cl z w k f d
  ·rw[aM.mp w] at d ⊢;exact s.dn k f d
 ·rw[e] at c;rcases aV.mp c with w | w
  ·exact b.ge z w
  ·rw[aM.mp w];exact i
noncomputable def Bo(x:Int):Int:=if 0<x then x else 0
noncomputable def Zcm(n:Nat)(q:Nat->Int)(h:List Nat):Int:=sN n λv=>Bo ((h.count v:Int)-q v)
theorem Zj5(n:Nat)(q:Nat->Int)(h:List Nat):0<=Zcm n q h:=Zbc λv _=>by unfold Bo;split<;>omega
theorem Zcn{n:Nat}{q:Nat->Int}{h h':List Nat}{a x:Nat}(d:a<n)(M1:q a<(h.count a:Int))(free:(h.count x:Int)<q x)(b:∀v,(h'.count v:Int)=h.count v-b1 (decide (a=v))+b1 (decide (x=v))):Zcm n q h'<Zcm n q h:=by
 have ne:x≠a:=λz=>by rw[z] at free;omega
 have i:=Zbb (f:=λv=>Bo ((h'.count v:Int)-q v)) (g:=λv=>Bo ((h.count v:Int)-q v)) d λv _ j=>by
  have c:b1 (decide (a=v))=0:=by rw[decide_eq_false λz=>j z.symm];rfl
  rw[b v,c];by_cases z:x=v
  ·subst z;have k:b1 (decide (x=x))=1:=by rw[decide_eq_true rfl];rfl
   unfold Bo;rw[pW (by omega),pW (by omega)]
  ·rw[decide_eq_false z];have:b1 aB=0:=rfl;rw[this,Int.sub_zero,jV]
 unfold Zcm;rw[i];have e:=b a;rw[decide_eq_true rfl,decide_eq_false ne] at e;have e:(h'.count a:Int)=h.count a-1+0:=e;unfold Bo;split<;>omega
end PK
namespace PW
open PySem L2 VL VX PK
noncomputable def hV(h:List Nat):PV:=.lst (iL (nL h))
theorem Dw{h:List Nat}{k:Nat}(a:k<h.length):Zl (nL h) k=(hd h k:Int):=by unfold Zl hd nL;rw[aF,aX,aE a,aF,aE a];rfl
theorem Zj6{h:List Nat}{k:Nat}(a:k<h.length):ZR (hV h) (.int (k:Int))=ax (.int (hd h k:Int)):=by rw[<-Dw a];exact YD (by simpa [nL] using a)
theorem Zj7(h:List Nat)(v:Nat):(nL h).count (v:Int)=h.count v:=by
 induction h with
 | nil=>rfl
 | cons a h ih=>
  show((a:Int)::nL h).count (v:Int)=_;rw[jJ,jJ,ih];by_cases q:a=v
  ·simp[q]
  ·have:¬(a:Int)=(v:Int):=by omega
   simp[q,this]
theorem NA(h:List Nat)(v:Nat):T3 (hV h) (.int (v:Int))=ax (.int (h.count v:Int)):=by show(Ys (iL (nL h))).map _=_;rw[Yc];show ax (PV.int (((nL h).count (v:Int):Nat):Int))=_;rw[Zj7]
theorem HN{W:List (List Int)}{k x:Nat}(c:k<(eW W).length):Vn [pP (P6 W k),.int (x:Int)]=ax (.int (UI (Zx (eW W) k) x:Int)):=by
 obtain⟨a,b,_⟩:=Tz c;refine XX (ret (ep ?_));unfold UI;by_cases q:x=(Zx (eW W) k).1
 ·rw[p9 q];exact Ml (xb ((C2 rfl (o2 rfl rfl a)).trans (by rw[decide_eq_true (by omega)]))) (o2 rfl rfl b)
 ·rw[pW q];exact Mm (xb ((C2 rfl (o2 rfl rfl a)).trans (by rw[decide_eq_false (by omega)]))) (o2 rfl rfl a)
noncomputable def Pm(n:Nat)(q:Nat->Int)(h:List Nat):Option Nat:=(aD n).find? λv=>decide ((h.count v:Int)>q v)
theorem HP{h:List Nat}{Q:List Int}:WY [hV h,pP Q]=ax (UT (Pm Q.length (Zl Q) h)):=by
 refine Pg (Zhg (L:=aD Q.length) (q:=λ(i:Nat)=>.tup [.int (i:Int),.int (Zl Q i)]) (g:=λ(i:Nat)=>.int (i:Int)) (λv=>decide ((h.count v:Int)>Zl Q v)) (λst=>∃x y,st=[ax (hV h),ax (pP Q),x,y]) (by rw[<-Zjr];rfl) ⟨aA,aA,rfl⟩ ?_ (λa e=>by unfold Pm;rw[e];rfl) ?_)
 ·rintro k b st ⟨x,y,rfl⟩;exact⟨_,rfl,xb (o2 (o2 rfl rfl (NA h k)) rfl rfl),rfl,_,_,rfl⟩
 ·rintro e s ⟨x,y,rfl⟩;exact⟨.non,rfl,by unfold Pm;rw[e];rfl⟩
noncomputable def Oy(ks:List Nat):PV:=.cst (iL (nL ks))
noncomputable def kN(x:Nat):Y8:=.inl (x:Int)
theorem Zco{a b:Nat}(h:kN a=kN b):a=b:=by unfold kN at h;injection h with h;omega
noncomputable def dF(F:List Nat)(p:Nat->List Nat):PV:=.dK (F.map kN) (F.map λx=>Oy (p x))
theorem Zgg(F:List Nat)(p:Nat->List Nat):ZC (F.map λx=>Oy (p x))=aC:=TV λx _=>ZY _
theorem Zcp(F:List Nat)(p:Nat->List Nat)(y:Nat):Vt (F.map kN) (F.map λx=>Oy (p x)) (kN y)=if y∈F then ax (Oy (p y)) else aA:=by
 unfold Vt
 induction F with
 | nil=>rfl
 | cons a F ih=>
  rw[af,af,dG,c9];by_cases q:a=y
  ·subst q;have:decide (kN a=kN a)=aC:=decide_eq_true rfl;rw[this,p9 (by simp)];rfl
  ·have:decide (kN a=kN y)=aB:=decide_eq_false λz=>q (Zco z);rw[this];have e:(y∈a::F)↔y∈F:=by rw[aa];exact⟨λz=>z.resolve_left λw=>q w.symm,.inr⟩
   simp only[e];exact ih
theorem Zcq{F:List Nat}{p:Nat->List Nat}{y:Nat}(h:y∈F):UM (dF F p) (.int (y:Int))=ax (Oy (p y)):=by show Vt (F.map kN) (F.map λx=>Oy (p x)) (kN y)=_;rw[Zcp,p9 h]
theorem Zmq(F:List Nat)(p:Nat->List Nat)(y:Nat):dIn (dF F p) (.int (y:Int))=ax (decide (y∈F)):=by
 show ax (Vt (F.map kN) (F.map λx=>Oy (p x)) (kN y)).isSome=_;rw[Zcp];by_cases q:y∈F
 ·rw[p9 q,decide_eq_true q];rfl
 ·rw[pW q,decide_eq_false q];rfl
theorem Zj8{F:List Nat}{p:Nat->List Nat}{y:Nat}{b:List Nat}(h:y∉F)(d:F.length<=1000):As (dF F p) (.int (y:Int)) (Oy b)=ax (dF (F++[y]) (F1 p y b)):=by
 have n:kN y∉F.map kN:=λz=>by obtain⟨x,c,e⟩:=ar.mp z;exact h (by rw[<-Zco e];exact c)
 show(gd (ZC (F.map λx=>Oy (p x))&&ZO (Oy b)&&decide ((F.map kN).length<=10000))).bind (λ_=>ax (PV.dK (Q6 (F.map kN) (kN y)) (Q7 (F.map kN) (F.map λx=>Oy (p x)) (kN y) (Oy b))))=_;rw[Zgg,show ZO (Oy b)=aC from ZY _,decide_eq_true (by rw[aJ];omega)];rw[LK n,LL n];show ax (PV.dK _ _)=ax (PV.dK _ _);have a:F.map (λx=>Oy (p x))=F.map λx=>Oy (F1 p y b x):=au λx c=>by unfold F1;rw[pW λz=>h (by rw[<-z];exact c)]
 rw[ay,ay,a];congr 3;unfold F1;simp
abbrev stY(W:List (List Int))(h:List Nat)(Q:List Int)(a:Nat)(F:List Nat)(p:Nat->List Nat)(j:Nat)(x7 x8 x9 x10:Option PV):ZG:=[ax (Tx W),ax (hV h),ax (pP Q),ax (.int (a:Int)),ax (dF F p),ax (hV F),ax (.int (j:Int)),x7,x8,x9,x10]
theorem JL(h:List Nat):Xt (iL (nL h))=(aD h.length).map λ(i:Nat)=>.tup [.int (i:Int),.int (hd h i:Int)]:=by
 have l:(nL h).length=h.length:=by simp[nL]
 rw[Y6,aJ,l];exact au λi a=>by have a:=aY.mp a;rw[XH (nL h) i (by rw[l];exact a),Dw a]
theorem Zgh{L:List Nat}{i:Nat}(a:L.length<=1000):Zae (Oy L) (.lst [.int (i:Int)])=ax (.lst (iL (nL (L++[i])))):=by show(Ys (iL (nL L))).bind _=_;rw[Yc,aQ,show([PV.int (i:Int)]:List PV)=iL [(i:Int)] from rfl,Yc,aQ];show(if(nL L).length+1<=10000 then ax (PV.lst (iL (nL L++[(i:Int)]))) else aA)=_;rw[p9 (by simp[nL];omega)];simp[nL]
theorem Zcr{f:XE}{s:ZG}{L:List Nat}(q:f s=ax (.lst (iL (nL L)))):Ct f s=ax (Oy L):=by unfold Ct;rw[q];show(Ys (iL (nL L))).map _=_;rw[Yc];rfl
section
variable {W:List (List Int)} {h:List Nat} {Q:List Int} {a:Nat}
theorem F2(ok:Zt W)(o:HOk (eW W) h)(hl:(eW W).length<=441)(T:Q.length=W.length)(S:a<W.length)(M1:Zl Q a<(h.count a:Int))(O:∀G:List Nat,G.Nodup->(∀g∈G,g<W.length)->G≠[]->Wb G (eW W)<=(G.map (Zl Q)).sum) :
  ∃A x F,Qy [Tx W,hV h,pP Q,.int (a:Int)]=ax (Oy A)/\Pth (eW W) h F a A x/\(h.count x:Int)<Zl Q x/\A.length<=7:=by
 have few:=ok.few
 suffices g:Y9 LU (ZP 11 [Tx W,hV h,pP Q,.int (a:Int)]) λv=>∃A x F,v=Oy A/\Pth (eW W) h F a A x/\(h.count x:Int)<Zl Q x/\A.length<=7 by obtain⟨v,e,A,x,F,rfl,r⟩:=Pf g;exact⟨A,x,F,e,r⟩
 have i0:BSr (eW W) h (Zl Q) W.length a [a] (λ_=>[]) 0:=
  ⟨by simp,λx n=>by rw[aM.mp n];exact S,by simp,dq _,λx n=>by rw[aM.mp n];exact Pth.start o,λx n=>lK,λx n=>(br n).elim,λx n=>(br n).elim⟩
 have H:∀{F p j}(i:BSr (eW W) h (Zl Q) W.length a F p j),∃x,F[j]?=ax x/\x∈F/\ZR (hV F) (.int (j:Int))=ax (.int (x:Int))/\ZR (pP Q) (.int (x:Int))=ax (.int (Zl Q x)):=λ{F p j} i=>by have I:=i.goes o M1 O;have t:F[j]∈F:=bQ I;refine⟨F[j],aE I,t,?_,YD (by rw[T];exact i.lt _ t)⟩;rw[Zj6 I];unfold hd;rw[aF,aE I];rfl
 have L:∀{F p}{j x:Nat}{J C D f},ZR (hV F) (.int (j:Int))=ax (.int (x:Int))->ZR (pP Q) (.int (x:Int))=ax (.int (Zl Q x))->xB (Zm oGe (Zm T3 (Za 1) (Zm ZR (Za 5) (Za 6))) (Zm ZR (Za 2) (Zm ZR (Za 5) (Za 6)))) (stY W h Q a F p j J C D f)=ax (decide (Zl Q x<=(h.count x:Int))):=λg E=>xb (vge (o2 rfl (o2 rfl rfl g) (NA h _)) (o2 rfl (o2 rfl rfl g) E));refine ZU (Zp (v:=dF [a] λ_=>[]) rfl) (ZU (Zp (v:=hV [a]) rfl) (ZU (Zp (v:=.int ((0:Nat):Int)) rfl) (Wv (Ds (λk st=>∃F p j J C D f,BSr (eW W) h (Zl Q) W.length a F p j/\st=stY W h Q a F p j J C D f/\k=W.length-j) ⟨[a],λ_=>[],0,aA,aA,aA,aA,i0,rfl,rfl⟩ ?_) ?_)))
 ·rintro k st ⟨F,p,j,J,C,D,f,i,rfl,rfl⟩;obtain⟨x,n,t,g,E⟩:=H i;have I:=i.goes o M1 O;have Y:=RX i.nd i.lt;by_cases M:Zl Q x<=(h.count x:Int)
  ·refine .inr ⟨(L g E).trans (by rw[decide_eq_true M]),Z4 (Zp (ep (o2 rfl rfl g))) (L3 (Tu (ls:=Xt (iL (nL h))) (λm s=>∃F p C D f,BIn (eW W) h (Zl Q) W.length a F p j x m/\s=stY W h Q a F p j (ax (.int (x:Int))) C D f) rfl ⟨F,p,C,D,f,⟨i,n,λk U=>absurd U (Nat.not_lt_zero _)⟩,rfl⟩ ?_) ?_)⟩
   ·rintro m l s u ⟨F,p,C,D,f,B,rfl⟩;rw[JL] at u;have P:m<h.length:=by simpa using(aR.mp u).1
    rw[aX,cC P] at u;cases u;have N:m<(eW W).length:=by rw[<-o.len];exact P
    have t:x∈F:=av B.hx;have Y:F.length<=7:=cD (RX B.b.nd B.b.lt) few;let y:=UI (Zx (eW W) m) (hd h m);refine⟨_,rfl,Z4 (Zp (c2 (o2 rfl rfl (JH N)) rfl (HN N))) (L4 (xa (xb (C2 rfl rfl)) (p2:=!decide (y∈F)) (xb ?_)) (λw=>?_) λw=>R0 rfl ⟨F,p,_,_,_,B.pass λz=>?_,rfl⟩)⟩
    ·unfold Zed;show(dIn (dF F p) (.int (y:Int))).map (λb=>PV.bl (if aC=aC then !b else b))=_;rw[Zmq];rfl
    ·obtain⟨c,d⟩:hd h m=x/\y∉F:=by simpa [gv] using w
     subst c;have:=B.b.sh (hd h m) t;exact Z4 (IX (k:=.int (y:Int)) (d:=dF F p) (Zcr (o2 (o2 rfl rfl (Zcq t)) rfl (Zgh (by omega)))) rfl rfl (Zj8 d (by omega))) (R0 (Js rfl rfl (by omega)) ⟨_,_,_,_,_,B.add o Vb N rfl d,rfl⟩)
    ·subst z;simpa [y] using w
   ·rintro s ⟨Z,R,y8,y9,X,B,rfl⟩;rw[show(Xt (iL (nL h))).length=(eW W).length by rw[JL];simp[o.len]] at B;exact R0 rfl ⟨W.length-(j+1),by omega,Z,R,j+1,_,_,_,_,B.done M,rfl,rfl⟩
  ·exact .inl ((L g E).trans (by rw[decide_eq_false M]))
 ·rintro s ⟨k,⟨F,p,j,J,C,D,f,i,rfl,rfl⟩,q⟩;obtain⟨x,n,t,g,E⟩:=H i;have lt:=of_decide_eq_false (bC ((L g E).symm.trans q));have:=i.sh x t;have:=RX i.nd i.lt;exact Vy (ep (o2 rfl (o2 rfl rfl g) (Zcq t)) (ZY _)) ⟨p x,x,F,rfl,i.pt x t,by omega,by omega⟩
end
section
variable {W:List (List Int)} {h:List Nat} {Q:List Int}
abbrev stH(W:List (List Int))(Q:List Int)(h:List Nat)(x4 x5 x6:Option PV):ZG:=[ax (wP W),ax (pP Q),ax (Tx W),ax (hV h),x4,x5,x6]
theorem HQ(E:List ZE):∀(ks h:List Nat),(Vc E h ks).length=h.length
 | [],_=>rfl
 | k::ks,h=>by show(Vc E (TF E h k) ks).length=_;rw[HQ E ks];unfold TF;rw[cG]
theorem L9(E:List ZE):∀(ks h:List Nat)(k:Nat),Vc E h (ks++[k])=TF E (Vc E h ks) k
 | [],_,_=>rfl
 | _::ks,_,k=>L9 E ks _ k
theorem Bp{n a:Nat}{q:Nat->Int}(e:Pm n q h=ax a):a<n/\q a<(h.count a:Int):=by have m:=dY e;have c:=jK e;exact⟨aY.mp m,of_decide_eq_true c⟩
theorem JM(ok:Zt W)(y:(eW W).length<=441)(m:Q.length=W.length)(w:∀G:List Nat,G.Nodup->(∀g∈G,g<W.length)->G≠[]->Wb G (eW W)<=(G.map (Zl Q)).sum) :
  ∃h,Tg [wP W,pP Q]=ax (hV h)/\HOk (eW W) h/\∀v,v<W.length->(h.count v:Int)<=Zl Q v:=by
 suffices g:Y9 Pc (ZP 7 [wP W,pP Q]) λv=>∃h,v=hV h/\HOk (eW W) h/\∀v,v<W.length->(h.count v:Int)<=Zl Q v by obtain⟨v,e,h,rfl,r⟩:=Pf g;exact⟨h,e,r⟩
 let f:List Nat:=(aD (eW W).length).map λk=>(Zx (eW W) k).1
 have z:HOk (eW W) f:=⟨by simp[f],λk b=>.inl (by
  show((aD (eW W).length).map λk=>(Zx (eW W) k).1).getD k 0=_;rw[aF,aX,cC b];rfl)⟩
 have t:∀h,WY [hV h,pP Q]=ax (UT (Pm W.length (Zl Q) h)):=λh=>by rw[<-m];exact HP
 refine ZU (Zp (c1 rfl (Wa ok).1)) (ZU (Zp (v:=hV f) ((ZL (aD (eW W).length) (λk=>pP (P6 W k)) (λk=>.int ((Zx (eW W) k).1:Int)) ?_ (by simp;omega) λk b=>⟨_,rfl,rfl,ep (o2 rfl rfl (Tz (aY.mp b)).1)⟩).trans ?_)) (ZU (Zp (c2 rfl rfl (t _))) (Wv (Ds (λk st=>∃h j d,HOk (eW W) h/\st=stH W Q h (ax (UT (Pm W.length (Zl Q) h))) j d/\k=(Zcm W.length (Zl Q) h).toNat) ⟨f,aA,aA,z,rfl,rfl⟩ ?_) ?_)))
 ·show ax ((Z8 W).map pP)=_;rw[Va]
  conv=>lhs;rw[<-Mc (Z8 W) []]
  rw[bZ];rfl
 ·unfold hV nL;rw[bZ,Ph];rfl
 ·rintro k st ⟨h,j,d,o,rfl,rfl⟩
  cases e:Pm W.length (Zl Q) h with
  | none=>exact .inl (xb rfl)
  | some a=>
   obtain⟨l,M1⟩:=Bp e;obtain⟨c,x,F,B,p,fr,_⟩:=F2 ok o y m l M1 w;have ls:=Zcn l M1 fr p.cn;have D:=Zj5 W.length (Zl Q) (Vc (eW W) h c);refine .inr ⟨xb rfl,Z4 (Zp (c4 rfl rfl rfl rfl B)) (L3 (Zmd (X:=c) (λi s=>∃d,s=stH W Q (Vc (eW W) h (c.take i)) (ax (.int (a:Int))) (ax (Oy c)) d) rfl ⟨d,rfl⟩ ?_) ?_)⟩
   ·rintro i s u ⟨d,rfl⟩;have b:=p.lt _ (bQ u);have n:(Vc (eW W) h (c.take i)).length=(eW W).length:=by rw[HQ,o.len]
    refine R0 (FE (k:=c[i]) rfl (c2 (o2 rfl rfl (JH b)) (o2 rfl rfl (Zj6 (by rw[n];exact b))) (HN b)) rfl (by simp only[nL,aJ,n];exact b)) ⟨ax (.int ((c[i]:Nat):Int)),?_⟩;rw[dP u,L9];show _=stH W Q (List.set _ _ _) _ _ _;unfold stH hV nL;rw[ky];rfl
   ·rintro s ⟨C,rfl⟩;rw[ck];exact R0 (Zp (c2 rfl rfl (t _))) ⟨_,by omega,_,_,_,p.ok,rfl,rfl⟩
 ·rintro s ⟨k,⟨h,j,d,o,rfl,rfl⟩,q⟩
  cases e:Pm W.length (Zl Q) h with
  | some a=>rw[e] at q;cases q
  | none=>
   refine Vy rfl ⟨h,rfl,o,λv A=>?_⟩;have:=eM.mp e v (aY.mpr A);simp only[decide_eq_true_eq] at this;omega
end
noncomputable def MF(W:List (List Int))(P:List Int):List Int:=PZ (PY P (aS W.length 1)) (Zbt W.length 0)
theorem Zcs{W:List (List Int)}{P:List Int}(d:P.length=W.length){i:Nat}(c:i<W.length):Zl (MF W P) i=Zl P i+1-if i=0 then 1 else 0:=by
 unfold MF;rw[IZ (by rw[V5,d];exact c),RT (by rw[d];exact c)];have a:Zl (aS W.length 1) i=1:=by unfold Zl;rw[aF,b7,p9 c];rfl
 have b:Zl (Zbt W.length 0) i=if i=0 then 1 else 0:=ZF c
 rw[a,b]
theorem Zgi{W:List (List Int)}(ok:Zt W){P:List Int}(n:P.length=W.length)(h:UH W P)(G:List Nat)(c:G.Nodup)(lt:∀g∈G,g<W.length)(ne:G≠[]):Wb G (eW W)<=(G.map (Zl (MF W P))).sum:=by
 obtain⟨g,e⟩:=g8 G ne;have d:=h (λi=>decide (i∈G)) ⟨g,lt g e,decide_eq_true e⟩;have j:=Zce (w:=ZM W) (D:=Zl P) c lt (by rw[Ou ok c lt];omega);have p:=Ou ok c lt;unfold uW at d;rw[<-j] at d;unfold Hk at d
 have o:(G.map (Zl (MF W P))).sum=(G.map (Zl P)).sum+(G.map λi=>1-if i=0 then(1:Int) else 0).sum:=by
  rw[<-Ts];congr 1;exact au λi k=>by rw[Zcs n (lt i k)];omega
 have f:∀G:List Nat,G.Nodup->(G.length:Int)-1<=(G.map λi=>1-if i=0 then(1:Int) else 0).sum/\(0∉G->(G.length:Int)<=(G.map λi=>1-if i=0 then(1:Int) else 0).sum):=λG=>by
  induction G with
  | nil=>intro _;exact⟨by decide,λ_=>by decide⟩
  | cons x G ih=>
   intro c;obtain⟨m,l⟩:=aq.mp c;obtain⟨a,b⟩:=ih l;simp only[af,bR,az];by_cases z:x=0
   ·subst z;have:=b m;simp;omega
   ·simp[z];exact⟨by omega,λ_ w=>by have:=b w;omega⟩
 have q:=(f G c).1;omega
theorem Bq{h:List Nat}{k g c:Nat}(a:k<h.length):V0 YN (Oy h) [.int (k:Int),.int (g:Int),.int (c:Int)]=ax (.bl (decide (hd h k=g))):=by
 unfold V0;rw[pW (show YN≠Yn from FU (by decide)),p9 rfl]
 exact o2 (o2 rfl rfl (show ZR (Oy h) (.int (k:Int))=ax (.int (hd h k:Int)) from Zj6 a)) rfl (by
  rw[Uk];simp[gv])
noncomputable def Zct(W:List (List Int))(P:List Int)(T X:List Nat):Prop:=∃h,HOk (eW W) h/\(∀v,v<W.length->(h.count v:Int)<=Zl (MF W P) v)/\T=Vf ((ZZ (eW W) (λk g _=>decide (hd h k=g)) (eW W).length (Sn 0)).B.map (·.1))/\X=((aD h.length).filter λk=>!decide (k∈T)).map (hd h)
theorem Zgj{W:List (List Int)}(ok:Zt W){P:List Int}(d:P.length=W.length)(n:UH W P):∃T X:List Nat,Qz [wP W,pP P]=ax (.tup [pP (nL T),pP (nL X)])/\Zct W P T X:=by
 have q:=ok.few;have m:=ok.pos;have u:(MF W P).length=W.length:=by unfold MF;rw[IY,V5,d]
 have j:(eW W).length<=441:=by rw[Va];exact(Wa ok).2
 obtain⟨h,p,o,s⟩:=JM ok j u (Zgi ok d n);have t:=o.len;have e:=MA ok m (Lm:=YN) (l:=Oy h) (φ:=λk g _=>decide (hd h k=g)) (We (nL h)) λk g c f _=>Bq (by rw[t];exact f);generalize i:Vf ((ZZ (eW W) (λk g _=>decide (hd h k=g)) (eW W).length (Sn 0)).B.map (·.1))=T at e;let X:List Nat:=((aD h.length).filter λk=>!decide (k∈T)).map (hd h);refine⟨T,X,XX (sq (Zp (c2 (c2 (b:=pP (aS W.length 1)) rfl (o2 (a:=.tup [.int 1]) rfl (c1 rfl Vr) ?_) (Jl (by rw[cL,d]) (by rw[d];omega))) (c2 rfl rfl (Bc (h:=0) q)) (IW (by simp[Zbt,V5,d]) (by rw[V5,d];omega)))) (sq (Zp (ep (Zcr (c2 rfl rfl p)) (ZY _))) (sq (Zp (v:=pP (nL T)) ?_) (ret (ep (Zme rfl (c1 (a:=.lst (iL (nL X))) ((XG (aD h.length) (λ(k:Nat)=>.tup [.int (k:Int),.int (hd h k:Int)]) (λ(k:Nat)=>.int (hd h k:Int)) (λk=>!decide (k∈T)) (by show ax (Xt (iL (nL h)))=_;rw[JL]) (by simp;omega) λk f=>⟨_,rfl,xb (o2 rfl rfl (by rw[Dp];simp only[Mg];rfl)),λ_=>rfl⟩).trans ?_) (RA _))) (by simp)))))),h,o,s,i.symm,rfl⟩
 ·show(if ZC [PV.int 1]=aC/\[PV.int 1]≠[]/\1<=(W.length:Int)/\(W.length:Int)<=1000000/\[PV.int 1].length*((W.length:Int)).toNat<=10000 then ax (PV.tup (aS ((W.length:Int)).toNat [PV.int 1]).flatten) else aA)=_;rw[p9 ⟨rfl,by simp,by omega,by omega,by simp;omega⟩,bV,Ib];simp
 ·show(WM [wP W,.int ((0:Nat):Int),.clo YN (Oy h)]).bind _=_;rw[e,aQ,p9 (We _)]
 ·show _=ax (PV.lst (iL (nL (((aD h.length).filter λk=>!decide (k∈T)).map (hd h)))));unfold nL;rw[bZ,Ph];rfl
end PW
namespace PW
open L2 VL VX PK
noncomputable def Br(W:List (List Int)):Int:=((eW W).length:Int)-(W.length:Int)+1
theorem Pn{l:List Int}{n:Nat}(h:l.length=n)(d:n<=1000):Uu [pP l,.int (n:Int)]=ax (.bl aC):=by
 have c1:Ze UL [Za 0,eC (.ty "tuple")] [ax (pP l),ax (.int (n:Int))]=ax (.bl aC):=by simp
 have c2:Zm (Xz aC) (Ze ZN [Za 0]) (Za 1) [ax (pP l),ax (.int (n:Int))]=ax (.bl aB):=by
  have:Ze ZN [Za 0] [ax (pP l),ax (.int (n:Int))]=ax (.int (n:Int)):=by show ax (PV.int ((iL l).length:Int))=_;rw[aJ,h]
  rw[XD,this];show Xz aC (.int (n:Int)) (.int (n:Int))=_;simp
 have b:Ru (Gj (Py (xB (Ze UL [Za 0,eC (.ty "tuple")]))) (xB (Zm (Xz aC) (Ze ZN [Za 0]) (Za 1)))) (ZQ (eP (eC (.bl aB)))) YE [ax (pP l),ax (.int (n:Int))]=ax (.nx [ax (pP l),ax (.int (n:Int))]):=by rw[Vk,Rx,Ry,U7,c1];simp only[aQ,AD,bz,m9,jc,if_false];rw[U7,c2];rfl
 have a:Zw 1 [] (U2 (Za 0)) (.one 0) ZD (Ze VR [Za 0]) [ax (pP l),ax (.int (n:Int))]=ax (.lst ((l.map λ_=>aC).map PV.bl)):=by rw[ZL l PV.int (λ_=>.bl aC) (RE (by simp)) (by omega) (λi c=>⟨_,rfl,rfl,by simp[ZH,Za3]⟩),bZ];rfl
 show YF 2 SN _=_;unfold SN;show(Zn _ _ [ax (pP l),ax (.int (n:Int))]).bind U5=_
 rw[W5 b,M3 (v:=.bl aC) (by
  rw[U6,Yl,Zy,a];show(oM (Kv [.lst ((l.map λ_=>aC).map PV.bl)]) λl=>if ZO l=aC then ax l else aA)=_;rw[AH];simp)]
 rfl
end PW
namespace PW
open PySem L2 VL VX PK
noncomputable def JN(W:List (List Int)):List Int:=(aD W.length).map λh=>(ZA W h).sum/2-1
theorem Bt{W:List (List Int)}(ok:Zt W):NJ [wP W]=ax (pP (JN W)):=by have b:=ok.few;exact XX (ret (HS (c1 (Se (λh=>(ZA W h).sum/2-1) (Xd (c1 rfl Vr) (by omega)) (by omega) λi a=>⟨_,rfl,rfl,Bz (vdv (c2 rfl rfl (N5 a)) rfl) rfl⟩) (RA _))))
theorem Zgk(W:List (List Int)):(JN W).length=W.length:=by simp[JN]
theorem Bv{W:List (List Int)}(ok:Zt W)(u:V3 W){P L:List Int}(j:P.length=W.length)(p:UH W P)(n:P.sum=Br W)(w:∀h,h<W.length->(Zl (PZ (ZT W P L) (JN W)) h).natAbs<=2^208) :
  ∃(S:List Int) (T X:List Nat),RO [wP W,pP (ZT W P L)]=ax (.tup [pP (Y2 S),pP P,pP (nL T),pP (nL X)])/\S.length=W.length/\Zct W P T X/\∃c,∀i,i<W.length->Zl L i+Zl S i=c:=by
 have C:=ok.few;have k:=ok.pos;let D:=ZT W P L;have a:D.length=W.length:=by show(ZT W P L).length=_;rw[Z9,j]
 have q:D.sum=Br W:=by show(ZT W P L).sum=_;rw[RV ok j,n]
 have s:=Hu ok u (D:=PZ D (JN W)) (b:=0) (by rw[IY,a]) k w;have o:=Ht (W:=W) (D:=PZ D (JN W)) (b:=0) k;generalize Ms W (PZ D (JN W)) 0=S0 at s o;obtain⟨z,A,m⟩:=Zj3 (λi=>Zl L i+Zl S0 i) k;have B:Way W P (Zl L) (Zl L z+Zl S0 z) S0 (ZT W D S0):=by refine⟨o,by rw[Z9,a],by rw[RV ok a,q,n],λi f=>by have:=m i f;omega,⟨z,A,by omega⟩,λi f=>?_⟩;rw[Zj4 _ _ f,W8 (by rw[a];exact f),show Zl D i=Zl P i+gN W (Zl L) i from W8 (by rw[j];exact f),Vz];omega
 obtain⟨T,X,y,x⟩:=Zgj ok j p
 suffices g:Y9 IK (ZP 7 [wP W,pP D]) λv=>∃S,v = .tup [pP (Y2 S),pP P,pP (nL T),pP (nL X)]/\S.length=W.length/\∃c,∀i,i<W.length->Zl L i+Zl S i=c by obtain⟨v,e,S,rfl,l,r⟩:=Pf g;exact⟨S,T,X,e,l,x,r⟩
 have rt:WX [wP W,pP D]=ax .non:=Zma (gof (xb (o2 (c1 rfl (Za2 D)) (c1 rfl (Zb2 ok)) (by
  rw[Uk];show ax (PV.bl (!decide (D.sum=Br W)))=_;rw[decide_eq_true q];rfl))))
 refine ZU (Zmb (c2 rfl rfl rt)) (ZU (Zp (c3 rfl (c2 rfl (c1 rfl (Bt ok)) (IW (by rw[Zgk,a]) (by rw[a];omega))) rfl s)) (ZU (Zp (c3 rfl rfl rfl (Jm ok a o))) (ZU (Zp (c2 rfl rfl (V8 ok (by rw[Z9,a])))) (Zcj ok p j n B λS E F d t=>ZU (Zp (c2 rfl rfl y)) (Vy (ep (by
  rw[Rw,Zy,c1 rfl (Mr (l:=S) (by rw[d];exact k) (by rw[d];omega))];rfl) (by simp)) ⟨S,rfl,d,_,t⟩)))))
end PW
namespace PW
open L2 VL VX PK
theorem MG(c:Int)(n:Nat)(f:Nat->Nat->Int):s2 n (λi j=>c*f i j)=c*s2 n f:=by unfold s2;rw[<-ZJ];exact Zi λi _=>ZJ _ _ _
theorem Zgl(n:Nat)(f:Nat->Nat->Int):s2 n (λi j=>f j i)=s2 n f:=(UD f n n).symm
theorem Zcu(n:Nat)(f:Nat->Int)(g:Nat->Nat->Int):s2 n (λi j=>f i*g i j)=sN n λi=>f i*sN n (g i):=Zi λi _=>ZJ _ _ _
noncomputable def enE(n:Nat)(w:Nat->Nat->Int)(z:Nat->Int):Int:=s2 n λi j=>w i j*((z j-z i)*(z j-z i))
section
variable {n:Nat} {w:Nat->Nat->Int} (sy:∀a b,a<n->b<n->w a b=w b a)
include sy
theorem Zgm(z:Nat->Int):sN n (gw n w z)=0:=by
 have h:=FZ n λi j=>w i j*(z j-z i)
 have e:s2 n (λi j=>w i j*(z j-z i)+w j i*(z i-z j))=0:=by
  exact YH λi a=>YH λj b=>by show w i j*(z j-z i)+w j i*(z i-z j)=0;rw[sy j i b a];grind
 have:sN n (gw n w z)=s2 n λi j=>w i j*(z j-z i):=rfl;omega
theorem Zgn(z:Nat->Int)(e:Int)(g:Nat->Bool):enE n w (λi=>z i+e*b1 (g i))=enE n w z-4*e*(sN n λi=>b1 (g i)*gw n w z i)+e*e*s2 n (λi j=>w i j*(b1 (g j)-b1 (g i))*(b1 (g j)-b1 (g i))):=by
 have c:enE n w (λi=>z i+e*b1 (g i))=enE n w z+(2*e)*s2 n (λi j=>w i j*(z j-z i)*(b1 (g j)-b1 (g i)))+(e*e)*s2 n (λi j=>w i j*(b1 (g j)-b1 (g i))*(b1 (g j)-b1 (g i))):=by
  unfold enE;rw[<-MG,<-MG,<-S5,<-S5];exact TB λi _ j _=>by grind
 have f:s2 n (λi j=>w i j*(z j-z i)*(b1 (g j)-b1 (g i))) = -2*s2 n λi j=>b1 (g i)*(w i j*(z j-z i)):=by
  have a:s2 n (λi j=>w i j*(z j-z i)*(b1 (g j)-b1 (g i)))=s2 n (λi j=>w i j*(z j-z i)*b1 (g j))+(-1)*s2 n (λi j=>b1 (g i)*(w i j*(z j-z i))):=by
   rw[<-MG,<-S5];exact TB λi _ j _=>by grind
  have b:s2 n (λi j=>w i j*(z j-z i)*b1 (g j))=(-1)*s2 n (λi j=>b1 (g i)*(w i j*(z j-z i))):=by
   rw[<-Zgl,<-MG];exact TB λi d j h=>by rw[sy j i h d];grind
  omega
 rw[c,f,Zcu];unfold gw;grind
end
theorem JO:∀n:Nat,sN n (λ_=>1)=(n:Int)
 | 0=>rfl
 | n+1=>by show sN n (λ_=>1)+1=_;rw[JO n];omega
theorem Zj9{d:Type}(f:d->Int)(h:∀a,0<=f a)(g:d):∃a,∀b,f a<=f b:=by
 have:∀(k:Nat)(a:d),(f a).toNat=k->∃a,∀b,f a<=f b:=λk=>by
  induction k using lM with
  | _ k ih=>
   intro a e;by_cases q:∃b,f b<f a
   ·obtain⟨b,i⟩:=q;have:=h b;exact ih (f b).toNat (by omega) b rfl
   ·exact⟨a,λb=>cA λc=>q ⟨b,by omega⟩⟩
 exact this _ g rfl
theorem Zgo{n:Nat}{w:Nat->Nat->Int}(d:∀a b,a<n->b<n->w a b=w b a)(g:Nat->Bool):2*sN n (λi=>b1 (g i)*sN n (w i))=2*qw n w g+s2 n (λi j=>w i j*(b1 (g j)-b1 (g i))*(b1 (g j)-b1 (g i))):=by
 have a:=(Zcu n (λi=>b1 (g i)) w).symm;have b:=FZ n λi j=>b1 (g i)*w i j
 have c:s2 n (λi j=>b1 (g i)*w i j+b1 (g j)*w j i)=2*qw n w g+s2 n (λi j=>w i j*(b1 (g j)-b1 (g i))*(b1 (g j)-b1 (g i))):=by
  unfold qw;rw[<-MG,<-S5]
  exact TB λi e j f=>by
   rw[d j i f e];unfold b1;cases g i<;>cases g j<;>simp<;>omega
 omega
theorem Zgp{W:List (List Int)}(ok:Zt W)(v:V3 W){D:List Int}(hd:D.length=W.length)(Q:D.sum=((eW W).length:Int)-(W.length:Int)+1):∃(S:Nat->Int) (P:List Int),P.length=W.length/\UH W P/\∀i,i<W.length->Zl P i=Zl D i+gN W S i:=by
 have s:=ok.pos;have p:=λa b G U=>ok.sym a b G U;let n:=(W.length:Int);let Y:=λh=>2*n*Zl D h-n*sN W.length (ZM W h)+(2*n-2);obtain⟨z,_,_,u⟩:=Q2 ok v s Y;have w:=(Xx (Mq ok v s Y) (aZ _)).nz;generalize (Ww (W.length-1) (VB W 0 Y) (W.length-1)).2=d at u w
 have y:sN W.length Y=0:=by
  have q:=Zci ok hd Q;have q1:lw W.length (Zl D) (λ_=>aC)=D.sum+n:=by unfold lw;rw[Zi (g:=λi=>Zl D i+1) λi _=>by show 1*(Zl D i+1)=_;omega,ZS,Tw,hd,JO]
  have q2:qw W.length (ZM W) (λ_=>aC)=sN W.length λi=>sN W.length (ZM W i):=TB λi _ j _=>by show 1*1*ZM W i j=_;omega
  unfold uW uw at q
  have e:sN W.length Y=(2*n)*sN W.length (Zl D)+(-n)*(sN W.length λi=>sN W.length (ZM W i))+(2*n-2)*sN W.length (λ_=>1):=by
   rw[<-ZJ,<-ZJ,<-ZJ,<-ZS,<-ZS];exact Zi λi _=>by grind
  rw[e,JO];have X:sN W.length (Zl D)=D.sum:=by rw[Tw,hd]
  grind
 have B:∀h,h<W.length->gN W z h = -(d*Y h):=λh N=>by
  by_cases q:h=0
  ·subst q;have a:=Zbb (f:=gN W z) (g:=λh=>(-d)*Y h) s λx I O=>by rw[u x I O];grind
   have b:sN W.length (gN W z)=0:=Zgm p z;rw[ZJ,y,b] at a;grind
  ·exact u h N q
 obtain⟨S,J⟩:=Zj9 (λS:Nat->Int=>enE W.length (ZM W) (λi=>z i + -(2*n*d)*S i)) (λS=>Ym λi m=>Ym λj E=>dQ (ok.lo i j m E) (by
  rcases Int.le_total 0 ((z j + -(2*n*d)*S j)-(z i + -(2*n*d)*S i)) with q | q
  ·exact dQ q q
  ·exact Int.mul_nonneg_of_nonpos_of_nonpos q q)) λ_=>0
 let P:=(aD W.length).map λi=>Zl D i+gN W S i;refine⟨S,P,by simp[P],λg R=>?_,λi m=>ZF m⟩;have o:=J λi=>S i-b1 (g i);have H:enE W.length (ZM W) (λi=>z i + -(2*n*d)*(S i-b1 (g i)))=enE W.length (ZM W) (λi=>(z i + -(2*n*d)*S i)+(2*n*d)*b1 (g i)):=by congr 1;funext i;grind
 rw[H,Zgn p] at o;have c1:=Zgo p g;generalize hC:s2 W.length (λi j=>ZM W i j*(b1 (g j)-b1 (g i))*(b1 (g j)-b1 (g i)))=C at o c1
 have A:sN W.length (λi=>b1 (g i)*gw W.length (ZM W) (λi=>z i + -(2*n*d)*S i) i)=(-d)*((2*n)*lw W.length (Zl P) g+(-n)*sN W.length (λi=>b1 (g i)*sN W.length (ZM W i))+(-2)*sN W.length λi=>b1 (g i)):=by
  unfold lw;rw[<-ZJ,<-ZJ,<-ZJ,<-ZS,<-ZS,<-ZJ];refine Zi λi m=>?_;have a:gw W.length (ZM W) (λi=>z i + -(2*n*d)*S i) i=gN W z i + -(2*n*d)*gN W S i:=by show gN W (λi=>z i + -(2*n*d)*S i) i=_;rw[Vz,Wd]
  have b:Zl P i=Zl D i+gN W S i:=ZF m;grind
 rw[A] at o;have T:1<=sN W.length λi=>b1 (g i):=by obtain⟨i,m,L⟩:=R;have:=Sj (f:=λi=>b1 (g i)) (λi _=>Hi _) m;rw[L] at this;exact this
 have ev:=JK (D:=P) ok g
 have M:0<uW W P g:=by
  unfold uW uw;generalize lw W.length (Zl P) g=l at o ⊢;generalize qw W.length (ZM W) g=q at c1 ⊢;generalize sN W.length (λi=>b1 (g i)*sN W.length (ZM W i))=t at o c1;generalize (sN W.length λi=>b1 (g i))=k at o T
  have F:0<d*d:=by
   rcases ja w with q | q
   ·exact Int.mul_pos_of_neg_of_neg q q
   ·exact Int.mul_pos q q
  have Z:0<=(4*n*(d*d))*(2*n*(2*l-q)-4*k):=by
   have:(4*n*(d*d))*(2*n*(2*l-q)-4*k) = - (4*(2*n*d)*((-d)*((2*n)*l+(-n)*t+(-2)*k)))+2*n*d*(2*n*d)*C:=by grind
   omega
  refine cA λc=>?_;have m4:2*n*(2*l-q)<=0:=Int.mul_nonpos_of_nonneg_of_nonpos (by omega) (by omega);have m5:(4*n*(d*d))*(2*n*(2*l-q)-4*k)<0:=Int.mul_neg_of_pos_of_neg (Int.mul_pos (by omega) F) (by omega);omega
 omega
end PW
namespace PW
open PySem L2 VL VX PK
section
variable {W:List (List Int)} {D E P:List Int} {b:Nat} {F:List Nat}
theorem Ka(h:∀g,g≠b->Zl D g=Zl E g)(a:b∈F):YX W D F=YX W E F:=by
 unfold YX;congr 1;funext g;by_cases q:g=b
 ·rw[q];simp[a]
 ·rw[h g q]
theorem JP(s:Settled W b D F)(h:∀g,g≠b->Zl D g=Zl E g):Settled W b E F:=by
 have hd:=s.burn.hd;refine⟨λg c ne=>by rw[<-h g ne];exact s.free g c ne,⟨s.burn.nd,s.burn.lt,hd,λk a d=>?_⟩,?_,s.all⟩
 ·rw[<-Ka h (av (i:=0) (by rw[dA (by omega)];exact hd))];exact s.burn.st k a d
 ·rw[<-Ka h (av hd)];exact s.stop
theorem Zgq(ok:Zt W)(f:UH W P){h:Nat}(a:h<W.length):0<=Zl P h:=by have:=f (λi=>decide (i=h)) ⟨h,a,by simp⟩;unfold uW uw lw qw s2 at this;rw[Z3 (k:=h) a (λi _ b=>by simp[b1,b]),Z3 (k:=h) a (λi _ b=>YH λj _=>by simp[b1,b]),Z3 (k:=h) a (λj _ c=>by simp[b1,c]),ok.dia h a] at this;simp[b1] at this;omega
theorem F3(ok:Zt W)(m:V3 W)(hd:D.length=W.length)(n:D.sum=Br W)(s:∀h,h<W.length->(Zl (PZ D (JN W)) h).natAbs<=2^208):∃(L P:List Int) (T X:List Nat),RO [wP W,pP D]=ax (.tup [pP L,pP P,pP (nL T),pP (nL X)])/\L.length=W.length/\P.length=W.length/\ZT W D L=P/\UH W P:=by
 obtain⟨f,P,b,l,eP⟩:=Zgp ok m hd n;let L:List Int:=(aD W.length).map λi=>(-1)*f i;have d:∀i,i<W.length->Zl L i=(-1)*f i:=λi a=>ZF a;have k:ZT W P L=D:=WG (by rw[Z9,b,hd]) λi a=>by rw[Z9,b] at a;rw[W8 (by rw[b];exact a),V6 a d,Wd,eP i a];omega
 have q:P.sum=Br W:=by rw[<-n,<-k,RV ok b]
 obtain⟨S,T,X,o,p,_,c,t⟩:=Bv (L:=L) ok m b l q (by rw[k];exact s);rw[k] at o;refine⟨Y2 S,P,T,X,o,by rw[UC,p],b,WG (by rw[Z9,hd,b]) λi a=>?_,l⟩;rw[Z9,hd] at a;rw[W8 (by rw[hd];exact a),eP i a];congr 1;have e:∀g,g<W.length->Zl (Y2 S) g=f g+(c-XI S):=λg j=>by rw[S2 (by rw[p];exact j)];have:=t g j;rw[d g j] at this;omega
 rw[V6 a e,Vz,R3 (T:=λ_=>c-XI S) (c:=c-XI S) (λ_ _=>rfl) a];omega
noncomputable def Rl(W:List (List Int))(b:Nat)(P:List Int)(T:List Nat):Prop:=∃S D G,Tc [wP W,pP P,.int (b:Int)]=ax (.tup [S,pP D,G])/\MB W D b=T
theorem Rl.uniq{T c:List Nat}(h:Rl W b P T)(h':Rl W b P c):T=c:=by obtain⟨S,D,G,e,t⟩:=h;obtain⟨d,f,g,a,t'⟩:=h';rw[e] at a;injection a with a;injection a with a;simp only[oN] at a;rw[<-t,<-t',pP_inj.mp a.2.1]
theorem Zcv(d:F.Nodup):(Vf F).Pairwise (· < ·):=by
 have b:(nL (Vf F)).Pairwise (·<=·):=by rw[Ov];exact Uo _
 have e:(Vf F).Nodup:=(V7 F).nodup_iff.mpr d;exact((fF.mp b).and e).imp λ⟨a,c⟩=>by omega
end
theorem F4{W:List (List Int)}(ok:Zt W):Qt [wP W]=ax (.int (Br W)):=by
 have d:=ok.few
 have e:(W.map λr=>r.sum).sum=2*((Z8 W).length:Int):=by
  rw[<-Hb ok];congr 1;apply gM;intro i;by_cases c:i<W.length
  ·rw[aX,aX,cC c,aE c];unfold ZA;simp[aF,aE c]
  ·rw[bw (by simp;omega),bw (by simp;omega)]
 refine XX (ret (vP ?_));unfold Br;rw[Va];refine FD (Bz ((vdv (a:=2*((Z8 W).length:Int)) (b:=2) (c1 (a:=.lst (iL (W.map λr=>r.sum))) ?_ (by rw[Gw,e])) rfl).trans ?_) (c1 rfl Vr)) rfl
 ·rw[ZL W pP (λr=>.int r.sum) rfl (by omega) (λr _=>⟨[ax (pP r)],rfl,rfl,AG r⟩),Ph]
 ·congr 2;omega
theorem Zcw{W:List (List Int)}(ok:Zt W)(I:V3 W)(J:(eW W).length<=12){b:Nat}(o:b<W.length){m:Nat->Nat}{F:List Nat}(tr:TrOk W.length (eW W) m F []):∃P,K1 [wP W,.int (b:Int),pP (nL (Vf F))]=ax (pP P)/\Rl W b P (Vf F):=by
 have hp:=ok.pos;have hf:=ok.few;have nd:F.Nodup:=by have:=tr.nd;simpa using this
 have A:∀k∈F,k<(eW W).length:=λk j=>tr.inn k (by simpa using j);have ln:((F.map (Zx (eW W))).length:Int)=W.length-1:=MkOk.all tr.mark hp (Zb1 ok I tr);have lF:F.length+1=W.length:=by rw[aJ] at ln;omega
 have H:∀k,k∈Vf F↔k∈F:=λk=>(V7 F).mem_iff
 obtain⟨st,B⟩:=FX ok o (g:=Vf F) (λt ht=>A t ((H t).mp ht)) (Zcv nd) (λq hq=>CZ tr.mark hp ln λe he=>by
  obtain⟨k,j,rfl⟩:=ar.mp he;exact hq k ((H k).mpr j)) (by rw[(V7 F).length_eq];exact lF)
 generalize hT:Vf F=T at *;have lT:T.length+1=W.length:=by rw[<-hT,(V7 F).length_eq];exact lF
 have N:∀k∈T,k<12:=λk j=>bB (A k ((H k).mp j)) J;have eS:Uw [wP W,.int (b:Int),pP (nL T)]=ax (pP (stl W b T)):=HJ ok o;generalize stl W b T=S at *;obtain⟨G,C⟩:=st.set;have lG:G.length=W.length:=Settled.len C;have isT:isT W T=aC:=by rw[<-B];exact Zb6 ok (WInv.walk Vb (WInv.start o)) (Zca ok o C.burn lG C.free)
 have eT:T2 [wP W,pP (nL T)]=ax (.bl aC):=by rw[HF ok (λk j=>by have:=N k j;omega) (by omega),isT]
 have y:=st.len;let D:List Int:=S.set b (Br W-S.sum);have s:D.length=W.length:=by show(S.set b _).length=_;rw[cG,y]
 have E:∀g,g≠b->Zl S g=Zl D g:=λg U=>by
  show _=Zl (S.set b _) g;by_cases q:g<S.length
  ·rw[PW.nth_set q,pW U]
  ·unfold Zl;rw[aF,aF,bw (by omega),bw (by rw[cG];omega)]
 have sD:D.sum=Br W:=by show(S.set b _).sum=_;rw[Zgc (by rw[y];exact o),st.base];omega
 have lp:(Br W).natAbs<=20:=by unfold Br;omega
 have bS:∀h,h<W.length->(Zl S h).natAbs<=63:=λh d=>by
  by_cases q:h=b
  ·rw[q,st.base];decide
  ·have:=Hx ok C d q;omega
 have bsum:S.sum.natAbs<=441:=by rw[Tw,y];have:=FL (f:=Zl S) (M:=63) bS;omega
 have bD:∀h,h<W.length->(Zl D h).natAbs<=600:=λh d=>by
  by_cases q:h=b
  ·have:Zl D b=Br W-S.sum:=by show Zl (S.set b _) b=_;rw[PW.nth_set (by rw[y];exact o),p9 rfl]
   rw[q,this];omega
  ·rw[<-E h q];have:=bS h d;omega
 obtain⟨L,P,T',X,eb,lL,x,eP,fP⟩:=F3 ok I s sD λh d=>by
  rw[IZ (by rw[s];exact d),show Zl (JN W) h=(ZA W h).sum/2-1 from ZF d]
  have e6:((ZA W h).sum).natAbs<=W.length*9:=by
   rw[Tw,ok.sq h d];exact FL λi u=>by have a:0<=Zl (ZA W h) i:=ok.lo h i d u;have b:Zl (ZA W h) i<=9:=ok.hi h i d u;omega
  have:=bD h d;have:(1000:Nat)<=2^208:=by decide +kernel
  omega
 have Y:∀h,h<W.length->0<=Zl P h:=λh d=>Zgq ok fP d;have sP:P.sum=Br W:=by rw[<-eP,RV ok s,sD]
 have bP:∀h,h<W.length->(Zl P h).natAbs<=2^208:=λh d=>by
  have e4:=Sj (n:=W.length) Y d;rw[<-x,<-Tw,sP] at e4;have:=Y h d;have:(1000:Nat)<=2^208:=by decide +kernel
  omega
 let L':List Int:=(aD W.length).map λi=>(-1)*Zl L i
 have eL:ZT W P L'=D:=WG (by rw[Z9,x,s]) λi u=>by
  rw[Z9,x] at u;have e1:Zl P i=Zl D i+gN W (Zl L) i:=by rw[<-eP,W8 (by rw[s];exact u)]
  rw[W8 (by rw[x];exact u),V6 u (Z:=λi=>(-1)*Zl L i) λg U=>ZF U,Wd,e1];omega
 have w:=JP C E;have es:=Ba ok I x o bP (by simp[L']) eL.symm w;have O:=(C1 ok s o);have eG:G=Hq W D b:=Burn.uniq w.burn O.2.1 w.stop O.2.2;have et:T7 [wP W,.int (b:Int),pP D]=ax (pP (nL T)):=by rw[FW ok s o (M4 (by omega) O.1 (debt_nil.mpr λh d ne=>w.free h (by rw[<-s];exact d) ne) (by rw[<-eG];exact lG))];unfold MB at B ⊢;rw[<-L8 E,B]
 have Q:MB W D b=T:=by unfold MB at B ⊢;rw[<-L8 E,B]
 refine⟨P,?_,_,_,_,es,Q⟩;have ne:P≠[]:=λz=>by rw[z] at x;simp at x;omega
 let R:PV:=.tup [pP L,pP P,pP (nL T'),pP (nL X)];have nb:(0:Int)<=XI P:=by obtain⟨i,u,e⟩:=bp (VU ne).1;have:=Y i (by rw[<-x];exact u);unfold Zl at this;rw[aF,aE u] at this;rw[<-e];exact this
 refine XX (sq (Zp (c3 rfl rfl rfl (XX (sq (gof (xn (p:=aC) (xb (c2 rfl rfl eT)))) (ret (c3 rfl rfl rfl eS)))))) (sq (gof (xo (xn (p:=aC) (xb (c2 rfl (c1 rfl Vr) (Pn y (by omega))))) (xb ((o2 (o2 rfl rfl (YD (l:=S) (k:=b) (by rw[y];exact o))) rfl (Uk ..)).trans ?_)))) (sq (Zp (c1 rfl (by rw[Iq,p9 (ZY _)]))) (sq (FE (k:=b) rfl (Bz (c1 rfl (F4 ok)) (c1 rfl (AG S))) rfl (by rw[y];exact o)) (sq (Zp (v:=R) (c2 rfl (c1 rfl rfl) eb)) (sq (gof (xo (xn (p:=aC) (xb (c2 (a:=R) (b:=.ty "tuple") rfl rfl rfl))) (xo (xb (p:=aB) (o2 (op:=Xz aC) (a:=.int 4) (b:=.int 4) (c1 (a:=R) rfl rfl) rfl (by rw[Uk];rfl))) (xn (p:=aC) (xb (c2 (a:=pP L) rfl (c1 rfl Vr) (Pn lL (by omega)))))))) (sq (gof (xo (neq (l:=P) (c3 (c:=pP L) rfl rfl rfl (by
  rw[<-eP];exact FY ok s (λk j=>YD (by rw[s];exact j)) λk j=>YD (by rw[lL];exact j))) rfl) (xb (o2 (a:=.int (XI P)) (b:=.int 0) (c1 (a:=pP P) rfl (EK XI ne)) rfl ?_)))) (sq (Zp (HS (o2 (c3 (b:=pP P) rfl rfl rfl es) rfl rfl))) (sq (gof (xo (neq (l:=D) rfl (c1 rfl rfl)) (neq (l:=nL T) (c3 rfl rfl rfl et) rfl))) (ret (HS rfl)))))))))))
 ·rw[st.base];rfl
 ·show ax (PV.bl (decide (XI P<0)))=_;rw[decide_eq_false (by omega)]
section
variable {τ:List Int->List Nat} {L:List (List Int)} {P:List Int}
noncomputable def knV(τ:List Int->List Nat)(L:List (List Int)):PV:=.dT (L.map kI) (L.map λP=>pP (nL (τ P)))
theorem Zcy(P:List Int):Vt (L.map kI) (L.map λP=>pP (nL (τ P))) (kI P)=if P∈L then ax (pP (nL (τ P))) else aA:=by
 unfold Vt
 induction L with
 | nil=>rfl
 | cons a L ih=>
  rw[af,af,dG,c9];by_cases q:a=P
  ·subst q;simp
  ·have:decide (kI a=kI P)=aB:=decide_eq_false λz=>q (FO z);have n:P≠a:=λz=>q z.symm;rw[this,ih];simp[n]
theorem Zka{f g h:XE}{s:ZG}(q:f s=ax (knV τ L))(b:g s=ax (pP P))(a:h s=ax (pP (nL (τ P)))):O7 f g h s=ax (pP (nL (τ P))):=by
 unfold O7;rw[q,b,a]
 have e:dIn (knV τ L) (pP P)=ax (decide (P∈L)):=by
  show(MT (pP P)).map _=_;rw[FN,bz,Zcy];by_cases c:P∈L
  ·rw[p9 c,decide_eq_true c];rfl
  ·rw[pW c,decide_eq_false c];rfl
 show(dIn (knV τ L) (pP P)).bind _=_;rw[e,aQ];by_cases c:P∈L
 ·rw[p9 (decide_eq_true c)];show(MT (pP P)).bind _=_;rw[FN,aQ,Zcy,p9 c]
 ·rw[pW (by simpa using c)]
theorem Zgr:∀L:List (List Int),ZC (L.map λP=>pP (nL (τ P)))=aC:=λL=>TV λ_ _=>ZY _
theorem Zkb(f:L.length<=1000):∃L',L'.length<=L.length+1/\As (knV τ L) (pP P) (pP (nL (τ P)))=ax (knV τ L'):=by
 have e:As (knV τ L) (pP P) (pP (nL (τ P)))=ax (.dT (Q6 (L.map kI) (kI P)) (Q7 (L.map kI) (L.map λP=>pP (nL (τ P))) (kI P) (pP (nL (τ P))))):=by show(gd (ZC (L.map λP=>pP (nL (τ P)))&&ZO (pP (nL (τ P)))&&decide ((L.map kI).length<=10000))).bind (λ_=>(MT (pP P)).map _)=_;rw[Zgr,show ZO (pP (nL (τ P)))=aC from ZY _,decide_eq_true (by rw[aJ];omega),FN];rfl
 by_cases c:P∈L
 ·refine⟨L,by omega,?_⟩;have b:kI P∈L.map kI:=gj c;rw[e];unfold Q6 Q7 knV;rw[p9 b,p9 b,List.zip_map',bZ];congr 2;refine au λa _=>?_;show(if kI a=kI P then pP (nL (τ P)) else pP (nL (τ a)))=_;split
  ·rename_i z;rw[FO z]
  ·rfl
 ·refine⟨L++[P],by simp,?_⟩;have b:kI P∉L.map kI:=λz=>by obtain⟨a,d,ea⟩:=ar.mp z;exact c (by rw[<-FO ea];exact d)
  rw[e,LK b,LL b];unfold knV;rw[ay,ay];rfl
end
theorem law_true(ns:List Int)(e:ns.length<=63)(_:∀n∈ns,n.natAbs.log2<=1048576):D_law [.cst (iL ns)]=ax (.bl aC):=by
 obtain⟨W,N,ok,H,S,Y⟩:=Zb0 e Zob;have G:=ok.pos;have A:(eW W).length<=12:=by rw[Va];omega
 obtain⟨b,O,Q⟩:=Xy (Zl ns 13) (t:=331) (m:=W.length) (by omega) G
 obtain⟨τ,tau⟩:∃τ:List Int->List Nat,∀P T,Rl W b P T->τ P=T:=Classical.axiomOfChoice (r:=λP y=>∀T,Rl W b P T->y=T) λP=>by
  by_cases h:∃T,Rl W b P T
  ·exact⟨h.choose,λT w=>Rl.uniq h.choose_spec w⟩
  ·exact⟨[],λT w=>absurd ⟨T,w⟩ h⟩
 let cut:=WB (iL ns) (ax 13) (ax 21);have q:∀l∈cut,∃c,l=PV.int c:=λl u=>by have g:l∈WB (iL ns) (ax 13) (ax 21):=u;unfold WB at g;obtain⟨c,_,rfl⟩:=ar.mp (dh (cW g));exact⟨c,rfl⟩
 have B:cut.length<=63:=by show(WB (iL ns) (ax 13) (ax 21)).length<=63;unfold WB;rw[bG,bU,aJ];omega
 let ls:List PV:=[.int (Zl ns 12)]++cut;have U:ls.length<=64:=by show([PV.int (Zl ns 12)]++cut).length<=64;rw[aT,bu];omega
 let st:PV->Option PV->Option PV->Option PV->ZG:=λd j f o=>[ax (.cst (iL ns)),ax (wP W),ax (.int (b:Int)),ax d,j,f,o];refine Pg (ZU (Zp (v:=wP W) N) (ZU (Zp (c3 (c2 rfl rfl (R4 e 13)) rfl (c1 rfl Vr) Q)) (ZU (s1:=st (knV τ []) aA aA aA) rfl (Wv (Tu (ls:=ls) (λi s=>∃L j f o,s=st (knV τ L) j f o/\L.length<=i) ?_ ⟨[],aA,aA,aA,rfl,aZ _⟩ ?_) ?_))))
 ·unfold YL
  rw[o2 (op:=LB) (a:=.lst [.int (Zl ns 12)]) (b:=.lst cut) (R:=ax (.lst ls)) (by
   show(PB _ _).map PV.lst=_
   rw[Zy,c2 (D:=Vv) (a:=.cst (iL ns)) rfl rfl (R4 e 12)];rfl) rfl (by
   show(if 1+cut.length<=10000/\ZC [PV.int (Zl ns 12)]=aC/\ZC cut=aC then ax (PV.lst ([.int (Zl ns 12)]++cut)) else aA)=_;rw[p9 ⟨by omega,rfl,DX _ _ (ZY ns)⟩])]
  rfl
 ·rintro i l s u ⟨L,j,f,o,rfl,X⟩;have Z:i<ls.length:=(aR.mp u).1
  obtain⟨c,rfl⟩:∃c,l=PV.int c:=by
   rcases aV.mp (av u) with z | z
   ·exact⟨_,aM.mp z⟩
   ·exact q l z
  obtain⟨m,F,x,tr⟩:=Be ok c;rw[<-Ov] at x;obtain⟨P,C,I⟩:=Zcw ok H A O tr;have J:=tau P _ I;rw[<-J] at x C;obtain⟨M,E,ep⟩:=Zkb (τ:=τ) (L:=L) (P:=P) (by omega);exact⟨_,rfl,Z4 (Zp (c2 rfl rfl x)) (Z4 (Zp (c3 rfl rfl rfl C)) (Z4 (gof (xo (xb (p:=aB) rfl) (neq (l:=nL (τ P)) (Zka rfl rfl rfl) rfl))) (R0 (IX (v:=pP (nL (τ P))) (k:=pP P) (d:=knV τ L) rfl rfl rfl ep) ⟨M,_,_,_,rfl,by omega⟩)))⟩
 ·rintro s ⟨L,j,f,o,rfl,_⟩;exact Vy (ep rfl) rfl
end PW
namespace PW
open PySem L2 VL
theorem cst_mk{K:aH}{h:ba}{mg:bH->Option aI}{x:bH}{v:Int}{t:Tok}(X:K.In h)(G:h.Ns cO mg)(y:jS K cO x=ax (ax (.int v t))):Cst mg x v:=⟨t,pE X G y⟩
theorem all_mk{P:bM}{w:bc}{K:aH}{mg:bH->Option aI}{fa:aL}(hfa:mg "law" = ax (.ref fa))(B:XQ mg)
  (Z_BASE:Cst mg "BASE" 0)
  (d0:Def K mg "_law_pick" NU)
  (d1:Def K mg "_law_read_web" UA)
  (d2:Def K mg "_law_at" GZ)
  (d3:Def K mg "_law_web" K8)
  (d4:Def K mg "_law_ties" NV)
  (d5:Def K mg "_law_tree" NW)
  (d6:Def K mg "ties_of" QH)
  (d7:Def K mg "tie_to_look_at" X8)
  (d8:Def K mg "walked" NX)
  (d9:Def K mg "still_by" SW)
  (d10:Def K mg "pieces_of" Tn)
  (d11:Def K mg "is_tree" QI)
  (d12:Def K mg "still_of" SX)
  (d13:Def K mg "total" Ja)
  (d14:Def K mg "loops" Jb)
  (d15:Def K mg "refuse_total" W3)
  (d16:Def K mg "reduced" QJ)
  (d17:Def K mg "evened" NY)
  (d18:Def K mg "solved_below" W4)
  (d19:Def K mg "ties_at" QK)
  (d20:Def K mg "row_of" NZ)
  (d21:Def K mg "square_without" X9)
  (d22:Def K mg "nearing" QL)
  (d23:Def K mg "gain" G8)
  (d24:Def K mg "run" Zav)
  (d25:Def K mg "ties_to" QM)
  (d26:Def K mg "lacking_among" Ws)
  (d27:Def K mg "minus" Jc)
  (d28:Def K mg "overfull" SY)
  (d29:Def K mg "other_end" To)
  (d30:Def K mg "way_out" QO)
  (d31:Def K mg "heads_for" Tp)
  (d32:Def K mg "tree_by" QP)
  (d33:Def K mg "plus" Ff)
  (d34:Def K mg "one_at" N0)
  (d35:Def K mg "made_of" QQ)
  (d36:Def K mg "borrowing" Tq)
  (d37:Def K mg "least" Ji)
  (d38:Def K mg "middle" N1)
  (d39:Def K mg "broken" N2)
  (d40:Def K mg "_law_loops" QR)
  (d41:Def K mg "in_debt" QS)
  (d42:Def K mg "house_to_burn" Wu)
  (d43:Def K mg "burnt" Jj)
  (d44:Def K mg "settle" N3)
  (d45:Def K mg "_law_whole" QU)
  (d46:Def K mg "_law_wholes" S1)
  (d47:Def K mg "_law_lend" N4)
  (d48:Def K mg "is_settled" UB)
  (d49:Def K mg "tree_of" QV)
  (d50:Def K mg "_law_one" Jk)
  (d51:Def K mg "law" Za1)
  : ∃fd:fL,(∀(s:aO)(u:aI),nP s fd ⟨[u],[]⟩ [("_law_script",u)])/\∀base:ba,K.In base->base.Ns cO mg->Pq P w K mg base J6 7 fa fd ["_law_script"] (Y5 K D_law 1):=by
 refine AA d51 hfa (λ_ _ _ _ _ _ _=>rfl) λbase f fd _ _ F=>?_;have C_l_pick:Th P w K mg base:=CC d0 B;have C_l_read_web:Uy P w K mg base:=MY d1 B;have C_l_at:K3 P w K mg base:=Zfa d2 B;have C_p_web:K4 P w K mg base:=Zaq d3 B C_l_at C_l_read_web C_l_pick;have C_l_ties:NK P w K mg base:=CD d4 B;have C_l_tree:NL P w K mg base:=CF d5 B C_l_ties C_l_pick;have C_ties_of:WN P w K mg base:=G0 d6 B;have C_tie_to_look_at:X6 P w K mg base:=RQ d7 B;have C_walked:RP P w K mg base:=CG d8 B C_ties_of C_tie_to_look_at;have C_still_by:SR P w K mg base:=IP d9 B C_walked;have C_pieces_of:Ti P w K mg base:=K9 d10 B;have C_is_tree:QA P w K mg base:=G1 d11 B C_ties_of C_pieces_of;have C_still_of:SS P w K mg base:=IS d12 B C_is_tree C_still_by;have C_total:K5 P w K mg base:=Zas d13 B;have C_loops:K6 P w K mg base:=Zau d14 B C_ties_of;have C_refuse_total:WZ P w K mg base:=PU d15 B C_total C_loops;have C_reduced:QB P w K mg base:=G4 d16 B;have C_evened:NM P w K mg base:=CH d17 B C_reduced;have C_solved_below:W0 P w K mg base:=PX d18 B C_evened;have C_ties_at:T8 P w K mg base:=G6 d19 B;have C_row_of:NN P w K mg base:=CJ d20 B C_ties_at;have C_square_without:X7 P w K mg base:=RS d21 B C_row_of;have C_nearing:T9 P w K mg base:=G7 d22 B C_solved_below C_square_without;have C_gain:GU P w K mg base:=Zfc d23 B;have C_run:EV P w K mg base:=Zjk d24 B C_gain;have C_ties_to:Sa P w K mg base:=Fb d25 B;have C_lacking_among:Wq P w K mg base:=QN d26 B C_ties_to;have C_minus:Og P w K mg base:=Zax d27 B;have C_overfull:SU P w K mg base:=IT d28 B;have C_other_end:Vo P w K mg base:=Je d29 B;have C_way_out:QC P w K mg base:=Fc d30 B C_other_end;have C_heads_for:Tj P w K mg base:=Jf d31 B C_ties_of C_overfull C_way_out C_other_end;have C_tree_by:Sb P w K mg base:=Fe d32 B C_walked;have C_plus:NO P w K mg base:=Zfe d33 B;have C_one_at:NP P w K mg base:=CM d34 B;have C_made_of:QD P w K mg base:=Fg d35 B Z_BASE C_minus C_one_at C_plus C_heads_for C_tree_by;have C_borrowing:Vp P w K mg base:=Jh d36 B;have C_least:Oh P w K mg base:=Zay d37 B;have C_middle:NQ P w K mg base:=CO d38 B C_ties_at;have C_broken:NR P w K mg base:=CP d39 B Z_BASE C_refuse_total C_nearing C_minus C_middle C_run C_lacking_among C_borrowing C_plus C_made_of C_least;have C_p_loops:QE P w K mg base:=Fi d40 B;have C_in_debt:Sd P w K mg base:=Fl d41 B;have C_house_to_burn:Wr P w K mg base:=QT d42 B C_ties_to;have C_burnt:Oi P w K mg base:=Zaz d43 B C_house_to_burn;have C_settle:NS P w K mg base:=CQ d44 B C_nearing C_run C_in_debt C_borrowing C_plus C_burnt C_least;have C_l_whole:QF P w K mg base:=Fo d45 B;have C_l_wholes:SV P w K mg base:=IV d46 B C_l_whole;have C_l_lend:NT P w K mg base:=CS d47 B;have C_is_settled:Uz P w K mg base:=M0 d48 B C_burnt C_in_debt;have C_tree_of:QG P w K mg base:=Fq d49 B C_is_settled C_tree_by;have C_l_one:K7 P w K mg base:=Za0 d50 B C_still_of C_l_wholes C_p_loops C_broken C_l_lend C_settle C_tree_of;exact Zjl F B C_p_web C_l_pick C_l_at C_l_tree C_l_one
end PW
namespace PySem.W.Fast
def tw4568557110485277235:=()
def tw12761213313718421003:=()
def tw8812836070042812102:=()
def tw8782152602832551980:=()
def tw8240382224488735352:=()
def tw8207819139364641829:=()
def tw3920206202896402750:=()
def tw4785217659553265497:=()
def tw15368575763946179786:=()
def tw695992354571977667:=()
def tw15367506362991542202:=()
def tw8853035382684319144:=()
def tw6393953328765848523:=()
def tw14123062133781142106:=()
def tw4551441894067219735:=()
def tw2364330746421353352:=()
def tw7589804929088442895:=()
def tw13466035901969439372:=()
def tw15262804941248135743:=()
def tw4179622002355222978:=()
def tw15466881440262827575:=()
def tw5963009893973476457:=()
def tw355826940578167520:=()
def tw15463020167596354585:=()
def tw7295391521184229610:=()
def tw9411114826287345398:=()
def tw3655537740208811218:=()
def tw3675363141698042902:=()
def tw2655070881790570287:=()
def tw17097679096817177621:=()
def tw5183881548356244319:=()
def tw1784069885286305379:=()
def tw12247664164925275273:=()
def tw7123136977641453003:=()
def tw11328918291340733076:=()
def tw10857472957819232521:=()
def tw9955787820598592246:=()
def tw5379155578801403815:=()
def tw16154590545945991449:=()
def tw6973718740279434304:=()
def tw12335843450235453038:=()
def tw382388446156648077:=()
def tw5642793607536675789:=()
def tw13946824810135065206:=()
def tw8303789134619767495:=()
def tw2305758111735384280:=()
def tw17639341172731814029:=()
def tw1916971606689209974:=()
def tw17674674340021016854:=()
def tw5812654950643742579:=()
def tw3764049324535547562:=()
def tw3899518403274958155:=()
def tw1478327057779949476:=()
def tw9664388601579289329:=()
def tw8332538891179092557:=()
def tw2808561713407447752:=()
def tw3460040953713607811:=()
def tw407041480026195578:=()
def tw6484045368166981153:=()
def tw8118417115398581009:=()
def tw13070611496886178493:=()
def tw10187668202023934772:=()
def tw11616672294848397233:=()
def tw4878807661765905854:=()
def tw10362887115445222498:=()
def tw7369309076417310454:=()
def tw16504459956964768376:=()
def tw17920206248347414862:=()
def tw5556519672159790065:=()
def tw14283249264799779559:=()
def tw12750895202155877026:=()
def tw17905010533243343895:=()
def tw3347475646540610584:=()
def tw14770380026299740963:=()
def tw3397785493869517823:=()
def tw620311096513705133:=()
def tw9597567211337543721:=()
def tw13330653850823557171:=()
def tw17646564013186239265:=()
def tw15600088997620189282:=()
def tw12462406677893820269:=()
def tw17667362729621574180:=()
def tw3884518651065103851:=()
def tw2143887634606816983:=()
def tw15310769767874420264:=()
def tw3883878152846581726:=()
def tw17015675484652807245:=()
def tw16377148292780735541:=()
def tw13013465728751321442:=()
def tw17669852626692206530:=()
def tw12020396183508021827:=()
def tw9532865126810354852:=()
def tw12487132639125899259:=()
def tw15763707860603425447:=()
def tw14930355624675027196:=()
def tw2141540175209892111:=()
def tw5611983023371715519:=()
def tw13274301690036969704:=()
def tw5031781272781464438:=()
def tw16339509269714679503:=()
def tw4416161722523496680:=()
def tw12738833039426405273:=()
def tw4685069237475044315:=()
def tw15042514664109249870:=()
def tw7336160668825767736:=()
def tw11738069616994597902:=()
def tw6919610419239929235:=()
def tw16960437318739445378:=()
def tw16995863496425404703:=()
def tw17500280881267320546:=()
def tw9790582455172769195:=()
def tw17628677860869114984:=()
def tw15554774727742863363:=()
def tw8519591617961819673:=()
def tw1038848516825797983:=()
def tw3444070694678455274:=()
def tw216059827963820031:=()
def tw11541483527806101947:=()
def tw15558895707989783028:=()
def tw11867845709926064103:=()
def tw18160126369153144203:=()
def tw917177032410571341:=()
def tw18348027958263212255:=()
def tw2051381035214890123:=()
def tw5576007649878385558:=()
def tw17984444498164197854:=()
def tw17866739257754727928:=()
def tw11081563027029992957:=()
def tw9799146502486600256:=()
end PySem.W.Fast
open PySem PySem.W PyProof.Rows
set_option maxRecDepth 100000 in
set_option maxHeartbeats 0 in
theorem PySem.Challenge.cw_purseweb_k93_whole_trees_to_break_purses_holds : PySem.Challenge.rw_purseweb_k93_whole_trees_to_break_purses.Holds := by
 w_on;o_law;k_head;(case hw=>w_witness2)
 k_fill
 refine VL.law_walkT (l:=iY) (D:=PW.D_law) (x:="_law_script") 7 rfl rfl ⟨rfl,by decide,by decide,rfl⟩ (λw=>by kernel_rfl) PW.law_true (λw h Y=>PySem.W.km_in_of Y) ?F
 case F=>
  intro w mg fa h KX G hmg
  refine' PW.all_mk hmg ?B ?Z0 ?d0 ?d1 ?d2 ?d3 ?d4 ?d5 ?d6 ?d7 ?d8 ?d9 ?d10 ?d11 ?d12 ?d13 ?d14 ?d15 ?d16 ?d17 ?d18 ?d19 ?d20 ?d21 ?d22 ?d23 ?d24 ?d25 ?d26 ?d27 ?d28 ?d29 ?d30 ?d31 ?d32 ?d33 ?d34 ?d35 ?d36 ?d37 ?d38 ?d39 ?d40 ?d41 ?d42 ?d43 ?d44 ?d45 ?d46 ?d47 ?d48 ?d49 ?d50 ?d51
  case B=>constructor<;>(refine PySem.W.mg_none_of KX G ?_;k_is)
  case Z0=>(refine' PW.cst_mk KX G ?y;(case y=>k_is))
  case d0 | d1 | d2 | d3 | d4 | d5 | d6 | d7 | d8 | d9 | d10 | d11 | d12 | d13 | d14 | d15 | d16 | d17 | d18 | d19 | d20 | d21 | d22 | d23 | d24 | d25 | d26 | d27 | d28 | d29 | d30 | d31 | d32 | d33 | d34 | d35 | d36 | d37 | d38 | d39 | d40 | d41 | d42 | d43 | d44 | d45 | d46 | d47 | d48 | d49 | d50 | d51=>(refine' L2.def_mk KX G ?a ?l ?c ?k;(case a=>k_is);(case l=>k_is);(case c=>k_is);(case k=>k_is))
