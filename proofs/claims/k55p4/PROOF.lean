import PyProof.Rows.All
import Wide.All
import OpenK.AllK
import Wide.FinOn
import Lean
import PyProof.EqAt
import PyProof.EqKinds
import PyProof.TupleCall
import PyProof.NeKinds
import PyProof.ListMulRoad
import PyProof.WalkInts
import PyProof.ListRange
import KE.KRevIter
import KE.KSortTup
import KE.KDictSum
import PyProof.Rows.SortWalk
import PyProof.ExcInit
import PyProof.InstStoreFacts
import OpenK.KMake
import OpenK.KCls
import PyProof.FString2
import PyProof.TupleOfSeq
import KE.KUnpack
import KE.KMinKey
import PySem.Challenge.RW_purseweb_k55_whole_joined_and_back
open Option renaming some → aA,none → aB,bind_some → aO,map_some → bc,isSome_iff_exists → cT,bind → jf,join_some → kF,isSome_map → mH,getD_none → mU,none → ng
open Bool renaming false → aC,true → aD,and_eq_true → ak,false_ne_true → aw,false_eq_true → dR,not_eq_true' → gJ,or_eq_true → gy,eq_iff_iff → jA,not_eq_true → m3,not_false → nS,false_or → nV
open List renaming getElem?_eq_getElem → aE,range → aF,replicate → aG,getD_eq_getElem?_getD → aI,length_map → aK,mem_cons_of_mem → aP,mem_singleton → aR,getElem?_eq_some_iff → aS,size_toArray → aU,getElem?_map → aW,mem_range → aY,map_cons → a9,mem_cons → aa,mem_cons_self → af,length_append → ag,mem_map → ah,map_congr_left → ao,mem_append → aq,nodup_cons → ar,mem_append_left → au,mem_of_getElem? → av,mem_append_right → ay,getElem?_append_left → az,length_cons → bB,length_replicate → bJ,getElem?_append_right → bK,all_eq_true → bO,map_append → bR,length_take → bT,map_map → bV,getElem?_set → bW,sum_cons → bY,lookup_cons → bZ,getElem?_replicate → b7,length_eq_zero_iff → b8,length_set → bp,length_drop → br,length_singleton → bz,getElem_mem → cD,nodup_nil → cG,take_of_length_le → cH,getElem?_eq_none → cK,replicate_succ → cL,mem_filter → cN,find?_cons → cO,length_range → cR,getElem_of_mem → cX,getElem?_range → dC,nodup_append → dG,take_append_of_le_length → dH,zip_cons_cons → dS,take_length → dW,flatten_cons → dZ,append_nil → di,not_mem_nil → dj,getElem?_take_of_lt → dm,map_nil → dq,pairwise_append → dz,pairwise_map → eD,length_pos_iff → eK,getElem?_set_self → eM,drop_eq_nil_of_le → eO,any_eq_true → eU,mem_flatMap → eV,nodup_range → eY,length_nil → fG,getElem?_set_ne → fJ,ext_getElem? → fM,mem_of_mem_take → fN,length_flatMap → fW,find?_eq_none → fg,toArray → fj,concat_eq_append → gE,take_sublist → gG,append_assoc → gH,mem_erase_of_ne → gQ,mem_of_find?_eq_some → gZ,drop_eq_getElem_cons → g0,length_erase_of_mem → gk,of_mem_zip → gq,sum_append → gu,range_succ → gw,take_left' → gz,mem_filterMap → hU,getElem?_drop → hX,filter_append → iB,getElem?_cons_succ → iG,take_add_one → iK,length_pos_of_mem → iM,take_succ → iN,take_succ_eq_append_getElem → iO,take_append_drop → iR,eq_nil_or_concat → iS,cons_append → iV,ext_getElem → iW,all_cons → iY,length → i7,mem_iff_getElem → i9,countP_eq_length_filter → jB,filterMap_cons → jC,flatMap_append → jE,all_map → jJ,foldl → jR,getElem?_zip_eq_some → jZ,pairwise_iff_getElem → j4,map_id → ja,range' → jc,flatMap_cons → jd,mem_range'_1 → je,set_eq_of_length_le → jn,map_take → jw,getElem_inj → jz,getElem?_cons_zero → kB,pairwise_mergeSort → kC,countP_cons → kG,range_succ_eq_map → kW,nil_append → k3,forIn_cons → k4,find?_some → k7,getElem?_zipIdx → kn,mem_of_mem_drop → ko,perm_cons_erase → kq,mergeSort_perm → lW,filter_eq_self → lX,any_cons → l5,ne_nil_of_mem → lq,foldl_append → mJ,map_set → mP,zipIdx_cons → mX,getElem_map → mZ,map_flatMap → m4,foldl_cons → me,zipIdx_nil → mh,lookup_nil → ml,forIn_nil → nM,take_zero → nN,drop_zero → nR,take_nil → nX,drop_nil → nY,map_drop → nZ
open PySem renaming wpAny_bind → aH,Value → aL,Addr → aN,Shared → aQ,starEach → aV,wpAny_pure → aX,wpAny → bA,Str → bH,Program → bQ,Expr → bS,Heap → ba,World → bu,Around → bw,Stmt → bx,foldedSetIterable → cE,mainGlobals → cJ,wpAny_mono → cQ,wpAny_call_entry → cU,wpAny_newObj_type → c9,wpAny_callSpecial?_slot → cf,behindInMarks → cq,bootBuiltins → cw,mem_of_lookup → cz,wpAny_truthy_bool → dD,wpAny_field → dF,compareOp → dc,Obj → df,sizeLine_eq → dh,wpAny_typeNameOfWhole_keyiter → dt,backTo → eI,wpAny_holding → eQ,wpAny_Call_Name_kw → e7,wpAny_seqItems → ee,wpAny_setField_rec → eu,wpAny_passesOwn → fF,binaryOp → fK,cLine → fL,sysModules → fQ,IsPair → fT,wpAny_typeNameOf_keyiter → fU,FuncData → fX,NameKind → fY,Pos → fZ,rawInt → gD,Scope → gK,assignEach → gL,wpAny_ite_false → gx,call_meets → hV,swapsWith → iC,sliceBounds → iE,Builtin → iX,bindArgs → i6,wpAny_updateSeq_pair → i8,wpAny_execs_nil → ij,letOwnedTupleGo → ik,wpAny_loadPart' → ip,codeAny_mono → jG,codeAmong → jO,tupleKind_room_in1 → jS,wpAny_setField → jT,firstArgMember → jU,IsZip → jV,wpAny_binaryOp_repeat_ref → jX,wpAny_dictEntries → j8,wpAny_standAt → jh,pyNext → ji,wpAny_comprehension_free → jj,wpAny_onRaise → jk,wpAny_attempt → jm,wpAny_newList → jq,tupleKind → jy,noFill_tuple_add → kA,builtinsNs → kJ,codeAny → kM,getItem → kO,typeIs_int → kS,closureFor → kT,wpAny_dictEpoch → k5,wpAny_isTrue_Compare1 → k8,wpAny_isOneOf_keyiter → kb,wpAny_newFunctionEnv → kg,PassesOwn → lI,Arguments → lJ,valueAt → lK,notedBy → lM,DictEntry → lP,Env → lZ,seq_tuple_add → l3,isTrue → l7,wpAny_pyIter_tuple → l8,IsPart → lj,CmpOp → lu,BindsTo → mC,concat_meets → mD,seqIndex_neg → mE,callerA → mO,seqItems? → mW,seqIndex_of → m6,atKey → m7,wpAny_letGo → m9,standAt → mv,wpAny_Name → my,pyIter → mz,wpAny_call → nE,bindL → nF,bindC → nH,compEnvC → nJ,wpAny_rule → nK,defaultsOf → nP,Within → n6,Tok → nt
open PySem.W renaming Frag → aJ,fnOf → c0,codeIn → cg,kia_one → cu,kitOne → dY,keepIn → eZ,kla_fn → gO,tabObj → gR,tabIn → iZ,nsIn → jI,envX → jM,methodObj → j6,cellsFrom_some → kN,mem_of_lookupK → kY,instObj → kZ,CodeHd → kc,lookIn → kd,callWith_K → lh,kitx_list → ly,kitx_dict → lz,plainGet → mR,kas_place → mY,binds_K → mj,findIn → nB,noTabs → nQ,mg_of → nW
open PySem.Heap renaming get?_push_of_some → aM,lt_size → aZ,get?_push_size → aj,SameBut → cS,size_push → dJ,get?_update_self → iQ,size_update → kE,get?_update_other → kR,ExtBut → kh,get?_push_ne → mM
open Nat renaming le_refl → aT,lt_of_lt_of_le → bM,ne_of_lt → bU,le_trans → bg,le_of_lt → cZ,zero_le → cj,lt_irrefl → dI,lt_of_le_of_lt → e8,min_eq_left → fH,ne_of_gt → gV,le_add_right → gX,lt_succ_of_lt → iJ,lt_succ_self → iT,min_eq_right → iU,mul_le_mul_right → ig,zero_add → jK,mul_le_mul → jW,add_le_add_left → lU,add_left_cancel → lV,mul_comm → mF,le_succ_of_le → mK,zero_lt_one → mn,strongRecOn → mr
open Option.some renaming inj → bG,injEq → j9
open PySem.Value renaming ref → bP,none → cP,int → gU,type → kH,str → mQ,bool → mw,isStrOf → nU
open Ne renaming symm → bX
open PySem.F renaming plainAttrs_list → b9,slot_list_append → cV,type_list_append → cW,args_tuple_add_2 → gj,entry_tuple_add → iD,slot_tuple_add → iI,slot_list_extend → js,type_list_extend → jt,slot_list_insert → ju,type_list_insert → jv
open True renaming intro → bj
open Int renaming le_refl → bq,toNat_natCast → cF,mul_comm → cM,neg_mul → ck,mul_assoc → dX,mul_zero → da,mul_le_mul_of_nonneg_right → dk,mul_nonneg → du,mul_le_mul_of_nonneg_left → dw,mul_left_comm → fO,zero_mul → fP,emod_lt_of_pos → fm,emod_nonneg → gA,fdiv_eq_ediv_of_nonneg → gM,mul_sub → gS,le_of_mul_le_mul_left → g6,mul_fdiv_cancel_left → gp,le_trans → iP,mul_add → ie,add_zero → jN,eq_of_mul_eq_mul_left → j5,mul_one → j7,one_mul → jb,lt_mul_ediv_self_add → jx,le_of_lt → kX,add_mul → km,natAbs_mul → ky,mul_ediv_self_le → kz,toNat → lT,lt_or_gt_of_ne → lr,lt_trichotomy → mN,mul_neg → md,mul_eq_zero → mq,not_lt → nT,fdiv → nh
open Array renaming length_toList → cA,toList_append → g7,getElem?_eq_getElem → jY,getElem?_eq_none → kI,getElem_toList → ku,toList_inj → mS,toList → n8
open PySem.NameKind renaming free → cB,cell → gC
open PySem.Builtin.SmallTypes renaming nextOf → cC,ownedTupleIsFree → dM,ownedTupleHandOut → g9
open PyProof.Rows renaming callWith_type1 → cI,seqObj → dU,slot_tuple_getitem → fV,envOfC → iH,IntsAre → jH,listUpdate_at → jr,AllBare → kK,subscriptTail_builtinR → kQ,subscriptTail → l4,listItems_at → mL,seqEpoch_at → ma,IsTup → mx,boot_range → nA,Subscript_ → nI,size_push' → nO
open PySem.Obj renaming mapSeq → cY,data_mapFields → iA,isFreed_of_fields → k9,cls_mapFields → mI
open False renaming elim → dN
open Or renaming inl → dQ,inr → kf
open Sum renaming inl → eB,inr → lH
open PySem.Builtin.Slice renaming slicePlaces → fA,sliceAdjust → gY,sliceApplied → jQ
open Classical renaming byContradiction → fC
open PySem.PassesOwn renaming never → fI
open PySem.Builtin.Tuple renaming tupleExact → fR
open PySem.Builtin.List renaming listTooLong → fS,listExtendWith → jL
open ForInStep renaming yield → fu
open PySem.Str renaming ofString → gW
open PySem.Heap.SameBut renaming update → g8
open PySem.Builtin.Int renaming intBits → gh
open PySem.Builtin.Dict_items renaming ownsTuple → iu
open PySem.Challenge renaming pw_purseweb_k55_whole_joined_and_back → jD,rw_purseweb_k55_whole_joined_and_back → jF
open PySem.Calls renaming Name_function_global → jP,call_function_entry → j3,spliced_cons → l9,spliced_nil → mB
open List.Perm renaming eq_of_pairwise → jo
open PySem.W.WData renaming weightAll → kD,int → mV
open PySem.SeqAt renaming EqAt → kU
open PySem.SeqAt.EqAt renaming same → k6,of_refs → lp
open PySem.Builtin.Dict renaming showsAll → ka
open PySem.Around renaming frames_deeper → ke
open Prod.mk renaming inj → kj
open List.cons renaming inj → l6
open PyProof.Rows.IsTup renaming new → mT
open Sum.inl renaming inj → m5
open PySem.Shared renaming heap → m8
open PySem.IsRange renaming new → n9
open PySem.W.KasT renaming ret → nj
theorem oA.{u}{c:Prop}{h:Decidable c}(hc:c){α:Sort u}{t e:α}:ite c t e=t:=if_pos hc
theorem oB.{u}{c:Prop}{h:Decidable c}(hc:Not c){α:Sort u}{t e:α}:ite c t e=e:=if_neg hc
noncomputable section
set_option Elab.async false
set_option linter.all false
set_option maxRecDepth 100000
namespace L2
open PySem PySem.Spec PyProof.Rows
abbrev YV:=Sum Int bH
def MF:YV->aL->Bool
 | .inl k,v=>aL.isInt k v
 | .inr x,v=>nU x v
def Zhy(w:bu):YV->Int
 | .inl k=>hashInt k
 | .inr x=>hashStr w x
theorem YG:∀{k:YV}{v:aL},MF k v=aD->(∃i t,k=eB i/\v=gU i t)\/(∃x t,k=lH x/\v=mQ x t)
 | .inl i,v,h=>by obtain⟨t,e⟩:=aL.isInt_shape (k:=i) (v:=v) h;exact .inl ⟨i,t,rfl,e⟩
 | .inr x,v,h=>by obtain⟨t,e⟩:=aL.isStrOf_shape (x:=x) (v:=v) h;exact .inr ⟨x,t,rfl,e⟩
theorem Ej(i:Int)(t:nt):MF (.inl i) (.int i t)=aD:=by simp[MF,aL.isInt]
theorem Ek(x:bH)(t:nt):MF (.inr x) (.str x t)=aD:=by simp[MF,nU]
theorem Zc5(a b:Int):decide ((eB a:YV)=eB b)=(a==b):=by
 by_cases e:a=b
 ·subst e;simp
 ·have h:¬(eB a:YV)=eB b:=λq=>e (m5 q);rw[decide_eq_false h];exact(beq_eq_false_iff_ne.mpr e).symm
theorem Zc6(a b:bH):decide ((lH a:YV)=lH b)=decide (a=b):=by
 by_cases e:a=b
 ·subst e;simp
 ·have h:¬(lH a:YV)=lH b:=λq=>e (lH.inj q);rw[decide_eq_false h,decide_eq_false e]
theorem Zc7(a:Int)(b:bH):decide ((eB a:YV)=lH b)=aC:=decide_eq_false (λq=>nomatch q)
theorem Zc8(a:bH)(b:Int):decide ((lH a:YV)=eB b)=aC:=decide_eq_false (λq=>nomatch q)
noncomputable def YZ(prog:bQ)(w:bu):PySem.KeyKind prog w YV where
 is:=MF
 hash:=Zhy w
 inj:=λv a b ha hb=>by
  rcases YG ha with⟨i,t,rfl,rfl⟩ | ⟨x,t,rfl,rfl⟩
  ·rcases YG hb with⟨j,u,rfl,e⟩ | ⟨y,u,rfl,e⟩
   ·injection e with e1 _;rw[e1]
   ·exact nomatch e
  ·rcases YG hb with⟨j,u,rfl,e⟩ | ⟨y,u,rfl,e⟩
   ·exact nomatch e
   ·injection e with e1 _;rw[e1]
 byValue:=λk v h=>by rcases YG h with⟨i,t,rfl,rfl⟩ | ⟨x,t,rfl,rfl⟩<;>rfl
 pyHash:=λhv h=>by
  rcases YG hv with⟨i,t,rfl,rfl⟩ | ⟨x,t,rfl,rfl⟩
  ·exact wpAny_pyHash_int h
  ·exact wpAny_pyHash_str h
 eqBool:=λhu hv h=>by
  rcases YG hu with⟨i,t,rfl,rfl⟩ | ⟨x,t,rfl,rfl⟩
  ·rcases YG hv with⟨j,u,rfl,rfl⟩ | ⟨y,u,rfl,rfl⟩
   ·rw[Zc5] at h;exact wpAny_eqBool_int h
   ·rw[Zc7] at h;exact kU.int_str i t y u _ _ _ _ h
  ·rcases YG hv with⟨j,u,rfl,rfl⟩ | ⟨y,u,rfl,rfl⟩
   ·rw[Zc8] at h;exact kU.str_int x t j u _ _ _ _ h
   ·rw[Zc6] at h;exact wpAny_eqBool_str h
 «strs»:=λk x t v h=>by
  rcases YG h with⟨i,u,rfl,e⟩ | ⟨y,u,rfl,e⟩
  ·exact nomatch e
  ·injection e with e1 _;subst e1;cases v<;>rfl
theorem K6(prog:bQ)(w:bu)(i:Int)(t:nt):(YZ prog w).is (.inl i) (.int i t)=aD:=Ej i t
theorem K7(prog:bQ)(w:bu)(x:bH)(t:nt):(YZ prog w).is (.inr x) (.str x t)=aD:=Ek x t
inductive V where
 | non | bl (b:Bool) | int (i:Int) | str (x:bH) | byt (b:Array UInt8) | flt (b:UInt64) | ref (a:aN) | ty (n:String)
 deriving DecidableEq
def RelV:V->aL->Prop
 | .non,u=>u=cP
 | .bl b,u=>u=mw b
 | .int i,u=>∃t,u=gU i t
 | .str x,u=>∃t,u=mQ x t
 | .byt b,u=>∃t,u=aL.bytes b t
 | .flt b,u=>∃t,u=aL.float b t
 | .ref a,u=>u=bP a
 | .ty n,u=>u=kH n
abbrev Vals:List V->List aL->Prop:=Paired RelV
theorem Vals.length{xs:List V}{us:List aL}(r:Vals xs us):xs.length=us.length:=Paired.length r
theorem Vals.get:∀{xs:List V}{us:List aL}{i:Nat}{x:V},Vals xs us->xs[i]?=aA x->∃u,us[i]?=aA u/\RelV x u
 | _,_,_,_,.nil,e=>by simp at e
 | _,_,0,_,.cons r _,e=>by simp at e;subst e;exact⟨_,rfl,r⟩
 | _,_,i+1,x,.cons _ t,e=>by obtain⟨u,h1,h2⟩:=Vals.get (i:=i) (x:=x) t (by simpa using e);exact⟨u,by simpa using h1,h2⟩
theorem Vals.set{x:V}{u:aL}(r:RelV x u):∀{xs:List V}{us:List aL}(i:Nat),Vals xs us->Vals (xs.set i x) (us.set i u)
 | _,_,_,.nil=>.nil
 | _,_,0,.cons _ t=>.cons r t
 | _,_,i+1,.cons q t=>.cons q (Vals.set r i t)
theorem Vals.append:∀{xs ys:List V}{us ws:List aL},Vals xs us->Vals ys ws->Vals (xs++ys) (us++ws)
 | _,_,_,_,.nil,s=>s
 | _,_,_,_,.cons r t,s=>.cons r (Vals.append t s)
theorem Vals.take:∀{xs:List V}{us:List aL}(n:Nat),Vals xs us->Vals (xs.take n) (us.take n)
 | _,_,0,_=>.nil
 | _,_,_+1,.nil=>.nil
 | _,_,n+1,.cons r t=>.cons r (Vals.take n t)
theorem Vals.drop:∀{xs:List V}{us:List aL}(n:Nat),Vals xs us->Vals (xs.drop n) (us.drop n)
 | _,_,0,r=>r
 | _,_,_+1,.nil=>.nil
 | _,_,n+1,.cons _ t=>Vals.drop n t
def RelO:Option V->Option aL->Prop
 | some v,aA u=>RelV v u
 | none,aB=>True
 | _,_=>False
def KV{κ:Type}:List (κ×V)->List (κ×aL)->Prop:=Paired λ(p:κ×V) (q:κ×aL)=>p.1=q.1/\RelV p.2 q.2
noncomputable def kV:YV->V
 | .inl i=>.int i
 | .inr x=>.str x
inductive HO where
 /-- a list -/
 | lst (xs:List V)
 /-- a tuple (never changes) -/
 | tup (xs:List V)
 /-- a dict whose keys are ints and texts;one whose keys are tuples of ints and texts (the empty one is both) -/
 | dK (o4:List (YV×V)) | dT (o4:List (List YV×V))
 /-- a set of ints: o9 members,o9 size -/
 | set (S:Int->Bool) (n:Nat)
 /-- an instance of the class at C,o9 dict at dx,o9 attributes -/
 | ins (C dx:aN) (fs:List (bH×V))
 /-- the dict of the instance at x -/
 | own (x:aN)
 /-- the dict of an exception -/
 | xd (fs:List (bH×V))
 /-- a bound method,f of x -/
 | met (f x:aN)
 /-- a range object lo,lo+1,.. below hi -/
 | rng (lo hi:Int)
 /-- a thing that is known to the object (the script;a dict while a loop walks it): read,never written while it is so -/
 | frz (o:df) (u:HO)
 /-- a code object's table -/
 | tbl (ps:Array aL)
 /-- any other thing,by what is aD of o9 one object (a def of one's own: SetO a S n:=HO.ext λh=>..) -/
 | ext (φ:ba->Prop)
abbrev Hp:=aN->Option HO
def upd(H:Hp)(a:aN)(o:HO):Hp:=λb=>if b=a then aA o else H b
theorem upd_same{H:Hp}{a:aN}{o:HO}:upd H a o a=aA o:=by unfold upd;rw[oA rfl]
theorem upd_ne{H:Hp}{a b:aN}{o:HO}(h:b≠a):upd H a o b=H b:=by unfold upd;rw[oB h]
theorem Zfq{H:Hp}{a b:aN}{o u:HO}(h:H a=aA o)(h':H b=aA u)(d:o≠u):a≠b:=by intro e;subst e;rw[h] at h';exact d (bG h')
theorem Zm{H:Hp}{a b:aN}{o:HO}(h:H a=aA o)(h':H b=aB):a≠b:=by intro e;subst e;rw[h] at h';cases h'
noncomputable def PF(x:bH):Bool:=x=="tree_of" || x=="still_by" || x=="made_of"
noncomputable def Ot(x:bH):bH:=x++".<locals>."++"<lambda>"
def IS(o:df)(q:bH):Prop:=∃vs t,o.data = .fields vs/\vs[1]?=aA (.str q t)
def Zfr(q:bH)(H:Hp)(ps:List aL):Prop:=TriplesOk ps/\∀pos v,jO pos ps=aA v->∃c o,v = .ref c/\H c=aA (.frz o (.own 0))/\IS o q
theorem Ou{h:ba}{T:aL}{xs:Array aL}{n:Nat}{o:df}(e:(h.push { cls:=T,data:=.seq xs n }).get? h.objs.size=aA o):o.dict=aB:=by rw[aj _ rfl] at e;cases e;rfl
section
variable (P:bQ) (w:bu)
def ObjOk(H:Hp)(h:ba)(a:aN):HO->Prop
 | .lst xs=>xs.length<=sizeLine/\∃(o9:List aL) (n:Nat),Vals xs o9/\h.get? a=aA { cls:=.type "list",data:=.seq o9.toArray n }
 | .tup xs=>(xs.length<=sizeLine/\∀o,h.get? a=aA o->o.dict=aB)/\∃o9:List aL,Vals xs o9/\mx h a o9.toArray
 | .dK o4=>o4.length<=sizeLine/\(a==fQ)=aC/\∃vs,KV o4 vs/\h.DictOf (YZ P w) a vs
 | .dT o4=>o4.length<=sizeLine/\(a==fQ)=aC/\∃xs:List (List YV×aN×aL),
   Paired (λ(p:List YV×V) (q:List YV×aN×aL)=>p.1=q.1/\H q.2.1=aA (.tup (p.1.map kV))/\RelV p.2 q.2.2) o4 xs/\
   ∃o es ep,h.get? a=aA o/\o.ExactDict/\o.data = .dict es ep/\es.toList=xs.map (entryOfKey (jy (YZ P w)))/\(xs.map (·.1)).Nodup
 | .set S n=>h.SetOf (intKind P w) a S n
 | .ins C dx fs=>H dx=aA (.own a)/\fs.length<=1000/\dx≠a/\h.get? a=aA (kZ C dx)/\
   ∃mA,h.Ns1 dx mA/\(∀f,RelO (fs.lookup f) (mA f))/\n6 mA (fs.map (·.1))
 | .own _=>∃o,h.get? a=aA o
 | .xd fs=>∃mA,h.Ns1 a mA/\∀f,RelO (fs.lookup f) (mA f)
 | .rng lo hi=>∃t u v,h.get? a=aA { cls:=.type "range",data:=.fields #[.int lo t,.int hi u,.int 1 v] }
 | .frz o u=>h.get? a=aA o/\ObjOk H h a u
 | .tbl ps=>∃(q:bH) (t:nt) (ps':Array aL),ps[0]?=aA (.str q t)/\h.get? a=aA { cls:=.none,data:=.fields ps' }/\Zfr q H ps'.toList
 | .met f x=>h.get? a=aA (j6 (.ref f) (.ref x))
 | .ext φ=>φ h/\(∃o,h.get? a=aA o)/\∀h1 h2:ba,φ h1->(∀o,h1.get? a=aA o->h2.get? a=aA o)->φ h2
def HOk(H:Hp)(h:ba):Prop:=∀a o,H a=aA o->ObjOk P w H h a o
end
section
variable {P:bQ} {w:bu} {H H':Hp} {h h':ba} {a:aN} {o:HO}
theorem ObjOk.lt(x:ObjOk P w H h a o):a<h.objs.size:=by
 cases o with
 | lst xs=>obtain⟨_,_,_,_,e⟩:=x;exact aZ e
 | tup xs=>obtain⟨_,_,_,p⟩:=x;exact p.lt
 | dK o4=>obtain⟨_,_,_,_,o,_,_,e,_⟩:=x;exact aZ e
 | dT o4=>obtain⟨_,_,_,_,o,_,_,e,_⟩:=x;exact aZ e
 | set S n=>obtain⟨o,_,_,_,e,_⟩:=x;exact aZ e
 | ins C dx fs=>obtain⟨_,_,_,e,_⟩:=x;exact aZ e
 | own y=>obtain⟨_,e⟩:=x;exact aZ e
 | xd fs=>obtain⟨_,⟨_,_,_,e,_⟩,_⟩:=x;exact aZ e
 | rng lo hi=>obtain⟨_,_,_,e⟩:=x;exact aZ e
 | frz ob u=>obtain⟨e,_⟩:=x;exact aZ e
 | tbl ps=>obtain⟨_,_,_,_,e,_⟩:=x;exact aZ e
 | met f y=>exact aZ (show h.get? a=aA _ from x)
 | ext φ=>obtain⟨_,⟨_,e⟩,_⟩:=x;exact aZ e
theorem Paired.mapP{α β:Type}{F G:α->β->Prop}:∀{l₁:List α}{l₂:List β},Paired F l₁ l₂->(∀a b,F a b->G a b)->Paired G l₁ l₂
 | _,_,.nil,_=>.nil
 | _,_,.cons r t,f=>.cons (f _ _ r) (Paired.mapP t f)
theorem ObjOk.stay(x:ObjOk P w H h a o)(k:∀b u,(b=a\/H b=aA (.own a))->h.get? b=aA u->h'.get? b=aA u)
  (ho:∀b,H b=aA (.own a)->H' b=aA (.own a)) (ht:∀b xs,H b=aA (.tup xs)->H' b=aA (.tup xs)) (hf:∀b u,H b=aA (.frz u (.own 0))->H' b=aA (.frz u (.own 0))):ObjOk P w H' h' a o:=by
 induction o with
 | lst xs=>obtain⟨z,o9,n,r,e⟩:=x;exact⟨z,o9,n,r,k _ _ (.inl rfl) e⟩
 | tup xs=>obtain⟨z,o9,r,ob,e,c⟩:=x;exact⟨⟨z.1,λo q=>by rw[k _ _ (.inl rfl) e] at q;cases q;exact z.2 _ e⟩,o9,r,ob,k _ _ (.inl rfl) e,c⟩
 | dK o4=>obtain⟨z,y,vs,r,ob,es,ep,e,c⟩:=x;exact⟨z,y,vs,r,ob,es,ep,k _ _ (.inl rfl) e,c⟩
 | dT o4=>
  obtain⟨z,y,xs,r,ob,es,ep,e,c⟩:=x;exact⟨z,y,xs,Paired.mapP r λp q z=>⟨z.1,ht _ _ z.2.1,z.2.2⟩,ob,es,ep,k _ _ (.inl rfl) e,c⟩
 | set S n=>obtain⟨ob,es,ep,t,e,c⟩:=x;exact⟨ob,es,ep,t,k _ _ (.inl rfl) e,c⟩
 | ins C dx fs=>
  obtain⟨d,z,ne,e,mA,⟨od,es,ep,e2,c⟩,r⟩:=x;exact⟨ho _ d,z,ne,k _ _ (.inl rfl) e,mA,⟨od,es,ep,k _ _ (.inr d) e2,c⟩,r⟩
 | own y=>obtain⟨ob,e⟩:=x;exact⟨ob,k _ _ (.inl rfl) e⟩
 | xd fs=>obtain⟨mA,⟨od,es,ep,e,c⟩,r⟩:=x;exact⟨mA,⟨od,es,ep,k _ _ (.inl rfl) e,c⟩,r⟩
 | rng lo hi=>obtain⟨t,u,v,e⟩:=x;exact⟨t,u,v,k _ _ (.inl rfl) e⟩
 | frz ob u ih=>obtain⟨e,q⟩:=x;exact⟨k _ _ (.inl rfl) e,ih q⟩
 | tbl ps=>
  obtain⟨q,t,ps',e0,e,t1,t2⟩:=x;refine⟨q,t,ps',e0,k a _ (.inl rfl) e,t1,λpos v hv=>?_⟩;obtain⟨c,o,e1,e2,e3⟩:=t2 pos v hv;exact⟨c,o,e1,hf c o e2,e3⟩
 | met f y=>
  have e:h.get? a=aA (j6 (.ref f) (.ref y)):=x;show h'.get? a=aA (j6 (.ref f) (.ref y));exact k a _ (.inl rfl) e
 | ext φ=>obtain⟨p,⟨o,e⟩,st⟩:=x;exact⟨st _ _ p λo q=>k _ _ (.inl rfl) q,⟨o,k _ _ (.inl rfl) e⟩,st⟩
theorem HOk.lt(x:HOk P w H h)(e:H a=aA o):a<h.objs.size:=(x a o e).lt
theorem HOk.fresh(x:HOk P w H h)(e:h.objs.size<=a):H a=aB:=by
 cases q:H a with
 | none=>rfl
 | some u=>exact absurd (bM (x.lt q) e) (dI _)
theorem HOk.kept(x:HOk P w H h)(k:∀b u,h.get? b=aA u->h'.get? b=aA u):HOk P w H h':=λa o e=>
 (x a o e).stay (λb u _ q=>k b u q) (λ_ q=>q) (λ_ _ q=>q) λ_ _ q=>q
theorem HOk.laid(x:HOk P w H h)(k:∀b u,h.get? b=aA u->h'.get? b=aA u)(hp:h.objs.size<=a)(new:ObjOk P w (upd H a o) h' a o):HOk P w (upd H a o) h':=λb u e=>by
 have hn:=x.fresh hp;by_cases hb:b=a
 ·subst hb;rw[upd_same] at e;cases e;exact new
 ·rw[upd_ne hb] at e;exact(x b u e).stay (λc v _ q=>k c v q) (λc q=>by rw[upd_ne (Zm q hn)];exact q) (λc xs q=>by rw[upd_ne (Zm q hn)];exact q) λc u q=>by rw[upd_ne (Zm q hn)];exact q
end
def Rd(H:Hp)(a:aN)(u:HO):Prop:=H a=aA u\/∃o,H a=aA (.frz o u)
theorem Rd.ok{P:bQ}{w:bu}{H:Hp}{h:ba}{a:aN}{u:HO}(r:Rd H a u)(x:HOk P w H h):ObjOk P w H h a u:=by
 rcases r with r | ⟨o,r⟩
 ·exact x a u r
 ·obtain⟨_,q⟩:=x a _ r;exact q
def Ue:Option HO->Prop
 | some (.lst _)=>True
 | some (.dK _)=>True
 | some (.dT _)=>True
 | some (.set _ _)=>True
 | some (.ins _ _ _)=>True
 | some (.ext _)=>True
 | _=>False
section
variable {P:bQ} {w:bu} {H:Hp} {h h':ba} {x e:aN} {o':HO}
theorem HOk.write(ok:HOk P w H h)(mu:Ue (H x))(he:e=x\/H e=aA (.own x))(k:∀b u,b≠e->h.get? b=aA u->h'.get? b=aA u)(heo:∃u,h'.get? e=aA u)
  (new:ObjOk P w (upd H x o') h' x o'):HOk P w (upd H x o') h':=λb u q=>by
 have nown:∀c y,H c=aA (.own y)->c≠x:=λc y r z=>by subst z;rw[r] at mu;exact mu
 have ntup:∀c xs,H c=aA (.tup xs)->c≠x:=λc xs r z=>by subst z;rw[r] at mu;exact mu
 by_cases hb:b=x
 ·subst hb;rw[upd_same] at q;cases q;exact new
 ·rw[upd_ne hb] at q;by_cases hbe:b=e
  ·have q':H b=aA (.own x):=by
    rcases he with z | z
    ·exact absurd (hbe.trans z) hb
    ·rw[hbe];exact z
   rw[q] at q';cases q';obtain⟨v,hv⟩:=heo;exact⟨v,by rw[hbe];exact hv⟩
  ·refine(ok b u q).stay (λc v hc r=>k c v ?_ r) (λc r=>by rw[upd_ne (nown c b r)];exact r) (λc xs r=>by rw[upd_ne (ntup c xs r)];exact r) λc v r=>by rw[upd_ne (λz=>by subst z;rw[r] at mu;exact mu)];exact r
   rcases hc with rfl | hc
   ·exact hbe
   ·rintro rfl;rcases he with z | z
    ·exact nown c b hc z
    ·rw[hc] at z;cases z;exact hb rfl
end
structure Un(fs ex:List aN)(H H':Hp)(h h':ba):Prop where
 keep:∀b o,h.get? b=aA o->H b=aB->b∉fs->b∉ex->h'.get? b=aA o
 slot:∀b o,h.get? b=aA o->H b=aB->b∈fs->b∉ex->∃sl,h'.get? b=aA { o with slots:=sl }
 free:∀b o,h.get? b=aA o->H b=aB->b∉ex->H' b=aB
 there:∀b o,h.get? b=aA o->b∉ex->∃o',h'.get? b=aA o'
 tups:∀b xs,H b=aA (.tup xs)->H' b=aA (.tup xs)
 frzs:∀b o u,H b=aA (.frz o u)->H' b=aA (.frz o u)
 tbls:∀b ps,H b=aA (.tbl ps)->∃more,H' b=aA (.tbl (ps++more))
section
variable {fs fs' ex ex':List aN} {H H1 H2:Hp} {h h1 h2 h':ba} {a x e:aN} {o:HO}
theorem Un.any(u:Un fs ex H H1 h h1){b:aN}{ob:df}(q:h.get? b=aA ob)(n:H b=aB)(hx:b∉ex):∃sl,h1.get? b=aA { ob with slots:=sl }:=by
 by_cases hb:b∈fs
 ·exact u.slot b ob q n hb hx
 ·exact⟨ob.slots,u.keep b ob q n hb hx⟩
theorem Un.kept(k:∀b u,h.get? b=aA u->h'.get? b=aA u):Un fs ex H H h h':=
 ⟨λb ob q _ _ _=>k b ob q,λb ob q _ _ _=>⟨ob.slots,k b ob q⟩,λ_ _ _ n _=>n,λb ob q _=>⟨ob,k b ob q⟩,λ_ _ q=>q,λ_ _ _ q=>q,λ_ ps q=>⟨#[],by rw[q];simp⟩⟩
theorem Un.refl:Un fs ex H H h h:=Un.kept λ_ _ q=>q
theorem Un.laid(k:∀b u,h.get? b=aA u->h'.get? b=aA u)(hp:h.objs.size<=a)(hn:H a=aB):Un fs ex H (upd H a o) h h' where
 keep:=λb u q _ _ _=>k b u q
 slot:=λb u q _ _ _=>⟨u.slots,k b u q⟩
 free:=λb u q n _=>by rw[upd_ne (bU (bM (aZ q) hp))];exact n
 there:=λb u q _=>⟨u,k b u q⟩
 tups:=λb xs q=>by rw[upd_ne (Zm q hn)];exact q
 frzs:=λb u xs q=>by rw[upd_ne (Zm q hn)];exact q
 tbls:=λb ps q=>⟨#[],by rw[upd_ne (Zm q hn),q];simp⟩
theorem Un.write(mu:Ue (H x))(he:e=x\/H e=aA (.own x))(k:∀b u,b≠e->h.get? b=aA u->h'.get? b=aA u)(heo:∃u,h'.get? e=aA u):Un fs ex H (upd H x o) h h':=by
 have hx:∀b,H b=aB->b≠x:=λb n z=>by subst z;rw[n] at mu;exact mu
 have hb:∀b,H b=aB->b≠e:=λb n z=>by
  subst z;rcases he with r | r
  ·exact hx b n r
  ·rw[n] at r;cases r
 have hm:∀b u,H b=aA u->¬Ue (aA u)->b≠x:=λb u q nm z=>by subst z;rw[q] at mu;exact nm mu
 refine⟨λb u q n _ _=>k b u (hb b n) q,λb u q n _ _=>⟨u.slots,k b u (hb b n) q⟩,λb u q n _=>by rw[upd_ne (hx b n)];exact n,λb u q _=>?_,
  λb xs q=>by rw[upd_ne (hm b _ q λz=>z)];exact q,λb u xs q=>by rw[upd_ne (hm b _ q λz=>z)];exact q,λb ps q=>⟨#[],by rw[upd_ne (hm b _ q λz=>z),q];simp⟩⟩
 by_cases hbe:b=e
 ·subst hbe;exact heo
 ·exact⟨u,k b u hbe q⟩
end
def TabsH(K:aJ)(mg:bH->Option aL)(base:ba)(H:Hp):Prop:=∀(q:bH)(c:aN),PF q=aD->cg K (.ref c) q=aD->
 ∃Pt ps t,kc base c Pt/\H Pt=aA (.tbl ps)/\ps[0]?=aA (.str (Ot q) t)/\base.BuiltinsAt mg Pt
theorem TabsH.un{K:aJ}{mg:bH->Option aL}{base:ba}{fs ex:List aN}{H H':Hp}{h h':ba}(t:TabsH K mg base H)(u:Un fs ex H H' h h'):TabsH K mg base H':=λq c hq hc=>by
 obtain⟨Pt,ps,tk,e1,e2,e3,e4⟩:=t q c hq hc;obtain⟨more,e5⟩:=u.tbls Pt ps e2
 have hlt:0<ps.size:=by
  cases z:ps.size with
  | zero=>rw[kI (by omega)] at e3;cases e3
  | succ n=>omega
 exact⟨Pt,_,tk,e1,e5,by rw[Array.getElem?_append_left hlt];exact e3,e4⟩
def trk(h:ba)(H:Hp):List aN:=(aF h.objs.size).filter λa=>(H a).isSome
def Mj(h:ba)(H:Hp):ba:=PySem.W.hideAll h (trk h H)
theorem El(h:ba)(H:Hp):(Mj h H).objs.size=h.objs.size:=PySem.W.hideAll_size _ _
theorem DT{h:ba}{H:Hp}{b:aN}{o:df}(e:h.get? b=aA o)(n:H b=aB):(Mj h H).get? b=aA o:=
 PySem.W.hideAll_get _ e λhm=>by have q:(H b).isSome=aD:=(cN.mp hm).2;rw[n] at q;simp at q
theorem AB{h:ba}{H:Hp}{b:aN}{o:df}(e:(Mj h H).get? b=aA o):h.get? b=aA o/\H b=aB:=by
 have e':h.get? b=aA o:=PySem.W.of_hideAll (trk h H) e;refine⟨e',?_⟩
 cases q:H b with
 | none=>rfl
 | some x=>
  have hm:b∈trk h H:=cN.mpr ⟨aY.mpr (aZ e'),by simp[q]⟩;have z:(Mj h H).get? b=aB:=PySem.W.hideAll_none (trk h H) hm;rw[z] at e;cases e
noncomputable def AD(g h:ba)(L:aN):List (aN×df):=(aF h.objs.size).filterMap λa=>if a=L\/(g.get? a).isSome=aD then aB else(h.get? a).map λo=>(a,o)
def Zu(g h:ba)(L d:aN):List (aN×df):=(AD g h L).filter λp=>decide (p.1≠d)
structure Mod(K:aJ)(mg:bH->Option aL)(base:ba):Prop where
 kin:K.In base
 glob:base.Ns cJ mg
 blt:∃mb,base.Ns kJ mb/\∀x:bH,x≠"__name__"->mb x=cw x
 nolimit:base.NoLimit
structure Cx where
 prog:bQ
 w:bu
 K:aJ
 mg:bH->Option aL
 base:ba
 A:bw
 N:List bH
 s₀:aQ
 H₀:Hp
 env:lZ
 outer:List lZ
 stack:List lZ
 ex:List aN
 fn:bH->Bool
 calm:Bool
 pn:List (aN×df)
 xe:aL->aQ->Prop
def Lz(l:List lZ):List aN:=l.filterMap (·.frame)
abbrev Cx.fs(X:Cx):List aN:=Lz X.outer
def Vis(sc:gK)(x:bH):Prop:=sc.names.lookup x=aA .local\/sc.names.lookup x=aA .cell\/sc.names.lookup x=aA .free
def AE(sc:gK)(x:bH):Prop:=sc.names.lookup x=aA .local\/sc.names.lookup x=aA .cell
def Zhz(env:lZ)(h:ba)(m:bH->Option aL)(x:bH)(u:aL):Prop:=
 (env.kindOf x=aA .local/\m x=aA u)\/((env.kindOf x=aA .cell\/env.kindOf x=aA .free)/\∃c,env.cells.lookup x=aA c/\h.IsCell c (aA u))
structure Cx.Ok(X:Cx):Prop where
 mod:Mod X.K X.mg X.base
 kind:X.env.scope.kind = .function
 glob:X.env.globals=cJ
 blt:X.env.builtins=kJ
 above:X.s₀.heap.objs.size<=X.env.locals
 inj:∀x y c,X.env.cells.lookup x=aA c->X.env.cells.lookup y=aA c->x=y
 has:∀x,(X.env.kindOf x=aA .cell\/X.env.kindOf x=aA .free)->∃c,X.env.cells.lookup x=aA c
 cab:∀x c,X.fn x=aD->X.env.cells.lookup x=aA c->X.s₀.heap.objs.size<=c
 hd:X.calm=aD->X.A.handled=aB
 frames:X.A.frames=aA X.stack
 stk:X.stack=X.outer\/(X.stack=X.env::X.outer/\X.env.frame=aA X.env.locals)
 exf:∀b∈X.ex,b≠X.env.locals/\∀x c,X.env.cells.lookup x=aA c->c≠b
 bs:∀b o,X.base.get? b=aA o->X.s₀.heap.get? b=aA o/\X.H₀ b=aB
 bsz:X.base.objs.size<=X.s₀.heap.objs.size
 noex:∀b o,X.base.get? b=aA o->b∉X.ex
 exfs:∀b∈X.ex,b∉X.fs
 funs:X.s₀.heap.FunFrames X.base X.outer
 frf:∀b∈X.fs,X.H₀ b=aB
 tab:TabsH X.K X.mg X.base X.H₀
 cod:∀q:bH,X.env.func≠aB->X.env.qual=q++".<locals>."->PF q=aD->cg X.K X.env.code q=aD
structure Inv(X:Cx)(nu:List (aN×df))(σ:List (Option V))(H:Hp)(s:aQ):Prop where
 ok:X.Ok
 os:s.os=X.s₀.os
 bare:kK s.gens
 base:Un X.fs X.ex X.H₀ H X.s₀.heap s.heap
 loc:∃m,s.heap.Ns X.env.locals m/\∀(i:Nat)(x:bH)(v:V),X.N[i]?=aA x->σ[i]?=aA (aA v)->Vis X.env.scope x->∃u,RelV v u/\Zhz X.env s.heap m x u
 cell:∀x c,X.env.cells.lookup x=aA c->∃v,s.heap.IsCell c v
 free:H X.env.locals=aB
 freeC:∀x c,X.env.cells.lookup x=aA c->H c=aB
 pin:∀p∈X.pn++nu,s.heap.get? p.1=aA p.2/\H p.1=aB/\p.1≠X.env.locals/\p.1∉X.fs/\∀v,p.2.data≠.cell v
 hok:HOk X.prog X.w H s.heap
 len:σ.length=X.N.length
section
variable {X:Cx} {nu:List (aN×df)} {σ:List (Option V)} {H H':Hp} {s:aQ} {h':ba}
theorem Cx.Ok.nofr(ok:X.Ok){b:aN}{o:df}(e:X.base.get? b=aA o):b∉X.fs:=λhb=>by have:=(ok.funs.mem hb).1;rw[e] at this;cases this
theorem Inv.bs(I:Inv X nu σ H s):∀b o,X.base.get? b=aA o->s.heap.get? b=aA o/\H b=aB:=λb o e=>
 ⟨I.base.keep b o (I.ok.bs b o e).1 (I.ok.bs b o e).2 (I.ok.nofr e) (I.ok.noex b o e),I.base.free b o (I.ok.bs b o e).1 (I.ok.bs b o e).2 (I.ok.noex b o e)⟩
theorem Inv.bk(I:Inv X nu σ H s):∀b o,X.base.get? b=aA o->s.heap.get? b=aA o:=λb o e=>(I.bs b o e).1
theorem Inv.mod(I:Inv X nu σ H s):Mod X.K X.mg X.base:=I.ok.mod
theorem Inv.kIn(I:Inv X nu σ H s):X.K.In s.heap:=I.ok.mod.kin.keeps I.bk
theorem Inv.fr(I:Inv X nu σ H s):∃m,Fr X.base X.env.locals s.heap m:=
 let⟨m,hn,_⟩:=I.loc
 ⟨m,hn,I.bk,bg I.ok.bsz I.ok.above⟩
theorem Inv.lt(I:Inv X nu σ H s):X.env.locals<s.heap.objs.size:=let⟨_,hn,_⟩:=I.loc;hn.lt
theorem Inv.sz(I:Inv X nu σ H s):X.s₀.heap.objs.size<=s.heap.objs.size:=bg I.ok.above (cZ I.lt)
theorem Inv.nofs(I:Inv X nu σ H s){a:aN}(h:s.heap.objs.size<=a):a∉X.fs:=λhb=>by obtain⟨_,o,ho,_⟩:=I.ok.funs.mem hb;exact absurd (bM (aZ ho) (bg I.sz h)) (dI _)
theorem Inv.cne(I:Inv X nu σ H s):∀x c,X.env.cells.lookup x=aA c->c≠X.env.locals:=λx c e z=>by obtain⟨v,o,ho,hd⟩:=I.cell x c e;obtain⟨m,⟨o',es,ep,ho',hd',_⟩,_⟩:=I.loc;rw[z,ho'] at ho;cases ho;rw[hd'] at hd;cases hd
theorem Inv.funs(I:Inv X nu σ H s):s.heap.FunFrames X.base X.outer:=by
 have all:∀(l:List lZ),(∀b∈Lz l,b∈X.fs)->X.s₀.heap.FunFrames X.base l->s.heap.FunFrames X.base l:=by
  intro l
  induction l with
  | nil=>intro _ _;trivial
  | cons env r ih=>
   intro hs hl;obtain⟨hk,⟨L,o,hf,hn,ho,hd⟩,hr⟩:=hl;have hL:L∈X.fs:=hs L (by unfold Lz;rw[jC,hf];exact af);obtain⟨sl,e⟩:=I.base.slot L o ho (I.ok.frf L hL) hL λz=>I.ok.exfs L z hL;exact⟨hk,⟨L,_,hf,hn,e,hd⟩,ih (λb hb=>hs b (by unfold Lz;rw[jC,hf];exact aP _ hb)) hr⟩
 exact all X.outer (λ_ hb=>hb) I.ok.funs
theorem Inv.stack(I:Inv X nu σ H s):s.heap.FunFrames X.base X.stack:=by
 rcases I.ok.stk with e | ⟨e,hf⟩
 ·rw[e];exact I.funs
 ·rw[e];obtain⟨m,hn,_⟩:=I.loc;refine .cons (by rw[I.ok.kind];decide) hf hn ?_ I.funs;exact ba.get?_none_of_le (bg I.ok.bsz I.ok.above)
theorem Inv.stkSub(I:Inv X nu σ H s):∀b∈Lz X.stack,b∈X.env.locals::X.fs:=λb hb=>by
 rcases I.ok.stk with e | ⟨e,hf⟩
 ·rw[e] at hb;exact aP _ hb
 ·rw[e] at hb;unfold Lz at hb;rw[jC,hf] at hb;exact hb
theorem Inv.stkFree(I:Inv X nu σ H s):∀b∈Lz X.stack,H b=aB:=λb hb=>by
 rcases aa.mp (I.stkSub b hb) with e | hb
 ·rw[e];exact I.free
 ·obtain⟨_,o,ho,_⟩:=I.ok.funs.mem hb;exact I.base.free b o ho (I.ok.frf b hb) λz=>I.ok.exfs b z hb
theorem Inv.step{g':Array GenState}{t':Nat}{d':Drawn}{ch:List aN}(I:Inv X nu σ H s)
  (hch:∀b∈ch,(b∈X.ex\/X.s₀.heap.objs.size<=b)/\b≠X.env.locals/\(∀x c,X.env.cells.lookup x=aA c->c≠b)/\∀p∈X.pn++nu,p.1≠b)
  (keep:∀b o,b≠X.env.locals->b∉X.fs->b∉ch->s.heap.get? b=aA o->H b=aB->h'.get? b=aA o)
  (slot:∀b o,b≠X.env.locals->b∈X.fs->b∉ch->s.heap.get? b=aA o->H b=aB->∃sl,h'.get? b=aA { o with slots:=sl }) (free:∀b o,b∉ch->s.heap.get? b=aA o->H b=aB->H' b=aB)
  (there:∀b o,b∉ch->s.heap.get? b=aA o->∃o',h'.get? b=aA o')
  (tups:∀b xs,H b=aA (.tup xs)->H' b=aA (.tup xs)) (frzs:∀b o u,H b=aA (.frz o u)->H' b=aA (.frz o u)) (tbls:∀b ps,H b=aA (.tbl ps)->∃more,H' b=aA (.tbl (ps++more)))
  (ns:∀m,s.heap.Ns X.env.locals m->h'.Ns X.env.locals m) (hok:HOk X.prog X.w H' h') (hg:kK g') :
  Inv X nu σ H' { s with heap:=h',gens:=g',drawn:=d',toks:=t' }:=by
 have neL:∀b o,X.s₀.heap.get? b=aA o->b≠X.env.locals:=λb o e=>bU (bM (aZ e) I.ok.above)
 have neC:∀b o,X.s₀.heap.get? b=aA o->b∉X.ex->b∉ch:=λb o e hx hb=>by
  rcases(hch b hb).1 with z | z
  ·exact hx z
  ·exact absurd (bM (aZ e) z) (dI _)
 have cellK:∀x c,X.env.cells.lookup x=aA c->∀v,s.heap.IsCell c v->h'.IsCell c v:=λx c e v ⟨o,ho,hd⟩=>by
  have nch:c∉ch:=λz=>(hch c z).2.2.1 x c e rfl;by_cases hc:c∈X.fs
  ·obtain⟨sl,q⟩:=slot c o (I.cne x c e) hc nch ho (I.freeC x c e);exact⟨_,q,hd⟩
  ·exact⟨o,keep c o (I.cne x c e) hc nch ho (I.freeC x c e),hd⟩
 refine⟨I.ok,I.os,hg,⟨λb o e n hb hx=>?_,λb o e n hb hx=>?_,λb o e n hx=>?_,λb o e hx=>?_,λb xs e=>tups b xs (I.base.tups b xs e),λb o xs e=>frzs b o xs (I.base.frzs b o xs e),λb ps e=>?_⟩,?_,λx c e=>?_,?_,λx c e=>?_,λp hp=>?_,hok,I.len⟩
 ·exact keep b o (neL b o e) hb (neC b o e hx) (I.base.keep b o e n hb hx) (I.base.free b o e n hx)
 ·obtain⟨sl,e1⟩:=I.base.slot b o e n hb hx;obtain⟨sl',e2⟩:=slot b _ (neL b o e) hb (neC b o e hx) e1 (I.base.free b o e n hx);exact⟨sl',e2⟩
 ·obtain⟨o',e1⟩:=I.base.there b o e hx;exact free b o' (neC b o e hx) e1 (I.base.free b o e n hx)
 ·obtain⟨o',e1⟩:=I.base.there b o e hx;exact there b o' (neC b o e hx) e1
 ·obtain⟨m1,e1⟩:=I.base.tbls b ps e;obtain⟨m2,e2⟩:=tbls b _ e1;exact⟨m1++m2,by rw[e2,Array.append_assoc]⟩
 ·obtain⟨m,hn,hl⟩:=I.loc;refine⟨m,ns m hn,λi x v e1 e2 e3=>?_⟩;obtain⟨u,r,l⟩:=hl i x v e1 e2 e3;refine⟨u,r,?_⟩;rcases l with l | ⟨k,c,e,z⟩
  ·exact .inl l
  ·exact .inr ⟨k,c,e,cellK x c e _ z⟩
 ·obtain⟨v,z⟩:=I.cell x c e;exact⟨v,cellK x c e v z⟩
 ·obtain⟨m,⟨o,_,_,ho,_⟩,_⟩:=I.loc;exact free _ o (λz=>(hch _ z).2.1 rfl) ho I.free
 ·obtain⟨v,o,ho,hd⟩:=I.cell x c e;exact free c o (λz=>(hch c z).2.2.1 x c e rfl) ho (I.freeC x c e)
 ·obtain⟨e,n,ne,nf,d⟩:=I.pin p hp;have nch:p.1∉ch:=λz=>(hch p.1 z).2.2.2 p hp rfl;exact⟨keep p.1 p.2 ne nf nch e n,free p.1 p.2 nch e n,ne,nf,d⟩
theorem Inv.un{t':Nat}(I:Inv X nu σ H s)(u:Un X.fs [] H H' s.heap h')(hok:HOk X.prog X.w H' h'):Inv X nu σ H' { s with heap:=h',toks:=t' }:=by
 obtain⟨m,⟨o,es,ep,ho,r⟩,_⟩:=id I.loc;obtain⟨sl,hL⟩:=u.any ho I.free (by simp)
 exact I.step (g':=s.gens) (d':=s.drawn) (ch:=[]) (λ_ z=>nomatch z) (λb o _ hb _ e n=>u.keep b o e n hb (by simp)) (λb o _ hb _ e n=>u.slot b o e n hb (by simp)) (λb o _ e n=>u.free b o e n (by simp)) (λb o _ e=>u.there b o e (by simp)) u.tups u.frzs u.tbls (λm' hm=>by
  obtain⟨o',es',ep',ho',r'⟩:=hm;rw[ho] at ho';cases ho';exact⟨_,es',ep',hL,r'⟩) hok I.bare
theorem Inv.call{g':Array GenState}{t':Nat}{d':Drawn}{ch:List aN}(I:Inv X nu σ H s)(u:Un (Lz X.stack) ch H H' s.heap h')(hok:HOk X.prog X.w H' h')(hg:kK g')
  (hch:∀b∈ch,(b∈X.ex\/X.s₀.heap.objs.size<=b)/\b≠X.env.locals/\(∀x c,X.env.cells.lookup x=aA c->c≠b)/\∀p∈X.pn++nu,p.1≠b) :
  Inv X nu σ H' { s with heap:=h',gens:=g',drawn:=d',toks:=t' }:=by
 obtain⟨m,⟨o,es,ep,ho,r⟩,_⟩:=id I.loc;obtain⟨sl,hL⟩:=u.any ho I.free λz=>(hch _ z).2.1 rfl
 exact I.step (ch:=ch) hch (λb o hL hb hc e n=>u.keep b o e n (λz=>(aa.mp (I.stkSub b z)).elim hL hb) hc) (λb o _ _ hc e n=>u.any e n hc) (λb o hc e n=>u.free b o e n hc) (λb o hc e=>u.there b o e hc) u.tups u.frzs u.tbls (λm' hm=>by
  obtain⟨o',es',ep',ho',r'⟩:=hm;rw[ho] at ho';cases ho';exact⟨_,es',ep',hL,r'⟩) hok hg
theorem Inv.turned{t':Nat}{it:aN}(I:Inv X nu σ H s)(k:∀b o,b≠it->s.heap.get? b=aA o->h'.get? b=aA o)(hn:H it=aB)(hL:it≠X.env.locals)
  (h1:it∈X.ex\/X.s₀.heap.objs.size<=it) (h2:∀x c,X.env.cells.lookup x=aA c->c≠it) (h3:∀p∈X.pn++nu,p.1≠it):Inv X nu σ H { s with heap:=h',toks:=t' }:=by
 have nit:∀b u,H b=aA u->b≠it:=λb u e z=>by rw[z,hn] at e;cases e
 refine I.step (g':=s.gens) (d':=s.drawn) (ch:=[it]) (λb hb=>?_) (λb o _ _ hc e _=>k b o (λz=>hc (by simp[z])) e) (λb o _ _ hc e _=>⟨o.slots,k b o (λz=>hc (by simp[z])) e⟩) (λ_ _ _ _ n=>n)
  (λb o hc e=>⟨o,k b o (λz=>hc (by simp[z])) e⟩) (λ_ _ e=>e) (λ_ _ _ e=>e) (λb ps e=>⟨#[],by rw[e];simp⟩) (λm hm=>?_) (λb u e=>?_) I.bare
 ·have e:b=it:=by simpa using hb
  subst e;exact⟨h1,hL,h2,h3⟩
 ·obtain⟨o,es,ep,ho,r⟩:=hm;exact⟨o,es,ep,k _ o (bX hL) ho,r⟩
 ·refine(I.hok b u e).stay (λc v hc q=>k c v ?_ q) (λ_ q=>q) (λ_ _ q=>q) λ_ _ q=>q;rcases hc with z | z
  ·rw[z];exact nit b u e
  ·exact nit c _ z
theorem Inv.tok(I:Inv X nu σ H s)(t:Nat):Inv X nu σ H { s with toks:=t }:=I.un (h':=s.heap) (t':=t) Un.refl I.hok
theorem Inv.kept{t':Nat}(I:Inv X nu σ H s)(k:∀b u,s.heap.get? b=aA u->h'.get? b=aA u):Inv X nu σ H { s with heap:=h',toks:=t' }:=I.un (Un.kept k) (I.hok.kept k)
theorem Inv.laid{a:aN}{o:HO}{t':Nat}(I:Inv X nu σ H s)(k:∀b u,s.heap.get? b=aA u->h'.get? b=aA u)(hp:s.heap.objs.size<=a)(new:ObjOk X.prog X.w (upd H a o) h' a o) :
  Inv X nu σ (upd H a o) { s with heap:=h',toks:=t' }:=I.un (Un.laid k hp (I.hok.fresh hp)) (I.hok.laid k hp new)
theorem Inv.write{x e:aN}{o:HO}{t':Nat}(I:Inv X nu σ H s)(mu:Ue (H x))(he:e=x\/H e=aA (.own x))(k:∀b u,b≠e->s.heap.get? b=aA u->h'.get? b=aA u)(heo:∃u,h'.get? e=aA u)
  (new:ObjOk X.prog X.w (upd H x o) h' x o):Inv X nu σ (upd H x o) { s with heap:=h',toks:=t' }:=I.un (Un.write mu he k heo) (I.hok.write mu he k heo new)
theorem Inv.weak{σ':List (Option V)}(I:Inv X nu σ H s)(hl:σ'.length=σ.length)(w:∀(i:Nat) v,σ'[i]?=aA (aA v)->σ[i]?=aA (aA v)):Inv X nu σ' H s:=
 ⟨I.ok,I.os,I.bare,I.base,let⟨m,hn,hl'⟩:=I.loc;⟨m,hn,λi x v e1 e2 e3=>hl' i x v e1 (w i v e2) e3⟩,I.cell,I.free,I.freeC,I.pin,I.hok,hl.trans I.len⟩
theorem Inv.pins_of{pins':List (aN×df)}(I:Inv X nu σ H s)(h:∀p∈pins',s.heap.get? p.1=aA p.2/\H p.1=aB/\p.1≠X.env.locals/\p.1∉X.fs/\∀v,p.2.data≠.cell v):Inv X pins' σ H s:=
 ⟨I.ok,I.os,I.bare,I.base,I.loc,I.cell,I.free,I.freeC,λp hp=>(aq.mp hp).elim (λz=>I.pin p (au _ z)) (h p),I.hok,I.len⟩
theorem K8{N:List bH}(hN:N.Nodup){i j:Nat}{x:bH}(a:N[i]?=aA x)(b:N[j]?=aA x):i=j:=by obtain⟨h1,e1⟩:=aS.mp a;obtain⟨h2,e2⟩:=aS.mp b;exact(jz hN).mp (e1.trans e2.symm)
theorem Em{M:Model}{A:bw}{E:aL->aQ->Prop}{i:Nat}{x:bH}{v:V}{u:aL}{Q:Unit->aQ->Prop}(I:Inv X nu σ H s)(hN:X.N.Nodup)(hi:X.N[i]?=aA x)(hx:AE X.env.scope x)(r:RelV v u)
  (h:∀s',Inv X nu (σ.set i (aA v)) H s'->(∃a,cS a s.heap s'.heap/\(a=X.env.locals\/X.env.cells.lookup x=aA a))->Q () s') (hf:X.fn x=aD\/X.env.scope.names.lookup x=aA .local:=by first | exact .inl rfl | exact .inr rfl | assumption):bA M A (storeName X.env x u) Q E s:=by
 obtain⟨m,hn,hl⟩:=id I.loc;have hcls:(X.env.scope.kind==.class || (X.env.scope.kind==.module&&X.env.locals != X.env.globals))=aC:=by rw[I.ok.kind];rfl
 have hiσ:i<σ.length:=by rw[I.len];exact(aS.mp hi).1
 have cne:=I.cne
 have tracked:∀{a:aN}{h':ba},(∃o,s.heap.get? a=aA o/\H a=aB)->cS a s.heap h'->HOk X.prog X.w H h':=λ{a h'} ha hs b ob e=>by
  obtain⟨_,_,hfree⟩:=ha;refine(I.hok b ob e).stay (λc w' hc q=>(hs.2 c ?_).trans q) (λ_ q=>q) (λ_ _ q=>q) λ_ _ q=>q;rintro rfl;rcases hc with rfl | hc
  ·rw[hfree] at e;cases e
  ·rw[hfree] at hc;cases hc
 rcases hx with hk | hk
 ·refine wpAny_storeName_local hk hn (λh' hn' hs=>?_) hcls;obtain⟨oL,_,_,hoL,_⟩:=id hn;refine h _ ⟨I.ok,I.os,I.bare,⟨λb o e n hb hx=>?_,λb o e n hb hx=>?_,I.base.free,λb o e hx=>?_,I.base.tups,I.base.frzs,I.base.tbls⟩,⟨_,hn',λj y v' e1 e2 e3=>?_⟩,λy c e=>?_,I.free,I.freeC,λp hp=>?_,tracked ⟨oL,hoL,I.free⟩ hs,by simpa using I.len⟩ ⟨_,hs,.inl rfl⟩
  ·exact(hs.2 b (bU (bM (aZ e) I.ok.above))).trans (I.base.keep b o e n hb hx)
  ·obtain⟨sl,e1⟩:=I.base.slot b o e n hb hx;exact⟨sl,(hs.2 b (bU (bM (aZ e) I.ok.above))).trans e1⟩
  ·obtain⟨o',e1⟩:=I.base.there b o e hx;exact⟨o',(hs.2 b (bU (bM (aZ e) I.ok.above))).trans e1⟩
  ·by_cases hj:j=i
   ·subst hj;rw[hi] at e1;cases e1;rw[eM hiσ] at e2;cases e2;exact⟨u,r,.inl ⟨hk,by simp⟩⟩
   ·rw[fJ (bX hj)] at e2;obtain⟨u',r',q⟩:=hl j y v' e1 e2 e3;refine⟨u',r',?_⟩;rcases q with⟨k,e⟩ | ⟨k,c,e,z⟩
    ·refine .inl ⟨k,?_⟩;have:y≠x:=λe=>hj (K8 hN e1 (e▸hi));simp[this,e]
    ·exact .inr ⟨k,c,e,z.sameBut hs (cne y c e)⟩
  ·obtain⟨w',z⟩:=I.cell y c e;exact⟨w',z.sameBut hs (cne y c e)⟩
  ·obtain⟨e,n,ne,nf,d⟩:=I.pin p hp;exact⟨(hs.2 p.1 ne).trans e,n,ne,nf,d⟩
 ·have hfn:X.fn x=aD:=by
   rcases hf with z | z
   ·exact z
   ·rw[z] at hk;cases hk
  obtain⟨c,hc⟩:=I.ok.has x (.inl hk);obtain⟨w',z⟩:=I.cell x c hc;refine wpAny_storeName_cell I.ok.kind hk hc z (λh' hc' hs=>?_);obtain⟨oc,hoc,hocd⟩:=id z;refine h { s with heap:=h' } ⟨I.ok,I.os,I.bare,⟨λb o e n hb hx=>?_,λb o e n hb hx=>?_,I.base.free,λb o e hx=>?_,I.base.tups,I.base.frzs,I.base.tbls⟩,⟨m,hn.sameBut hs (bX (cne x c hc)),λj y v' e1 e2 e3=>?_⟩,λy c' e=>?_,I.free,I.freeC,λp hp=>?_,tracked ⟨oc,hoc,I.freeC x c hc⟩ hs,by simpa using I.len⟩ ⟨c,hs,.inr hc⟩
  ·exact(hs.2 b (bU (bM (aZ e) (I.ok.cab x c hfn hc)))).trans (I.base.keep b o e n hb hx)
  ·obtain⟨sl,e1⟩:=I.base.slot b o e n hb hx;exact⟨sl,(hs.2 b (bU (bM (aZ e) (I.ok.cab x c hfn hc)))).trans e1⟩
  ·obtain⟨o',e1⟩:=I.base.there b o e hx;exact⟨o',(hs.2 b (bU (bM (aZ e) (I.ok.cab x c hfn hc)))).trans e1⟩
  ·by_cases hj:j=i
   ·subst hj;rw[hi] at e1;cases e1;rw[eM hiσ] at e2;cases e2;exact⟨u,r,.inr ⟨.inl hk,c,hc,hc'⟩⟩
   ·rw[fJ (bX hj)] at e2;obtain⟨u',r',q⟩:=hl j y v' e1 e2 e3;refine⟨u',r',?_⟩;rcases q with q | ⟨k,c',e,z'⟩
    ·exact .inl q
    ·refine .inr ⟨k,c',e,z'.sameBut hs ?_⟩;rintro rfl;exact hj (K8 hN e1 (I.ok.inj _ _ _ e hc▸hi))
  ·by_cases hcc:c'=c
   ·subst hcc;exact⟨_,hc'⟩
   ·obtain⟨w2,z2⟩:=I.cell y c' e;exact⟨w2,z2.sameBut hs hcc⟩
  ·obtain⟨e,n,ne,nf,d⟩:=I.pin p hp;refine⟨(hs.2 p.1 ?_).trans e,n,ne,nf,d⟩;intro q;rw[q,hoc] at e;have q':oc=p.2:=bG e;exact d w' (by rw[<-q'];exact hocd)
theorem Ov{M:Model}{A:bw}{E:aL->aQ->Prop}{i:Nat}{x:bH}{v:V}{u:aL}{Q:Unit->aQ->Prop}(I:Inv X nu σ H s)(hN:X.N.Nodup)(hi:X.N[i]?=aA x)(hx:AE X.env.scope x)(r:RelV v u)
  (h:∀s',Inv X nu (σ.set i (aA v)) H s'->Q () s') (hf:X.fn x=aD\/X.env.scope.names.lookup x=aA .local:=by first | exact .inl rfl | exact .inr rfl | assumption):bA M A (storeName X.env x u) Q E s:=
 Em I hN hi hx r (λs' I' _=>h s' I') hf
theorem Inv.call'{s':aQ}{ch:List aN}(I:Inv X nu σ H s)(ho:s'.os=s.os)(u:Un (Lz X.stack) ch H H' s.heap s'.heap)(hok:HOk X.prog X.w H' s'.heap)(hg:kK s'.gens)
  (hch:∀b∈ch,(b∈X.ex\/X.s₀.heap.objs.size<=b)/\b≠X.env.locals/\(∀x c,X.env.cells.lookup x=aA c->c≠b)/\∀p∈X.pn++nu,p.1≠b):Inv X nu σ H' s':=by
 obtain⟨h',g',d',t',o'⟩:=s';have e:o'=s.os:=ho;subst e;exact I.call (g':=g') (t':=t') (d':=d') u hok hg hch
end
abbrev XK:=aL->Option aN->Hp->Prop
abbrev St:=List (Option V)
abbrev VK:=V->Hp->Prop
abbrev TE:=St->Hp->VK->Prop
abbrev TT:=St->Hp->(Bool->Hp->Prop)->Prop
abbrev TA:=St->Hp->(List V->Hp->Prop)->Prop
structure Ru where
 nx:St->Hp->Prop
 rt:VK
 bk:St->Hp->Prop:=λ_ _=>False
 ct:St->Hp->Prop:=λ_ _=>False
abbrev TS:=Ru->St->Hp->Prop
def EP(X:Cx)(nu:List (aN×df))(σ:St)(Q:VK)(u:aL)(s':aQ):Prop:=∃v H',Inv X nu σ H' s'/\RelV v u/\Q v H'
def TP(X:Cx)(nu:List (aN×df))(σ:St)(Q:Bool->Hp->Prop)(b:Bool)(s':aQ):Prop:=∃H',Inv X nu σ H' s'/\Q b H'
def AP(X:Cx)(nu:List (aN×df))(σ:St)(Q:List V->Hp->Prop)(us:List aL)(s':aQ):Prop:=∃vs H',Inv X nu σ H' s'/\Vals vs us/\Q vs H'
def SP(X:Cx)(nu:List (aN×df))(D:Ru)(f:Flow)(s':aQ):Prop:=
 match f with
 | .next=>∃σ' H',Inv X nu σ' H' s'/\D.nx σ' H'
 | .brk=>∃σ' H',Inv X nu σ' H' s'/\D.bk σ' H'
 | .cont=>∃σ' H',Inv X nu σ' H' s'/\D.ct σ' H'
 | .ret u=>∃v σ' H',Inv X nu σ' H' s'/\RelV v u/\D.rt v H'
def PE(X:Cx)(e:bS)(t:TE):Prop:=
 ∀(nu:List (aN×df))(s:aQ)(σ:St)(H:Hp)(Q:VK),Inv X nu σ H s->t σ H Q->bA (model X.prog X.w) X.A (eval e X.env) (EP X nu σ Q) X.xe s
def PT(X:Cx)(e:bS)(t:TT):Prop:=
 ∀(nu:List (aN×df))(s:aQ)(σ:St)(H:Hp)(Q:Bool->Hp->Prop),Inv X nu σ H s->t σ H Q->bA (model X.prog X.w) X.A (l7 e X.env (eval e X.env)) (TP X nu σ Q) X.xe s
def PW(X:Cx)(e:bS)(t:TT):Prop:=
 ∀(whole:Sem aL)(nu:List (aN×df))(s:aQ)(σ:St)(H:Hp)(Q:Bool->Hp->Prop),Inv X nu σ H s->t σ H Q->bA (model X.prog X.w) X.A (l7 e X.env whole) (TP X nu σ Q) X.xe s
theorem PW.pt{X:Cx}{e:bS}{t:TT}(h:PW X e t):PT X e t:=h _
def PA(X:Cx)(es:List bS)(t:TA):Prop:=
 ∀(pos:fZ)(nu:List (aN×df))(s:aQ)(σ:St)(H:Hp)(Q:List V->Hp->Prop),Inv X nu σ H s->t σ H Q->bA (model X.prog X.w) X.A (spliced (eI pos (aV es X.env))) (AP X nu σ Q) X.xe s
def PS(X:Cx)(st:bx)(t:TS):Prop:=
 ∀(nu:List (aN×df))(s:aQ)(σ:St)(H:Hp)(D:Ru),Inv X nu σ H s->t D σ H->bA (model X.prog X.w) X.A (exec st X.env) (SP X nu D) X.xe s
def PSs(X:Cx)(st:List bx)(t:TS):Prop:=
 ∀(nu:List (aN×df))(s:aQ)(σ:St)(H:Hp)(D:Ru),Inv X nu σ H s->t D σ H->bA (model X.prog X.w) X.A (execs st X.env) (SP X nu D) X.xe s
theorem YN{α:Type}{t:Sem α}{Q Q':α->aQ->Prop}{M:Model}{A:bw}{E:aL->aQ->Prop}{s:aQ}(h:bA M A t Q E s)(hQ:∀a s,Q a s->Q' a s):bA M A t Q' E s:=cQ h hQ λ_ _ x=>x
section
variable {X:Cx}
theorem bin{a b:bS}{ta tb:TE}(ha:PE X a ta)(hb:PE X b tb){nu:List (aN×df)}{s:aQ}{σ:St}{H:Hp}{R:V->V->Hp->Prop}(I:Inv X nu σ H s)(h:ta σ H λx H1=>tb σ H1 λy H2=>R x y H2)
  {α:Type} {Q:α->aQ->Prop} {f:aL->aL->Sem α}
  (hf:∀v u s2 x y H2,Inv X nu σ H2 s2->RelV x v->RelV y u->R x y H2->bA (model X.prog X.w) X.A (f v u) Q X.xe s2) :
  bA (model X.prog X.w) X.A (eval a X.env) (λv s₁=>bA (model X.prog X.w) X.A (eval b X.env) (λu s₂=>bA (model X.prog X.w) X.A (f v u) Q X.xe s₂) X.xe s₁) X.xe s:=by
 refine YN (ha nu s σ H _ I h) λv s1 ⟨x,H1,I1,r1,q1⟩=>?_;refine YN (hb nu s1 σ H1 _ I1 q1) λu s2 ⟨y,H2,I2,r2,q2⟩=>?_;exact hf v u s2 x y H2 I2 r1 r2 q2
def Sy(i:Nat):TE:=λσ H Q=>∃v,σ[i]?=aA (aA v)/\Q v H
def tC(v:V):TE:=λ_ H Q=>Q v H
theorem DU{i:Nat}{x:bH}{pos:fZ}(hN:X.N[i]?=aA x)(hv:Vis X.env.scope x)(hd:(x==("__debug__" : bH))=aC:=by decide)(hcd:(x==("__classdict__" : bH))=aC:=by decide):PE X (.Name x pos) (Sy i):=by
 intro nu s σ H Q I h;obtain⟨v,e,h⟩:=h;obtain⟨m,hn,hl⟩:=I.loc;obtain⟨u,r,l⟩:=hl i x v hN e hv;have fin:EP X nu σ Q u s:=⟨v,H,I,r,h⟩;rcases l with⟨hk,hm⟩ | ⟨hk,c,hc,hcell⟩
 ·exact my (wpAny_loadName_local I.ok.kind hk hn hm fin) hd
 ·rcases hk with hk | hk
  ·exact my (wpAny_loadName_cell I.ok.kind hk hc hcell fin) hd
  ·exact my (wpAny_loadName_free I.ok.kind hk hc hcell fin hcd) hd
theorem Zc9{i j pos}:PE X (.Constant (.int i) j pos) (tC (.int i)):=λ_ _ _ H _ I h=>wpAny_Constant_int ⟨.int i,H,I.tok _,⟨_,rfl⟩,h⟩
theorem Zft{b j pos}:PE X (.Constant (.bool b) j pos) (tC (.bl b)):=λ_ _ _ H _ I h=>Constant_bool ⟨.bl b,H,I,rfl,h⟩
theorem DV{j pos}:PE X (.Constant .none j pos) (tC .non):=λ_ _ _ H _ I h=>Constant_none ⟨.non,H,I,rfl,h⟩
def Gl(X:Cx)(x:bH):Prop:=X.env.kindOf x=aA .globalImplicit
theorem GP{E:aL->aQ->Prop}{nu:List (aN×df)}{s:aQ}{σ:St}{H:Hp}{x:bH}{u:aL}{pos:fZ}{Q:aL->aQ->Prop}(I:Inv X nu σ H s)(hg:Gl X x)(hm:X.mg x=aA u)(h:Q u s)
  (hd:(x==("__debug__" : bH))=aC:=by decide):bA (model X.prog X.w) X.A (eval (.Name x pos) X.env) Q E s:=
 jP I.ok.kind hg (Calls.loadGlobal_global (by rw[I.ok.glob];exact I.mod.glob.keeps I.bk) hm h) hd
theorem Uv{E:aL->aQ->Prop}{nu:List (aN×df)}{s:aQ}{σ:St}{H:Hp}{x:bH}{u:aL}{pos:fZ}{Q:aL->aQ->Prop}(I:Inv X nu σ H s)(hg:Gl X x)(hm:X.mg x=aB)(hv:cw x=aA u)(h:Q u s)
  (hn:x≠"__name__":=by decide) (hd:(x==("__debug__" : bH))=aC:=by decide):bA (model X.prog X.w) X.A (eval (.Name x pos) X.env) Q E s:=by
 obtain⟨mb,h1,h2⟩:=I.mod.blt;exact jP I.ok.kind hg (Calls.loadGlobal_builtin (by rw[I.ok.glob];exact I.mod.glob.keeps I.bk) hm (by rw[I.ok.blt];exact h1.keeps I.bk) ((h2 x hn).trans hv) h) hd
theorem AF{x:bH}{v:V}{u:aL}{pos:fZ}(hg:Gl X x)(hm:X.mg x=aB)(hv:cw x=aA u)(r:RelV v u)(hn:x≠"__name__":=by decide)(hd:(x==("__debug__" : bH))=aC:=by decide):PE X (.Name x pos) (tC v):=
 λ_ _ _ H _ I h=>Uv I hg hm hv ⟨v,H,I,r,h⟩ hn hd
variable {a b:bS} {ta tb:TE} {pos:fZ}
def PC(X:Cx)(op:lu)(a b:bS)(t:TE):Prop:=
 ∀(nu:List (aN×df))(s:aQ)(σ:St)(H:Hp)(Q:VK),Inv X nu σ H s->t σ H Q->
  bA (model X.prog X.w) X.A (eval a X.env) (λv s₁=>bA (model X.prog X.w) X.A (eval b X.env) (λu s₂=>bA (model X.prog X.w) X.A (dc op v u) (EP X nu σ Q) X.xe s₂) X.xe s₁) X.xe s
theorem DW(b:bS){op:lu}(h:op≠.In)(h2:op≠.NotIn):cq op b=aC:=by
 have e1:(op==lu.In)=aC:=by cases op<;>first | rfl | exact absurd rfl h
 have e2:(op==lu.NotIn)=aC:=by cases op<;>first | rfl | exact absurd rfl h2
 cases b<;>simp[cq,e1,e2]
def Zcb(ta:TE):TE:=λσ H Q=>ta σ H λx H1=>Q (.bl (!decide (x = .non))) H1
theorem RelV.none_iff{x:V}{v:aL}(r:RelV x v):(v==cP)=decide (x = .non):=by
 cases x with
 | non=>cases r;rfl
 | bl _=>cases r;rfl
 | int _=>obtain⟨t,rfl⟩:=r;rfl
 | str _=>obtain⟨t,rfl⟩:=r;rfl
 | byt _=>obtain⟨t,rfl⟩:=r;rfl
 | flt _=>obtain⟨t,rfl⟩:=r;rfl
 | ref _=>cases r;rfl
 | ty _=>cases r;rfl
theorem AG{j pos'}(ha:PE X a ta):PC X .IsNot a (.Constant .none j pos') (Zcb ta):=by intro nu s σ H Q I h;refine YN (ha nu s σ H _ I h) λv s1 ⟨x,H1,I1,r1,q1⟩=>?_;exact Constant_none (isnot_none_gen ⟨.bl _,H1,I1,by rw[r1.none_iff];rfl,q1⟩)
def tB(t:TE):TT:=λσ H Q=>t σ H λx H1=>∃c,x = .bl c/\Q c H1
theorem DX{op:lu}{t:TE}(h:PC X op a b t)(h1:cq op b=aC:=by first | exact DW _ (by decide) (by decide) | rfl):PT X (.Compare a [op] [b] pos) (tB t):=by intro nu s σ H Q I hw;refine k8 (YN (h nu s σ H _ I hw) λv s1 h1=>YN h1 λu s2 h2=>YN h2 λc s3 ⟨x,H1,I1,r1,q1⟩=>?_) h1;obtain⟨d,rfl,q⟩:=q1;cases r1;exact dD ⟨H1,I1,q⟩
theorem Zda{e:bS}{t:TE}(h:PE X e t)(he:∀whole,l7 e X.env whole=(do let v <-whole;mv e.pos;holding [v] (truthy v)):=by intro _;rfl):PT X e (tB t):=by intro nu s σ H Q I hw;refine isTrue_plain (YN (h nu s σ H _ I hw) λv s1 ⟨x,H1,I1,r1,q1⟩=>?_) (he _);obtain⟨d,rfl,q⟩:=q1;cases r1;exact dD ⟨H1,I1,q⟩
variable {tA tB':TT} {Zu:List bS}
def Zfu(t u:TT):TT:=λσ H Q=>t σ H λc H1=>if c=aD then u σ H1 Q else Q aC H1
def tOr(t u:TT):TT:=λσ H Q=>t σ H λc H1=>if c=aD then Q aD H1 else u σ H1 Q
def Zh0(t:TT):TT:=λσ H Q=>t σ H λc H1=>Q (!c) H1
theorem AH(ha:PT X a tA):PW X (.BoolOp .And [a] pos) tA:=by
 intro wh nu s σ H Q I h;refine isTrue_and (YN (ha nu s σ H Q I h) λc s1 e=>?_)
 cases c with
 | true=>exact isTrue_and_nil e
 | false=>exact e
theorem Zdb(ha:PT X a tA):PW X (.BoolOp .Or [a] pos) tA:=by
 intro wh nu s σ H Q I h;refine isTrue_or (YN (ha nu s σ H Q I h) λc s1 e=>?_)
 cases c with
 | false=>exact isTrue_or_nil e
 | true=>exact e
theorem Zdc(ha:PT X a tA)(hb:PW X (.BoolOp .And (b::Zu) pos) tB'):PW X (.BoolOp .And (a::b::Zu) pos) (Zfu tA tB'):=by
 intro wh nu s σ H Q I h;refine isTrue_and (YN (ha nu s σ H _ I h) λc s1 ⟨H1,I1,q1⟩=>?_)
 cases c with
 | true=>exact hb wh nu s1 σ H1 Q I1 q1
 | false=>exact⟨H1,I1,q1⟩
theorem Zfv(ha:PT X a tA)(hb:PW X (.BoolOp .Or (b::Zu) pos) tB'):PW X (.BoolOp .Or (a::b::Zu) pos) (tOr tA tB'):=by
 intro wh nu s σ H Q I h;refine isTrue_or (YN (ha nu s σ H _ I h) λc s1 ⟨H1,I1,q1⟩=>?_)
 cases c with
 | true=>exact⟨H1,I1,q1⟩
 | false=>exact hb wh nu s1 σ H1 Q I1 q1
theorem Zdd(ha:PT X a tA):PT X (.UnaryOp .Not a pos) (Zh0 tA):=by intro nu s σ H Q I h;exact isTrue_not (ha nu s σ H (λc H1=>Q (!c) H1) I h)
def Zfw(ta tb:TE):TE:=λσ H Q=>ta σ H λx H1=>∃c,x = .bl c/\if c=aD then tb σ H1 Q else Q (.bl aC) H1
def Zfx(ta:TE):TE:=λσ H Q=>ta σ H λx H1=>∃c,x = .bl c/\Q (.bl (!c)) H1
theorem Zde{op}{t:TE}(h:PE X a t):PE X (.BoolOp op [a] pos) t:=λnu s σ H Q I hw=>BoolOp_one (h nu s σ H Q I hw)
theorem Zdf(ha:PE X a ta)(hb:PE X (.BoolOp .And (b::Zu) pos) tb):PE X (.BoolOp .And (a::b::Zu) pos) (Zfw ta tb):=by
 intro nu s σ H Q I h;refine BoolOp_and (YN (ha nu s σ H _ I h) λv s1 ⟨x,H1,I1,r1,q1⟩=>?_);obtain⟨c,rfl,q1⟩:=q1;cases r1;refine dD ?_
 cases c with
 | true=>exact hb nu s1 σ H1 Q I1 q1
 | false=>exact⟨.bl aC,H1,I1,rfl,q1⟩
theorem Zdg(ha:PE X a ta):PE X (.UnaryOp .Not a pos) (Zfx ta):=by intro nu s σ H Q I h;refine UnaryOp_ (YN (ha nu s σ H _ I h) λv s1 ⟨x,H1,I1,r1,q1⟩=>?_);obtain⟨c,rfl,q1⟩:=q1;cases r1;exact not_of (dD ⟨.bl (!c),H1,I1,rfl,q1⟩)
def tIf(t:TT)(ta tb:TE):TE:=λσ H Q=>t σ H λc H1=>if c=aD then ta σ H1 Q else tb σ H1 Q
theorem DY{c:bS}(hc:PT X c tA)(ha:PE X a ta)(hb:PE X b tb):PE X (.IfExp c a b pos) (tIf tA ta tb):=by
 intro nu s σ H Q I h;refine wpAny_IfExp (YN (hc nu s σ H _ I h) λd s1 ⟨H1,I1,q1⟩=>?_)
 cases d with
 | true=>exact ha nu s1 σ H1 Q I1 q1
 | false=>exact hb nu s1 σ H1 Q I1 q1
end
def SqL(K:aJ)(H:Hp)(a:aN)(xs:List V):Prop:=
 Rd H a (.lst xs)\/
  ∃(o:df) (o9:Array aL) (n:Nat),K.lookup a=aA o/\o.cls = .type "list"/\o.dict=aB/\o.data = .seq o9 n/\o9.size<=sizeLine/\Vals xs o9.toList
def SqT(K:aJ)(H:Hp)(a:aN)(xs:List V):Prop:=
 Rd H a (.tup xs)\/
  ∃(o:df) (o9:Array aL) (n:Nat),K.lookup a=aA o/\o.cls = .type "tuple"/\o.data = .seq o9 n/\o9.size<=sizeLine/\Vals xs o9.toList
noncomputable def Zh1:aL->Option V
 | .none=>aA .non
 | .bool b=>aA (.bl b)
 | .int i _=>aA (.int i)
 | .str x _=>aA (.str x)
 | .bytes b _=>aA (.byt b)
 | .float b _=>aA (.flt b)
 | .ref a=>aA (.ref a)
 | .type n=>aA (.ty n)
 | _=>aB
theorem RelV.abs{x:V}{u:aL}(r:RelV x u):Zh1 u=aA x:=by
 cases x with
 | non=>cases r;rfl
 | bl _=>cases r;rfl
 | int _=>obtain⟨t,rfl⟩:=r;rfl
 | str _=>obtain⟨t,rfl⟩:=r;rfl
 | byt _=>obtain⟨t,rfl⟩:=r;rfl
 | flt _=>obtain⟨t,rfl⟩:=r;rfl
 | ref _=>cases r;rfl
 | ty _=>cases r;rfl
theorem RelV.inj{x y:V}{u:aL}(r:RelV x u)(q:RelV y u):x=y:=bG (r.abs.symm.trans q.abs)
theorem Vals.inj:∀{xs ys:List V}{us:List aL},Vals xs us->Vals ys us->xs=ys
 | _,_,_,.nil,.nil=>rfl
 | _,_,_,.cons r t,.cons r' t'=>by rw[r.inj r',Vals.inj t t']
section
variable {X:Cx} {nu:List (aN×df)} {σ:St} {H:Hp} {s:aQ} {a:aN} {xs ys:List V}
theorem SqL.of{K:aJ}(h:H a=aA (.lst xs)):SqL K H a xs:=.inl (.inl h)
theorem SqT.of{K:aJ}(h:H a=aA (.tup xs)):SqT K H a xs:=.inl (.inl h)
theorem Inv.list(I:Inv X nu σ H s)(h:SqL X.K H a xs):∃o9:List aL,Vals xs o9/\PlainL s.heap a o9.toArray/\xs.length<=sizeLine:=by
 rcases h with h | ⟨o,o9,n,hk,hc,hd,hs,hz,r⟩
 ·obtain⟨z,o9,n,r,e⟩:=h.ok I.hok;exact⟨o9,r,⟨_,n,e,rfl,rfl,rfl⟩,z⟩
 ·refine⟨o9.toList,r,⟨o,n,I.kIn a o hk,hc,hd,by simpa using hs⟩,?_⟩;have e:=r.length;simp only[cA] at e;omega
theorem Inv.tuple(I:Inv X nu σ H s)(h:SqT X.K H a xs):∃o9:List aL,Vals xs o9/\mx s.heap a o9.toArray/\xs.length<=sizeLine:=by
 rcases h with h | ⟨o,o9,n,hk,hc,hs,hz,r⟩
 ·obtain⟨z,o9,r,p⟩:=h.ok I.hok;exact⟨o9,r,p,z.1⟩
 ·refine⟨o9.toList,r,⟨o,I.kIn a o hk,hc,n,by simpa using hs⟩,?_⟩;have e:=r.length;simp only[cA] at e;omega
theorem Inv.list_inj(I:Inv X nu σ H s)(h:SqL X.K H a xs)(h':SqL X.K H a ys):xs=ys:=by
 obtain⟨o9,r,⟨o,n,e,_,_,d⟩,_⟩:=I.list h;obtain⟨its',r',⟨o',n',e',_,_,d'⟩,_⟩:=I.list h';rw[e] at e';cases e';rw[d] at d';injection d' with d1 _
 have:o9=its':=by simpa using congrArg n8 d1
 subst this;exact r.inj r'
theorem Inv.tuple_inj(I:Inv X nu σ H s)(h:SqT X.K H a xs)(h':SqT X.K H a ys):xs=ys:=by
 obtain⟨o9,r,⟨o,e,_,n,d⟩,_⟩:=I.tuple h;obtain⟨its',r',⟨o',e',_,n',d'⟩,_⟩:=I.tuple h';rw[e] at e';cases e';rw[d] at d';injection d' with d1 _
 have:o9=its':=by simpa using congrArg n8 d1
 subst this;exact r.inj r'
end
abbrev Cx.wish(X:Cx)(E:aL->aQ->Prop):Cx:={ X with xe:=E }
abbrev Cx.nox(X:Cx):Cx:=X.wish λ_ _=>False
theorem Cx.Ok.wish{X:Cx}(ok:X.Ok)(E:aL->aQ->Prop):(X.wish E).Ok:=
 ⟨ok.mod,ok.kind,ok.glob,ok.blt,ok.above,ok.inj,ok.has,ok.cab,ok.hd,ok.frames,ok.stk,ok.exf,ok.bs,ok.bsz,ok.noex,ok.exfs,ok.funs,ok.frf,ok.tab,ok.cod⟩
theorem Cx.Ok.unwish{X:Cx}{E:aL->aQ->Prop}(ok:(X.wish E).Ok):X.Ok:=
 ⟨ok.mod,ok.kind,ok.glob,ok.blt,ok.above,ok.inj,ok.has,ok.cab,ok.hd,ok.frames,ok.stk,ok.exf,ok.bs,ok.bsz,ok.noex,ok.exfs,ok.funs,ok.frf,ok.tab,ok.cod⟩
section
variable {X:Cx} {nu:List (aN×df)} {σ:St} {H:Hp} {s:aQ} {E:aL->aQ->Prop}
theorem Inv.wish(I:Inv X nu σ H s)(E:aL->aQ->Prop):Inv (X.wish E) nu σ H s:=⟨I.ok.wish E,I.os,I.bare,I.base,I.loc,I.cell,I.free,I.freeC,I.pin,I.hok,I.len⟩
theorem Inv.unwish(I:Inv (X.wish E) nu σ H s):Inv X nu σ H s:=⟨I.ok.unwish,I.os,I.bare,I.base,I.loc,I.cell,I.free,I.freeC,I.pin,I.hok,I.len⟩
theorem SP.unwish{D:Ru}{f:Flow}{s':aQ}(h:SP (X.wish E) nu D f s'):SP X nu D f s':=by
 cases f with
 | next=>obtain⟨σ',H',I,q⟩:=h;exact⟨σ',H',I.unwish,q⟩
 | brk=>obtain⟨σ',H',I,q⟩:=h;exact⟨σ',H',I.unwish,q⟩
 | cont=>obtain⟨σ',H',I,q⟩:=h;exact⟨σ',H',I.unwish,q⟩
 | ret u=>obtain⟨v,σ',H',I,r,q⟩:=h;exact⟨v,σ',H',I.unwish,r,q⟩
theorem PSs.nox{st:List bx}{t:TS}(h:PSs X.nox st t):PSs X st t:=λnu s σ H D I hw=>
 cQ (h nu s σ H D (I.wish _) hw) (λ_ _ q=>q.unwish) λ_ _ z=>dN z
end
section
variable {X:Cx} {st:bx} {Zu:List bx} {t u:TS} {e:bS} {te:TE} {pos:fZ}
def Zcc:TS:=λD σ H=>D.nx σ H
def Zh2(t u:TS):TS:=λD σ H=>t { D with nx:=u D } σ H
theorem AI:PSs X [] Zcc:=λ_ _ σ H _ I h=>ij ⟨σ,H,I,h⟩
theorem DZ(h1:PS X st t)(h2:PSs X Zu u):PSs X (st::Zu) (Zh2 t u):=by
 intro nu s σ H D I h;refine wpAny_execs_cons (YN (h1 nu s σ H { D with nx:=u D } I h) λf s1 q=>?_)
 cases f with
 | next=>
  obtain⟨σ',H',I',q⟩:=q;exact h2 nu s1 σ' H' D I' q
 | ret v=>exact q
 | brk=>exact q
 | cont=>exact q
theorem AJ(h1:PS X st t):PSs X [st] t:=by
 intro nu s σ H D I h;refine wpAny_execs_cons (YN (h1 nu s σ H D I h) λf s1 q=>?_)
 cases f with
 | next=>exact ij q
 | ret v=>exact q
 | brk=>exact q
 | cont=>exact q
theorem Inv.quiet{nu:List (aN×df)}{σ:St}{H:Hp}{s:aQ}(I:Inv X nu σ H s):interactive X.env=aC:=by simp[interactive,I.ok.kind]
def GQ(te:TE):TS:=λD σ H=>te σ H λ_ H1=>D.nx σ H1
theorem Xy(he:PE X e te)(hs:iC e aB pos.line X.env=pure aC:=by rfl):PS X (.Expr e pos) (GQ te):=by intro nu s σ H D I h;exact wpAny_Expr_any (YN (he nu s σ H _ I h) λv s1 ⟨x,H1,I1,r1,q1⟩=>⟨σ,H1,I1,q1⟩) I.quiet hs
def Zh3(te:TE):TS:=λD σ H=>te σ H D.rt
theorem LA(he:PE X e te):PS X (.Return (aA e) pos) (Zh3 te):=by intro nu s σ H D I h;exact wpAny_Return_some (YN (he nu s σ H _ I h) λv s1 ⟨x,H1,I1,r1,q1⟩=>⟨x,σ,H1,I1,r1,q1⟩)
def Zh4(c:TT)(t u:TS):TS:=λD σ H=>c σ H λb H1=>if b=aD then t D σ H1 else u D σ H1
theorem Zfy{c:bS}{a b:List bx}{tc:TT}(hc:PT X c tc)(ha:PSs X a t)(hb:PSs X b u):PS X (.If c a b pos) (Zh4 tc t u):=by
 intro nu s σ H D I h;refine wpAny_If (YN (hc nu s σ H _ I h) λd s1 ⟨H1,I1,q1⟩=>?_)
 cases d with
 | true=>exact ha nu s1 σ H1 D I1 q1
 | false=>exact hb nu s1 σ H1 D I1 q1
end
abbrev TG:=V->St->Hp->(St->Hp->Prop)->Prop
abbrev Ax:=List V->St->Hp->(St->Hp->Prop)->Prop
def PG(X:Cx)(target:bS)(t:TG):Prop:=
 ∀(nu:List (aN×df))(s:aQ)(σ:St)(H:Hp)(v:V)(u:aL)(Q:St->Hp->Prop),Inv X nu σ H s->RelV v u->t v σ H Q->
  bA (model X.prog X.w) X.A (assign target X.env u) (λ_ s'=>∃σ' H',Inv X nu σ' H' s'/\Q σ' H') X.xe s
def PGs(X:Cx)(ts:List bS)(t:Ax):Prop:=
 ∀(nu:List (aN×df))(s:aQ)(σ:St)(H:Hp)(vs:List V)(us:List aL)(Q:St->Hp->Prop),Inv X nu σ H s->Vals vs us->t vs σ H Q->
  bA (model X.prog X.w) X.A (assignInOrder ((gL ts X.env).map (·.2)) us) (λ_ s'=>∃σ' H',Inv X nu σ' H' s'/\Q σ' H') X.xe s
abbrev Zdh:=V->V->V->Hp->(Hp->Prop)->Prop
def Zf0(X:Cx)(t:Zdh):Prop:=
 ∀(nu:List (aN×df))(s:aQ)(σ:St)(H:Hp)(o i v:V)(ov iv u:aL)(Q:Hp->Prop),Inv X nu σ H s->RelV o ov->RelV i iv->RelV v u->t o i v H Q->
  bA (model X.prog X.w) X.A (setItem ov iv u) (λ_ s'=>∃H',Inv X nu σ H' s'/\Q H') X.xe s
section
variable {X:Cx} {pos:fZ}
def Rv(i:Nat):TG:=λv σ H Q=>Q (σ.set i (aA v)) H
theorem ZV{i:Nat}{x:bH}(hN:X.N.Nodup)(hi:X.N[i]?=aA x)(hx:AE X.env.scope x)(hf:X.fn x=aD\/X.env.scope.names.lookup x=aA .local:=by first | exact .inl rfl | exact .inr rfl | assumption):PG X (.Name x pos) (Rv i):=by intro nu s σ H v u Q I r h;exact wpAny_assign_Name (Ov I hN hi hx r (λs' I'=>⟨_,H,I',h⟩) hf)
def Zf1:Ax:=λvs σ H Q=>vs=[]/\Q σ H
def Zcd(t:TG)(u:Ax):Ax:=λvs σ H Q=>∃v r,vs=v::r/\t v σ H λσ' H'=>u r σ' H' Q
theorem YO:PGs X [] Zf1:=by intro nu s σ H vs us Q I r h;obtain⟨e,h⟩:=h;subst e;cases r;exact assignInOrder_nil ⟨σ,H,I,h⟩
theorem Zv{e:bS}{es:List bS}{t:TG}{u:Ax}(h1:PG X e t)(h2:PGs X es u)
  (hs:(gL (e::es) X.env).map (·.2)=assign e X.env::(gL es X.env).map (·.2):=by rfl):PGs X (e::es) (Zcd t u):=by
 intro nu s σ H vs us Q I r h;obtain⟨v,vr,e1,h⟩:=h;subst e1
 cases r with
 | cons r rr=>
  rw[hs];refine assignInOrder_cons (YN (h1 nu s σ H _ _ _ I r h) λ_ s1 ⟨σ1,H1,I1,q1⟩=>?_);exact h2 nu s1 σ1 H1 _ _ Q I1 rr q1
def Zf2(K:aJ)(n:Nat)(t:Ax):TG:=λv σ H Q=>∃a xs,v = .ref a/\SqT K H a xs/\xs.length=n/\t xs σ H Q
theorem XC{es:List bS}{k:Nat}{t:Ax}{n:Nat}(hc:X.calm=aD)(h:PGs X es t)
  (hn:(gL es X.env).length=n:=by rfl) (hst:(gL es X.env).findIdx? (·.1)=aB:=by rfl):PG X (.Tuple es k pos) (Zf2 X.K n t):=by
 intro nu s σ H v u Q I r hw;obtain⟨a,xs,e1,hq,hl,hw⟩:=hw;subst e1;cases r;obtain⟨o9,rv,ht,hz⟩:=I.tuple hq;refine assign_Tuple_tuple (I.ok.hd hc) ht (by simp[hn,<-hl,rv.length]) hst λh' hx=>?_;have I1:Inv X nu σ H { s with heap:=h' }:=I.kept (t':=s.toks) λb o e=>hx b o (bU (aZ e)) e;exact h nu _ σ H xs _ Q I1 (by simpa using rv) hw
def Zdi(to ti:TE)(t:Zdh):TG:=λv σ H Q=>to σ H λo H1=>ti σ H1 λi H2=>t o i v H2 λH3=>Q σ H3
theorem IT{o i:bS}{to ti:TE}{t:Zdh}(ho:PE X o to)(hi:PE X i ti)(hs:Zf0 X t)
  (ha:∀v,assign (.Subscript o i pos) X.env v=(do
   let ov <-holding [v] (eval o X.env);let iv <-holding [v,ov] (eval i X.env)
   mv pos
   holding [v,ov,iv] (setItem ov iv v)
   release [v,ov,iv] []):=by intro _;rfl):PG X (.Subscript o i pos) (Zdi to ti t):=by
 intro nu s σ H v u Q I r h;rw[ha];refine aH (eQ (YN (ho nu s σ H _ I h) λov s1 ⟨x,H1,I1,r1,q1⟩=>?_));refine aH (eQ (YN (hi nu s1 σ H1 _ I1 q1) λiv s2 ⟨y,H2,I2,r2,q2⟩=>?_));refine aH (jh (aH (eQ (YN (hs nu s2 σ H2 x y v ov iv u _ I2 r1 r2 r q2) λ_ s3 ⟨H3,I3,q3⟩=>?_))));exact wpAny_release ⟨σ,H3,I3,q3⟩
def K9(te:TE)(g:TG):TS:=λD σ H=>te σ H λx H1=>g x σ H1 D.nx
theorem LB{tg e:bS}{te:TE}{g:TG}(he:PE X e te)(hg:PG X tg g)(hs:swapsWithSole [tg] e pos.line X.env=pure aC:=by rfl)(hw:swappedStores [tg] e X.env=pure aB:=by rfl)
  (h1:(gL [tg] X.env).map (·.2)=[assign tg X.env]:=by rfl):PS X (.Assign [tg] e pos) (K9 te g):=by
 intro nu s σ H D I h;refine wpAny_Assign_stores (YN (he nu s σ H _ I h) λv s1 ⟨x,H1,I1,r1,q1⟩=>?_) hs hw;rw[h1];exact YN (hg nu s1 σ H1 x v _ I1 r1 q1) λ_ s2 q=>q
theorem Zdj{i:Nat}{x:bH}{e:bS}{te:TE}{pos':fZ}(hN:X.N.Nodup)(hi:X.N[i]?=aA x)(hx:AE X.env.scope x)(he:PE X e te)(hs:iC e (aA (.Name x pos')) pos.line X.env=pure aC:=by rfl)(hf:X.fn x=aD\/X.env.scope.names.lookup x=aA .local:=by first | exact .inl rfl | exact .inr rfl | assumption) :
  PS X (.Assign [.Name x pos'] e pos) (K9 te (Rv i)):=by
 intro nu s σ H D I h;refine wpAny_Assign_Name (YN (he nu s σ H _ I h) λv s1 ⟨y,H1,I1,r1,q1⟩=>?_) hs;exact Ov I1 hN hi hx r1 (λs2 I2=>⟨_,H1,I2,q1⟩) hf
end
section
variable {X:Cx} {pos:fZ}
def Zdk(c:TT)(tb:TS):TS:=λD σ H=>∃W:Nat->St->Hp->Prop,(∃m,W m σ H)/\∀m σ H,W m σ H->
 c σ H λb H1=>if b=aD then ∃N:St->Hp->Prop,(∀σ' H',N σ' H'->∃m',m'<m/\W m' σ' H')/\tb { D with nx:=N,ct:=N,bk:=D.nx } σ H1 else D.nx σ H1
theorem D3{c:bS}{body:List bx}{tc:TT}{tb:TS}(hp:lI (model X.prog X.w) X.A X.env X.xe)(hc:PT X c tc)(hb:PSs X body tb):PS X (.While c body [] pos) (Zdk tc tb):=by
 intro nu s σ H D I h;obtain⟨W,⟨m0,w0⟩,turn⟩:=h;refine wpAny_While (codeAny_whileLoop (λn s'=>∃σ' H',Inv X nu σ' H' s'/\W n σ' H') ?_ m0 ⟨σ,H,I,w0⟩);rintro n s1 ⟨σ1,H1,I1,w1⟩;refine fF hp (YN (hc nu s1 σ1 H1 _ I1 (turn n σ1 H1 w1)) λb s2 ⟨H2,I2,q2⟩=>?_)
 cases b with
 | true=>
  obtain⟨N,hN,q2⟩:=q2;rw[oA rfl];refine fF hp (YN (hb nu s2 σ1 H2 _ I2 q2) λf s3 q3=>?_)
  cases f with
  | next=>
   obtain⟨σ3,H3,I3,n3⟩:=q3;obtain⟨m',hm,w3⟩:=hN σ3 H3 n3;exact⟨m',hm,σ3,H3,I3,w3⟩
  | cont=>
   obtain⟨σ3,H3,I3,n3⟩:=q3;obtain⟨m',hm,w3⟩:=hN σ3 H3 n3;exact⟨m',hm,σ3,H3,I3,w3⟩
  | brk=>exact q3
  | ret v=>exact q3
 | false=>
  rw[oB aw];exact ij ⟨σ1,H2,I2,q2⟩
end
structure It where
 go:Nat->Hp->Prop
 yld:Nat->Hp->V->Hp->Prop
 stop:Nat->Hp->Prop
def Rw(X:Cx)(nu:List (aN×df))(H:Hp)(b:aN):Prop:=
 H b=aB/\b≠X.env.locals/\b∉X.fs/\(b∈X.ex\/X.s₀.heap.objs.size<=b)/\(∀x c,X.env.cells.lookup x=aA c->c≠b)/\∀p∈X.pn++nu,p.1≠b
theorem Inv.fpOk{X:Cx}{nu:List (aN×df)}{σ:St}{H H':Hp}{s:aQ}{b:aN}(I:Inv X nu σ H s)(hb:s.heap.objs.size<=b)(hn:H' b=aB):Rw X nu H' b:=by
 refine⟨hn,gV (bM I.lt hb),I.nofs hb,.inr (bg I.sz hb),λx c e z=>?_,λp hp z=>?_⟩
 ·obtain⟨v,q⟩:=I.cell x c e;exact absurd (bM q.lt (by rw[z];exact hb)) (dI _)
 ·exact absurd (bM (aZ (I.pin p hp).1) (by rw[z];exact hb)) (dI _)
structure Ja(P:bQ)(w:bu)(K:aJ)(tg:bS)(J:It)(fp:List aN)(it:aN)(tn:Nat->ba->Prop):Prop where
 mem:it∈fp
 obj:∀i h,tn i h->∀b∈fp,∃o,h.get? b=aA o/\∀v,o.data≠.cell v
 keep:∀i h h',tn i h->(∀b∈fp,∀o,h.get? b=aA o->h'.get? b=aA o)->tn i h'
 item:∀(X:Cx),X.prog=P->X.w=w->X.K=K->X.calm=aD->∀(i:Nat)(nu:List (aN×df))(s:aQ)(σ:St)(H:Hp)(E:aL->aQ->Prop),Inv X nu σ H s->(∀b∈fp,Rw X nu H b)->tn i s.heap->J.go i H->
  bA (model P w) X.A (ji (.ref it)) (λr s1=>∃u,r=aA u/\
   bA (model P w) X.A (ik tg (.ref it) u) (λ_ s2=>∃x H',Inv X nu σ H' s2/\RelV x u/\J.yld i H x H'/\tn (i+1) s2.heap/\∀b∈fp,H' b=aB) E s1) E s
 done:∀(X:Cx),X.prog=P->X.w=w->X.K=K->X.calm=aD->∀(i:Nat)(nu:List (aN×df))(s:aQ)(σ:St)(H:Hp)(E:aL->aQ->Prop),Inv X nu σ H s->(∀b∈fp,Rw X nu H b)->tn i s.heap->J.stop i H->
  bA (model P w) X.A (ji (.ref it)) (λr s1=>r=aB/\Inv X nu σ H s1) E s
 self:∀(A:bw)(i:Nat)(s:aQ)(Q:aL->aQ->Prop)(E:aL->aQ->Prop),tn i s.heap->Q (.ref it) s->bA (model P w) A (mz (.ref it)) Q E s
abbrev TI:=St->Hp->(It->Hp->Prop)->Prop
def PIE(X:Cx)(nu:List (aN×df))(σ:St)(tg:bS)(R:It->Hp->Prop)(itv:aL)(s2:aQ):Prop:=
 ∃(it:aN) (fp:List aN) (tn:Nat->ba->Prop) (J:It) (H':Hp),itv = .ref it/\Inv X nu σ H' s2/\Ja X.prog X.w X.K tg J fp it tn/\tn 0 s2.heap/\(∀b∈fp,Rw X nu H' b)/\R J H'
def PI(X:Cx)(tg iter:bS)(wi:TI):Prop:=
 ∀(nu:List (aN×df))(s:aQ)(σ:St)(H:Hp)(R:It->Hp->Prop),Inv X nu σ H s->wi σ H R->
  bA (model X.prog X.w) X.A (eval iter X.env) (λv s1=>bA (model X.prog X.w) X.A (mz v) (PIE X nu σ tg R) X.xe s1) X.xe s
theorem GR{M:Model}{A:bw}{E:aL->aQ->Prop}{s:aQ}{tg:bS}{it:aN}{u:aL}{o:df}{n:String}{vs:Array aL}{Q:Unit->aQ->Prop}(ho:s.heap.get? it=aA o)(hc:o.cls = .type n)(hd:o.data = .fields vs)
    (hn:["enumerate","zip","dict_itemiterator","dict_reverseitemiterator","odict_iterator","itertools.zip_longest","itertools.pairwise"].contains n=aC) (hQ:Q () s):bA M A (ik tg (.ref it) u) Q E s:=by
  unfold ik
  cases tg<;>first
    | exact aX hQ
    | (cases u<;>first
        | exact aX hQ
        | (refine aH (wpAny_load ho ?_)
           rw[hc,hd];show bA M A (if(["enumerate","zip","dict_itemiterator","dict_reverseitemiterator","odict_iterator","itertools.zip_longest","itertools.pairwise"].contains n&&vs[0]?==aA (gD _))=aD then _ else _) Q E s;rw[oB (by intro h;rw[hn,Bool.false_and] at h;cases h)];exact aX hQ))
def Itl(K:aJ)(a:aN):It:=
 ⟨λi H=>∃xs x,SqL K H a xs/\xs[i]?=aA x,λi H x H'=>H'=H/\∀xs,SqL K H a xs->xs[i]?=aA x,λi H=>∃xs,SqL K H a xs/\xs.length<=i⟩
def Itt(K:aJ)(a:aN):It:=
 ⟨λi H=>∃xs x,SqT K H a xs/\xs[i]?=aA x,λi H x H'=>H'=H/\∀xs,SqT K H a xs->xs[i]?=aA x,λi H=>∃xs,SqT K H a xs/\xs.length<=i⟩
def Itr(lo:Int)(n:Nat):It:=⟨λi _=>i<n,λi H x H'=>H'=H/\x = .int (lo+i),λi _=>n<=i⟩
theorem En{P:bQ}{w:bu}{K:aJ}{tg:bS}(a it:aN):Ja P w K tg (Itl K a) [it] it (λi h=>h.IsListIter it a i) where
 mem:=by simp
 obj:=λi h st b hb=>by
  have e:b=it:=by simpa using hb
  subst e;obtain⟨o,e,c,d⟩:=st;exact⟨o,e,λv z=>by rw[d] at z;cases z⟩
 keep:=λi h h' st k=>st.at λo e=>k it (by simp) o e
 item:=by intro X hP hw hK hc i nu s σ H E I hf st hg;subst hP hw hK;obtain⟨xs,x,hq,hx⟩:=hg;obtain⟨o9,rv,p,hz⟩:=I.list hq;obtain⟨u,hu,ru⟩:=rv.get hx;obtain⟨f0,f1,f2,f3,f4,f5⟩:=hf it (by simp);refine wpAny_pyNext_list_item st p.isList (x:=u) (by simpa using hu) λh' st' sb=>?_;have I1:Inv X nu σ H { s with heap:=h' }:=I.turned (t':=s.toks) (λb o hb e=>(sb.2 b hb).trans e) f0 f1 f3 f4 f5;obtain⟨o,e,c,d⟩:=id st';exact⟨u,rfl,GR (s:={ s with heap:=h' }) e c d (by decide) ⟨x,H,I1,ru,⟨rfl,λys hy=>by rw[I.list_inj hy hq];exact hx⟩,st',λb hb=>(hf b hb).1⟩⟩
 done:=by intro X hP hw hK hc i nu s σ H E I hf st hg;subst hP hw hK;obtain⟨xs,hq,hx⟩:=hg;obtain⟨o9,rv,p,hz⟩:=I.list hq;obtain⟨f0,f1,f2,f3,f4,f5⟩:=hf it (by simp);have hl:=rv.length;exact wpAny_pyNext_list_end (I.ok.hd hc) st p.isList (by simp;omega) λh' eb=>⟨rfl,I.turned (t':=s.toks) (λb o hb e=>eb b o hb e) f0 f1 f3 f4 f5⟩
 self:=λ_ _ _ _ _ st h=>wpAny_pyIter_listiter st h
theorem IU{P:bQ}{w:bu}{K:aJ}{tg:bS}(a it:aN):Ja P w K tg (Itt K a) [it] it (λi h=>h.IsTupleIter it a i) where
 mem:=by simp
 obj:=λi h st b hb=>by
  have e:b=it:=by simpa using hb
  subst e;obtain⟨o,e,c,d⟩:=st;exact⟨o,e,λv z=>by rw[d] at z;cases z⟩
 keep:=λi h h' st k=>st.at λo e=>k it (by simp) o e
 item:=by intro X hP hw hK hc i nu s σ H E I hf st hg;subst hP hw hK;obtain⟨xs,x,hq,hx⟩:=hg;obtain⟨o9,rv,p,hz⟩:=I.tuple hq;obtain⟨u,hu,ru⟩:=rv.get hx;obtain⟨f0,f1,f2,f3,f4,f5⟩:=hf it (by simp);refine wpAny_pyNext_tuple_item st (show s.heap.IsTuple a o9.toArray from p) (x:=u) (by simpa using hu) λh' st' sb=>?_;have I1:Inv X nu σ H { s with heap:=h' }:=I.turned (t':=s.toks) (λb o hb e=>(sb.2 b hb).trans e) f0 f1 f3 f4 f5;obtain⟨o,e,c,d⟩:=id st';exact⟨u,rfl,GR (s:={ s with heap:=h' }) e c d (by decide) ⟨x,H,I1,ru,⟨rfl,λys hy=>by rw[I.tuple_inj hy hq];exact hx⟩,st',λb hb=>(hf b hb).1⟩⟩
 done:=by intro X hP hw hK hc i nu s σ H E I hf st hg;subst hP hw hK;obtain⟨xs,hq,hx⟩:=hg;obtain⟨o9,rv,p,hz⟩:=I.tuple hq;obtain⟨f0,f1,f2,f3,f4,f5⟩:=hf it (by simp);have hl:=rv.length;exact wpAny_pyNext_tuple_end (I.ok.hd hc) st (show s.heap.IsTuple a o9.toArray from p) (by simp;omega) λh' eb=>⟨rfl,I.turned (t':=s.toks) (λb o hb e=>eb b o hb e) f0 f1 f3 f4 f5⟩
 self:=λ_ _ _ _ _ st h=>wpAny_pyIter_tupleiter st h
theorem IV{P:bQ}{w:bu}{K:aJ}{tg:bS}(it:aN)(lo:Int)(n:Nat):Ja P w K tg (Itr lo n) [it] it (λi h=>IsRangeIter h it (lo+(i:Nat)*1) ((n:Int)-(i:Nat)) 1) where
 mem:=by simp
 obj:=λi h st b hb=>by
  have e:b=it:=by simpa using hb
  subst e
  exact⟨_,st,λv z=>by
   have z':Data.fields _=Data.cell v:=z;cases z'⟩
 keep:=λi h h' st k=>k it (by simp) _ st
 item:=by intro X hP hw hK hc i nu s σ H E I hf st hg;subst hP hw hK;obtain⟨f0,f1,f2,f3,f4,f5⟩:=hf it (by simp);have W:=Walks.range (prog:=X.prog) (w:=X.w) (I.ok.hd hc) it lo 1 n;refine W.item i s _ _ hg st λv h' tk hv st' kk=>?_;obtain⟨t,rfl⟩:=hv;have I1:Inv X nu σ H { s with heap:=h',toks:=tk }:=I.turned (λb o hb e=>kk b o (by simpa using hb) e) f0 f1 f3 f4 f5;refine⟨_,rfl,GR (s:={ s with heap:=h',toks:=tk }) (n:="range_iterator") st' rfl rfl (by decide) ⟨.int (lo+i),H,I1,⟨t,?_⟩,⟨rfl,rfl⟩,st',λb hb=>(hf b hb).1⟩⟩;rw[j7]
 done:=by intro X hP hw hK hc i nu s σ H E I hf st hg;subst hP hw hK;obtain⟨f0,f1,f2,f3,f4,f5⟩:=hf it (by simp);exact wpAny_pyNext_range_end (I.ok.hd hc) st (by have:n<=i:=hg;omega) λh' eb=>⟨rfl,I.turned (t':=s.toks) (λb o hb e=>eb b o hb e) f0 f1 f3 f4 f5⟩
 self:=λ_ _ _ _ _ st h=>wpAny_pyIter_rangeiter st h
section
variable {X:Cx} {tg:bS}
def Zf4(K:aJ)(tl:TE):TI:=λσ H R=>tl σ H λx H1=>∃a,x = .ref a/\(∃xs,SqL K H1 a xs)/\R (Itl K a) H1
def Zh7(K:aJ)(tl:TE):TI:=λσ H R=>tl σ H λx H1=>∃a,x = .ref a/\(∃xs,SqT K H1 a xs)/\R (Itt K a) H1
theorem AK{l:bS}{tl:TE}(hl:PE X l tl):PI X tg l (Zf4 X.K tl):=by
 intro nu s σ H R I h;refine YN (hl nu s σ H _ I h) λv s1 ⟨x,H1,I1,r1,q1⟩=>?_;obtain⟨a,e,⟨xs,hq⟩,q⟩:=q1;subst e;cases r1;obtain⟨o9,rv,p,hz⟩:=I1.list hq;refine wpAny_pyIter_list p.isList ?_;refine⟨s1.heap.objs.size,[s1.heap.objs.size],_,_,H1,rfl,I1.kept (t':=s1.toks) λb o e=>aM _ e,En a _,⟨_,aj _ rfl,rfl,rfl⟩,λb hb=>?_,q⟩;have e:b=s1.heap.objs.size:=by simpa using hb
 subst e;exact I1.fpOk (aT _) (I1.hok.fresh (aT _))
theorem Zdl{l:bS}{tl:TE}(hl:PE X l tl):PI X tg l (Zh7 X.K tl):=by
 intro nu s σ H R I h;refine YN (hl nu s σ H _ I h) λv s1 ⟨x,H1,I1,r1,q1⟩=>?_;obtain⟨a,e,⟨xs,hq⟩,q⟩:=q1;subst e;cases r1;obtain⟨o9,rv,p,hz⟩:=I1.tuple hq;refine l8 (show s1.heap.IsTuple a o9.toArray from p) ?_;refine⟨s1.heap.objs.size,[s1.heap.objs.size],_,_,H1,rfl,I1.kept (t':=s1.toks) λb o e=>aM _ e,IU a _,⟨_,aj _ rfl,rfl,rfl⟩,λb hb=>?_,q⟩;have e:b=s1.heap.objs.size:=by simpa using hb
 subst e;exact I1.fpOk (aT _) (I1.hok.fresh (aT _))
theorem Jb{nu:List (aN×df)}{σ:St}{H:Hp}{s:aQ}{R:It->Hp->Prop}{E:aL->aQ->Prop}{lo hi:Int}{t u v:nt}{tk:Nat}(I:Inv X nu σ H s)(h1 : -(2^62)<=lo)(h2:lo<2^62)(h3 : -(2^62)<=hi)(h4:hi<2^62)
  (q:R (Itr lo (hi-lo).toNat) H):bA (model X.prog X.w) X.A (mz (.ref s.heap.objs.size)) (PIE X nu σ tg R) E { s with heap:=s.heap.push { cls:=.type "range",data:=.fields #[.int lo t,.int hi u,.int 1 v] },toks:=tk }:=by
 refine wpAny_pyIter_range (n9 ..) (small_one h1 h2 h3 h4) ?_;have I1:Inv X nu σ H { s with heap:=s.heap.push { cls:=.type "range",data:=.fields #[.int lo t,.int hi u,.int 1 v] },toks:=tk }:=I.kept λb o e=>aM _ e
 refine⟨(s.heap.push { cls:=.type "range",data:=.fields #[.int lo t,.int hi u,.int 1 v] }).objs.size,[(s.heap.push { cls:=.type "range",data:=.fields #[.int lo t,.int hi u,.int 1 v] }).objs.size],_,_,H,rfl,
  I1.kept (t':=tk) λb o e=>aM _ e,IV _ lo (hi-lo).toNat,?_,λb hb=>?_,q⟩
 ·have e1:lo+((0:Nat):Int)*1=lo:=by simp
  have e2:(((hi-lo).toNat:Nat):Int)-((0:Nat):Int)=iX.Range.rangeSize lo hi 1:=by rw[rangeSize_one];split<;>omega
  show IsRangeIter _ _ (lo+((0:Nat):Int)*1) ((((hi-lo).toNat:Nat):Int)-((0:Nat):Int)) 1;rw[e1,e2];exact aj _ rfl
 ·have e:b=(s.heap.push { cls:=.type "range",data:=.fields #[.int lo t,.int hi u,.int 1 v] }).objs.size:=by simpa using hb
  subst e;exact I1.fpOk (aT _) (I1.hok.fresh (aT _))
def Zf5(ta:TA):TI:=λσ H R=>ta σ H λvs H1=>∃j:Int,vs=[.int j]/\-(2^62)<=j/\j<2^62/\R (Itr 0 j.toNat) H1
def Zf6(ta:TA):TI:=λσ H R=>ta σ H λvs H1=>∃i j:Int,vs=[.int i,.int j]/\(-(2^62)<=i/\i<2^62/\-(2^62)<=j/\j<2^62)/\R (Itr i (j-i).toNat) H1
theorem Eo{a:bS}{ta:TA}{p pos:fZ}(hg:Gl X "range")(hm:X.mg "range" = aB)(ha:PA X [a] ta)(hs:aV [a] X.env=[(aC,eval a X.env)]:=by rfl):PI X tg (.Call (.Name "range" p) [a] [] pos) (Zf5 ta):=by
 intro nu s σ H R I h;refine Call_ (Uv I hg hm nA (cI (YN (ha pos nu s σ H _ I h) λus s1 ⟨vs,H1,I1,r1,q1⟩=>?_) hs rfl));obtain⟨j,e,q1,q2,q⟩:=q1;subst e
 cases r1 with
 | cons r rr=>
  cases rr;obtain⟨t,rfl⟩:=r;exact call_range_1 (Jb I1 (by omega) (by omega) q1 q2 (by simpa using q))
theorem Ep{a b:bS}{ta:TA}{p pos:fZ}(hg:Gl X "range")(hm:X.mg "range" = aB)(ha:PA X [a,b] ta)(hs:aV [a,b] X.env=[(aC,eval a X.env),(aC,eval b X.env)]:=by rfl)(hs2:aV [b] X.env=[(aC,eval b X.env)]:=by rfl) :
  PI X tg (.Call (.Name "range" p) [a,b] [] pos) (Zf6 ta):=by
 intro nu s σ H R I h;refine Call_ (Uv I hg hm nA (cI (YN (ha pos nu s σ H _ I h) λus s1 ⟨vs,H1,I1,r1,q1⟩=>?_) (by rw[hs,hs2]) (by rw[hs2];rfl)));obtain⟨i,j,e,⟨q1,q2,q3,q4⟩,q⟩:=q1;subst e
 cases r1 with
 | cons r rr=>
  cases rr with
  | cons r' rr=>
   cases rr;obtain⟨t,rfl⟩:=r;obtain⟨t',rfl⟩:=r';exact call_range_2 (Jb I1 q1 q2 q3 q4 q)
def AL(wi:TI)(g:TG)(tb:TS):TS:=λD σ H=>wi σ H λJ H1=>∃W:Nat->Nat->St->Hp->Prop,(∃m,W 0 m σ H1)/\∀i m σ H,W i m σ H->
 (J.stop i H/\D.nx σ H)\/(J.go i H/\∃N:St->Hp->Prop,(∀σ' H',N σ' H'->∃m',m'<m/\W (i+1) m' σ' H')/\∀x H',J.yld i H x H'->g x σ H' λσ2 H2=>tb { D with nx:=N,ct:=N,bk:=D.nx } σ2 H2)
def Qm(fp:List aN)(h:ba):List (aN×df):=fp.filterMap λb=>(h.get? b).map λo=>(b,o)
theorem Uw{fp:List aN}{h:ba}{b:aN}{o:df}(hb:b∈fp)(e:h.get? b=aA o):(b,o)∈Qm fp h:=hU.mpr ⟨b,hb,by rw[e];rfl⟩
theorem Er{fp:List aN}{h:ba}{p:aN×df}(hp:p∈Qm fp h):p.1∈fp/\h.get? p.1=aA p.2:=by
 obtain⟨b,hb,e⟩:=hU.mp hp
 cases q:h.get? b with
 | none=>rw[q] at e;cases e
 | some o=>
  rw[q] at e;have e':(b,o)=p:=bG e;subst e';exact⟨hb,q⟩
theorem Inv.pinned{nu:List (aN×df)}{σ:St}{H:Hp}{s:aQ}{fp:List aN}(I:Inv X nu σ H s)(hf:∀b∈fp,Rw X nu H b)(ho:∀b∈fp,∃o,s.heap.get? b=aA o/\∀v,o.data≠.cell v):Inv X (nu++Qm fp s.heap) σ H s:=
 I.pins_of λp hp=>(aq.mp hp).elim (λz=>I.pin p (ay _ z)) λz=>by obtain⟨hb,e⟩:=Er z;obtain⟨f0,f1,f2,_⟩:=hf p.1 hb;obtain⟨o,e',d⟩:=ho p.1 hb;rw[e] at e';cases e';exact⟨e,f0,f1,f2,d⟩
theorem Inv.unpinned{nu pl:List (aN×df)}{σ:St}{H:Hp}{s:aQ}(I:Inv X (nu++pl) σ H s):Inv X nu σ H s:=I.pins_of λp hp=>I.pin p (ay _ (au _ hp))
theorem LC{iter:bS}{body:List bx}{wi:TI}{g:TG}{tb:TS}{pos:fZ}(hp:lI (model X.prog X.w) X.A X.env X.xe)(hc:X.calm=aD)(hi:PI X tg iter wi)(hg:PG X tg g)(hb:PSs X body tb)
  (hs:∀x,cE iter X.env x=pure x:=by intro _;rfl):PS X (.For tg iter body [] pos) (AL wi g tb):=by
 intro nu s σ H D I h;refine wpAny_For (YN (hi nu s σ H _ I h) λv s1 h1=>YN h1 λitv s2 h2=>?_) hs;obtain⟨it,fp,tn,J,H2,e,I2,T,st2,f2,W,⟨m0,w0⟩,turn⟩:=h2;subst e
 -- what stays aD of the iterator's objects through the loop
 have stat:∀{H':Hp},(∀b∈fp,H' b=aB)->∀b∈fp,Rw X nu H' b:=λhn b hb=>⟨hn b hb,(f2 b hb).2⟩;refine codeAny_forLoop_any (λn s'=>∃i σ' H',Inv X nu σ' H' s'/\tn i s'.heap/\(∀b∈fp,H' b=aB)/\W i n σ' H') ?_ m0 ⟨0,σ,H2,I2,st2,λb hb=>(f2 b hb).1,w0⟩;rintro n s3 ⟨i,σ3,H3,I3,st3,fr3,w3⟩;rcases turn i n σ3 H3 w3 with⟨stop,qn⟩ | ⟨go,N,hN,step⟩
 ·refine fF hp (YN (T.done X rfl rfl rfl hc i nu s3 σ3 H3 X.xe I3 (stat fr3) st3 stop) λr s4 ⟨hr,I4⟩=>?_);subst hr;exact ij ⟨σ3,H3,I4,qn⟩
 ·refine fF hp (YN (T.item X rfl rfl rfl hc i nu s3 σ3 H3 X.xe I3 (stat fr3) st3 go) λr s4 ⟨u,hr,h4⟩=>?_);subst hr;refine fF hp (YN h4 λ_ s5 ⟨x,H5,I5,r5,y5,st5,fr5⟩=>?_);have I5':=I5.pinned (stat fr5) (T.obj _ _ st5);refine fF hp (YN (hg _ s5 σ3 H5 x u _ I5' r5 (step x H5 y5)) λ_ s6 ⟨σ6,H6,I6,q6⟩=>?_);refine fF hp (YN (hb _ s6 σ6 H6 _ I6 q6) λf s7 q7=>?_);have again:∀{σ7:St}{H7:Hp},Inv X (nu++Qm fp s5.heap) σ7 H7 s7->N σ7 H7->∃m,m<n/\∃i σ' H',Inv X nu σ' H' s7/\tn i s7.heap/\(∀b∈fp,H' b=aB)/\W i m σ' H':=λ{σ7 H7} I7 n7=>by obtain⟨m',hm,w7⟩:=hN σ7 H7 n7;refine⟨m',hm,i+1,σ7,H7,I7.unpinned,T.keep _ _ _ st5 λb hb o e=>(I7.pin (b,o) (ay _ (ay _ (Uw hb e)))).1,λb hb=>?_,w7⟩;obtain⟨o,e,d⟩:=T.obj _ _ st5 b hb;exact(I7.pin (b,o) (ay _ (ay _ (Uw hb e)))).2.1
  cases f with
  | next=>obtain⟨σ7,H7,I7,n7⟩:=q7;exact again I7 n7
  | cont=>obtain⟨σ7,H7,I7,n7⟩:=q7;exact again I7 n7
  | brk=>obtain⟨σ7,H7,I7,q7⟩:=q7;exact⟨σ7,H7,I7.unpinned,q7⟩
  | ret v=>obtain⟨x7,σ7,H7,I7,r7,q7⟩:=q7;exact⟨x7,σ7,H7,I7.unpinned,r7,q7⟩
end
abbrev R2:=V->V->Hp->VK->Prop
def Sr(X:Cx)(f:aL->aL->Sem aL)(r:R2):Prop:=
 ∀(nu:List (aN×df))(s:aQ)(σ:St)(H:Hp)(x y:V)(v u:aL)(Q:VK),Inv X nu σ H s->RelV x v->RelV y u->r x y H Q->
  bA (model X.prog X.w) X.A (f v u) (EP X nu σ Q) X.xe s
def UnR(X:Cx)(f:aL->Sem aL)(r:V->Hp->VK->Prop):Prop:=
 ∀(nu:List (aN×df))(s:aQ)(σ:St)(H:Hp)(x:V)(v:aL)(Q:VK),Inv X nu σ H s->RelV x v->r x H Q->
  bA (model X.prog X.w) X.A (f v) (EP X nu σ Q) X.xe s
def XU(X:Cx)(f:aL)(r:List V->Hp->VK->Prop):Prop:=
 ∀(nu:List (aN×df))(s:aQ)(σ:St)(H:Hp)(xs:List V)(us:List aL)(Q:VK),Inv X nu σ H s->Vals xs us->r xs H Q->
  bA (model X.prog X.w) X.A (call f us) (EP X nu σ Q) X.xe s
def Zh9(X:Cx)(r:V->Hp->(Bool->Hp->Prop)->Prop):Prop:=
 ∀(nu:List (aN×df))(s:aQ)(σ:St)(H:Hp)(x:V)(v:aL)(Q:Bool->Hp->Prop),Inv X nu σ H s->RelV x v->r x H Q->
  bA (model X.prog X.w) X.A (truthy v) (TP X nu σ Q) X.xe s
def tOp(r:R2)(ta tb:TE):TE:=λσ H Q=>ta σ H λx H1=>tb σ H1 λy H2=>r x y H2 Q
def tUn(r:V->Hp->VK->Prop)(ta:TE):TE:=λσ H Q=>ta σ H λx H1=>r x H1 Q
def rI(C:Int->Int->Prop)(g:Int->Int->V):R2:=λx y H Q=>∃i j,x = .int i/\y = .int j/\C i j/\Q (g i j) H
def AM(g:Int->Int->V):R2:=λx y H Q=>∃i j,x = .int i/\y = .int j/\Q (g i j) H
def rU(g:Int->V):V->Hp->VK->Prop:=λx H Q=>∃i,x = .int i/\Q (g i) H
section
variable {X:Cx} {a b c:bS} {ta tb tc:TE} {pos:fZ}
theorem Zdn(ha:PE X a ta)(hb:PE X b tb){nu:List (aN×df)}{s:aQ}{σ:St}{H:Hp}{R:V->V->Hp->Prop}(I:Inv X nu σ H s)
  (h:ta σ H λx H1=>tb σ H1 λy H2=>R x y H2) {Q:aL->aQ->Prop} {f:aL->aL->Sem aL}
  (hf:∀v u s2 x y H2,Inv X nu σ H2 s2->RelV x v->RelV y u->R x y H2->bA (model X.prog X.w) X.A (f v u) Q X.xe s2) :
  bA (model X.prog X.w) X.A (eval a X.env) (λv s₁=>bA (model X.prog X.w) X.A (eval b X.env) (λu s₂=>bA (model X.prog X.w) X.A (f v u) Q X.xe s₂) X.xe s₁) X.xe s:=by
 refine YN (ha nu s σ H _ I h) λv s1 ⟨x,H1,I1,r1,q1⟩=>?_;refine YN (hb nu s1 σ H1 _ I1 q1) λu s2 ⟨y,H2,I2,r2,q2⟩=>?_;exact hf v u s2 x y H2 I2 r1 r2 q2
theorem D4{op:Operator}{r:R2}(ho:Sr X (fK op) r)(ha:PE X a ta)(hb:PE X b tb):PE X (.BinOp a op b pos) (tOp r ta tb):=by intro nu s σ H Q I h;exact wpAny_BinOp (Zdn ha hb I h λv u s2 x y H2 I2 rx ry q=>ho nu s2 σ H2 x y v u Q I2 rx ry q)
theorem Zf7{op:UnaryOp}{r:V->Hp->VK->Prop}(ho:UnR X (unaryOp op) r)(ha:PE X a ta):PE X (.UnaryOp op a pos) (tUn r ta):=by intro nu s σ H Q I h;exact UnaryOp_ (YN (ha nu s σ H _ I h) λv s1 ⟨x,H1,I1,r1,q1⟩=>ho nu s1 σ H1 x v Q I1 r1 q1)
theorem opI{f:aL->aL->Sem aL}{C:Int->Int->Prop}{g:Int->Int->Int}
  (rule:∀(i j:Int)(t u:nt)(s:aQ)(Q:aL->aQ->Prop)(E:aL->aQ->Prop),C i j->Q (.int (g i j) s.toks) { s with toks:=s.toks+1 }->bA (model X.prog X.w) X.A (f (.int i t) (.int j u)) Q E s) :
  Sr X f (rI C λi j=>.int (g i j)):=by
 intro nu s σ H x y v u Q I rx ry h;obtain⟨i,j,rfl,rfl,hc,q⟩:=h;obtain⟨t,rfl⟩:=rx;obtain⟨t',rfl⟩:=ry;exact rule i j t t' s _ _ hc ⟨.int (g i j),H,I.tok _,⟨_,rfl⟩,q⟩
theorem Zf9{f:aL->aL->Sem aL}{g:Int->Int->Int}
  (rule:∀(i j:Int)(t u:nt)(s:aQ)(Q:aL->aQ->Prop)(E:aL->aQ->Prop),Q (.int (g i j) s.toks) { s with toks:=s.toks+1 }->bA (model X.prog X.w) X.A (f (.int i t) (.int j u)) Q E s) :
  Sr X f (AM λi j=>.int (g i j)):=by
 intro nu s σ H x y v u Q I rx ry h;obtain⟨i,j,rfl,rfl,q⟩:=h;obtain⟨t,rfl⟩:=rx;obtain⟨t',rfl⟩:=ry;exact rule i j t t' s _ _ ⟨.int (g i j),H,I.tok _,⟨_,rfl⟩,q⟩
theorem Zdo{f:aL->aL->Sem aL}{g:Int->Int->Bool}
  (rule:∀(i j:Int)(t u:nt)(s:aQ)(Q:aL->aQ->Prop)(E:aL->aQ->Prop),Q (.bool (g i j)) s->bA (model X.prog X.w) X.A (f (.int i t) (.int j u)) Q E s) :
  Sr X f (AM λi j=>.bl (g i j)):=by
 intro nu s σ H x y v u Q I rx ry h;obtain⟨i,j,rfl,rfl,q⟩:=h;obtain⟨t,rfl⟩:=rx;obtain⟨t',rfl⟩:=ry;exact rule i j t t' s _ _ ⟨.bl (g i j),H,I,rfl,q⟩
def Rx(i j:Int):Prop:=0<j/\j<1073741824
def Zce(i j:Int):Prop:=j≠0/\j.natAbs<1073741824
def Zga(i j:Int):Prop:=0<=j/\j<=1000000/\i.natAbs<2^64
def CMul(i j:Int):Prop:=(-(2^64)<i/\i<2^64)\/(-(2^64)<j/\j<2^64)
theorem CMul.ok{i j:Int}(h:CMul i j):IntMulOk i j:=by
 rcases h with⟨h1,h2⟩ | ⟨h1,h2⟩
 ·exact .of_left (intBits_le_64 h1 h2)
 ·exact .of_right (intBits_le_64 h1 h2)
theorem Zdp:Sr X (fK .Add) (AM λi j=>.int (i+j)):=Zf9 λ_ _ _ _ _ _ _ q=>add_int q
theorem Zdq:Sr X (fK .Sub) (AM λi j=>.int (i-j)):=Zf9 λ_ _ _ _ _ _ _ q=>sub_int q
theorem Zdr:Sr X (fK .Mult) (rI CMul λi j=>.int (i*j)):=opI λ_ _ _ _ _ _ _ hc q=>mul_int q hc.ok
theorem AN:Sr X (fK .FloorDiv) (rI Rx λi j=>.int (i/j)):=opI λi j _ _ _ _ _ hc q=>by have h1:(0:Int)<j:=hc.1;have h2:j<1073741824:=hc.2;exact floordiv_int (by omega) (by rw[gM i (by omega)];exact q) (.inl (PyProof.noPylong_small (by omega)))
theorem Zds:Sr X (fK .Mod) (rI (λ_ j=>0<j) λi j=>.int (i%j)):=opI λi j _ _ _ _ _ hc q=>by have h1:(0:Int)<j:=hc;exact mod_int' (by omega) (by rw[Int.fmod_eq_emod_of_nonneg i (by omega)];exact q)
theorem unI{f:aL->Sem aL}{g:Int->Int}
  (rule:∀(i:Int)(t:nt)(s:aQ)(Q:aL->aQ->Prop)(E:aL->aQ->Prop),Q (.int (g i) s.toks) { s with toks:=s.toks+1 }->bA (model X.prog X.w) X.A (f (.int i t)) Q E s) :
  UnR X f (rU λi=>.int (g i)):=by
 intro nu s σ H x v Q I rx h;obtain⟨i,rfl,q⟩:=h;obtain⟨t,rfl⟩:=rx;exact rule i t s _ _ ⟨.int (g i),H,I.tok _,⟨_,rfl⟩,q⟩
theorem Zdt:UnR X (unaryOp .USub) (rU λi=>.int (-i)):=unI λ_ _ _ _ _ q=>neg_int q
end
section
variable {X:Cx} {a b c:bS} {ta tb tc:TE} {pos:fZ}
theorem Zcf:Sr X (dc .Lt) (AM λi j=>.bl (decide (i<j))):=Zdo λ_ _ _ _ _ _ _ q=>lt_int q
theorem Zgb:Sr X (dc .LtE) (AM λi j=>.bl (decide (i<=j))):=Zdo λ_ _ _ _ _ _ _ q=>le_int q
theorem Zcg:Sr X (dc .Gt) (AM λi j=>.bl (decide (j<i))):=Zdo λ_ _ _ _ _ _ _ q=>gt_int q
theorem Sz(b:bS){op:lu}(h:op≠.In:=by decide)(h2:op≠.NotIn:=by decide):cq op b=aC:=by
 have e1:(op==lu.In)=aC:=by cases op<;>first | rfl | exact absurd rfl h
 have e2:(op==lu.NotIn)=aC:=by cases op<;>first | rfl | exact absurd rfl h2
 cases b<;>simp[cq,e1,e2]
theorem AO{op:lu}{r:R2}(ho:Sr X (dc op) r)(ha:PE X a ta)(hb:PE X b tb)(hm:cq op b=aC):PE X (.Compare a [op] [b] pos) (tOp r ta tb):=by intro nu s σ H Q I h;exact wpAny_Compare1 (Zdn ha hb I h λv u s2 x y H2 I2 rx ry q=>ho nu s2 σ H2 x y v u Q I2 rx ry q) hm
def Jc(t:TE):TT:=λσ H Q=>t σ H λx H'=>∃k,x = .bl k/\Q k H'
theorem AQ{op:lu}{r:R2}(ho:Sr X (dc op) r)(ha:PE X a ta)(hb:PE X b tb)(hm:cq op b=aC):PT X (.Compare a [op] [b] pos) (Jc (tOp r ta tb)):=by
 intro nu s σ H Q I h
 refine k8 (YN (ha nu s σ H _ I h) λv s1 ⟨x,H1,I1,r1,q1⟩=>YN (hb nu s1 σ H1 _ I1 q1) λu s2 ⟨y,H2,I2,r2,q2⟩=>
  YN (ho nu s2 σ H2 x y v u _ I2 r1 r2 q2) λc s3 ⟨z,H3,I3,r3,k,e,q3⟩=>?_) hm
 subst e;cases r3;exact dD ⟨H3,I3,q3⟩
def D5(r r':R2)(ta tb tc:TE):TE:=λσ H Q=>ta σ H λx H1=>tb σ H1 λy H2=>r x y H2 λz H3=>∃k,z = .bl k/\
 (if k=aD then tc σ H3 λw' H4=>r' y w' H4 Q else Q (.bl aC) H3)
theorem D6{op op':lu}{r r':R2}(ho:Sr X (dc op) r)(ho':Sr X (dc op') r')(ha:PE X a ta)(hb:PE X b tb)(hc:PE X c tc)
  (hm:lastMarks [op,op'] [b,c]=aC:=by with_unfolding_all rfl):PT X (.Compare a [op,op'] [b,c] pos) (Jc (D5 r r' ta tb tc)):=by
 intro nu s σ H Q I h
 refine isTrue_chain (YN (ha nu s σ H _ I h) λv s1 ⟨x,H1,I1,r1,q1⟩=>test_link (YN (hb nu s1 σ H1 _ I1 q1) λu s2 ⟨y,H2,I2,r2,q2⟩=>
  YN (ho nu s2 σ H2 x y v u _ I2 r1 r2 q2) λd s3 ⟨z,H3,I3,r3,k,e,q3⟩=>?_)) hm
 subst e;cases r3;refine dD ?_
 cases k with
 | false=>
  obtain⟨k',e',q'⟩:=q3;cases e';exact ite_ff ⟨H3,I3,q'⟩
 | true=>
  refine ite_tt (test_last (YN (hc nu s3 σ H3 _ I3 q3) λw' s4 ⟨z',H4,I4,r4,q4⟩=>YN (ho' nu s4 σ H4 y z' u w' _ I4 r2 r4 q4) λd' s5 ⟨z2,H5,I5,r5,k2,e2,q5⟩=>?_));subst e2;cases r5;exact dD ⟨H5,I5,q5⟩
def Zgc(K:aJ)(x:V)(H:Hp)(k:Bool):Prop:=
 match x with
 | .non=>k=aC
 | .bl b=>k=b
 | .int i=>k=(i != 0)
 | .str y=>y.length<=sizeLine/\k=((y.length:Int) != 0)
 | .byt y=>y.size<=sizeLine/\k=((y.size:Int) != 0)
 | .ref p=>(∃xs,SqL K H p xs/\k = !xs.isEmpty)\/(∃xs,SqT K H p xs/\k = !xs.isEmpty)\/∃o4,H p=aA (.dK o4)/\k = !o4.isEmpty
 | _=>False
theorem IW{κ:Type}{o4:List (κ×V)}{vs:List (κ×aL)}(r:KV o4 vs):(!vs.isEmpty) = !o4.isEmpty:=by cases r<;>rfl
theorem Ox{xs:List V}{o9:List aL}(r:Vals xs o9):(!o9.toArray.isEmpty) = !xs.isEmpty:=by cases r<;>simp
theorem Qn:(sizeLine:Nat)<2^63:=by rw[dh];decide
theorem Zdu:Zh9 X (λx H Q=>∃k,Zgc X.K x H k/\Q k H):=by
 intro nu s σ H x v Q I rx h;obtain⟨k,e,q⟩:=h;have hl:=Qn;have hs:sizeLine=16777216:=dh
 cases x with
 | non=>
  cases rx;have e':k=aC:=e;subst e';exact truthy_none ⟨H,I,q⟩
 | bl b=>
  cases rx;have e':k=b:=e;subst e';exact dD ⟨H,I,q⟩
 | int i=>
  obtain⟨t,rfl⟩:=rx;have e':k=(i != 0):=e;subst e';exact PySem.P.truthy_int ⟨H,I,q⟩
 | str y=>
  obtain⟨t,rfl⟩:=rx;obtain⟨hy,e'⟩:y.length<=sizeLine/\k=((y.length:Int) != 0):=e;subst e';exact PySem.P.truthy_str (by omega) ⟨H,I.tok _,q⟩
 | byt y=>
  obtain⟨t,rfl⟩:=rx;obtain⟨hy,e'⟩:y.size<=sizeLine/\k=((y.size:Int) != 0):=e;subst e';exact PySem.W.truthy_bytes (by omega) ⟨H,I.tok _,q⟩
 | ref p=>
  cases rx;have e':(∃xs,SqL X.K H p xs/\k = !xs.isEmpty)\/(∃xs,SqT X.K H p xs/\k = !xs.isEmpty)\/∃o4,H p=aA (.dK o4)/\k = !o4.isEmpty:=e;rcases e' with⟨xs,hx,e'⟩ | ⟨xs,hx,e'⟩ | ⟨o4,hx,e'⟩
  ·subst e';obtain⟨o9,r,pl,hz⟩:=I.list hx;have hlen:=r.length;exact wpAny_truthy_list pl.isList (by simp only[aU];omega) ⟨H,I.tok _,by rw[Ox r];exact q⟩
  ·subst e';obtain⟨o9,r,pl,hz⟩:=I.tuple hx;have hlen:=r.length;exact truthy_tuple pl (by simp only[aU];omega) ⟨H,I.tok _,by rw[Ox r];exact q⟩
  ·subst e';obtain⟨hz,hS,vs,r,m⟩:o4.length<=sizeLine/\(p==fQ)=aC/\∃vs,KV o4 vs/\s.heap.DictOf (YZ X.prog X.w) p vs:=I.hok p _ hx;have hlen:o4.length=vs.length:=Paired.length r;exact wpAny_truthy_dict hS m (by omega) ⟨H,I.tok _,by rw[IW r];exact q⟩
 | _=>exact(show False from e).elim
theorem D7(ha:PE X a ta)(he:∀whole,l7 a X.env whole=(do let v <-whole;mv a.pos;holding [v] (truthy v))) :
  PT X a (λσ H Q=>ta σ H λx H'=>∃k,Zgc X.K x H' k/\Q k H'):=by
 intro nu s σ H Q I h;exact isTrue_plain (YN (ha nu s σ H _ I h) λv s1 ⟨x,H1,I1,r1,q1⟩=>Zdu nu s1 σ H1 x v Q I1 r1 q1) (he _)
theorem Ry{x:V}{us:List aL}(r:Vals [x] us):∃u,us=[u]/\RelV x u:=by
 cases r with
 | cons r1 r2=>cases r2;exact⟨_,rfl,r1⟩
theorem D8{x y:V}{us:List aL}(r:Vals [x,y] us):∃u w',us=[u,w']/\RelV x u/\RelV y w':=by
 cases r with
 | cons r1 r2=>
  cases r2 with
  | cons r3 r4=>cases r4;exact⟨_,_,rfl,r1,r3⟩
theorem Es(hc:X.calm=aD):XU X (.builtin "max") (λxs H Q=>∃i j,xs=[.int i,.int j]/\Q (.int (if j>i then j else i)) H):=by
 intro nu s σ H xs us Q I r h;obtain⟨i,j,rfl,q⟩:=h;obtain⟨u,w',rfl,⟨t,rfl⟩,⟨t',rfl⟩⟩:=D8 r;refine max_two_ints (I.ok.hd hc) λh' tk k=>⟨_,H,I.kept k,?_,q⟩;by_cases hj:j>i
 ·rw[oA hj,oA hj];exact⟨_,rfl⟩
 ·rw[oB hj,oB hj];exact⟨_,rfl⟩
theorem Qo(hc:X.calm=aD):XU X (.builtin "min") (λxs H Q=>∃i j,xs=[.int i,.int j]/\Q (.int (if j<i then j else i)) H):=by
 intro nu s σ H xs us Q I r h;obtain⟨i,j,rfl,q⟩:=h;obtain⟨u,w',rfl,⟨t,rfl⟩,⟨t',rfl⟩⟩:=D8 r;refine min_two_ints (I.ok.hd hc) λh' tk k=>⟨_,H,I.kept k,?_,q⟩;by_cases hj:j<i
 ·rw[oA hj,oA hj];exact⟨_,rfl⟩
 ·rw[oB hj,oB hj];exact⟨_,rfl⟩
theorem Qp:XU X (.type "int") (λxs H Q=>(∃i,xs=[.int i]/\Q (.int i) H)\/∃k,xs=[.bl k]/\Q (.int (if k then 1 else 0)) H):=by
 intro nu s σ H xs us Q I r h;rcases h with⟨i,rfl,q⟩ | ⟨k,rfl,q⟩
 ·obtain⟨u,rfl,t,rfl⟩:=Ry r;exact call_int_int ⟨.int i,H,I,⟨_,rfl⟩,q⟩
 ·obtain⟨u,rfl,r1⟩:=Ry r;cases r1;exact call_int_bool ⟨.int (if k then 1 else 0),H,I.tok _,⟨_,rfl⟩,q⟩
def Zgd(K:aJ)(x:V)(H:Hp)(n:Nat):Prop:=
 match x with
 | .str y=>y.length<=sizeLine/\n=y.length
 | .byt y=>y.size<=sizeLine/\n=y.size
 | .ref p=>(∃xs,SqL K H p xs/\n=xs.length)\/∃xs,SqT K H p xs/\n=xs.length
 | _=>False
theorem D9:XU X (.builtin "len") (λxs H Q=>∃x n,xs=[x]/\Zgd X.K x H n/\Q (.int n) H):=by
 intro nu s σ H xs us Q I r h;obtain⟨x,n,rfl,e,q⟩:=h;obtain⟨u,rfl,rx⟩:=Ry r;have hl:=Qn;have hs:sizeLine=16777216:=dh
 cases x with
 | str y=>
  obtain⟨t,rfl⟩:=rx;obtain⟨hy,e'⟩:y.length<=sizeLine/\n=y.length:=e;subst e';exact len_str (by omega) ⟨.int _,H,I.tok _,⟨_,rfl⟩,q⟩
 | byt y=>
  obtain⟨t,rfl⟩:=rx;obtain⟨hy,e'⟩:y.size<=sizeLine/\n=y.size:=e;subst e';exact PySem.W.len_bytes (by omega) ⟨.int _,H,I.tok _,⟨_,rfl⟩,q⟩
 | ref p=>
  cases rx;have e':(∃xs,SqL X.K H p xs/\n=xs.length)\/∃xs,SqT X.K H p xs/\n=xs.length:=e;rcases e' with⟨xs,hx,e'⟩ | ⟨xs,hx,e'⟩
  ·subst e';obtain⟨o9,r',pl,hz⟩:=I.list hx;have hlen:=r'.length;exact Calls.call_len_list pl.isList (by simp only[aU];omega) ⟨.int xs.length,H,I.tok _,⟨_,by simp only[aU];rw[hlen]⟩,q⟩
  ·subst e';obtain⟨o9,r',pl,hz⟩:=I.tuple hx;have hlen:=r'.length;exact len_tuple pl (by simp only[aU];omega) ⟨.int xs.length,H,I.tok _,⟨_,by simp only[aU];rw[hlen]⟩,q⟩
 | _=>exact(show False from e).elim
end
structure ObjM(h:ba)(x dx C:aN)(mA:bH->Option aL):Prop where
 obj:h.get? x=aA (kZ C dx)
 ns:h.Ns1 dx mA
 ne:dx≠x
theorem Et{h:ba}{dx:aN}{mA:bH->Option aL}(n:h.Ns1 dx mA):∃od,h.get? dx=aA od/\∀name,kd name od=aA (mA name):=by
 obtain⟨o,es,ep,ho,hd,hk,_,hm⟩:=n;refine⟨o,ho,λname=>?_⟩;have e:=hm name;unfold nsFind findBy at e;rw[<-Array.find?_toList] at e;unfold kd;rw[hd]
 dsimp only
 split
 ·rename_i y q;rw[q] at e;exact congrArg aA e
 ·rename_i q;rw[q] at e;have a:es.toList.any (·.refKey)=aC:=by rw[List.any_eq_false];intro y hy;obtain⟨z,t,hkey⟩:=hk y (Array.mem_toList_iff.mp hy);simp[lP.refKey,hkey]
  have a':¬es.toList.any (·.refKey)=aD:=by rw[a];exact aw
  rw[oB a'];exact congrArg aA e
theorem ObjM.look{h:ba}{x dx C:aN}{mA:bH->Option aL}(I:ObjM h x dx C mA):∃od,PySem.W.InstAt h x (kZ C dx) C (aA od)/\∀name,kd name od=aA (mA name):=
 let⟨od,ho,hl⟩:=Et I.ns
 ⟨od,⟨I.obj,rfl,rfl,ho⟩,hl⟩
theorem RelO.some_of{v:V}{o:Option aL}(r:RelO (aA v) o):∃u,o=aA u/\RelV v u:=by
 cases o with
 | none=>exact(show False from r).elim
 | some u=>exact⟨u,rfl,r⟩
section
variable {P:bQ} {w:bu} {H H':Hp} {h h':ba} {a C dx:aN} {fs fs':List (bH×V)}
theorem AR(hok:HOk P w H h)(e:H a=aA (.ins C dx fs)):∃mA,ObjM h a dx C mA/\(∀f,RelO (fs.lookup f) (mA f))/\n6 mA (fs.map (·.1))/\fs.length<=1000/\H dx=aA (.own a):=by obtain⟨d,z,ne,ob,mA,n,r,q⟩:=(show ObjOk P w H h a (.ins C dx fs) from hok a _ e);exact⟨mA,⟨ob,n,ne⟩,r,q,z,d⟩
end
structure Cls(K:aJ)(C:aN):Prop where
 pg:mR K C bH.empty=aD
 hd:PySem.W.hasDictIn K C=aD
 po:PySem.W.plainOver K C=aD
 sa:nB K (.ref C) "__setattr__" = aA (aA (.builtin "object.__setattr__"))
theorem Cls.get{K:aJ}{C:aN}(c:Cls K C)(f:bH):mR K C f=aD:=c.pg
section
variable {X:Cx} {nu:List (aN×df)} {σ:St} {H:Hp} {s:aQ} {A:bw} {E:aL->aQ->Prop} {Q:aL->aQ->Prop} {c:aL} {b:Bool}
inductive TyOf(K:aJ)(H:Hp):V->aL->Prop where
 | non:TyOf K H .non (.type "NoneType")
 | bl (x:Bool):TyOf K H (.bl x) (.type "bool")
 | int (i:Int):TyOf K H (.int i) (.type "int")
 | str (x:bH):TyOf K H (.str x) (.type "str")
 | flt (x:UInt64):TyOf K H (.flt x) (.type "float")
 | lst {a:aN} {xs:List V} (e:H a=aA (.lst xs)):TyOf K H (.ref a) (.type "list")
 | frz {a:aN} {o:df} {xs:List V} (e:H a=aA (.frz o (.lst xs))):TyOf K H (.ref a) (.type "list")
 | tup {a:aN} {xs:List V} (e:H a=aA (.tup xs)):TyOf K H (.ref a) (.type "tuple")
 | dK {a:aN} {o4:List (YV×V)} (e:H a=aA (.dK o4)):TyOf K H (.ref a) (.type "dict")
 | dT {a:aN} {o4:List (List YV×V)} (e:H a=aA (.dT o4)):TyOf K H (.ref a) (.type "dict")
 | ins {a C dx:aN} {fs:List (bH×V)} (e:H a=aA (.ins C dx fs)) (cl:Cls K C) (ha:nB K (.ref C) "__class__" = aA (aA (.builtin "object.__class__")))
   (hn:PySem.W.specialIn K (.builtin "object.__class__") "__get__" = aA (aA (.builtin "getset_descriptor.__get__"))) (htk:PySem.W.takesIn K (.builtin "object.__class__")=aA aD)
   (hm:PySem.W.mroIn K C (.type "object")=aA aD):TyOf K H (.ref a) (.ref C)
theorem Eu{x:V}{u t:aL}(I:Inv X nu σ H s)(rx:RelV x u)(ty:TyOf X.K H x t)(e:dY X.K t c=aA b)(h:∀tk,Q (.bool b) { s with toks:=tk }) :
  bA (model X.prog X.w) A (call (.builtin "isinstance") [u,c]) Q E s:=by
 cases ty with
 | non=>cases (show u=cP from rx);exact cu PySem.W.kitx_none I.kIn bj e (λz=>nomatch z) h
 | bl y=>cases (show u=mw y from rx);exact cu PySem.W.kitx_bool I.kIn bj e (λz=>nomatch z) h
 | int i=>obtain⟨t,q⟩:=(show ∃t,u=gU i t from rx);cases q;exact cu PySem.W.kitx_int I.kIn bj e (λz=>nomatch z) h
 | str y=>obtain⟨t,q⟩:=(show ∃t,u=mQ y t from rx);cases q;exact cu PySem.W.kitx_str I.kIn bj e (λz=>nomatch z) h
 | flt y=>obtain⟨t,q⟩:=(show ∃t,u=aL.float y t from rx);cases q;exact cu PySem.W.kitx_float I.kIn bj e (λz=>nomatch z) h
 | @lst a xs ea=>
  cases (show u=bP a from rx);obtain⟨_,_,n,_,h1⟩:=(show ObjOk X.prog X.w H s.heap a (.lst xs) from I.hok a _ ea);exact cu ly I.kIn ⟨_,h1,rfl⟩ e (λz=>nomatch z) h
 | @frz a ob xs ea=>
  cases (show u=bP a from rx);obtain⟨_,_,_,n,_,h1⟩:=(show ObjOk X.prog X.w H s.heap a (.frz ob (.lst xs)) from I.hok a _ ea);exact cu ly I.kIn ⟨_,h1,rfl⟩ e (λz=>nomatch z) h
 | @tup a xs ea=>
  cases (show u=bP a from rx);obtain⟨_,_,_,p⟩:=(show ObjOk X.prog X.w H s.heap a (.tup xs) from I.hok a _ ea);obtain⟨o,h1,h2,_⟩:=p;exact cu PySem.W.kitx_tuple I.kIn ⟨o,h1,h2⟩ e (λz=>nomatch z) h
 | @dK a o4 ea=>
  cases (show u=bP a from rx);obtain⟨_,_,vs,_,p⟩:=(show ObjOk X.prog X.w H s.heap a (.dK o4) from I.hok a _ ea);obtain⟨o,es,ep,h1,h2,_⟩:=p;exact cu lz I.kIn ⟨o,h1,h2.1⟩ e (λz=>nomatch z) h
 | @dT a o4 ea=>
  cases (show u=bP a from rx);obtain⟨_,_,xs,_,o,es,ep,h1,h2,_⟩:=(show ObjOk X.prog X.w H s.heap a (.dT o4) from I.hok a _ ea);exact cu lz I.kIn ⟨o,h1,h2.1⟩ e (λz=>nomatch z) h
 | @ins a C dx fs ea cl ha hn htk hm=>
  cases (show u=bP a from rx);obtain⟨mA,O,_⟩:=AR I.hok ea;obtain⟨od,J,_⟩:=O.look;exact cu (PySem.W.kitx_own (cl.get _) cl.hd ha hn htk hm) I.kIn J e (λz=>nomatch z) h
end
structure Room(k:Nat)(A:bw):Prop where
 hd:A.handled=aB
 dp:A.depth+3*k+5<recursionLimit
 un:A.units+16*k+200<fL
 gd:A.guards=aA []
theorem Room.mono{j k:Nat}{A:bw}(r:Room k A)(h:j<=k):Room j A:=⟨r.hd,by have:=r.dp;omega,by have:=r.un;omega,r.gd⟩
theorem Room.deeper{k:Nat}{A:bw}(r:Room (k+1) A)(env:lZ):Room k (A.deeper env):=
 ⟨r.hd,by have:=r.dp;show A.depth+1+3*k+5<_;omega,by have:=r.un;show A.units+3+16*k+200<_;omega,r.gd⟩
theorem Room.depth{k:Nat}{A:bw}(r:Room k A):A.depth<recursionLimit:=by have:=r.dp;omega
theorem Room.units{k:Nat}{A:bw}(r:Room k A):A.units+64<fL:=by have:=r.un;omega
def Ew:TA:=λ_ H Q=>Q [] H
def Rz(ta:TE)(tr:TA):TA:=λσ H Q=>ta σ H λx H1=>tr σ H1 λxs H2=>Q (x::xs) H2
section
variable {X:Cx} {e:bS} {es:List bS} {te:TE} {t:TA} {pos:fZ}
theorem Xu:PA X [] Ew:=λ_ _ _ _ H Q I h=>mB ⟨[],H,I,.nil,h⟩
theorem Z7(ha:PE X e te)(hr:PA X es t)(hs:aV (e::es) X.env=(aC,eval e X.env)::aV es X.env:=by rfl):PA X (e::es) (Rz te t):=by intro pos nu s σ H Q I h;rw[hs];show bA _ _ (spliced ((aC,eval e X.env)::eI pos (aV es X.env))) _ _ s;refine l9 (YN (ha nu s σ H _ I h) λu s1 ⟨x,H1,I1,r1,q1⟩=>?_);exact YN (hr pos nu s1 σ H1 _ I1 q1) λus s2 ⟨xs,H2,I2,r2,q2⟩=>⟨x::xs,H2,I2,.cons r1 r2,q2⟩
def Zge(t:TA):TE:=λσ H Q=>t σ H λxs H1=>xs.length<=sizeLine/\∀p,H1 p=aB->Q (.ref p) (upd H1 p (.tup xs))
def Zgf(t:TA):TE:=λσ H Q=>t σ H λxs H1=>xs.length<=sizeLine/\∀p,H1 p=aB->Q (.ref p) (upd H1 p (.lst xs))
theorem IX{x1}(h:PA X es t):PE X (.Tuple es x1 pos) (Zge t):=by intro nu s σ H Q I hq;refine wpAny_Tuple_spliced (YN (h pos nu s σ H _ I hq) λus s1 ⟨xs,H1,I1,r,z,q⟩=>⟨by rw[<-r.length];exact z,?_⟩);have hf:H1 s1.heap.objs.size=aB:=I1.hok.fresh (aT _);refine⟨.ref s1.heap.objs.size,upd H1 s1.heap.objs.size (.tup xs),I1.laid (t':=s1.toks) (λb u e=>aM _ e) (aT _) ?_,rfl,q _ hf⟩;exact⟨⟨z,λo e=>Ou e⟩,us,r,⟨_,aj _ rfl,rfl,_,rfl⟩⟩
theorem IY(h:PA X es t):PE X (.List es pos) (Zgf t):=by intro nu s σ H Q I hq;refine wpAny_List_spliced (YN (h pos nu s σ H _ I hq) λus s1 ⟨xs,H1,I1,r,z,q⟩=>⟨by rw[<-r.length];exact z,?_⟩);have hf:H1 s1.heap.objs.size=aB:=I1.hok.fresh (aT _);refine⟨.ref s1.heap.objs.size,upd H1 s1.heap.objs.size (.lst xs),I1.laid (t':=s1.toks) (λb u e=>aM _ e) (aT _) ?_,rfl,q _ hf⟩;exact⟨z,us,0,r,aj _ rfl⟩
end
abbrev Sp:=List V->Hp->VK->XK->Prop
abbrev CXT:=List lZ->Hp->aQ->XK->aL->aQ->Prop
structure Env0(P:bQ)(w:bu)(K:aJ)(mg:bH->Option aL)(base:ba)(A:bw)(outer:List lZ)(s:aQ)(H:Hp):Prop where
 frames:A.frames=aA outer
 mod:Mod K mg base
 bs:∀b o,base.get? b=aA o->s.heap.get? b=aA o/\H b=aB
 bsz:base.objs.size<=s.heap.objs.size
 funs:s.heap.FunFrames base outer
 frf:∀b∈Lz outer,H b=aB
 tab:TabsH K mg base H
 hok:HOk P w H s.heap
 bare:kK s.gens
def CE(outer:List lZ)(P:bQ)(w:bu)(H:Hp)(s:aQ)(Q:VK)(u:aL)(s':aQ):Prop:=
 ∃v H',s'.os=s.os/\kK s'.gens/\Un (Lz outer) [] H H' s.heap s'.heap/\HOk P w H' s'.heap/\RelV v u/\Q v H'
def CR(CX:CXT)(outer:List lZ)(P:bQ)(w:bu)(H:Hp)(s:aQ)(Q:VK)(E:XK)(r:Result)(s':aQ):Prop:=
 match r with
 | .ok (.ret u)=>CE outer P w H s Q u s'
 | .ok _=>False
 | .error e=>CX outer H s E e s'
structure Qq(P:bQ)(w:bu)(K:aJ)(mg:bH->Option aL)(base:ba)(CX:CXT)(k:Nat)(f:aN)(fd:fX)(ps:List bH)(sp:Sp):Prop where
 len:∀vs H Q E,sp vs H Q E->vs.length=ps.length
 run:∀(A:bw)(outer:List lZ)(s:aQ)(H:Hp)(args:Args)(us:List aL)(vs:List V)(Q:VK)(E:XK),Room k A->Env0 P w K mg base A outer s H->mC s fd args (ps.zip us)->Vals vs us->sp vs H Q E->
  kM (model P w) A (.call (.ref f) args) (CR CX outer P w H s Q E) s
section
variable {X:Cx} {nu:List (aN×df)} {σ:St} {H:Hp} {s s':aQ}
theorem Inv.env0(I:Inv X nu σ H s):Env0 X.prog X.w X.K X.mg X.base X.A X.stack s H:=
 ⟨I.ok.frames,I.ok.mod,I.bs,bg I.ok.bsz I.sz,I.stack,I.stkFree,I.ok.tab.un I.base,I.hok,I.bare⟩
theorem Inv.after{Q:VK}{u:aL}(I:Inv X nu σ H s)(h:CE X.stack X.prog X.w H s Q u s'):EP X nu σ Q u s':=by obtain⟨v,H',os,bare,un,hok,r,q⟩:=h;obtain⟨hh,g,d,t,os'⟩:=s';obtain rfl:os'=s.os:=os;exact⟨v,H',I.call (h':=hh) (g':=g) (d':=d) (t':=t) (ch:=[]) un hok bare (λb z=>absurd z (by simp)),r,q⟩
end
def Zci(sp:Sp)(dvs:List V)(E:XK)(t:TA):TE:=λσ H Q=>t σ H λvs H1=>sp (vs++dvs) H1 Q E
def Binds(K:aJ)(fd:fX)(ps:List bH)(ds:List aL):Prop:=
 ∀(s:aQ)(us:List aL),K.In s.heap->(us++ds).length=ps.length->mC s fd ⟨us,[]⟩ (ps.zip (us++ds))
theorem Binds.all{K:aJ}{fd:fX}{ps:List bH}(h:∀us:List aL,us.length=ps.length->i6 fd ⟨us,[]⟩=pure (ps.zip us)):Binds K fd ps []:=λs us _ hl=>by rw[di] at hl ⊢;exact .of_eq (h us hl)
def IZ(CX:CXT)(X:Cx)(E:XK):Prop:=∀(nu:List (aN×df))(σ:St)(H:Hp)(s:aQ)(e:aL)(s':aQ),Inv X nu σ H s->CX X.stack H s E e s'->X.xe e s'
section
variable {X:Cx} {CX:CXT} {k:Nat} {f C:aN} {fd:fX} {ps:List bH} {sp:Sp} {dvs:List V} {ds:List aL} {E:XK} {x m:bH} {p pos apos:fZ} {e o:bS} {es:List bS} {ta:TE} {t:TA}
theorem Zdv{nu:List (aN×df)}{σ:St}{H:Hp}{s:aQ}{Q:VK}{us:List aL}{vs:List V}(F:Qq X.prog X.w X.K X.mg X.base CX k f fd ps sp)(hr:Room k X.A)(hb:Binds X.K fd ps ds)(hd:Vals dvs ds)(hx:IZ CX X E)
  (I:Inv X nu σ H s) (r:Vals vs us) (h:sp (vs++dvs) H Q E):bA (model X.prog X.w) X.A (call (.ref f) us) (EP X nu σ Q) X.xe s:=by
 have r2:Vals (vs++dvs) (us++ds):=r.append hd;have hl:(us++ds).length=ps.length:=by rw[<-r2.length];exact F.len _ _ _ _ h
 refine nE (jG (F.run X.A X.stack s H ⟨us,[]⟩ (us++ds) (vs++dvs) Q E hr I.env0 (hb s us I.kIn hl) r2 h) λr s' hq=>?_)
 cases r with
 | error e=>exact hx nu σ H s e s' I hq
 | ok fl=>
  cases fl with
  | ret u=>exact I.after hq
  | next=>exact dN hq
  | brk=>exact dN hq
  | cont=>exact dN hq
theorem GS(F:Qq X.prog X.w X.K X.mg X.base CX k f fd ps sp)(hr:Room k X.A)(hg:Gl X x)(hm:X.mg x=aA (.ref f))(hk:eZ X.K (.ref f)=aD)(hb:Binds X.K fd ps ds)(hd:Vals dvs ds)(hx:IZ CX X E)
  (ha:PA X (e::es) t) (hdb:(x==("__debug__" : bH))=aC:=by decide) (he:aV (e::es) X.env=(aC,eval e X.env)::aV es X.env:=by rfl) (hpl:(eI pos (aV es X.env)).any (·.1)=aC:=by rfl) :
  PE X (.Call (.Name x p) (e::es) [] pos) (Zci sp dvs E t):=by
 intro nu s σ H Q I h;refine e7 (GP I hg hm ?_ hdb);refine lh (h₀:=X.base) I.ok.mod.kin hk (YN (ha pos nu s σ H _ I h) λus s1 ⟨vs,H1,I1,r,q⟩=>⟨I1.kIn,?_⟩) he hpl;exact Zdv F hr hb hd hx I1 r q
end
def PK(X:Cx)(kws:List Keyword)(t:TA):Prop:=
 ∀(pos:fZ)(nu:List (aN×df))(s:aQ)(σ:St)(H:Hp)(Q:List V->Hp->Prop),Inv X nu σ H s->t σ H Q->bA (model X.prog X.w) X.A (evalAll ((backToKw pos (keywordEach kws X.env)).map (·.2))) (AP X nu σ Q) X.xe s
structure Zp(N P:List bH)(sc:gK):Prop where
 kind:sc.kind = .function
 co:sc.isCoroutine=aC
 gen:sc.isGenerator=aC
 nd:N.Nodup
 pre:N.take P.length=P
 par:∀x∈P,sc.names.lookup x=aA .local\/sc.names.lookup x=aA .cell
 nofree:∀y∈sc.names,y.2≠.free
theorem MG{kindOf:bH->Option fY}{x:bH}:∀{binds:List (bH×aL)}{m:bH->Option aL},(∀v,(x,v)∉binds)->nF kindOf binds m x=m x
 | [],_,_=>rfl
 | (n,v)::r,m,h=>by
  unfold nF;rw[MG λw hw=>h w (aP _ hw)];split
  ·have:x≠n:=by rintro rfl;exact h v af
   simp[this]
  ·rfl
theorem MH{kindOf:bH->Option fY}{x:bH}:∀{binds:List (bH×aL)}{m:bH->Option aL},(∀v,(x,v)∉binds)->nH kindOf binds m x=m x
 | [],_,_=>rfl
 | (n,v)::r,m,h=>by
  unfold nH;rw[MH λw hw=>h w (aP _ hw)];split
  ·rfl
  ·have:x≠n:=by rintro rfl;exact h v af
   simp[this]
theorem MI{kindOf:bH->Option fY}{x:bH}{v:aL}:∀{P:List bH}{vs:List aL}{i:Nat}{m:bH->Option aL},P.Nodup->P[i]?=aA x->vs[i]?=aA v->kindOf x=aA .local->
  nF kindOf (P.zip vs) m x=aA v
 | [],_,_,_,_,h,_,_=>by simp at h
 | _::_,[],_,_,_,_,h,_=>by simp at h
 | p::P,w::vs,0,m,nd,h1,h2,hk=>by simp at h1 h2;subst h1;subst h2;show nF kindOf ((p,w)::P.zip vs) m p=_;unfold nF;rw[MG λv hv=>(ar.mp nd).1 (gq hv).1,oA hk];simp
 | p::P,w::vs,i+1,m,nd,h1,h2,hk=>by show nF kindOf ((p,w)::P.zip vs) m x=_;unfold nF;exact MI (i:=i) (ar.mp nd).2 (by simpa using h1) (by simpa using h2) hk
theorem MJ{kindOf:bH->Option fY}{x:bH}{v:aL}:∀{P:List bH}{vs:List aL}{i:Nat}{m:bH->Option aL},P.Nodup->P[i]?=aA x->vs[i]?=aA v->kindOf x≠aA .local->
  nH kindOf (P.zip vs) m x=aA v
 | [],_,_,_,_,h,_,_=>by simp at h
 | _::_,[],_,_,_,_,h,_=>by simp at h
 | p::P,w::vs,0,m,nd,h1,h2,hk=>by simp at h1 h2;subst h1;subst h2;show nH kindOf ((p,w)::P.zip vs) m p=_;unfold nH;rw[MH λv hv=>(ar.mp nd).1 (gq hv).1,oB hk];simp
 | p::P,w::vs,i+1,m,nd,h1,h2,hk=>by show nH kindOf ((p,w)::P.zip vs) m x=_;unfold nH;exact MJ (i:=i) (ar.mp nd).2 (by simpa using h1) (by simpa using h2) hk
def start(N:List bH)(vs:List V):St:=vs.map aA++aG (N.length-vs.length) aB
noncomputable def PH(CX:CXT)(P:bQ)(w:bu)(K:aJ)(mg:bH->Option aL)(base:ba)(N:List bH)(qual:bH)(scope:gK)(f:aN)(cd:aL)(A:bw)(outer:List lZ)(s:aQ)(H:Hp)(E:XK):Cx where
 prog:=P
 w:=w
 K:=K
 mg:=mg
 base:=base
 A:=A.deeper (iH qual scope s.heap.objs.size f cd)
 N:=N
 s₀:=s
 H₀:=H
 env:=iH qual scope s.heap.objs.size f cd
 outer:=outer
 stack:=iH qual scope s.heap.objs.size f cd::outer
 ex:=[]
 calm:=aD
 fn:=λ_=>aD
 pn:=[]
 xe:=λe s'=>bA (model P w) (A.deeper (iH qual scope s.heap.objs.size f cd)) (leaving (iH qual scope s.heap.objs.size f cd) e) (λ_ s''=>CX outer H s E e s'') (λe' s''=>CX outer H s E e' s'') s'
theorem Jd{sc:gK}{n:Nat}{x:bH}(h:sc.names.lookup x=aA .cell):∃c,(cellsFrom n sc.names []).lookup x=aA c:=by have q:=kN sc.names n [] (.inl h);exact cT.mp q
theorem GU{a b c:bH}(h:a++c=b++c):a=b:=by
 obtain⟨a⟩:=a;obtain⟨b⟩:=b;have h2:a++c.cps=b++c.cps:=congrArg bH.cps h;have h3:a.toList++c.cps.toList=b.toList++c.cps.toList:=by rw[<-g7,<-g7,h2]
 have h4:a=b:=mS.mp (List.append_cancel_right h3);rw[h4]
theorem Ex{CX:CXT}{P:bQ}{w:bu}{K:aJ}{mg:bH->Option aL}{base:ba}{N ps:List bH}{qual:bH}{scope:gK}{f:aN}{cd:aL}{A:bw}{outer:List lZ}{s s1:aQ}{H:Hp}{E:XK}{us:List aL}{vs:List V}
  (hcd:cg K cd qual=aD) (S:Zp N ps scope) (hd:A.handled=aB) (e0:Env0 P w K mg base A outer s H) (hl:vs.length=ps.length) (r:Vals vs us)
  (x:InCallC s s.heap.objs.size (nF (iH qual scope s.heap.objs.size f cd).kindOf (ps.zip us) λ_=>aB) (cellsFrom (s.heap.objs.size+1) scope.names []) (nH (iH qual scope s.heap.objs.size f cd).kindOf (ps.zip us) λ_=>aB) s1) :
  Inv (PH CX P w K mg base N qual scope f cd A outer s H E) [] (start N vs) H s1:=by
 have hpl:ps.length<=N.length:=by have:=congrArg i7 S.pre;rw[bT] at this;omega
 obtain⟨h1,tk,rfl,hk⟩:=x.done;have noA:∀b:aN,b∉(PH CX P w K mg base N qual scope f cd A outer s H E).ex:=λb z=>absurd (show b∈([]:List aN) from z) (by simp)
 refine⟨⟨e0.mod,S.kind,rfl,rfl,aT _,λy z c h1 h2=>?_,λy hy=>?_,λy c _ h=>?_,λ_=>hd,ke e0.frames,.inr ⟨rfl,rfl⟩,λb z=>absurd z (noA b),e0.bs,e0.bsz,λb _ _=>noA b,λb z=>absurd z (noA b),e0.funs,e0.frf,e0.tab,λq _ hq _=>by rw[<-GU hq];exact hcd⟩,
  rfl,e0.bare,Un.kept hk,⟨_,x.toInCall.ns,λi y v h1 h2 h3=>?_⟩,λy c h=>⟨_,x.cell y c h⟩,e0.hok.fresh (aT _),λy c h=>?_,λp hp=>absurd (show p∈([]:List (aN×df)) from hp) (by simp),e0.hok.kept hk,?_⟩
 ·exact name_of_addr x.apart (cz h1) (cz h2)
 ·have hy:scope.names.lookup y=aA .cell\/scope.names.lookup y=aA .free:=hy;rcases hy with hy | hy
  ·exact Jd hy
  ·exact absurd rfl (S.nofree _ (cz hy))
 ·exact cZ (x.above y c (cz h))
 ·have hi:i<vs.length:=by
   unfold start at h2;by_cases hi:i<vs.length
   ·exact hi
   ·rw[bK (by simpa using hi)] at h2;rw[b7] at h2;split at h2<;>cases h2
  have ha:vs[i]?=aA v:=by
   unfold start at h2;rw[az (by simpa using hi),aW] at h2
   cases e:vs[i]? with
   | none=>rw[e] at h2;cases h2
   | some a=>rw[e] at h2;cases h2;rfl
  obtain⟨u,hu,rv⟩:=r.get ha;have hp:ps[i]?=aA y:=by rw[<-S.pre,dm (by omega)];exact h1
  have ndP:ps.Nodup:=by rw[<-S.pre];exact S.nd.sublist (gG _ _)
  refine⟨u,rv,?_⟩;rcases S.par y (av hp) with k | k
  ·exact .inl ⟨k,MI ndP hp hu k⟩
  ·obtain⟨c,e⟩:=Jd (n:=s.heap.objs.size+1) k;refine .inr ⟨.inl k,c,e,?_⟩;have q:=x.cell y c e;rw[MJ ndP hp hu (by show scope.names.lookup y≠_;rw[k];decide)] at q;exact q
 ·exact e0.hok.fresh (cZ (x.above y c (cz h)))
 ·unfold start;show _=N.length;rw[ag,aK,bJ];omega
theorem WW{CX:CXT}{P:bQ}{w:bu}{K:aJ}{mg:bH->Option aL}{base:ba}{k:Nat}{f:aN}{name qual:bH}{params:lJ}{body:List bx}{scope:gK}{dV kV doc pm cdv ct oc:aL}{an od:Option aN}
  {osl:Array (Option aL)} {N ps:List bH} {sp:Sp} (lk:K.lookup f=aA ⟨oc,od,.func (c0 name qual params body scope dV kV doc pm an cdv ct),osl⟩) (hcd:cg K cdv qual=aD) (S:Zp N ps scope)
  (len:∀vs H Q E,sp vs H Q E->vs.length=ps.length)
  (hbody:∀(A:bw)(outer:List lZ)(s:aQ)(H:Hp)(vs:List V)(Q:VK)(E:XK),Room k (A.deeper (iH qual scope s.heap.objs.size f cdv))->sp vs H Q E->
   ∃t,PSs (PH CX P w K mg base N qual scope f cdv A outer s H E) body t/\t { nx:=λ_ H'=>Q .non H',rt:=Q } (start N vs) H) :
  Qq P w K mg base CX (k+1) f (c0 name qual params body scope dV kV doc pm an cdv ct) ps sp:=by
 refine⟨len,λA outer s H args us vs Q E hr e0 hb r hsp=>?_⟩;have hl:=len _ _ _ _ hsp;have KX:K.In s.heap:=e0.mod.kin.keeps λb o e=>(e0.bs b o e).1;have lim:s.heap.NoLimit:=e0.mod.nolimit.keeps λb o e=>(e0.bs b o e).1
 have hkind:∀y∈ps.zip us,scope.names.lookup y.1=aA .local\/(scope.names.lookup y.1=aA .cell/\((cellsFrom (s.heap.objs.size+1) scope.names []).lookup y.1).isSome=aD):=λ⟨n,v⟩ hy=>by
  rcases S.par n (gq hy).1 with q | q
  ·exact .inl q
  ·exact .inr ⟨q,kN _ _ _ (.inl q)⟩
 refine codeAny_call_function hr.depth (KX _ _ lk) rfl S.co S.gen rfl (PySem.W.codeRec_of KX hcd) (hb _ _ _ _ ?_);refine wpAny_newFunctionEnv_cells S.kind hkind λenv he s1 x=>?_;subst he;refine⟨lim.keeps x.toInCall.keep,codeAny_func ?_⟩;obtain⟨t,ht,hq⟩:=hbody A outer s H vs Q E (hr.deeper _) hsp;have I:Inv (PH CX P w K mg base N qual scope f cdv A outer s H E) [] (start N vs) H s1:=Ex hcd S hr.hd e0 hl r x;refine cQ (ht [] s1 (start N vs) H _ I hq) (λfl s' hs=>?_) λe s' hs=>hs
 have fin:∀{σ':St}{H':Hp}{v:V}{u:aL},Inv (PH CX P w K mg base N qual scope f cdv A outer s H E) [] σ' H' s'->RelV v u->Q v H'->CE outer P w H s Q u s':=
  λ{σ' H' v u} J rv q=>⟨v,H',J.os,J.bare,J.base,J.hok,rv,q⟩
 cases fl with
 | ret u=>
  obtain⟨v,σ',H',J,rv,q⟩:=hs;exact fin J rv q
 | next=>
  obtain⟨σ',H',J,q⟩:=hs;exact fin (v:=V.non) (u:=cP) J rfl q
 | brk=>
  obtain⟨_,_,_,q⟩:=hs;exact dN q
 | cont=>
  obtain⟨_,_,_,q⟩:=hs;exact dN q
section
variable {X:Cx} {x:bH} {p pos:fZ} {e:bS} {es:List bS} {t:TA} {id T:String} {r:List V->Hp->VK->Prop}
def tCB(r:List V->Hp->VK->Prop)(t:TA):TE:=λσ H Q=>t σ H λvs H1=>r vs H1 Q
theorem Je(hc:XU X (.builtin id) r)(hg:Gl X x)(hm:X.mg x=aB)(hv:cw x=aA (.builtin id))(ha:PA X (e::es) t)(hn:x≠"__name__":=by decide)(hdb:(x==("__debug__" : bH))=aC:=by decide)
  (he:aV (e::es) X.env=(aC,eval e X.env)::aV es X.env:=by rfl) (hpl:(eI pos (aV es X.env)).any (·.1)=aC:=by rfl):PE X (.Call (.Name x p) (e::es) [] pos) (tCB r t):=by
 intro nu s σ H Q I h;refine e7 (Uv I hg hm hv ?_ hn hdb);exact PyProof.Rows.callWith_builtin1 (YN (ha pos nu s σ H _ I h) λus s1 ⟨vs,H1,I1,r1,q1⟩=>hc nu s1 σ H1 vs us Q I1 r1 q1) he hpl
theorem MK(hc:XU X (.type T) r)(hg:Gl X x)(hm:X.mg x=aB)(hv:cw x=aA (.type T))(ha:PA X (e::es) t)(hn:x≠"__name__":=by decide)(hdb:(x==("__debug__" : bH))=aC:=by decide)
  (he:aV (e::es) X.env=(aC,eval e X.env)::aV es X.env:=by rfl) (hpl:(eI pos (aV es X.env)).any (·.1)=aC:=by rfl):PE X (.Call (.Name x p) (e::es) [] pos) (tCB r t):=by
 intro nu s σ H Q I h;refine e7 (Uv I hg hm hv ?_ hn hdb);exact cI (YN (ha pos nu s σ H _ I h) λus s1 ⟨vs,H1,I1,r1,q1⟩=>hc nu s1 σ H1 vs us Q I1 r1 q1) he hpl
end
end L2
namespace HT
open PySem PyProof.Rows
section
variable {prog:bQ} {w:bu} {A:bw} {E:aL->aQ->Prop} {s:aQ}
theorem cat_tup{t b:aN}{vs ws:List aL}{Q:aL->aQ->Prop}(ht:mx s.heap t vs.toArray)(hb:mx s.heap b ws.toArray)(hv:vs≠[])
  (h1:ws=[]->Q (.ref t) s) (h2:ws≠[]->Q (.ref s.heap.objs.size) { s with heap:=s.heap.push { cls:=.type "tuple",data:=.seq (vs++ws).toArray } })
  (hsz:vs.length+ws.length<=sizeLine):bA (model prog w) A (fK .Add (.ref t) (.ref b)) Q E s:=by
 obtain⟨⟨cls,dd,data,sl⟩,ho,hc,n,hd⟩:=id ht;obtain⟨⟨cls2,dd2,data2,sl2⟩,ho2,hc2,n2,hd2⟩:=id hb;simp only at hc hd hc2 hd2;subst hc hd hc2 hd2;have e:vs.toArray++ws.toArray=(vs++ws).toArray:=by simp
 by_cases hw:ws=[]
 ·exact mD ⟨_,ho,rfl⟩ ⟨_,ho2,rfl⟩ kA l3 iI iD (gj _ _)
   (tuple_addW1 t b vs.toArray ws.toArray n n2 dd dd2 sl sl2 (by simpa using hv) (by simp[hw])) ⟨ho,ho2,h1 hw⟩
 ·refine mD ⟨_,ho,rfl⟩ ⟨_,ho2,rfl⟩ kA l3 iI iD (gj _ _)
   (tuple_addW2 t b vs.toArray ws.toArray n n2 dd dd2 sl sl2 (by simpa using hv) (by simpa using hw) (by rw[aU,aU];exact hsz)) ⟨ho,ho2,?_⟩
  rw[e];exact h2 hw
noncomputable def sIx(n d:Nat):Option Int->Nat
 | none=>d
 | some v=>if v<0 then(v+(n:Int)).toNat else min v.toNat n
theorem sIx_none(n d:Nat):sIx n d aB=d:=rfl
theorem sIx_nat(n d k:Nat):sIx n d (aA (k:Int))=min k n:=by show(if(k:Int)<0 then((k:Int)+(n:Int)).toNat else min (k:Int).toNat n)=min k n;rw[oB (by omega),cF]
theorem Zdw(n d:Nat)(hd:d<=n)(o:Option Int):sIx n d o<=n:=by
 cases o with
 | none=>exact hd
 | some v=>
  show(if v<0 then(v+(n:Int)).toNat else min v.toNat n)<=n;by_cases hv:v<0
  ·rw[oA hv];omega
  ·rw[oB hv];exact Nat.min_le_right _ _
theorem GV(v:Int)(n d:Nat):(if v<0 then max (v+(n:Int)) 0 else min v (n:Int))=((sIx n d (aA v):Nat):Int):=by
 show(if v<0 then max (v+(n:Int)) 0 else min v (n:Int))=(((if v<0 then(v+(n:Int)).toNat else min v.toNat n):Nat):Int);by_cases hv:v<0
 ·simp only[oA hv];omega
 ·simp only[oB hv];omega
theorem Hb(lo hi:Option Int)(n:Nat):gY lo hi 1 (n:Int)=(((sIx n 0 lo:Nat):Int),((sIx n n hi:Nat):Int)):=by
 have h1:¬((1:Int)<0):=by omega
 unfold gY;simp only[h1,if_false];refine Prod.ext ?_ ?_
 ·cases lo with
  | none=>rfl
  | some v=>exact GV v n 0
 ·cases hi with
  | none=>rfl
  | some v=>exact GV v n n
theorem Hd(i j:Nat):fA (i:Int) (j:Int) 1=j-i:=by
 unfold fA;have h1:(1:Int)>0:=by omega
 simp only[h1,if_true,Int.ediv_one];split<;>omega
theorem Oy{v:aL}{o:Option Int}{Q:Option Int->aQ->Prop}(p:lj v o)(h:Q o s):bA (model prog w) A (iX.Slice.slicePartIndex v) Q E s:=by
 cases p with
 | none=>exact slicePart_none h
 | int i t=>exact slicePart_int h
theorem Qr{sl:aN}{vl vu:aL}{lo hi:Option Int}{n:Nat}{Q:Int×Int×Nat->aQ->Prop}(hs:s.heap.IsSliceOf sl vl vu .none)(pl:lj vl lo)(pu:lj vu hi)
  (h:Q (((sIx n 0 lo:Nat):Int),1,sIx n n hi-sIx n 0 lo) s):bA (model prog w) A (jQ (.ref sl) (pure (n:Int))) Q E s:=by
 obtain⟨os,hos,hcs,hds⟩:=id hs;unfold jQ iX.Slice.sliceFields;refine aH (aH (dF hos hds (x:=vl) rfl (aH (dF hos hds (x:=vu) rfl (aH (dF hos hds (x:=.none) rfl (aX ?_)))))));refine aH (slicePart_none ?_);show bA _ _ (if((1:Int)==0)=aD then _ else _) _ _ s;rw[oB (by decide)];refine aH (Oy pl (aH (Oy pu (aH (aX ?_)))));show bA _ _ (match gY lo hi 1 (n:Int) with | (lo,hi)=>pure (lo,(1:Int),fA lo hi 1)) _ _ s;rw[Hb lo hi n];show bA _ _ (pure (((sIx n 0 lo:Nat):Int),(1:Int),fA ((sIx n 0 lo:Nat):Int) ((sIx n n hi:Nat):Int) 1)) _ _ s;rw[Hd];exact aX h
theorem Ca(xs:Array aL)(i k:Nat):((aF k).filterMap λ(m:Nat)=>xs[((i:Int)+(m:Int)*1).toNat]?).toArray=((xs.toList.drop i).take k).toArray:=by
 have e:(λ(m:Nat)=>xs[((i:Int)+(m:Int)*1).toNat]?)=λm=>xs[i+m]?:=by
  funext m;have:((i:Int)+(m:Int)*1).toNat=i+m:=by omega
  rw[this]
 rw[e];have:=pick_run xs i k;rw[List.filterMap_map] at this;have e2:((λx=>xs[x]?) ∘ λx=>i+x)=λm=>xs[i+m]?:=rfl;rw[e2] at this;rw[this]
theorem getItem_tuple_cut{t sl:aN}{items:Array aL}{vl vu:aL}{lo hi:Option Int}{Q:aL->aQ->Prop}(ht:mx s.heap t items)(hs:s.heap.IsSliceOf sl vl vu .none)(pl:lj vl lo)(pu:lj vu hi)
  (hw:¬(sIx items.size 0 lo=0/\sIx items.size items.size hi=items.size))
  (h:Q (.ref s.heap.objs.size) { s with heap:=s.heap.push { cls:=.type "tuple",data:=.seq ((items.toList.drop (sIx items.size 0 lo)).take (sIx items.size items.size hi-sIx items.size 0 lo)).toArray } })
  (hsz:items.size<=sizeLine):bA (model prog w) A (kO (.ref t) (.ref sl)) Q E s:=by
 have htake:sizeOk (.seq ((items.toList.drop (sIx items.size 0 lo)).take (sIx items.size items.size hi-sIx items.size 0 lo)).toArray):=by show((items.toList.drop (sIx items.size 0 lo)).take (sIx items.size items.size hi-sIx items.size 0 lo)).toArray.size<=sizeLine;rw[aU,bT,br,cA];omega
 have hj:sIx items.size items.size hi<=items.size:=Zdw _ _ (aT _) hi;obtain⟨os,hos,hcs,hds⟩:=id hs;have hTs:s.TypeIs (.ref sl) "slice":=⟨os,hos,hcs⟩;unfold kO
 try with_reducible refine eQ ?_
 first | refine aH (aX ?_) | skip
 refine aH (wpAny_sequenceKey ht.typeIs (by decide) ?_)
 refine aH (cf (name:=gW "__getitem__") ht.typeIs fV
  (cU fV ht.typeIs entry_tuple_getitem ?_ (args_tuple_getitem _ _)))
 show bA _ _ (iX.Tuple.tupleItemsOf (.ref t) >>= _) _ _ s;refine aH (tupleItemsOf_ ht ?_);refine aH (wpAny_typeOf hTs ?_);rw[oA (by decide)];refine aH (Qr hs pl pu ?_);have hno:¬((((sIx items.size 0 lo:Nat):Int)==0&&(1:Int)==1&&(sIx items.size items.size hi-sIx items.size 0 lo)==items.size)=aD):=by intro q;rw[ak,ak] at q;have q1:((sIx items.size 0 lo:Nat):Int)=0:=eq_of_beq q.1.1;have q2:sIx items.size items.size hi-sIx items.size 0 lo=items.size:=eq_of_beq q.2;exact hw ⟨by omega,by omega⟩
 show bA _ _ (if(((sIx items.size 0 lo:Nat):Int)==0&&(1:Int)==1&&(sIx items.size items.size hi-sIx items.size 0 lo)==items.size)=aD then _ else _) _ _ s;rw[oB hno,Ca]
 first
  | exact aH (m:=fR _) (c9 (aX ⟨_,rfl,aX h⟩) htake)
  | exact aH (m:=fR _) (c9 (aH (aX (aX ⟨_,rfl,aX h⟩))) htake)
  | exact aH (aH (m:=fR _) (c9 (aX (aX ⟨_,rfl,aX h⟩)) htake))
  | exact aH (aH (m:=fR _) (c9 (aX ⟨_,rfl,aX h⟩) htake))
end
end HT
namespace L2
open PySem PySem.Spec PyProof.Rows
abbrev TO:=St->Hp->(Option Int->Hp->Prop)->Prop
def PO(X:Cx)(e:Option bS)(t:TO):Prop:=
 ∀(nu:List (aN×df))(s:aQ)(σ:St)(H:Hp)(Q:Option Int->Hp->Prop),Inv X nu σ H s->t σ H Q->
  bA (model X.prog X.w) X.A (evalPart e X.env) (λu s'=>∃o H',Inv X nu σ H' s'/\lj u o/\Q o H') X.xe s
def AS:TO:=λ_ H Q=>Q aB H
def Zgg(t:TE):TO:=λσ H Q=>t σ H λx H1=>∃i,x = .int i/\Q (aA i) H1
theorem He{ns:List Int}:∀{us:List aL},Vals (ns.map V.int) us->jH us ns:=by
 induction ns with
 | nil=>intro us r;rw[dq] at r;cases r;exact .nil
 | cons n ns ih=>
  intro us r;rw[a9] at r
  cases r with
  | cons r1 r2=>
   obtain⟨t,e⟩:=r1;subst e;exact .cons n t (ih r2)
section
variable {X:Cx} {e:bS} {te:TE} {lo hi:Option bS} {tl th:TO} {pos p2:fZ}
theorem AU:PO X aB AS:=by intro nu s σ H Q I h;rw[evalPart_none];exact aX ⟨aB,H,I,.none,h⟩
theorem AV(h:PE X e te):PO X (aA e) (Zgg te):=by intro nu s σ H Q I hw;rw[evalPart_some];refine YN (h nu s σ H _ I hw) λu s1 ⟨x,H1,I1,r1,q1⟩=>?_;obtain⟨i,rfl,q⟩:=q1;obtain⟨t,rfl⟩:=r1;exact⟨aA i,H1,I1,.int i t,q⟩
def SlR(X:Cx)(r:V->Option Int->Option Int->Hp->VK->Prop):Prop:=
 ∀(nu:List (aN×df))(s:aQ)(σ:St)(H:Hp)(x:V)(v vl vu:aL)(lo hi:Option Int)(sl:aN)(Q:VK),Inv X nu σ H s->RelV x v->s.heap.IsSliceOf sl vl vu .none->lj vl lo->lj vu hi->r x lo hi H Q->
  ∃T id,typeLookup (.type T) "__getitem__" = pure (aA (.builtin id))/\s.TypeIs v T/\bA (model X.prog X.w) X.A (kO v (.ref sl)) (EP X nu σ Q) X.xe s
def tSl(r:V->Option Int->Option Int->Hp->VK->Prop)(te:TE)(tl th:TO):TE:=λσ H Q=>te σ H λx H1=>tl σ H1 λl H2=>th σ H2 λu H3=>r x l u H3 Q
theorem Jf{r:V->Option Int->Option Int->Hp->VK->Prop}(hr:SlR X r)(he:PE X e te)(hl:PO X lo tl)(hu:PO X hi th):PE X (.Subscript e (.Slice lo hi aB p2) pos) (tSl r te tl th):=by intro nu s σ H Q I h;refine nI (YN (he nu s σ H _ I h) λv s1 ⟨x,H1,I1,r1,q1⟩=>?_);refine wpAny_Slice (YN (hl nu s1 σ H1 _ I1 q1) λvl s2 ⟨l,H2,I2,pl,q2⟩=>YN (hu nu s2 σ H2 _ I2 q2) λvu s3 ⟨u,H3,I3,pu,q3⟩=>?_);rw[evalPart_none];refine aX ?_;have I4:Inv X nu σ H3 { s3 with heap:=s3.heap.push { cls:=.type "slice",data:=.fields #[vl,vu,.none] } }:=I3.kept (t':=s3.toks) λb ob q=>aM _ q;obtain⟨T,id,hT,ht,hg⟩:=hr nu { s3 with heap:=s3.heap.push { cls:=.type "slice",data:=.fields #[vl,vu,.none] } } σ H3 x v vl vu l u s3.heap.objs.size Q I4 r1 (ba.IsSliceOf.new ..) pl pu q3;show bA (model X.prog X.w) X.A (l4 e (.Slice lo hi aB p2) v (.ref s3.heap.objs.size)) (EP X nu σ Q) X.xe { s3 with heap:=s3.heap.push { cls:=.type "slice",data:=.fields #[vl,vu,.none] } };exact tail_any (ops:=[.ref s3.heap.objs.size,v]) ht hT hg (by with_unfolding_all rfl)
noncomputable def Jg(xs:List V)(lo hi:Option Int):List V:=(xs.drop (HT.sIx xs.length 0 lo)).take (HT.sIx xs.length xs.length hi-HT.sIx xs.length 0 lo)
theorem Pn(xs:List V)(lo hi:Option Int):(Jg xs lo hi).length<=xs.length:=by unfold Jg;rw[bT,br];omega
def Zib(K:aJ):V->Option Int->Option Int->Hp->VK->Prop:=λx lo hi H Q=>∃a xs,x = .ref a/\SqT K H a xs/\
 ¬(HT.sIx xs.length 0 lo=0/\HT.sIx xs.length xs.length hi=xs.length)/\∀p,H p=aB->Q (.ref p) (upd H p (.tup (Jg xs lo hi)))
theorem Zdx:SlR X (Zib X.K):=by
 intro nu s σ H x v vl vu lo hi sl Q I rx hs pl pu h;obtain⟨a,xs,rfl,hx,hw,q⟩:=h;cases rx;obtain⟨o9,r,ht,hz⟩:=I.tuple hx;have hlen:o9.toArray.size=xs.length:=by rw[aU];exact r.length.symm
 refine⟨"tuple",_,fV.lookup,ht.typeIs,?_⟩;refine HT.getItem_tuple_cut ht hs pl pu (by rw[hlen];exact hw) ?_ (by rw[hlen];exact hz);rw[hlen];refine⟨.ref s.heap.objs.size,_,I.laid (t':=s.toks) (o:=.tup (Jg xs lo hi)) (λb ob q=>aM _ q) (aT _) ?_,rfl,q _ (I.hok.fresh (aT _))⟩;exact⟨⟨bg (Pn xs lo hi) hz,λo e=>Ou e⟩,_,(r.drop (HT.sIx xs.length 0 lo)).take (HT.sIx xs.length xs.length hi-HT.sIx xs.length 0 lo),mT _ _⟩
def Zgh(K:aJ):R2:=λx y H Q=>∃a b xs ys,x = .ref a/\y = .ref b/\SqT K H a xs/\SqT K H b ys/\xs≠[]/\xs.length+ys.length<=sizeLine/\
 (ys=[]->Q (.ref a) H)/\(ys≠[]->∀p,H p=aB->Q (.ref p) (upd H p (.tup (xs++ys))))
theorem Vals.nil_iff{xs:List V}{us:List aL}(r:Vals xs us):us=[]↔xs=[]:=by
 cases r with
 | nil=>simp
 | cons _ _=>simp
theorem AW:Sr X (fK .Add) (Zgh X.K):=by intro nu s σ H x y v u Q I rx ry h;obtain⟨a,b,xs,ys,rfl,rfl,ha,hb,hx,hz,q1,q2⟩:=h;cases rx;cases ry;obtain⟨o9,r1,p1,_⟩:=I.tuple ha;obtain⟨its2,r2,p2,_⟩:=I.tuple hb;refine HT.cat_tup p1 p2 (λz=>hx (r1.nil_iff.mp z)) (λz=>⟨.ref a,H,I,rfl,q1 (r2.nil_iff.mp z)⟩) (λz=>?_) (by rw[<-r1.length,<-r2.length];exact hz);refine⟨.ref s.heap.objs.size,_,I.laid (t':=s.toks) (o:=.tup (xs++ys)) (λb ob q=>aM _ q) (aT _) ?_,rfl,q2 (λw=>z (r2.nil_iff.mpr w)) _ (I.hok.fresh (aT _))⟩;exact⟨⟨by rw[ag];exact hz,λo e=>Ou e⟩,_,r1.append r2,mT _ _⟩
end
noncomputable def ML(n:Nat)(i:Int):Option Nat:=if 0<=i then(if i<n then aA i.toNat else aB) else if -(n:Int)<=i then aA (i+n).toNat else aB
noncomputable def Td{α:Type}(xs:List α)(i:Int):Option α:=(ML xs.length i).bind λj=>xs[j]?
theorem GW{n:Nat}{i:Int}{j:Nat}(h:ML n i=aA j):seqIndex? i n=aA j/\j<n/\-(n:Int)<=i/\i<n:=by
 unfold ML at h;by_cases h0:0<=i
 ·rw[oA h0] at h;by_cases h1:i<n
  ·rw[oA h1] at h;have e:i.toNat=j:=bG h;exact⟨by rw[m6 h0 h1,e],by omega,by omega,h1⟩
  ·rw[oB h1] at h;cases h
 ·rw[oB h0] at h;by_cases h1 : -(n:Int)<=i
  ·rw[oA h1] at h;have e:(i+n).toNat=j:=bG h;exact⟨by rw[mE (by omega) h1,e],by omega,h1,by omega⟩
  ·rw[oB h1] at h;cases h
theorem LD{α:Type}{xs:List α}{i:Int}{v:α}(h:Td xs i=aA v):∃j,seqIndex? i xs.length=aA j/\xs[j]?=aA v/\j<xs.length/\-(xs.length:Int)<=i/\i<xs.length:=by
 unfold Td at h
 cases e:ML xs.length i with
 | none=>rw[e] at h;cases h
 | some j=>
  rw[e] at h;obtain⟨h1,h2,h3,h4⟩:=GW e;exact⟨j,h1,h,h2,h3,h4⟩
theorem VH{α:Type}{xs:List α}{j:Nat}{v:α}(h:xs[j]?=aA v):Td xs (j:Int)=aA v:=by
 have hj:j<xs.length:=(aS.mp h).1;have e:ML xs.length (j:Int)=aA j:=by unfold ML;rw[oA (by omega),oA (by omega)];simp
 unfold Td;rw[e];exact h
def LF(b:bS):Prop:=∀o i,subscripted b aC o i=operate [o,i] (kO o i)
def IxR(X:Cx)(r:R2):Prop:=
 ∀(value slice:bS)(nu:List (aN×df))(s:aQ)(σ:St)(H:Hp)(x y:V)(v u:aL)(Q:VK),Inv X nu σ H s->RelV x v->RelV y u->r x y H Q->
  subscripted slice aC v u=operate [v,u] (kO v u)->bA (model X.prog X.w) X.A (l4 value slice v u) (EP X nu σ Q) X.xe s
def MtR(X:Cx)(id:String)(r:V->List V->Hp->VK->Prop):Prop:=
 ∀(nu:List (aN×df))(s:aQ)(σ:St)(H:Hp)(x:V)(xs:List V)(v:aL)(us:List aL)(Q:VK),Inv X nu σ H s->RelV x v->Vals xs us->r x xs H Q->
  bA (model X.prog X.w) X.A (call (.builtin id) (v::us)) (EP X nu σ Q) X.xe s
section
variable {X:Cx} {a b:bS} {ta tb:TE} {pos:fZ}
theorem IxR.or{r r':R2}(h:IxR X r)(h':IxR X r'):IxR X (λx y H Q=>r x y H Q\/r' x y H Q):=by
 intro value slice nu s σ H x y v u Q I rx ry q hs;rcases q with q | q
 ·exact h value slice nu s σ H x y v u Q I rx ry q hs
 ·exact h' value slice nu s σ H x y v u Q I rx ry q hs
theorem GX{r:R2}(hr:IxR X r)(ha:PE X a ta)(hb:PE X b tb)(hs:LF b):PE X (.Subscript a b pos) (tOp r ta tb):=by intro nu s σ H Q I h;exact nI (Zdn ha hb I h λv u s2 x y H2 I2 rx ry q=>hr a b nu s2 σ H2 x y v u Q I2 rx ry q (hs _ _))
def AX(K:aJ):R2:=λx y H Q=>∃p xs i v,x = .ref p/\y = .int i/\SqL K H p xs/\Td xs i=aA v/\Q v H
def Zgi(K:aJ):R2:=λx y H Q=>∃p xs i v,x = .ref p/\y = .int i/\SqT K H p xs/\Td xs i=aA v/\Q v H
def Zgj:R2:=λx y H Q=>∃z i c,x = .str z/\y = .int i/\z.length<=sizeLine/\Td z.cps.toList i=aA c/\Q (.str ⟨#[c]⟩) H
theorem ix_list:IxR X (AX X.K):=by
 intro value slice nu s σ H x y v u Q I rx ry h hs;obtain⟨p,xs,i,z,rfl,rfl,hq,he,q⟩:=h;cases rx;obtain⟨t,rfl⟩:=ry;obtain⟨o9,r,pl,hz⟩:=I.list hq;obtain⟨j,h1,h2,h3,h4,h5⟩:=LD he;obtain⟨w,ew,Z0⟩:=r.get h2;have hl:=r.length;have hn:=Qn;have fin:EP X nu σ Q w s:=⟨z,H,I,Z0,q⟩;by_cases h0:0<=i
 ·have hj:i.toNat=j:=by rw[m6 h0 h5] at h1;exact bG h1
  exact item_listR pl.isList h0 (by omega) (by rw[hj];simpa using ew) fin hs
 ·have hj:(i+(o9.toArray.size:Int)).toNat=j:=by rw[mE (by omega) h4] at h1;rw[aU,<-hl];exact bG h1
  exact kQ (x:=w) pl.isList.typeIs slot_list_getitem.lookup
   (wpAny_getItem_list_neg (Q:=λr s'=>r=w/\EP X nu σ Q r s') pl.isList (by omega) (by rw[aU]<;>omega) (by omega) (by rw[hj];simpa using ew) ⟨rfl,fin⟩) hs
theorem ix_tup:IxR X (Zgi X.K):=by
 intro value slice nu s σ H x y v u Q I rx ry h hs;obtain⟨p,xs,i,z,rfl,rfl,hq,he,q⟩:=h;cases rx;obtain⟨t,rfl⟩:=ry;obtain⟨o9,r,pl,hz⟩:=I.tuple hq;obtain⟨j,h1,h2,h3,h4,h5⟩:=LD he;obtain⟨w,ew,Z0⟩:=r.get h2;have hl:=r.length;have hn:=Qn;have fin:EP X nu σ Q w s:=⟨z,H,I,Z0,q⟩
 exact kQ (x:=w) pl.typeIs slot_tuple_getitem.lookup
  (getItem_tuple (j:=j) (Q:=λr s'=>r=w/\EP X nu σ Q r s') pl (by omega) (by omega) (by rw[aU,<-hl];exact h1) (by simpa using ew) ⟨rfl,fin⟩) hs
theorem Zdy:IxR X Zgj:=by
 intro value slice nu s σ H x y v u Q I rx ry h hs;obtain⟨z,i,c,rfl,rfl,hz,he,q⟩:=h;obtain⟨t,rfl⟩:=rx;obtain⟨t',rfl⟩:=ry;obtain⟨j,h1,h2,h3,h4,h5⟩:=LD he;have hl:z.cps.toList.length=z.length:=by simp[bH.length]
 rw[hl] at h1 h4 h5;have hn:=Qn
 exact tail_any (typeIs_str s z t) slot_str_getitem.lookup (getItem_str (c:=c) (by
  have e1:decide (i < -(2^63:Int))=aC:=decide_eq_false (by omega);have e2:decide (i ≥ 2^63)=aC:=decide_eq_false (by omega);rw[e1,e2,Bool.or_false]) (by rw[h1];simpa using h2) ⟨.str ⟨#[c]⟩,H,I.tok _,⟨_,rfl⟩,q⟩) hs
def rIx(K:aJ):R2:=λx y H Q=>AX K x y H Q\/Zgi K x y H Q\/Zgj x y H Q
theorem Zdz:IxR X (rIx X.K):=ix_list.or (ix_tup.or Zdy)
theorem Hf(o9:List aL)(n j:Nat)(u:aL):cY (·.setIfInBounds j u) { cls:=.type "list",data:=.seq o9.toArray n }={ cls:=.type "list",data:=.seq (o9.set j u).toArray n }:=by simp[cY]
theorem Inv.lst{nu:List (aN×df)}{σ:St}{H:Hp}{s:aQ}{p:aN}{xs:List V}(I:Inv X nu σ H s)(h:H p=aA (.lst xs)) :
  ∃(o9:List aL) (n:Nat),Vals xs o9/\s.heap.get? p=aA { cls:=.type "list",data:=.seq o9.toArray n }/\xs.length<=sizeLine:=by
 obtain⟨z,o9,n,r,e⟩:=I.hok p _ h;exact⟨o9,n,r,e,z⟩
theorem Inv.lstUpd{nu:List (aN×df)}{σ:St}{H:Hp}{s:aQ}{p:aN}{xs ys:List V}{o9 its':List aL}{n n':Nat}{f:df->df}(I:Inv X nu σ H s)(h:H p=aA (.lst xs))
  (ho:s.heap.get? p=aA { cls:=.type "list",data:=.seq o9.toArray n }) (hf:f { cls:=.type "list",data:=.seq o9.toArray n }={ cls:=.type "list",data:=.seq its'.toArray n' }) (r:Vals ys its') (hz:ys.length<=sizeLine) (t:Nat) :
  Inv X nu σ (upd H p (.lst ys)) { s with heap:=s.heap.update p f,toks:=t }:=by
 have e:(s.heap.update p f).get? p=aA { cls:=.type "list",data:=.seq its'.toArray n' }:=by rw[iQ f ho (by rw[hf]<;>rfl),hf]
 refine I.write (x:=p) (e:=p) (by rw[h];trivial) (.inl rfl) (λb u hb q=>(kR _ _ (bX hb)).trans q) ⟨_,e⟩ ?_;exact⟨hz,its',n',r,e⟩
def Cb:V->V->V->Hp->(Hp->Prop)->Prop:=λo i v H Q=>∃p xs k j,o = .ref p/\i = .int k/\H p=aA (.lst xs)/\ML xs.length k=aA j/\Q (upd H p (.lst (xs.set j v)))
theorem Oz:Zf0 X Cb:=by
 intro nu s σ H o i v ov iv u Q I ro ri rv h;obtain⟨p,xs,k,j,rfl,rfl,hp,hj,q⟩:=h;cases ro;obtain⟨t,rfl⟩:=ri;obtain⟨o9,n,r,ho,hz⟩:=I.lst hp;obtain⟨h1,h2,h3,h4⟩:=GW hj;have hl:=r.length;have hn:=Qn
 have I':Inv X nu σ (upd H p (.lst (xs.set j v))) { s with heap:=s.heap.update p (cY (·.setIfInBounds j u)) }:=
  I.lstUpd hp ho (Hf o9 n j u) (r.set rv j) (by rw[bp];exact hz) s.toks
 by_cases h0:0<=k
 ·have hk:k.toNat=j:=by rw[m6 h0 h4] at h1;exact bG h1
  exact PySem.W.ki_setAt ho h0 (by omega) (by rw[aU,<-hl];exact h4) (by rw[hk];exact⟨_,I',q⟩)
 ·have hk:(k+(o9.toArray.size:Int)).toNat=j:=by rw[mE (by omega) h3] at h1;rw[aU,<-hl];exact bG h1
  exact PySem.W.ki_setBack ho (by omega) (by rw[aU,<-hl];exact h3) (by omega) (by rw[hk];exact⟨_,I',q⟩)
theorem LG(lo hi:Option Int)(n:Nat):(iE lo hi aB n).1=((HT.sIx n 0 lo:Nat):Int)/\(iE lo hi aB n).2.1=((HT.sIx n n hi:Nat):Int)/\(iE lo hi aB n).2.2=1:=by
 refine⟨?_,?_,rfl⟩
 ·cases lo with
  | none=>simp[iE,HT.sIx]
  | some i=>
   simp only[iE,HT.sIx,mU,show(1:Int)>0 by decide,if_true];by_cases h:i<0
   ·simp only[h,if_true]<;>omega
   ·simp only[h,if_false]<;>omega
 ·cases hi with
  | none=>simp[iE,HT.sIx]
  | some i=>
   simp only[iE,HT.sIx,mU,show(1:Int)>0 by decide,if_true];by_cases h:i<0
   ·simp only[h,if_true]<;>omega
   ·simp only[h,if_false]<;>omega
theorem Mk(o9:List aL)(lo hi:Option Int):slicePick o9.toArray lo hi aB=((o9.drop (HT.sIx o9.length 0 lo)).take (HT.sIx o9.length o9.length hi-HT.sIx o9.length 0 lo)).toArray:=by
 obtain⟨h1,h2,h3⟩:=LG lo hi o9.toArray.size;unfold slicePick;rw[h1,h2,h3];simp only[sliceRange_one,pick_run,aU]<;>rfl
def Zic(K:aJ):V->Option Int->Option Int->Hp->VK->Prop:=λx lo hi H Q=>∃a xs,x = .ref a/\SqL K H a xs/\∀p,H p=aB->Q (.ref p) (upd H p (.lst (Jg xs lo hi)))
theorem AY:SlR X (Zic X.K):=by intro nu s σ H x v vl vu lo hi sl Q I rx hs pl pu h;obtain⟨a,xs,rfl,hx,q⟩:=h;cases rx;obtain⟨o9,r,ht,hz⟩:=I.list hx;have hlen:=r.length;refine⟨"list",_,slot_list_getitem.lookup,ht.isList.typeIs,?_⟩;refine wpAny_getItem_list_slice ht.isList hs pl pu .none (by simp) ?_ (by rw[aU]<;>omega);rw[Mk,<-hlen];refine⟨.ref s.heap.objs.size,_,I.laid (t':=s.toks) (o:=.lst (Jg xs lo hi)) (λb ob q=>aM _ q) (aT _) ?_,rfl,q _ (I.hok.fresh (aT _))⟩;exact⟨bg (Pn xs lo hi) hz,_,0,(r.drop (HT.sIx xs.length 0 lo)).take (HT.sIx xs.length xs.length hi-HT.sIx xs.length 0 lo),aj _ rfl⟩
theorem RA:XU X (.type "list") (λxs H Q=>∃p ys,xs=[.ref p]/\(SqL X.K H p ys\/SqT X.K H p ys)/\∀l,H l=aB->Q (.ref l) (upd H l (.lst ys))):=by
 intro nu s σ H xs us Q I r h;obtain⟨p,ys,rfl,hq,q⟩:=h;obtain⟨u,rfl,rx⟩:=Ry r;cases rx
 have fin:∀(o9:List aL),Vals ys o9->ys.length<=sizeLine->∀(h':ba)(c':Nat),(∀b o',s.heap.get? b=aA o'->h'.get? b=aA o')->
   h'.get? s.heap.objs.size=aA { cls:=.type "list",dict:=aB,data:=.seq o9.toArray c',slots:=#[] }->EP X nu σ Q (.ref s.heap.objs.size) { s with heap:=h' }:=λo9 r' hz h' c' kp e=>
  ⟨.ref s.heap.objs.size,_,I.laid (t':=s.toks) kp (aT _) (show ObjOk X.prog X.w _ h' _ (.lst ys) from⟨hz,o9,c',r',e⟩),rfl,q _ (I.hok.fresh (aT _))⟩
 rcases hq with hq | hq
 ·obtain⟨o9,r',pl,hz⟩:=I.list hq;have hlen:=r'.length;obtain⟨o,ho,hc,n,hd⟩:=pl.isList;exact call_list_seq p (.inl rfl) ho hc hd (λh' c' kp e=>fin o9 r' hz h' c' kp e) (by simp only[aU]<;>omega)
 ·obtain⟨o9,r',pl,hz⟩:=I.tuple hq;have hlen:=r'.length;obtain⟨o,ho,hc,n,hd⟩:=pl;exact call_list_seq p (.inr rfl) ho hc hd (λh' c' kp e=>fin o9 r' hz h' c' kp e) (by simp only[aU]<;>omega)
theorem ZJ:XU X (.type "tuple") (λxs H Q=>∃p ys,xs=[.ref p]/\((SqL X.K H p ys/\∀l,H l=aB->Q (.ref l) (upd H l (.tup ys)))\/(SqT X.K H p ys/\Q (.ref p) H))):=by
 intro nu s σ H xs us Q I r h;obtain⟨p,ys,rfl,h⟩:=h;obtain⟨u,rfl,rx⟩:=Ry r;cases rx;rcases h with⟨hq,q⟩ | ⟨hq,q⟩
 ·obtain⟨o9,r',pl,hz⟩:=I.list hq;have hlen:=r'.length;refine call_tuple_list pl.isList (λh' kp=>?_) (by simp only[aU]<;>omega);have I1:Inv X nu σ H { s with heap:=h' }:=I.kept (t':=s.toks) kp
  have I2:Inv X nu σ (upd H h'.objs.size (.tup ys)) { s with heap:=h'.push { cls:=.type "tuple",data:=.seq o9.toArray } }:=
   I1.laid (t':=s.toks) (λb o e=>aM _ e) (aT _) (show ObjOk X.prog X.w _ _ _ (.tup ys) from⟨⟨hz,λo e=>Ou e⟩,o9,r',mT _ _⟩)
  exact⟨.ref h'.objs.size,_,I2,rfl,q _ (I1.hok.fresh (aT _))⟩
 ·obtain⟨o9,r',pl,hz⟩:=I.tuple hq;exact call_tuple_same pl ⟨.ref p,H,I,rfl,q⟩
def tyV(K:aJ)(T:String)(x:V)(H:Hp):Prop:=match x with
 | .str _=>T = "str"
 | .int _=>T = "int"
 | .ref p=>(T = "list"/\∃xs,SqL K H p xs)\/(T = "tuple"/\∃o,K.lookup p=aA o/\o.cls = .type "tuple"/\o.dict=aB)\/
   (T = "dict"/\((∃o4,H p=aA (.dK o4))\/∃o4,H p=aA (.dT o4)))\/(T = "set"/\∃S n,H p=aA (.set S n))\/(T = "tuple"/\∃xs,H p=aA (.tup xs))
 | _=>False
theorem Zd0{nu:List (aN×df)}{σ:St}{H:Hp}{s:aQ}{T:String}{x:V}{v:aL}(I:Inv X nu σ H s)(r:RelV x v)(ty:tyV X.K T x H) :
  s.TypeIs v T/\∀a,v = .ref a->∃ob,s.heap.get? a=aA ob/\ob.dict=aB:=by
 cases x with
 | str z=>
  obtain⟨t,rfl⟩:=r;cases (show T = "str" from ty);exact⟨typeIs_str s z t,λ_ e=>nomatch e⟩
 | int i=>
  obtain⟨t,rfl⟩:=r;cases (show T = "int" from ty);exact⟨kS s i t,λ_ e=>nomatch e⟩
 | ref p=>
  cases r;rcases ty with⟨rfl,xs,hq⟩ | ⟨rfl,o,hk,hc,hd⟩ | ⟨rfl,hk⟩ | ⟨rfl,S,n,hk⟩ | ⟨rfl,xs,hk⟩;rotate_left 4
  ·obtain⟨z,o9,_,o,e1,e2,_⟩:=(show ObjOk X.prog X.w H s.heap p (.tup xs) from I.hok p _ hk);refine⟨⟨o,e1,e2⟩,λa e=>?_⟩;cases e;exact⟨o,e1,z.2 o e1⟩
  ·obtain⟨o9,_,pl,_⟩:=I.list hq;refine⟨pl.isList.typeIs,λa e=>?_⟩;cases e;obtain⟨o,n,e,c,hd,_⟩:=pl;exact⟨o,e,hd⟩
  ·refine⟨⟨o,I.kIn p o hk,hc⟩,λa e=>?_⟩;cases e;exact⟨o,I.kIn _ o hk,hd⟩
  ·have z:∃o,s.heap.get? p=aA o/\o.ExactDict:=by
    rcases hk with⟨o4,hk⟩ | ⟨o4,hk⟩
    ·obtain⟨_,_,_,_,o,_,_,e,ex,_⟩:=I.hok p _ hk;exact⟨o,e,ex⟩
    ·obtain⟨_,_,_,_,o,_,_,e,ex,_⟩:=I.hok p _ hk;exact⟨o,e,ex⟩
   obtain⟨o,e,ex⟩:=z;refine⟨⟨o,e,ex.1⟩,λa e2=>?_⟩;cases e2;exact⟨o,e,ex.2.1⟩
  ·obtain⟨o,_,_,_,e,ex,_⟩:=I.hok p _ hk;refine⟨⟨o,e,ex.1⟩,λa e2=>?_⟩;cases e2;exact⟨o,e,ex.2.1⟩
 | _=>exact dN ty
def tBM(K:aJ)(T:String)(r:V->List V->Hp->VK->Prop)(to:TE)(t:TA):TE:=λσ H Q=>to σ H λx H1=>tyV K T x H1/\t σ H1 λxs H2=>r x xs H2 Q
variable {o e:bS} {es:List bS} {to:TE} {t:TA} {name:bH} {apos cpos:fZ} {T id:String} {r:V->List V->Hp->VK->Prop}
theorem Tf(pa:PlainAttrs T)(slot:Slot T name id)(hty:typeOf (.builtin id)=pure (.type "method_descriptor"))(hm:MtR X id r)(ho:PE X o to)(ha:PA X (e::es) t)
  (hbase:attributeBase o name X.env (eval o X.env)=eval o X.env:=by rfl)
  (hfew:((eI cpos (aV (e::es) X.env)).all (λx=>!x.1)&&(backToKw cpos (keywordEach [] X.env)).all (λx=>x.1.isSome)
   &&decide ((e::es).length+([]:List Keyword).length+(if([]:List Keyword).isEmpty then 0 else 1)<30))=aD:=by rfl)
  (hline:(apos.endLine==cpos.line)=aD:=by rfl) (hs:aV (e::es) X.env=(aC,eval e X.env)::aV es X.env:=by rfl) (hplain:(eI cpos (aV es X.env)).any (·.1)=aC:=by rfl) :
  PE X (.Call (.Attribute o name apos) (e::es) [] cpos) (tBM X.K T r to t):=by
 intro nu s σ H Q I h;refine wpAny_Call_method_late hbase hfew hline rfl (YN (ho nu s σ H _ I h) λv s1 ⟨x,H1,I1,r1,ty,q1⟩=>?_);obtain⟨h1,h2⟩:=Zd0 I1 r1 ty;refine⟨T,id,pa,slot,hty,h1,h2,?_⟩;have hA:=ha cpos nu s1 σ H1 _ I1 q1;rw[hs] at hA ⊢;refine Calls.callWith_builtin (by show(aC || (eI cpos (aV es X.env)).any (·.1))=aC;rw[hplain]<;>rfl) (Calls.evalArgs_plain ?_);exact YN hA λus s2 ⟨vs,H2,I2,r2,q2⟩=>hm nu s2 σ H2 x vs v us Q I2 r1 r2 q2
end
def MtM(X:Cx)(id:String)(r:V->List V->Hp->VK->Prop):Prop:=
 ∀(nu:List (aN×df))(s:aQ)(σ:St)(H:Hp)(x:V)(xs:List V)(v:aL)(us:List aL)(Q:VK),Inv X nu σ H s->RelV x v->Vals xs us->r x xs H Q->
  bA (model X.prog X.w) X.A (call (.builtin id) (v::us)) (EP X nu σ Q) X.xe s
theorem Vals.one:∀{x:V}{us:List aL},Vals [x] us->∃u,us=[u]/\RelV x u
 | _,_,.cons r .nil=>⟨_,rfl,r⟩
theorem Vals.two:∀{x y:V}{us:List aL},Vals [x,y] us->∃u v,us=[u,v]/\RelV x u/\RelV y v
 | _,_,_,.cons r (.cons q .nil)=>⟨_,_,rfl,r,q⟩
theorem Vals.dropLast{xs:List V}{us:List aL}(h:Vals xs us):Vals xs.dropLast us.dropLast:=by
 induction h with
 | nil=>exact .nil
 | cons r t ih=>
  cases t with
  | nil=>exact .nil
  | cons q t'=>exact .cons r ih
theorem Vals.rep{xs:List V}{us:List aL}(h:Vals xs us):∀k:Nat,Vals (aG k xs).flatten (aG k us).flatten
 | 0=>.nil
 | k+1=>by rw[cL,cL,dZ,dZ];exact Vals.append h (Vals.rep h k)
theorem Qs(o9:List aL):∀(k:Nat)(acc:List aL),
  jR (λx1 x2=>x1++x2) acc.toArray (aG k o9.toArray)=(acc++(aG k o9).flatten).toArray
 | 0,acc=>by simp
 | k+1,acc=>by
  have e:acc.toArray++o9.toArray=(acc++o9).toArray:=by simp
  have e2:(acc++o9)++(aG k o9).flatten=acc++(aG (k+1) o9).flatten:=by rw[cL,dZ,gH]
  rw[<-e2,<-Qs o9 k (acc++o9),<-e,cL,me]
section
variable {X:Cx} {nu:List (aN×df)} {σ:St} {H:Hp} {s:aQ} {l b:aN} {xs ys zs:List V}
theorem Inv.lset{o9 its':List aL}{n:Nat}{f:Array aL->Array aL}{t':Nat}(I:Inv X nu σ H s)(hH:H l=aA (.lst xs))
  (e:s.heap.get? l=aA { cls:=.type "list",data:=.seq o9.toArray n }) (hf:f o9.toArray=its'.toArray) (hv:Vals ys its') (hz:ys.length<=sizeLine) :
  Inv X nu σ (upd H l (.lst ys)) { s with heap:=s.heap.update l (cY f),toks:=t' }:=by
 have q:=PySem.IsL.update e f;rw[hf] at q;refine I.write (x:=l) (e:=l) (by rw[hH];exact trivial) (.inl rfl) (λb' u hb hu=>(kR s.heap (cY f) (bX hb)).trans hu) ⟨_,q⟩ ?_;exact⟨hz,its',_,hv,q⟩
theorem Inv.lnew{o9:List aL}{t':Nat}(I:Inv X nu σ H s)(hv:Vals ys o9)(hz:ys.length<=sizeLine) :
  Inv X nu σ (upd H s.heap.objs.size (.lst ys)) { s with heap:=s.heap.push { cls:=.type "list",data:=.seq o9.toArray },toks:=t' }:=
 I.laid (λ_ _ q=>aM _ q) (aT _) ⟨hz,o9,0,hv,aj _ rfl⟩
theorem Inv.fresh(I:Inv X nu σ H s):H s.heap.objs.size=aB:=I.hok.fresh (aT _)
theorem Inv.lstM(I:Inv X nu σ H s)(hH:H l=aA (.lst xs)):xs.length<=sizeLine/\∃(o9:List aL) (n:Nat),Vals xs o9/\xs.length=o9.length/\s.heap.get? l=aA { cls:=.type "list",data:=.seq o9.toArray n }:=by obtain⟨z,o9,n,r,e⟩:=I.hok l _ hH;exact⟨z,o9,n,r,r.length,e⟩
theorem Jh{n:Nat}(h:n<=sizeLine):fS n=aC:=by unfold fS;exact decide_eq_false (by omega)
end
section
variable {X:Cx}
def GY:V->List V->Hp->VK->Prop:=λx vs H Q=>∃l xs y,x = .ref l/\vs=[y]/\H l=aA (.lst xs)/\xs.length<sizeLine/\Q .non (upd H l (.lst (xs++[y])))
theorem X9:MtM X "list.append" GY:=by intro nu s σ H x vs v us Q I rx rv h;obtain⟨l,xs,y,rfl,rfl,hH,hz,q⟩:=h;cases rx;obtain⟨u,rfl,ru⟩:=rv.one;obtain⟨z,o9,n,r,hl,e⟩:=I.lstM hH;refine hV F.slot_list_append ⟨_,e,rfl⟩ F.entry_list_append (F.args_list_append_2 _ _) (PySem.list_append l o9.toArray n u (by rw[aU];omega)) ⟨e,?_⟩;refine⟨.non,_,I.lset (its':=o9++[u]) hH e (by simp) (r.append (.cons ru .nil)) ?_,rfl,q⟩;rw[ag,bz];omega
def GZ:V->List V->Hp->VK->Prop:=λx vs H Q=>∃l b xs zs,x = .ref l/\vs=[.ref b]/\H l=aA (.lst xs)/\H b=aA (.lst zs)/\xs.length+zs.length<=sizeLine/\Q .non (upd H l (.lst (xs++zs)))
theorem MM:MtM X "list.extend" GZ:=by
 intro nu s σ H x vs v us Q I rx rv h;obtain⟨l,b,xs,zs,rfl,rfl,hH,hB,hz,q⟩:=h;cases rx;obtain⟨u,rfl,ru⟩:=rv.one;cases ru;obtain⟨z,o9,n,r,hl,e⟩:=I.lstM hH;obtain⟨z2,its2,n2,r2,hl2,e2⟩:=I.lstM hB;have hsz:o9.toArray.size+its2.toArray.size<=sizeLine:=by rw[aU,aU];omega
 have hlong:¬(!o9.toArray.isEmpty&&fS (o9.toArray.size+its2.toArray.size))=aD:=by rw[Jh hsz,Bool.and_false];exact aw
 refine hV F.slot_list_extend ⟨_,e,rfl⟩ F.entry_list_extend (F.args_list_extend_2 _ _)
  (AutoSeq1.list_extend_list_list_0 l o9.toArray n b its2.toArray n2 hlong (by rw[aU];omega) (by omega)) ⟨e,e2,?_⟩
 refine⟨.non,_,I.lset (its':=o9++its2) hH e (by simp) (r.append r2) ?_,rfl,q⟩;rw[ag];omega
def Zif:R2:=λx y H Q=>∃l b xs zs,x = .ref l/\y = .ref b/\H l=aA (.lst xs)/\H b=aA (.lst zs)/\xs.length+zs.length<=sizeLine/\∀p,H p=aB->Q (.ref p) (upd H p (.lst (xs++zs)))
theorem Zd1:Sr X (fK .Add) Zif:=by
 intro nu s σ H x y v u Q I rx ry h;obtain⟨l,b,xs,zs,rfl,rfl,hH,hB,hz,q⟩:=h;cases rx;cases ry;obtain⟨z,o9,n,r,hl,e⟩:=I.lstM hH;obtain⟨z2,its2,n2,r2,hl2,e2⟩:=I.lstM hB;refine PySem.P.add_list e e2 ?_ (by rw[aU,aU];omega);have ea:o9.toArray++its2.toArray=(o9++its2).toArray:=by simp
 rw[ea];exact⟨.ref _,_,I.lnew (t':=s.toks) (r.append r2) (by rw[ag];omega),rfl,q _ I.fresh⟩
def Zig:R2:=λx y H Q=>∃l k xs,x = .ref l/\y = .int k/\H l=aA (.lst xs)/\-(2^63)<=k/\k<2^63/\xs.length*k.toNat<=sizeLine/\
 ∀p,H p=aB->Q (.ref p) (upd H p (.lst (aG k.toNat xs).flatten))
theorem LH{α:Type}(xs:List α)(k:Nat):(aG k xs).flatten.length=k*xs.length:=by
 induction k with
 | zero=>simp
 | succ k ih=>rw[cL,dZ,ag,ih,Nat.succ_mul,Nat.add_comm]
theorem Zd2:Sr X (fK .Mult) Zig:=by
 intro nu s σ H x y v u Q I rx ry h;obtain⟨l,k,xs,rfl,rfl,hH,h1,h2,hz,q⟩:=h;cases rx;obtain⟨t,rfl⟩:=ry;obtain⟨z,o9,n,r,hl,e⟩:=I.lstM hH;have hlen:o9.toArray.size*k.toNat<=sizeLine:=by rw[aU,<-hl];exact hz
 have hcap:¬o9.toArray.size*k.toNat>(2^63-1)/8:=by
  have:(sizeLine:Nat)<=(2^63-1)/8:=by decide
  omega
 have hfit:¬(!Builtin.List.listFitsIndex k)=aD:=by rw[fitsIndex_both h1 h2];exact aw
 have hlong:¬fS (o9.toArray.size*k.toNat)=aD:=by rw[Jh hlen];exact aw
 have hnew:jR (λx1 x2=>x1++x2) #[] (aG (if o9.toArray.isEmpty=aD then 0 else k.toNat) o9.toArray)=(aG k.toNat o9).flatten.toArray:=by
  have f0:∀m:Nat,jR (λx1 x2=>x1++x2) #[] (aG m o9.toArray)=(aG m o9).flatten.toArray:=λm=>by have:=Qs o9 m [];rw[k3] at this;exact this
  rw[f0]
  cases o9 with
  | nil=>simp
  | cons a r'=>rw[oB (by simp)]
 refine jX (T:="list") (U:="int") (by decide) ⟨_,e,rfl⟩ (λs'=>kS s' k t) noFill_list_mul F.fills_int_mul F.slot_int_rmul repeat_list F.slot_int_index.lookup
  (hV F.slot_int_rmul (kS s k t) F.entry_int_rmul (F.args_int_rmul_2 _ _) (int___rmul___int_list k t l o9.toArray n)
   ⟨e,rfl,⟨_,e,rfl⟩,hV F.slot_list_mul ⟨_,e,rfl⟩ F.entry_list_mul (F.args_list_mul_2 _ _) (AutoListH.list___mul___list_int_3 l o9.toArray n k t hfit hcap hlong) ⟨e,?_⟩⟩)
 rw[hnew];exact⟨.ref _,_,I.lnew (t':=s.toks) (r.rep k.toNat) (by rw[LH,mF];exact hz),rfl,q _ I.fresh⟩
end
end L2
namespace Att
open PySem PySem.W PySem.Calls PyProof.Rows
theorem PJ{P:Params}{h:ba}:∀(ns:List Int)(vs:List aL),WellAll P h vs (ns.map mV)->jH vs ns:=by
 intro ns
 induction ns with
 | nil=>
  intro vs w;rw[dq] at w;cases w;exact .nil
 | cons n ns ih=>
  intro vs w;rw[a9] at w
  cases w with
  | cons a b=>
   cases a;exact .cons _ _ (ih _ b)
theorem script_of{l:OpenLaw}{n:Nat}(hn:l.most=aA n){P:Params}{h:ba}{args:List WData}{vals:List aL}
  (hpre:l.row.toRowW.claim.pre args=aD) (hwl:WellAll P h vals args) :
  ∃a vs ns,vals=[bP a]/\args=[WData.list (ns.map mV)]/\h.get? a=aA { cls:=.type "list",data:=.seq vs.toArray }/\jH vs ns/\ns.length<=n:=by
 have hsh:WShape.hasAll [] args [.list .int]=aD:=(pre_splitW hpre).1;have hc:l.pre.holds [] { args:=args }=aD:=(pre_splitW hpre).2;obtain⟨d,r,rfl,h1,h2⟩:=hasAllW_cons hsh;obtain rfl:=hasAllW_nil h2;obtain⟨xs,rfl,h3⟩:=hasW_list h1;obtain⟨ns,rfl⟩:=items_int h3
 have hlen:ns.length<=n:=by
  unfold OpenLaw.pre at hc;have h4:(WTm.not (.lt (.lit (.int (n:Int))) (.len (.arg 0)))).holds [] { args:=[.list (ns.map .int)] }=aD:=by have h4:=(holds_andW hc).1;rw[hn] at h4;exact h4
  have h5:=condW_of h4 (w_not (w_lt w_lit (w_len_list (w_arg rfl))));rw[aK] at h5;refine Nat.le_of_not_lt λq=>?_;have q':(n:Int)<((ns.length:Nat):Int):=by omega
  first
   | (rw[decide_eq_true q'] at h5;exact absurd h5 (by decide))
   | (simp at h5;omega)
 cases hwl with
 | cons w1 w2=>
  cases w2
  cases w1 with
  | list ho hall=>exact⟨_,_,ns,rfl,rfl,ho,PJ ns _ hall,hlen⟩
theorem post_true(l:OpenLaw)(args:List WData):l.row.toRowW.claim.post args (.bool aD) args=aD:=
 postW_of (r:=l.row.toRowW) (X:=(aD==aD))
  (show WShape.has [] (.bool aD) .bool=aD by first | rfl | decide | simp[WShape.has,WShape.arms,WShape.armsAll])
  (show(WTm.eq .res (.lit (.bool aD))).value [] { args:=args,res:=aA (.bool aD),after:=args }=aA (.bool (aD==aD)) from w_eq_bool (w_res rfl) w_lit) rfl
end Att
namespace L2
open PySem PySem.Spec PyProof.Rows
section
variable {κ:Type} [DecidableEq κ]
noncomputable def Tg(o4:List (κ×V))(k:κ):Option V:=(o4.find? λkv=>decide (kv.1=k)).map (·.2)
noncomputable def Ug(o4:List (κ×V))(k:κ)(v:V):List (κ×V):=
 if(o4.any λkv=>decide (kv.1=k))=aD then o4.map (λkv=>if kv.1=k then(kv.1,v) else kv) else o4++[(k,v)]
theorem RD{p:κ×V}{r:List (κ×V)}{k:κ}(e:p.1=k):Tg (p::r) k=aA p.2:=by simp[Tg,cO,e]
theorem RE{p:κ×V}{r:List (κ×V)}{k:κ}(e:¬p.1=k):Tg (p::r) k=Tg r k:=by simp[Tg,cO,e]
theorem OA(k:κ):∀o4:List (κ×V),(o4.any λkv=>decide (kv.1=k))=(Tg o4 k).isSome
 | []=>rfl
 | p::r=>by
  rw[l5];by_cases e:p.1=k
  ·simp only[RD e,decide_eq_true e,Bool.true_or,Option.isSome_some]
  ·rw[RE e,decide_eq_false e,nV];exact OA k r
theorem Po(o4:List (κ×V))(k:κ)(v:V):(Ug o4 k v).length<=o4.length+1:=by
 unfold Ug;split
 ·rw[aK];omega
 ·rw[ag,bB,fG];omega
theorem Cd{o4:List (κ×V)}{k:κ}(v:V)(h:Tg o4 k=aB):Ug o4 k v=o4++[(k,v)]:=by unfold Ug;rw[OA,h];exact oB (by decide)
theorem RelO.isSome_eq{o:Option V}{u:Option aL}(r:RelO o u):o.isSome=u.isSome:=by
 cases o with
 | none=>cases u with
  | none=>rfl
  | some _=>exact(show False from r).elim
 | some _=>cases u with
  | none=>exact(show False from r).elim
  | some _=>rfl
theorem KV.val{o4:List (κ×V)}{vs:List (κ×aL)}(r:KV o4 vs)(k:κ):RelO (Tg o4 k) (lK vs k):=by
 unfold KV at r
 induction r with
 | nil=>exact bj
 | @cons p q ps qs h t ih=>
  obtain⟨h1,h2⟩:=h;by_cases e:p.1=k
  ·have e':q.1=k:=h1.symm.trans e;have b:lK (q::qs) k=aA q.2:=by simp[lK,cO,e']
   rw[RD e,b];exact h2
  ·have e':¬q.1=k:=λz=>e (h1.trans z);have b:lK (q::qs) k=lK qs k:=by simp[lK,cO,e']
   rw[RE e,b];exact ih
theorem KV.any{o4:List (κ×V)}{vs:List (κ×aL)}(r:KV o4 vs)(k:κ):(o4.any λkv=>decide (kv.1=k))=vs.any λkv=>decide (kv.1=k):=by
 unfold KV at r
 induction r with
 | nil=>rfl
 | cons h t ih=>rw[l5,l5,ih,h.1]
theorem KV.repl{o4:List (κ×V)}{vs:List (κ×aL)}(r:KV o4 vs)(k:κ){y:V}{u:aL}(ry:RelV y u) :
  KV (o4.map λkv=>if kv.1=k then(kv.1,y) else kv) (vs.map λkv=>if kv.1=k then(kv.1,u) else kv):=by
 unfold KV at r ⊢
 induction r with
 | nil=>exact .nil
 | @cons p q ps qs h t ih=>
  rw[a9,a9];refine .cons ?_ ih;obtain⟨h1,h2⟩:=h;by_cases e:p.1=k
  ·rw[oA e,oA (h1.symm.trans e)];exact⟨h1,ry⟩
  ·rw[oB e,oB (λz=>e (h1.trans z))];exact⟨h1,h2⟩
theorem KV.put{o4:List (κ×V)}{vs:List (κ×aL)}(r:KV o4 vs)(k:κ){y:V}{u:aL}(ry:RelV y u):KV (Ug o4 k y) (stored vs k u):=by
 unfold Ug stored;rw[r.any k];by_cases e:(vs.any λkv=>decide (kv.1=k))=aD
 ·rw[oA e,oA e];exact r.repl k ry
 ·rw[oB e,oB e];exact Paired.snoc r ⟨rfl,ry⟩
theorem KV.length{o4:List (κ×V)}{vs:List (κ×aL)}(r:KV o4 vs):o4.length=vs.length:=Paired.length r
end
theorem G0{P:bQ}{w:bu}{k:YV}{u:aL}(r:RelV (kV k) u):(YZ P w).is k u=aD:=by
 cases k with
 | inl i=>obtain⟨t,e⟩:=(show ∃t,u=gU i t from r);subst e;exact K6 P w i t
 | inr x=>obtain⟨t,e⟩:=(show ∃t,u=mQ x t from r);subst e;exact K7 P w x t
theorem MN{P:bQ}{w:bu}:∀{ks:List YV}{us:List aL},Vals (ks.map kV) us->ItemsAre (YZ P w) ks us
 | [],_,r=>by rw[dq] at r;cases r;exact .nil
 | k::ks,_,r=>by
  rw[a9] at r
  cases r with
  | cons h t=>exact .cons (G0 h) (MN t)
abbrev KT(H:Hp):List (List YV×V)->List (List YV×aN×aL)->Prop:=Paired λp q=>p.1=q.1/\H q.2.1=aA (.tup (p.1.map kV))/\RelV p.2 q.2.2
theorem KT.val{H:Hp}{o4:List (List YV×V)}{xs:List (List YV×aN×aL)}(r:KT H o4 xs)(k:List YV):RelO (Tg o4 k) ((m7 xs k).map (·.2)):=by
 induction r with
 | nil=>exact bj
 | @cons p q ps qs h t ih=>
  obtain⟨h1,_,h2⟩:=h;by_cases e:p.1=k
  ·have e':q.1=k:=h1.symm.trans e;have b:m7 (q::qs) k=aA q.2:=by simp[m7,cO,e']
   rw[RD e,b];exact h2
  ·have e':¬q.1=k:=λz=>e (h1.trans z);have b:m7 (q::qs) k=m7 qs k:=by simp[m7,cO,e']
   rw[RE e,b];exact ih
theorem KT.repl{H:Hp}{o4:List (List YV×V)}{xs:List (List YV×aN×aL)}(r:KT H o4 xs)(k:List YV){y:V}{u:aL}(ry:RelV y u) :
  KT H (o4.map λkv=>if kv.1=k then(kv.1,y) else kv) (xs.map (putAt k u)):=by
 induction r with
 | nil=>exact .nil
 | @cons p q ps qs h t ih=>
  rw[a9,a9];refine .cons ?_ ih;obtain⟨h1,h2,h3⟩:=h;unfold putAt;by_cases e:p.1=k
  ·rw[oA e,oA (h1.symm.trans e)];exact⟨h1,h2,ry⟩
  ·rw[oB e,oB (λz=>e (h1.trans z))];exact⟨h1,h2,h3⟩
theorem KT.put{H:Hp}{o4:List (List YV×V)}{xs:List (List YV×aN×aL)}(r:KT H o4 xs)(k:List YV){b:aN}{y:V}{u:aL}(hb:H b=aA (.tup (k.map kV)))(ry:RelV y u) :
  KT H (Ug o4 k y) (storedH xs k b u):=by
 have e:(o4.any λkv=>decide (kv.1=k))=(m7 xs k).isSome:=by rw[OA,(r.val k).isSome_eq,mH]
 unfold Ug storedH;rw[e];by_cases q:(m7 xs k).isSome=aD
 ·rw[oA q,oA q];exact r.repl k ry
 ·rw[oB q,oB q];exact Paired.snoc r ⟨rfl,hb,ry⟩
theorem KT.keeps{H H':Hp}{o4:List (List YV×V)}{xs:List (List YV×aN×aL)}(r:KT H o4 xs)(ht:∀b ys,H b=aA (.tup ys)->H' b=aA (.tup ys)):KT H' o4 xs:=
 Paired.mapP r λ_ _ z=>⟨z.1,ht _ _ z.2.1,z.2.2⟩
section
variable {P:bQ} {w:bu} {H:Hp} {h:ba} {a:aN}
theorem Zcj{u:HO}(ok:HOk P w H h)(e:Rd H a u):ObjOk P w H h a u:=e.ok ok
theorem G1{o4:List (YV×V)}(ok:HOk P w H h)(e:Rd H a (.dK o4)):o4.length<=sizeLine/\(a==fQ)=aC/\∃vs,KV o4 vs/\h.DictOf (YZ P w) a vs:=
 show ObjOk P w H h a (.dK o4) from Zcj ok e
theorem Zgk{o4:List (YV×V)}(ok:HOk P w H h)(e:H a=aA (.dK o4)):o4.length<=sizeLine/\(a==fQ)=aC/\∃vs,KV o4 vs/\h.DictOf (YZ P w) a vs:=G1 ok (.inl e)
theorem LI{ks:List YV}(ok:HOk P w H h)(e:H a=aA (.tup (ks.map kV))):(jy (YZ P w)).is h ks a:=by obtain⟨_,o9,r,o,h1,h2,n,h3⟩:=(show ObjOk P w H h a (.tup (ks.map kV)) from ok a _ e);exact⟨o,o9.toArray,n,h1,h2,h3,by simpa using MN r⟩
theorem G3{o4:List (List YV×V)}(ok:HOk P w H h)(e:Rd H a (.dT o4)):o4.length<=sizeLine/\(a==fQ)=aC/\
  ∃xs,KT H o4 xs/\h.DictOfH (jy (YZ P w)) a xs:=by
 obtain⟨z,y,xs,r,o,es,ep,h1,h2,h3,h4,h5⟩:=(show ObjOk P w H h a (.dT o4) from Zcj ok e);refine⟨z,y,xs,r,o,es,ep,h1,h2,h3,h4,λx hx=>?_,h5⟩
 have all:∀{l:List (List YV×V)}{m:List (List YV×aN×aL)},KT H l m->∀x∈m,(jy (YZ P w)).is h x.1 x.2.1:=by
  intro l m q
  induction q with
  | nil=>intro x hx;exact nomatch hx
  | @cons p q ps qs hq t ih=>
   intro x hx;rcases aa.mp hx with e | hx
   ·subst e;exact LI ok (by rw[<-hq.1];exact hq.2.1)
   ·exact ih x hx
 exact all r x hx
theorem Zgl{o4:List (List YV×V)}(ok:HOk P w H h)(e:H a=aA (.dT o4)):o4.length<=sizeLine/\(a==fQ)=aC/\
  ∃xs,KT H o4 xs/\h.DictOfH (jy (YZ P w)) a xs:=G3 ok (.inl e)
end
def Ey(H:Hp)(a:aN)(y:V)(r:Option V):Prop:=
 (∃o4 k,Rd H a (.dK o4)/\y=kV k/\r=Tg o4 k)\/∃o4 k b,Rd H a (.dT o4)/\y = .ref b/\H b=aA (.tup (k.map kV))/\r=Tg o4 k
def Zgm(H:Hp)(a:aN)(y v:V)(H':Hp):Prop:=
 (∃o4 k,H a=aA (.dK o4)/\y=kV k/\o4.length<sizeLine/\H'=upd H a (.dK (Ug o4 k v)))\/
 ∃o4 k b,H a=aA (.dT o4)/\y = .ref b/\H b=aA (.tup (k.map kV))/\o4.length<sizeLine/\H'=upd H a (.dT (Ug o4 k v))
section
variable {X:Cx} {nu:List (aN×df)} {σ:St} {H:Hp} {s:aQ} {a:aN} {y v:V} {u r:aL} {o:Option V} {A:bw} {E:aL->aQ->Prop}
theorem Inv.big(I:Inv X nu σ H s):fQ<s.heap.objs.size:=by have h:cJ<s.heap.objs.size:=(I.mod.glob.keeps I.bk).lt;exact Nat.lt_trans (by decide) h
theorem Ez{Q:aL->aQ->Prop}(hu:A.units+1<fL)(I:Inv X nu σ H s)(g:Ey H a y (aA v))(ry:RelV y u)(h:∀w' s',Inv X nu σ H s'->RelV v w'->Q w' s') :
  bA (model X.prog X.w) A (kO (.ref a) u) Q E s:=by
 rcases g with⟨o4,k,e,ey,l⟩ | ⟨o4,k,b,e,ey,eb,l⟩
 ·subst ey;obtain⟨z,hd,vs,rel,dd⟩:=G1 I.hok e;obtain⟨w',hw,Z0⟩:=RelO.some_of (v:=v) (o:=lK vs k) (by rw[l];exact rel.val k);exact wpAny_getItem_of (G0 ry) dd.mapOf hw (h w' _ (I.tok _) Z0)
 ·subst ey;cases (show u=bP b from ry);obtain⟨z,hd,xs,rel,dd⟩:=G3 I.hok e;obtain⟨w',hw,Z0⟩:=RelO.some_of (v:=v) (o:=(m7 xs k).map (·.2)) (by rw[l];exact rel.val k);obtain⟨p,hp,hp2⟩:=Option.map_eq_some_iff.mp hw;refine wpAny_getItem_heap (jS hu) (LI I.hok eb) dd hp ?_;rw[hp2];exact h w' _ (I.tok _) Z0
theorem AZ{Q:aL->aQ->Prop}(hu:A.units+1<fL)(I:Inv X nu σ H s)(g:Ey H a y o)(ry:RelV y u)(h:∀s',Inv X nu σ H s'->Q (.bool (!o.isSome)) s') :
  bA (model X.prog X.w) A (dc .NotIn u (.ref a)) Q E s:=by
 rcases g with⟨o4,k,e,ey,l⟩ | ⟨o4,k,b,e,ey,eb,l⟩
 ·subst ey;obtain⟨z,hd,vs,rel,dd⟩:=G1 I.hok e;refine wpAny_notIn_of (G0 ry) hd dd.mapOf ?_;rw[<-(rel.val k).isSome_eq,<-l];exact h _ (I.tok _)
 ·subst ey;cases (show u=bP b from ry);obtain⟨z,hd,xs,rel,dd⟩:=G3 I.hok e;refine wpAny_notIn_heap (jS hu) (LI I.hok eb) hd dd ?_;have q:=(rel.val k).isSome_eq;rw[mH] at q;rw[<-q,<-l];exact h _ (I.tok _)
theorem G4{h':ba}{t':Nat}{ob:HO}(I:Inv X nu σ H s)(mu:Ue (H a))(hs:cS a s.heap h')(he:∃q,h'.get? a=aA q)(new:ObjOk X.prog X.w (upd H a ob) h' a ob) :
  Inv X nu σ (upd H a ob) { s with heap:=h',toks:=t' }:=
 I.write (x:=a) (e:=a) mu (.inl rfl) (λb q hb z=>(hs.2 b hb).trans z) he new
theorem Zd3{P:bQ}{w:bu}{H':Hp}{h':ba}{o4:List (YV×V)}{vs:List (YV×aL)}(z:o4.length<=sizeLine)(hd:(a==fQ)=aC)(rel:KV o4 vs)(dd:h'.DictOf (YZ P w) a vs) :
  ObjOk P w H' h' a (.dK o4):=⟨z,hd,vs,rel,dd⟩
theorem EA{H':Hp}{Q:Unit->aQ->Prop}(hu:A.units+1<fL)(I:Inv X nu σ H s)(g:Zgm H a y v H')(ry:RelV y u)(rv:RelV v r)(h:∀s',Inv X nu σ H' s'->Q () s') :
  bA (model X.prog X.w) A (setItem (.ref a) u r) Q E s:=by
 rcases g with⟨o4,k,e,ey,l,eH⟩ | ⟨o4,k,b,e,ey,eb,l,eH⟩
 ·subst ey eH;obtain⟨z,hd,vs,rel,dd⟩:=Zgk I.hok e;have hz:vs.length<=sizeLine:=by rw[<-rel.length];exact z
  have hl:(Ug o4 k v).length<=sizeLine:=by have:=Po o4 k v;omega
  refine wpAny_setItem_pairs (hsz:=hz) (G0 ry) dd λh' dd' hs=>h _ ?_;have he:∃q,h'.get? a=aA q:=let⟨q,_,_,hq,_⟩:=dd';⟨q,hq⟩;exact G4 I (by rw[e];exact bj) hs he (Zd3 hl hd (rel.put k rv) dd')
 ·subst ey eH;cases (show u=bP b from ry);obtain⟨z,hd,xs,rel,dd⟩:=Zgl I.hok e;have hz:xs.length<=sizeLine:=by rw[<-Paired.length rel];exact z
  have hl:(Ug o4 k v).length<=sizeLine:=by have:=Po o4 k v;omega
  refine wpAny_setItem_heap (hsz:=hz) (jS hu) (LI I.hok eb) dd λh' dd' hs=>h _ ?_;obtain⟨q,es,ep,hq,h2,h3,h4,_,h5⟩:=dd';refine G4 I (by rw[e];exact bj) hs ⟨q,hq⟩ ⟨hl,hd,_,(rel.put k eb rv).keeps λc ys ec=>?_,q,es,ep,hq,h2,h3,h4,h5⟩;rw[upd_ne (Zfq ec e (λz=>nomatch z))];exact ec
end
def Zd4(i:bS):Prop:=∀ov iv,subscripted i aC ov iv=operate [ov,iv] (kO ov iv)
theorem A0{prog:bQ}{w:bu}{A:bw}{E:aL->aQ->Prop}{s:aQ}{env:lZ}{value slice:bS}{pos:fZ}{T id:String}{Q:aL->aQ->Prop}
  (hl:typeLookup (.type T) "__getitem__" = pure (aA (.builtin id))) (hs:Zd4 slice)
  (h:bA (model prog w) A (eval value env) (λo s₁=>bA (model prog w) A (eval slice env) (λi s₂=>s₂.TypeIs o T/\bA (model prog w) A (kO o i) Q E s₂) E s₁) E s) :
  bA (model prog w) A (eval (.Subscript value slice pos) env) Q E s:=by
 refine nI (cQ h (λo s₁ h₁=>cQ h₁ (λi s₂ h₂=>?_) λ_ _ x=>x) λ_ _ x=>x);obtain⟨hT,h₂⟩:=h₂;unfold l4;refine aH ?_;rw[getitemInPython_of_ne hT.not_modules];refine aH (wpAny_specialOf hT hl ?_);have fin:bA (model prog w) A (subscripted slice aC o i) (λr s₃=>bA (model prog w) A (letTemporaryGo value o r >>= λ_=>pure r) Q E s₃) E s₂:=by rw[hs o i];exact wpAny_operating (cQ h₂ (λr s₃ h₃=>aH (wpAny_letTemporaryGo (aX h₃))) λ_ _ x=>x)
 first
  | exact aX (aH fin)
  | exact aH (aX (aH fin))
  | exact aH fin
theorem Ji{X:Cx}{nu:List (aN×df)}{σ:St}{H:Hp}{s:aQ}{a:aN}{y:V}{o:Option V}(I:Inv X nu σ H s)(g:Ey H a y o):s.TypeIs (.ref a) "dict":=by
 rcases g with⟨o4,k,e,_,_⟩ | ⟨o4,k,b,e,_,_,_⟩
 ·obtain⟨_,_,vs,_,dd⟩:=G1 I.hok e;exact dd.typeIs
 ·obtain⟨_,_,xs,_,dd⟩:=G3 I.hok e;exact dd.typeIs
def Zck(td ty:TE):TE:=λσ H Q=>td σ H λx H1=>ty σ H1 λy H2=>∃a v,x = .ref a/\Ey H2 a y (aA v)/\Q v H2
def G5(ty td:TE):TE:=λσ H Q=>ty σ H λy H1=>td σ H1 λx H2=>∃a o,x = .ref a/\Ey H2 a y o/\Q (.bl (!o.isSome)) H2
def sDPut(td ty tv:TE):TS:=λD σ H=>tv σ H λv H1=>td σ H1 λx H2=>ty σ H2 λy H3=>∃a H4,x = .ref a/\Zgm H3 a y v H4/\D.nx σ H4
section
variable {X:Cx} {o i e value:bS} {pos pos' tpos:fZ} {td ty tv:TE}
theorem A1(hu:X.A.units+1<fL)(ho:PE X o td)(hi:PE X i ty)(hs:Zd4 i):PE X (.Subscript o i pos) (Zck td ty):=by intro nu s σ H Q I h;refine A0 PySem.F.slot_dict_getitem.lookup hs (YN (ho nu s σ H _ I h) λu s1 ⟨x,H1,I1,rx,q1⟩=>YN (hi nu s1 σ H1 _ I1 q1) λiv s2 ⟨y,H2,I2,ry,a,v,ex,g,q2⟩=>?_);subst ex;obtain rfl:u=bP a:=rx;exact⟨Ji I2 g,Ez hu I2 g ry λw' s3 I3 Z0=>⟨v,H2,I3,Z0,q2⟩⟩
theorem EB(hu:X.A.units+1<fL)(hi:PE X i ty)(ho:PE X o td):PC X .NotIn i o (G5 ty td):=by intro nu s σ H Q I h;refine YN (hi nu s σ H _ I h) λiv s1 ⟨y,H1,I1,ry,q1⟩=>YN (ho nu s1 σ H1 _ I1 q1) λu s2 ⟨x,H2,I2,rx,a,ov,ex,g,q2⟩=>?_;subst ex;obtain rfl:u=bP a:=rx;exact AZ hu I2 g ry λs3 I3=>⟨.bl (!ov.isSome),H2,I3,rfl,q2⟩
theorem P0(hu:X.A.units+1<fL)(ho:PE X o td)(hi:PE X i ty)(hv:PE X value tv)(hs:iC value (aA (.Subscript o i pos')) pos.line X.env=pure aC) :
  PS X (.Assign [.Subscript o i pos'] value pos) (sDPut td ty tv):=by
 intro nu s σ H D I h;refine wpAny_Assign_Subscript (YN (hv nu s σ H _ I h) λr s1 ⟨v,H1,I1,rv,q1⟩=>YN (ho nu s1 σ H1 _ I1 q1) λu s2 ⟨x,H2,I2,rx,q2⟩=>YN (hi nu s2 σ H2 _ I2 q2) λiv s3 ⟨y,H3,I3,ry,a,H4,ex,g,q3⟩=>?_) hs;subst ex;obtain rfl:u=bP a:=rx;exact EA hu I3 g ry rv λs4 I4=>⟨σ,H4,I4,q3⟩
end
theorem Ce{P:bQ}{w:bu}{H:Hp}(h:ba)(hb:fQ<h.objs.size):ObjOk P w H (h.push { cls:=.type "dict",data:=.dict #[] }) h.objs.size (.dT []):=
 ⟨cj _,beq_eq_false_iff_ne.mpr (bX (bU hb)),[],.nil,_,#[],0,aj _ rfl,⟨rfl,rfl,rfl⟩,rfl,rfl,cG⟩
def Zd5:TE:=λ_ H Q=>∀p,H p=aB->Q (.ref p) (upd H p (.dT []))
section
variable {X:Cx} {pos:fZ}
theorem Cf:PE X (.Dict [] [] pos) Zd5:=λnu s σ H Q I h=>
 wpAny_Dict_empty ⟨.ref s.heap.objs.size,_,I.laid (a:=s.heap.objs.size) (o:=.dT []) (t':=s.toks) (λ_ _ q=>aM _ q) (aT _) (Ce s.heap I.big),rfl,h _ (I.hok.fresh (aT _))⟩
end
theorem MO:∀{vs:List aL}{ns:List Int},jH vs ns->Vals (ns.map V.int) vs
 | _,_,.nil=>.nil
 | _,_,.cons n t h=>.cons ⟨t,rfl⟩ (MO h)
noncomputable def Y0(s:bx):lJ:=match s with
 | .FunctionDef _ a _ _ _ _ _ _ _ _=>a
 | _=>{ posonlyargs:=[],args:=[],vararg:=aB,kwonlyargs:=[],kw_defaults:=[],kwarg:=aB,defaults:=[] }
def Yf(s:bx):List bx:=match s with
 | .FunctionDef _ _ b _ _ _ _ _ _ _=>b
 | _=>[]
noncomputable def Zf(s:bx):gK:=match s with
 | .FunctionDef _ _ _ _ _ _ sc _ _ _=>sc
 | _=>{ kind:=.function,names:=[],isGenerator:=aC,isCoroutine:=aC }
abbrev LJ:CXT:=λ_ _ _ _ _ _=>False
abbrev E0:XK:=λ_ _ _=>False
theorem Zcl{X:Cx}:IZ LJ X E0:=λ_ _ _ _ _ _ _ h=>h.elim
structure Fun(K:aJ)(x qual:bH)(st:bx)(f:aN)(fd:fX):Prop where
 ex:∃(oc:aL) (od:Option aN) (kV doc pm:aL) (an:Option aN) (cdv ct:aL) (osl:Array (Option aL)),
  fd=c0 x qual (Y0 st) (Yf st) (Zf st) .none kV doc pm an cdv ct/\K.lookup f=aA ⟨oc,od,.func fd,osl⟩/\cg K cdv qual=aD
 kp:eZ K (.ref f)=aD
section
variable {P:bQ} {w:bu} {K:aJ} {mg:bH->Option aL} {base:ba}
theorem Fun.ok{x qual:bH}{st:bx}{f:aN}{fd:fX}{N ps:List bH}{k:Nat}{sp:Sp}(F:Fun K x qual st f fd)(S:Zp N ps (Zf st))(len:∀vs H Q E,sp vs H Q E->vs.length=ps.length)
  (hbody:∀(cdv:aL)(A:bw)(outer:List lZ)(s:aQ)(H:Hp)(vs:List V)(Q:VK)(E:XK),Room k (A.deeper (iH qual (Zf st) s.heap.objs.size f cdv))->sp vs H Q E->
   ∃t,PSs (PH LJ P w K mg base N qual (Zf st) f cdv A outer s H E).nox (Yf st) t/\t { nx:=λ_ H'=>Q .non H',rt:=Q } (start N vs) H):Qq P w K mg base LJ (k+1) f fd ps sp:=by
 obtain⟨oc,od,kV,doc,pm,an,cdv,ct,osl,rfl,lk,hcd⟩:=F.ex;refine WW lk hcd S len λA outer s H vs Q E hr hsp=>?_;obtain⟨t,h,q⟩:=hbody cdv A outer s H vs Q E hr hsp;exact⟨t,h.nox,q⟩
theorem Fun.binds{x qual:bH}{st:bx}{f:aN}{fd:fX}{ps:List bH}(F:Fun K x qual st f fd)
  (h:∀(kV doc pm:aL)(an:Option aN)(cdv ct:aL)(us:List aL),us.length=ps.length->i6 (c0 x qual (Y0 st) (Yf st) (Zf st) .none kV doc pm an cdv ct) ⟨us,[]⟩=pure (ps.zip us)):Binds K fd ps []:=by
 obtain⟨oc,od,kV,doc,pm,an,cdv,ct,osl,rfl,lk,hcd⟩:=F.ex;exact .all (h kV doc pm an cdv ct)
theorem Zd6{x qual:bH}{st:bx}{f:aN}{oc:aL}{od an:Option aN}{osl:Array (Option aL)}{kV doc pm cdv ct:aL}(l:K.lookup f=aA ⟨oc,od,.func (c0 x qual (Y0 st) (Yf st) (Zf st) .none kV doc pm an cdv ct),osl⟩)
  (c:cg K cdv qual=aD) (k:eZ K (.ref f)=aD):Fun K x qual st f (c0 x qual (Y0 st) (Yf st) (Zf st) .none kV doc pm an cdv ct):=⟨⟨oc,od,kV,doc,pm,an,cdv,ct,osl,rfl,l,c⟩,k⟩
end
theorem Pp{A:bw}{k:Nat}(hr:Room k A):A.units+1<fL:=e8 (lU (by decide:1<=64) _) hr.units
section
variable {X:Cx}
theorem pv(i:Nat){x:bH}{pos:fZ}(hN:X.N[i]?=aA x:=by rfl)(hv:Vis X.env.scope x:=by first | exact dQ rfl | exact kf (dQ rfl) | exact kf (kf rfl))(hd:(x==("__debug__" : bH))=aC:=by decide)
  (hcd:(x==("__classdict__" : bH))=aC:=by decide):PE X (.Name x pos) (Sy i):=DU hN hv hd hcd
end
theorem Zgn{A B:Prop}(h:B):if aC=aD then A else B:=by rw[oB aw];exact h
theorem Zgo{A B:Prop}(h:A):if aD=aD then A else B:=by rw[oA rfl];exact h
def Same(H H':Hp):Prop:=∀b o,H b=aA o->H' b=aA o
theorem Same.refl(H:Hp):Same H H:=λ_ _ h=>h
theorem Same.trans{H H1 H2:Hp}(a:Same H H1)(b:Same H1 H2):Same H H2:=λc o h=>b c o (a c o h)
theorem Same.free{H H':Hp}(e:Same H H'){l:aN}(h:H' l=ng):H l=ng:=by
 cases q:H l with
 | none=>rfl
 | some o=>
  rw[e l o q] at h;cases h
section
variable {κ:Type} [DecidableEq κ]
theorem Ww:∀{l:List κ}{k:κ},l.Nodup->¬k∈l->(l++[k]).Nodup
 | [],k,_,_=>by simp
 | a::r,k,h,hk=>by
  obtain⟨h1,h2⟩:=ar.mp h;show(a::(r++[k])).Nodup;refine ar.mpr ⟨λm=>?_,Ww h2 λm=>hk (aa.mpr (kf m))⟩;rcases aq.mp m with q | q
  ·exact h1 q
  ·exact hk (aa.mpr (dQ (aR.mp q).symm))
end
end L2
set_option maxHeartbeats 4000000
namespace L2
open PySem PySem.Spec PyProof.Rows
noncomputable def Xr(cells:List (bH×aN)):List (bH×fY)->List (bH×aN)->List (bH×aN)
 | [],acc=>acc
 | (n,k)::r,acc=>Xr cells r (if(k==cB)=aD then(n,(cells.lookup n).getD 0)::acc else acc)
theorem Ss{env:lZ}:∀(names:List (bH×fY))(acc:List (bH×aN)),(∀y∈names,y.2 = .free->(env.cells.lookup y.1).isSome=aD)->
  (forIn (m:=Sem) names acc λ(x:bH×fY) (cs:List (bH×aN))=>
   match x with
   | (name,kind)=>if(kind==cB)=aD then do
     let c <-cellOf env name
     pure (fu ((name,c)::cs))
    else pure (fu cs))=pure (Xr env.cells names acc)
 | [],acc,_=>rfl
 | (n,k)::r,acc,h=>by
  rw[k4];have ih:=λacc'=>Ss r acc' λy hy=>h y (aP _ hy)
  cases hk:(k==cB) with
  | true=>
   have hs:=h (n,k) af (by simpa using hk);obtain⟨c,hc⟩:=cT.mp hs;have hc:env.cells.lookup n=aA c:=hc;have e1:cellOf env n=pure c:=by unfold cellOf;rw[hc]
   dsimp only
   rw[hk,oA rfl,e1];refine Eq.trans (ih ((n,c)::acc)) ?_;show _=pure (Xr env.cells r (if(k==cB)=aD then(n,(env.cells.lookup n).getD 0)::acc else acc));rw[oA hk,hc];rfl
  | false=>
   dsimp only
   rw[hk,oB aw];refine Eq.trans (ih acc) ?_;show _=pure (Xr env.cells r (if(k==cB)=aD then(n,(env.cells.lookup n).getD 0)::acc else acc));rw[oB (by rw[hk];exact aw)]
theorem Su{scope:gK}{env:lZ}(h:∀y∈scope.names,y.2 = .free->(env.cells.lookup y.1).isSome=aD):kT scope env=pure (Xr env.cells scope.names []):=by
 have e:=Ss (env:=env) scope.names [] h;unfold kT
 dsimp only
 rw[e];rfl
theorem Qt{cells:List (bH×aN)}{x:bH}{c:aN}:∀(names:List (bH×fY))(acc:List (bH×aN)),(∀y∈names,y.2 = .free->(cells.lookup y.1).isSome=aD)->(acc.lookup x=aA c->cells.lookup x=aA c)->
  (Xr cells names acc).lookup x=aA c->cells.lookup x=aA c
 | [],_,_,h,e=>h e
 | (n,k)::r,acc,hf,h,e=>by
  refine Qt r _ (λy hy=>hf y (aP _ hy)) ?_ e;intro q;by_cases hk:(k==cB)=aD
  ·rw[oA hk,bZ] at q
   cases hx:x==n with
   | true=>
    rw[hx] at q;have exn:x=n:=by simpa using hx
    obtain⟨d,hd⟩:=cT.mp (hf (n,k) af (by simpa using hk));have hd:cells.lookup n=aA d:=hd;rw[hd] at q;rw[exn,hd];exact q
   | false=>rw[hx] at q;exact h q
  ·rw[oB hk] at q;exact h q
theorem OB{cells:List (bH×aN)}{x:bH}:∀(names:List (bH×fY))(acc:List (bH×aN)),(acc.lookup x).isSome=aD->((Xr cells names acc).lookup x).isSome=aD
 | [],_,h=>h
 | (n,k)::r,acc,h=>by
  refine OB r _ ?_;split
  ·rw[bZ];split<;>simp_all
  ·exact h
theorem Qu{cells:List (bH×aN)}{x:bH}:∀(names:List (bH×fY))(acc:List (bH×aN)),(x,cB)∈names->((Xr cells names acc).lookup x).isSome=aD
 | (n,k)::r,acc,h=>by
  rcases aa.mp h with e | h
  ·cases e;refine OB r _ ?_;rw[oA (by decide),bZ];simp
  ·exact Qu r _ h
structure CompScope(N:List bH)(around scope:gK)(own fr:List bH)(ix:List Nat):Prop where
 kind:scope.kind = .function
 nocell:∀y∈scope.names,y.2≠.cell
 names:∀y∈scope.names,y.2 = .local->scope.names.lookup y.1=aA .local
 frees:∀y∈scope.names,y.2 = .free->(around.names.lookup y.1=aA .cell\/around.names.lookup y.1=aA .free)
 slots:fr.map aA=ix.map (λi=>N[i]?)
 outs:∀x∈fr,(x,cB)∈scope.names
 apart:∀x∈fr,scope.names.lookup x≠aA .local
noncomputable def ZG(X:Cx)(N':List bH)(scope:gK)(cl:List (bH×aN))(C:aN)(s:aQ)(H:Hp)(ex:List aN):Cx:=
 { X with N:=N',s₀:=s,H₀:=H,env:=nJ scope cl C X.env,outer:=X.stack,ex:=ex,fn:=λ_=>aC,pn:=[],xe:=λ_ _=>False }
def YB(n:Nat)(ix:List Nat)(σ:St):St:=aG n aB++ix.map (λi=>(σ[i]?).join)
theorem W0{env:lZ}{x:bH}:∀{names:List (bH×fY)}{k:fY},names.lookup x=aA k->
  (names.map λ(n,k)=>if(k==cB&&env.scope.kind==.function&&env.kindOf n==aA .cell) then(n,gC) else(n,k)).lookup x =
   aA (if(k==cB&&env.scope.kind==.function&&env.kindOf x==aA .cell)=aD then gC else k)
 | [],_,h=>by simp at h
 | (n,k')::r,k,h=>by
  show List.lookup x ((if(k'==cB&&env.scope.kind==.function&&env.kindOf n==aA .cell)=aD then(n,gC) else(n,k'))::_)=_
  cases hx:x==n with
  | true=>
   simp only[bZ,hx] at h;cases h;have e:x=n:=by simpa using hx
   subst e;split
   ·simp[bZ]
   ·simp[bZ]
  | false=>
   simp only[bZ,hx] at h;split
   ·simp only[bZ,hx];exact W0 h
   ·simp only[bZ,hx];exact W0 h
theorem Ux{env:lZ}{x:bH}:∀{names:List (bH×fY)}{k':fY},
  (names.map λ(n,k)=>if(k==cB&&env.scope.kind==.function&&env.kindOf n==aA .cell) then(n,gC) else(n,k)).lookup x=aA k'->∃k,names.lookup x=aA k
 | [],_,h=>by simp at h
 | (n,k0)::r,k',h=>by
  have h:List.lookup x ((if(k0==cB&&env.scope.kind==.function&&env.kindOf n==aA .cell)=aD then(n,gC) else(n,k0))::_)=aA k':=h
  cases hx:x==n with
  | true=>exact⟨k0,by simp[bZ,hx]⟩
  | false=>
   have:∃k,r.lookup x=aA k:=by
    apply Ux (env:=env) (k':=k');split at h<;>simpa [bZ,hx] using h
   obtain⟨k,e⟩:=this;exact⟨k,by simp[bZ,hx,e]⟩
section
variable {X:Cx} {nu:List (aN×df)} {σ:St} {H:Hp} {s:aQ} {own fr:List bH} {ix:List Nat} {scope:gK}
theorem CompScope.clos(S:CompScope X.N X.env.scope scope own fr ix)(I:Inv X nu σ H s):∀y∈scope.names,y.2 = .free->(X.env.cells.lookup y.1).isSome=aD:=λy hy hf=>by obtain⟨c,e⟩:=I.ok.has y.1 (S.frees y hy hf);rw[e];rfl
end
theorem LK{prog:bQ}{w:bu}{A:bw}{R:Result->aQ->Prop}{s:aQ}{elt target iter:bS}{ifs:List bS}{scope:gK}{pos:fZ}{it acc:aL}{env:lZ}(I:Nat->aQ->Prop)
  (turn:∀n s,I n s->bA (model prog w) A (ji it) (λr s₁=>match r with
   | none=>R (.ok .next) s₁
   | some v=>bA (model prog w) A (ik target it v) (λ_ s₁'=>bA (model prog w) A (assign target env v) (λ_ s₂=>
     bA (model prog w) A (forIn ifs aD λc r=>if r=aD then do let ok <-l7 c env (eval c env);pure (fu ok) else pure (fu r)) (λok s₃=>
      if ok=aD then bA (model prog w) A (eval elt env) (λx s₄=>
       bA (model prog w) A (call (.builtin "list.append") [acc,x]) (λ_ s₅=>∃m,m<n/\I m s₅) (lM (model prog w) A env λe s'=>R (.error e) s') s₄) (lM (model prog w) A env λe s'=>R (.error e) s') s₃
      else ∃m,m<n/\I m s₃) (lM (model prog w) A env λe s'=>R (.error e) s') s₂) (lM (model prog w) A env λe s'=>R (.error e) s') s₁') (lM (model prog w) A env λe s'=>R (.error e) s') s₁) (lM (model prog w) A env λe s'=>R (.error e) s') s)
  (n:Nat) (h:I n s) :
  kM (model prog w) A (.compLoop (.ListComp elt [⟨target,iter,ifs,0⟩] scope pos) 0 it acc env) R s:=by
 refine codeAny_loop rfl I (λn s hI=>?_) n h;show bA _ A ((compTurn (.ListComp elt [⟨target,iter,ifs,0⟩] scope pos) 0 it acc env).onRaise (λx=>do noteFrame x env;theTreesLotGoes x)) _ _ s;refine wpAny_noted ?_;rw[compTurn_list];refine aH (jh (aH (cQ (turn n s hI) (λr s₁ h₁=>?_) λ_ _ h'=>h')))
 cases r with
 | none=>exact aX h₁
 | some v=>
  refine aH (cQ h₁ (λ_ s₁' h₁'=>?_) λ_ _ h'=>h');refine aH (cQ h₁' (λ_ s₂ h₂=>aH (cQ h₂ (λok s₃ h₃=>?_) λ_ _ h'=>h')) λ_ _ h'=>h')
  cases ok with
  | false=>exact aX ⟨rfl,h₃⟩
  | true=>
   exact aH (aH (cQ h₃ (λx s₄ h₄=>aH (cQ h₄ (λ_ s₅ h₅=>aX (aX ⟨rfl,h₅⟩)) λ_ _ h'=>h')) λ_ _ h'=>h'))
def Cg(X:Cx)(ifs:List bS)(t:TT):Prop:=
 ∀(nu:List (aN×df))(s:aQ)(σ:St)(H:Hp)(Q:Bool->Hp->Prop),Inv X nu σ H s->t σ H Q->
  bA (model X.prog X.w) X.A (forIn ifs aD λc r=>if r=aD then do let ok <-l7 c X.env (eval c X.env);pure (fu ok) else pure (fu r)) (TP X nu σ Q) X.xe s
def Zgp:TT:=λ_ H Q=>Q aD H
theorem A2{X:Cx}:Cg X [] Zgp:=λ_ _ _ H _ I h=>wpAny_tests_nil ⟨H,I,h⟩
theorem A3{X:Cx}{c:bS}{t:TT}(h:PT X c t):Cg X [c] t:=λnu s σ H Q I hq=>wpAny_tests_one (h nu s σ H Q I hq)
def Zgq(n:Nat)(ix:List Nat)(g:TG)(tt:TT)(te:TE)(σ:St)(Q:VK)(J:It)(H1:Hp):Prop:=
 ∃W:Nat->Nat->List V->Hp->Prop,(∃m,W 0 m [] H1)/\∀i m ys H,W i m ys H->ys.length<=sizeLine/\
  ((J.stop i H/\∀p,H p=aB->Q (.ref p) (upd H p (.lst ys)))\/
   (J.go i H/\∃N:List V->Hp->Prop,(∀ys' H',N ys' H'->∃m',m'<m/\W (i+1) m' ys' H')/\
    ∀x H',J.yld i H x H'->g x (YB n ix σ) H' λσ2 H2=>σ2.drop n=(YB n ix σ).drop n/\tt σ2 H2 λb H3=>if b=aD then te σ2 H3 λy H4=>N (ys++[y]) H4 else N ys H3))
def MP(n:Nat)(ix:List Nat)(wi:TI)(g:TG)(tt:TT)(te:TE):TE:=λσ H Q=>wi σ H λJ H1=>Zgq n ix g tt te σ Q J H1
theorem EC{n:Nat}{ix:List Nat}{σ σ2:St}(hd:σ2.drop n=(YB n ix σ).drop n):∀(i:Nat) v,(YB n ix σ)[i]?=aA (aA v)->σ2[i]?=aA (aA v):=λi v e=>by
 by_cases hi:i<n
 ·unfold YB at e;rw[az (by simpa using hi),b7] at e;rw[oA hi] at e;cases e
 ·have q:=congrArg (λl=>l[i-n]?) hd;simp only[hX] at q;rw[show n+(i-n)=i by omega] at q;rw[q];exact e
section
variable {X:Cx} {tg elt iter:bS} {ifs:List bS} {scope:gK} {pos:fZ} {own fr:List bH} {ix:List Nat} {wi:TI} {g:TG} {tt:TT} {te:TE}
theorem Ci{nu:List (aN×df)}{σ:St}{H2:Hp}{s2:aQ}{fp:List aN}{h₁:ba}{tk:Nat}{C:aN}(S:CompScope X.N X.env.scope scope own fr ix)(I2:Inv X nu σ H2 s2)(f2:∀b∈fp,Rw X nu H2 b)(hfp:∀b∈fp,b<s2.heap.objs.size)
  (hC:s2.heap.objs.size<=C) (hns:h₁.Ns C λ_=>aB) (old:∀b o,s2.heap.get? b=aA o->h₁.get? b=aA o) :
  Inv (ZG X (own++fr) scope (Xr X.env.cells scope.names []) C s2 H2 fp) [] (YB own.length ix σ) H2 { s2 with heap:=h₁,toks:=tk }:=by
 have cs:=S.clos I2;have sub:∀x c,(Xr X.env.cells scope.names []).lookup x=aA c->X.env.cells.lookup x=aA c:=λx c e=>Qt scope.names [] cs (λh=>by simp at h) e;have stk:=I2.stkSub
 have okk:(ZG X (own++fr) scope (Xr X.env.cells scope.names []) C s2 H2 fp).Ok:=by
  refine⟨I2.ok.mod,S.kind,I2.ok.glob,I2.ok.blt,hC,λx y c h1 h2=>I2.ok.inj x y c (sub x c h1) (sub y c h2),λx hx=>?_,λx c h _=>?_,I2.ok.hd,I2.ok.frames,.inl rfl,λb hb=>⟨?_,λx c e=>?_⟩,I2.bs,?_,λb o e hb=>?_,λb hb z=>?_,I2.stack,I2.stkFree,I2.ok.tab.un I2.base,λ_ z=>absurd rfl z⟩
  ·-- the cells of the block's free names
   have hx:(relabel scope X.env).names.lookup x=aA .cell\/(relabel scope X.env).names.lookup x=aA .free:=hx
   have key:(x,cB)∈scope.names:=by
    have:∃k',(relabel scope X.env).names.lookup x=aA k'/\(k' = .cell\/k' = .free):=by
     rcases hx with h | h
     ·exact⟨_,h,.inl rfl⟩
     ·exact⟨_,h,.inr rfl⟩
    obtain⟨k',e,hk'⟩:=this;obtain⟨k,e0⟩:=Ux e;have e1:=W0 (env:=X.env) e0;have e:(scope.names.map λ(n,k)=>if(k==cB&&X.env.scope.kind==.function&&X.env.kindOf n==aA .cell) then(n,gC) else(n,k)).lookup x=aA k':=e;rw[e1] at e;have m:=cz e0
    cases k with
    | free=>exact m
    | cell=>exact absurd rfl (S.nocell _ m)
    | _=>simp at e;subst e;rcases hk' with z | z<;>cases z
   exact cT.mp (Qu _ _ key)
  ·cases h
  ·-- fp differs from the frame
   exact bU (bM (hfp b hb) hC)
  ·exact(f2 b hb).2.2.2.2.1 x c (sub x c e)
  ·exact bg I2.ok.bsz I2.sz
  ·rcases(f2 b hb).2.2.2.1 with z | z
   ·exact I2.ok.noex b o e z
   ·exact absurd (bM (aZ (I2.ok.bs b o e).1) z) (dI _)
  ·rcases aa.mp (stk b z) with e | e
   ·exact(f2 b hb).2.1 e
   ·exact(f2 b hb).2.2.1 e
 have sl:fr.length=ix.length:=by simpa using congrArg i7 S.slots
 refine⟨okk,rfl,I2.bare,Un.kept old,⟨_,hns,λi x v h1 h2 h3=>?_⟩,λx c e=>?_,I2.hok.fresh hC,λx c e=>I2.freeC x c (sub x c e),λp hp=>absurd (show p∈([]:List (aN×df)) from hp) (by simp),I2.hok.kept old,?_⟩
 ·-- a name of the def around
  have h1:(own++fr)[i]?=aA x:=h1;have hi:¬i<own.length:=λhi=>by unfold YB at h2;rw[az (by simpa using hi),b7,oA hi] at h2;cases h2
  rw[bK (by omega)] at h1;unfold YB at h2;rw[bK (by simpa using hi),bJ,aW] at h2
  cases ej:ix[i-own.length]? with
  | none=>rw[ej] at h2;cases h2
  | some j=>
   rw[ej] at h2;have h2:(σ[j]?).join=aA v:=by simpa using h2
   have h2:σ[j]?=aA (aA v):=by
    cases q:σ[j]? with
    | none=>rw[q] at h2;cases h2
    | some z=>rw[q] at h2;exact congrArg aA h2
   have hN:X.N[j]?=aA x:=by have q:=congrArg (λl=>l[i-own.length]?) S.slots;simp only[aW,h1,ej,bc] at q;exact(bG q).symm
   have hm:=S.outs x (av h1);have hk:=S.frees _ hm rfl;have hk:X.env.scope.names.lookup x=aA .cell\/X.env.scope.names.lookup x=aA .free:=hk;obtain⟨m,hn,hl⟩:=I2.loc;obtain⟨u,r,l⟩:=hl j x v hN h2 (by rcases hk with k | k;exact .inr (.inl k);exact .inr (.inr k));refine⟨u,r,?_⟩;rcases l with⟨k,_⟩ | ⟨_,c,hc,hcell⟩
   ·have k:X.env.scope.names.lookup x=aA .local:=k;rcases hk with q | q<;>rw[k] at q<;>cases q
   ·obtain⟨c',hc'⟩:=cT.mp (Qu (cells:=X.env.cells) _ [] hm);have ec:=sub x c' hc';rw[hc] at ec;cases ec;refine .inr ⟨?_,c,hc',?_⟩
    ·have h3:(relabel scope X.env).names.lookup x=aA .local\/(relabel scope X.env).names.lookup x=aA .cell\/(relabel scope X.env).names.lookup x=aA .free:=h3;rcases h3 with h3 | h3
     ·obtain⟨k0,e0⟩:=Ux h3;have e1:=W0 (env:=X.env) e0;have h3:(scope.names.map λ(n,k)=>if(k==cB&&X.env.scope.kind==.function&&X.env.kindOf n==aA .cell) then(n,gC) else(n,k)).lookup x=aA .local:=h3;rw[e1] at h3
      have k0l:k0 = .local:=by
       cases k0<;>simp at h3 ⊢
       split at h3<;>cases h3
      subst k0l;exact absurd e0 (S.apart x (av h1))
     ·exact h3
    ·obtain⟨o,ho,hd⟩:=hcell;exact⟨o,old _ _ ho,hd⟩
 ·obtain⟨v,o,ho,hd⟩:=I2.cell x c (sub x c e);exact⟨v,o,old _ _ ho,hd⟩
 ·show(YB own.length ix σ).length=(own++fr).length;unfold YB;rw[ag,bJ,aK,ag,sl]
theorem OC{nu:List (aN×df)}{σ:St}{H2:Hp}{s2:aQ}{fp:List aN}{it:aN}{tn:Nat->ba->Prop}{J:It}{Fin:List V->Hp->Prop}{RR:aL->aN->Result->aQ->Prop}{E:aL->aQ->Prop}
  (hcalm:X.calm=aD) (S:CompScope X.N X.env.scope scope own fr ix)
  (hg:∀cl C s H ex,PG (ZG X (own++fr) scope cl C s H ex) tg g) (ht:∀cl C s H ex,Cg (ZG X (own++fr) scope cl C s H ex) ifs tt) (he:∀cl C s H ex,PE (ZG X (own++fr) scope cl C s H ex) elt te)
  (I2:Inv X nu σ H2 s2) (T:Ja X.prog X.w X.K tg J fp it tn) (st2:tn 0 s2.heap) (f2:∀b∈fp,Rw X nu H2 b)
  {W:Nat->Nat->List V->Hp->Prop} {m0:Nat} (w0:W 0 m0 [] H2)
  (turn:∀i m ys H,W i m ys H->ys.length<=sizeLine/\
   ((J.stop i H/\Fin ys H)\/
    (J.go i H/\∃N:List V->Hp->Prop,(∀ys' H',N ys' H'->∃m',m'<m/\W (i+1) m' ys' H')/\
     ∀x H',J.yld i H x H'->g x (YB own.length ix σ) H' λσ2 H2=>σ2.drop own.length=(YB own.length ix σ).drop own.length/\tt σ2 H2 λb H3=>if b=aD then te σ2 H3 λy H4=>N (ys++[y]) H4 else N ys H3)))
  (hRR:∀(D C:aN)(oC:df)(m:bH->Option aL)(s':aQ)(H':Hp)(ys:List V),Inv X (nu++[(C,oC)]) σ (upd H' D (.lst ys)) s'->s'.heap.get? C=aA oC->s'.heap.Ns C m->Rw X nu (upd H' D (.lst ys)) C->H' D=aB->Fin ys H'->RR (.ref D) C (.ok .next) s') :
  bA (model X.prog X.w) X.A (newList []) (λacc s₃=>bA (model X.prog X.w) X.A (newFunctionEnv scope X.env.globals (Xr X.env.cells scope.names []) [] X.env.qual aB .none (aA X.env)) (λcenv s₄=>
   kM (model X.prog X.w) X.A (.compStart (.ListComp elt [⟨tg,iter,ifs,0⟩] scope pos) 0 (.ref it) acc { cenv with scope:=relabel scope X.env }) (RR acc cenv.locals) s₄) E s₃) E s2:=by
 have hfp:∀b∈fp,b<s2.heap.objs.size:=λb hb=>by obtain⟨o,e,_⟩:=T.obj 0 s2.heap st2 b hb;exact aZ e
 refine c9 (kg S.nocell (by intro y hy;simp at hy) (λh₁ hns₁ hsb₁=>?_) S.kind)
 dsimp only at hns₁ hsb₁ ⊢
 generalize hH2:s2.heap.push { cls:=.type "list",dict:=aB,data:=.seq ([]:List aL).toArray }=G2 at hns₁ hsb₁ ⊢;have hC:G2.objs.size=s2.heap.objs.size+1:=by rw[<-hH2,dJ]
 generalize hCC:G2.objs.size=C at hns₁ hsb₁ hC ⊢;generalize hDD:s2.heap.objs.size=D at hC ⊢;have hDC:D≠C:=by omega
 have below:∀b,b<s2.heap.objs.size->b≠C/\b≠D:=λb hb=>by rw[hDD] at hb;exact⟨bU (by omega),bU hb⟩
 have old:∀b o,s2.heap.get? b=aA o->h₁.get? b=aA o:=λb o e=>hsb₁.extBut b o (below b (aZ e)).1 (aM _ (hH2▸aM _ e))
 have hacc:h₁.get? D=aA { cls:=.type "list",data:=.seq ([]:List aL).toArray 0 }:=by
  have e0:G2.get? D=aA { cls:=.type "list",data:=.seq ([]:List aL).toArray 0 }:=by rw[<-hH2,<-hDD];exact aj _ rfl
  exact hsb₁.extBut _ _ hDC (aM _ e0)
 have hns₁':h₁.Ns C λ_=>aB:=by simpa using hns₁
 have I0:=λtk=>Ci (tk:=tk) S I2 f2 hfp (C:=C) (by omega) hns₁' old
 -- what stays aD of the iterator's objects in the block
 have loop:∀s₃:aQ,s₃={ s2 with heap:=h₁,toks:=s2.toks+([]:List (bH×aL)).length }->
   kM (model X.prog X.w) X.A (.compLoop (.ListComp elt [⟨tg,iter,ifs,0⟩] scope pos) 0 (.ref it) (.ref D) (nJ scope (Xr X.env.cells scope.names []) C X.env)) (RR (.ref D) C) s₃:=by
  rintro s₃ rfl;generalize hY:ZG X (own++fr) scope (Xr X.env.cells scope.names []) C s2 H2 fp=Y at I0
  have stat:∀{H':Hp}{pn:List (aN×df)},(∀b∈fp,H' b=aB)->(∀p∈pn,∀b∈fp,p.1≠b)->∀b∈fp,Rw Y pn H' b:=λ{H' pn} hn hp b hb=>by
   subst hY;refine⟨hn b hb,(below b (hfp b hb)).1,λz=>?_,.inl hb,λx c e=>?_,λp hp'=>hp p hp' b hb⟩
   ·exact(I0 0).ok.exfs b hb z
   ·exact((I0 0).ok.exf b hb).2 x c e
  have dfp:∀b∈fp,D≠b:=λb hb=>bX (below b (hfp b hb)).2;have hcellD:∀x c,Y.env.cells.lookup x=aA c->c≠D:=λx c e z=>by subst hY;have e:(Xr X.env.cells scope.names []).lookup x=aA c:=e;have e':=Qt scope.names [] (S.clos I2) (λh=>by simp at h) e;obtain⟨v,q⟩:=I2.cell x c e';exact(below c q.lt).2 z
  have hfsD:D∉Y.fs:=λz=>by subst hY;obtain⟨_,o,ho,_⟩:=(I0 0).ok.funs.mem z;have:=aZ ho;have:D<s2.heap.objs.size:=this;omega
  have eL:Y.env.locals=C:=by subst hY;rfl
  have eS:Y.s₀=s2:=by subst hY;rfl
  have eP:Y.pn=[]:=by subst hY;rfl
  refine LK (λn s'=>∃i ys o9 nn H',Inv Y [] (YB own.length ix σ) H' s'/\tn i s'.heap/\(∀b∈fp,H' b=aB)/\s'.heap.get? D=aA { cls:=.type "list",data:=.seq o9 nn }/\Vals ys o9.toList/\H' D=aB/\W i n ys H') ?_ m0
   ⟨0,[],#[],0,H2,I0 _,T.keep _ _ _ st2 λb _ o e=>old b o e,λb hb=>(f2 b hb).1,hacc,.nil,I2.hok.fresh (by omega),w0⟩
  rintro n s3 ⟨i,ys,o9,nn,H3,I3,st3,fr3,oD,vD,nD,w3⟩;obtain⟨hlen,cases3⟩:=turn i n ys H3 w3;have hsize:o9.size<=sizeLine:=by have:=vD.length;simp only[cA] at this;omega
  have pD:Inv Y [(D,{ cls:=.type "list",data:=.seq o9 nn })] (YB own.length ix σ) H3 s3:=I3.pins_of λp hp=>by rw[aR.mp hp];exact⟨oD,nD,by rw[eL];exact hDC,hfsD,λv z=>by cases z⟩
  have YP:Y.prog=X.prog:=by subst hY;rfl
  have Yw:Y.w=X.w:=by subst hY;rfl
  have YK:Y.K=X.K:=by subst hY;rfl
  have YA:Y.A=X.A:=by subst hY;rfl
  have Yx:Y.xe=λ_ _=>False:=by subst hY;rfl
  have Ye:Y.env=nJ scope (Xr X.env.cells scope.names []) C X.env:=by subst hY;rfl
  have ne1:∀p∈[((D,{ cls:=.type "list",data:=.seq o9 nn }):aN×df)],∀b∈fp,p.1≠b:=λp hp b hb=>by rw[aR.mp hp];exact dfp b hb
  rcases cases3 with⟨stop,qn⟩ | ⟨go,N,hN,step⟩
  ·have d:=T.done Y YP Yw YK (by subst hY;exact hcalm) i _ s3 _ H3 (lM (model X.prog X.w) X.A (nJ scope (Xr X.env.cells scope.names []) C X.env) λe s'=>RR (.ref D) C (.error e) s') pD (stat fr3 ne1) st3 stop;rw[YA] at d;refine YN d λr s4 ⟨hr,I4⟩=>?_;subst hr;show RR (.ref D) C (.ok .next) s4;obtain⟨oD4,nD4,_⟩:=I4.pin (D,_) (by rw[eP];exact af);obtain⟨m,hn,_⟩:=I4.loc;rw[eL] at hn;obtain⟨oC,es,ep,hoC,hdC,hrest⟩:=id hn;have hfreeC:H3 C=aB:=by have:=I4.free;rw[eL] at this;exact this
   have un:Un (Lz X.stack) fp H2 H3 s2.heap s4.heap:=by have:=I4.base;subst hY;exact this
   have lt2:∀b o,s2.heap.get? b=aA o->b≠D:=λb o e=>(below b (aZ e)).2
   have un':Un (Lz X.stack) fp H2 (upd H3 D (.lst ys)) s2.heap s4.heap:=by
    refine⟨un.keep,un.slot,λb o e n hx=>?_,un.there,λb xs e=>?_,λb o u e=>?_,λb ps e=>?_⟩
    ·rw[upd_ne (lt2 b o e)];exact un.free b o e n hx
    ·have q:=un.tups b xs e;rw[upd_ne (Zm q nD4)];exact q
    ·have q:=un.frzs b o u e;rw[upd_ne (Zm q nD4)];exact q
    ·obtain⟨more,q⟩:=un.tbls b ps e;exact⟨more,by rw[upd_ne (Zm q nD4)];exact q⟩
   have hok4:HOk X.prog X.w H3 s4.heap:=by have:=I4.hok;rw[YP,Yw] at this;exact this
   have hok':HOk X.prog X.w (upd H3 D (.lst ys)) s4.heap:=λb u q=>by
    by_cases hb:b=D
    ·subst hb;rw[upd_same] at q;cases q;exact⟨hlen,o9.toList,nn,vD,by simpa using oD4⟩
    ·rw[upd_ne hb] at q;exact(hok4 b u q).stay (λc v _ z=>z) (λc z=>by rw[upd_ne (Zm z nD4)];exact z) (λc xs z=>by rw[upd_ne (Zm z nD4)];exact z) λc u z=>by rw[upd_ne (Zm z nD4)];exact z
   have os4:s4.os=s2.os:=by rw[I4.os,eS]
   have I5:Inv X nu σ (upd H3 D (.lst ys)) s4:=I2.call' os4 un' hok' I4.bare λb hb=>⟨(f2 b hb).2.2.2.1,(f2 b hb).2.1,(f2 b hb).2.2.2.2.1,(f2 b hb).2.2.2.2.2⟩;have CL:C≠X.env.locals:=λz=>by exact(below _ I2.lt).1 z.symm
   have fpC:Rw X nu (upd H3 D (.lst ys)) C:=I2.fpOk (by omega) (by rw[upd_ne (bX hDC)];exact hfreeC);refine hRR D C oC m s4 H3 ys (I5.pins_of λp hp=>?_) hoC hn fpC nD4 qn;rcases aq.mp hp with z | z
   ·exact I5.pin p (ay _ z)
   ·rw[aR.mp z];exact⟨hoC,fpC.1,fpC.2.1,fpC.2.2.1,λv z=>by rw[hdC] at z;cases z⟩
  ·have d:=T.item Y YP Yw YK (by subst hY;exact hcalm) i _ s3 _ H3 (λ_ _=>False) pD (stat fr3 ne1) st3 go;rw[YA] at d;refine cQ d (λr s4 ⟨u,hr,h4⟩=>?_) λ_ _ z=>z.elim;subst hr;refine cQ h4 (λ_ s5 ⟨x,H5,I5,r5,y5,st5,fr5⟩=>?_) λ_ _ z=>z.elim;have I5':=I5.pinned (stat fr5 ne1) (T.obj _ _ st5);have hg':=hg (Xr X.env.cells scope.names []) C s2 H2 fp;have ht':=ht (Xr X.env.cells scope.names []) C s2 H2 fp;have he':=he (Xr X.env.cells scope.names []) C s2 H2 fp;rw[hY] at hg' ht' he';have a6:=hg' _ s5 _ H5 x u _ I5' r5 (step x H5 y5);rw[YP,Yw,YA,Ye,Yx] at a6;refine cQ a6 (λ_ s6 ⟨σ6,H6,I6,dr,q6⟩=>?_) λ_ _ z=>z.elim;have a7:=ht' _ s6 σ6 H6 _ I6 q6;rw[YP,Yw,YA,Ye,Yx] at a7;refine cQ a7 (λok s7 ⟨H7,I7,q7⟩=>?_) λ_ _ z=>z.elim
   have back:∀{H8:Hp}{s8:aQ},Inv Y ([((D,{ cls:=.type "list",data:=.seq o9 nn }):aN×df)]++Qm fp s5.heap) σ6 H8 s8->
     s8.heap.get? D=aA { cls:=.type "list",data:=.seq o9 nn }/\H8 D=aB/\tn (i+1) s8.heap/\(∀b∈fp,H8 b=aB):=λ{H8 s8} I8=>by
    obtain⟨e1,e2,_⟩:=I8.pin (D,{ cls:=.type "list",data:=.seq o9 nn }) (by rw[eP];exact af);refine⟨e1,e2,T.keep _ _ _ st5 λb hb o e=>(I8.pin (b,o) (by rw[eP];exact aP _ (Uw hb e))).1,λb hb=>?_⟩;obtain⟨o,e,_⟩:=T.obj _ _ st5 b hb;exact(I8.pin (b,o) (by rw[eP];exact aP _ (Uw hb e))).2.1
   have unp:∀{H8:Hp}{s8:aQ},Inv Y ([((D,{ cls:=.type "list",data:=.seq o9 nn }):aN×df)]++Qm fp s5.heap) σ6 H8 s8->Inv Y [] (YB own.length ix σ) H8 s8:=λ{H8 s8} I8=>
    (I8.pins_of (pins':=[]) λp hp=>absurd hp (by simp)).weak (by
     have e1:=(I0 0).len;have e2:=I8.len;rw[e1,e2]) (EC dr)
   cases ok with
   | false=>
    rw[oB aw] at q7;show ∃m,m<n/\_;obtain⟨e1,e2,e3,e4⟩:=back I7;obtain⟨m',hm,w7⟩:=hN _ _ q7;exact⟨m',hm,i+1,ys,o9,nn,H7,unp I7,e3,e4,e1,vD,e2,w7⟩
   | true=>
    rw[oA rfl] at q7;show bA _ _ _ _ _ _;have a8:=he' _ s7 σ6 H7 _ I7 q7;rw[YP,Yw,YA,Ye,Yx] at a8;refine cQ a8 (λyv s8 ⟨y,H8,I8,ry,q8⟩=>?_) λ_ _ z=>z.elim;obtain⟨e1,e2,e3,e4⟩:=back I8;obtain⟨m',hm,w8⟩:=hN _ _ q8;refine append_at e1 (λh9 hs9 hD9=>?_) hsize;have I9:Inv Y [] (YB own.length ix σ) H8 { s8 with heap:=h9 }:=(unp I8).turned (t':=s8.toks) (it:=D) (λb o hb e=>hs9.extBut b o hb e) e2 (by rw[eL];exact hDC) (.inr (by rw[eS];omega)) hcellD (λp hp=>absurd (show p∈([]:List (aN×df)) by rw[eP] at hp;exact hp) (by simp));refine⟨m',hm,i+1,ys++[y],o9.push yv,nn+1,H8,I9,T.keep _ _ _ e3 λb hb o e=>hs9.extBut b o (bX (dfp b hb)) e,e4,hD9,?_,e2,w8⟩;rw[Array.toList_push];exact vD.append (.cons ry .nil)
 exact codeAny_compStart_list (loop _ rfl) (T.self X.A 0 _ _ _ (T.keep _ _ _ st2 λb _ o e=>old b o e) (loop _ rfl))
theorem A4(hcalm:X.calm=aD)(hi:PI X tg iter wi)(S:CompScope X.N X.env.scope scope own fr ix)
  (hg:∀cl C s H ex,PG (ZG X (own++fr) scope cl C s H ex) tg g) (ht:∀cl C s H ex,Cg (ZG X (own++fr) scope cl C s H ex) ifs tt) (he:∀cl C s H ex,PE (ZG X (own++fr) scope cl C s H ex) elt te)
  (hs:∀x,cE iter X.env x=pure x:=by intro _;rfl):PE X (.ListComp elt [⟨tg,iter,ifs,0⟩] scope pos) (MP own.length ix wi g tt te):=by
 intro nu s σ H Q I h;rw[eval_ListComp];refine jj (use:=aB) (cl:=Xr X.env.cells scope.names []) rfl hs (Su (S.clos I)) S.kind S.names (YN (hi nu s σ H _ I h) λv s1 h1=>YN h1 λitv s2 h2=>?_);obtain⟨it,fp,tn,J,H2,e,I2,T,st2,f2,W,⟨m0,w0⟩,turn⟩:=h2;subst e;refine OC (Fin:=λys H=>∀p,H p=aB->Q (.ref p) (upd H p (.lst ys))) (RR:=λacc C=>compPost (model X.prog X.w) X.A X.xe aB (EP X nu σ Q) acc C) hcalm S hg ht he I2 T st2 f2 w0 turn ?_;intro D C oC m s' H' ys I5 hoC hn fpC nD fin;refine⟨m,hn,λh' hs'=>⟨.ref D,upd H' D (.lst ys),?_,rfl,fin D nD⟩⟩;exact(I5.unpinned (pl:=[(C,oC)])).turned (t':=s'.toks) (it:=C) (λb o hb e=>hs'.extBut b o hb e) fpC.1 fpC.2.1 fpC.2.2.2.1 fpC.2.2.2.2.1 fpC.2.2.2.2.2
theorem A5{i:Nat}{y:bH}{py spos:fZ}(hN:X.N.Nodup)(hy:X.N[i]?=aA y)(hloc:X.env.scope.names.lookup y=aA .local)(hcalm:X.calm=aD)(hi:PI X tg iter wi)(S:CompScope X.N X.env.scope scope own fr ix)
  (hg:∀cl C s H ex,PG (ZG X (own++fr) scope cl C s H ex) tg g) (ht:∀cl C s H ex,Cg (ZG X (own++fr) scope cl C s H ex) ifs tt) (he:∀cl C s H ex,PE (ZG X (own++fr) scope cl C s H ex) elt te)
  (hsw:iC (.ListComp elt [⟨tg,iter,ifs,0⟩] scope pos) (aA (.Name y py)) spos.line X.env=pure aD:=by rfl)
  (hs:∀x,cE iter X.env x=pure x:=by intro _;rfl):PS X (.Assign [.Name y py] (.ListComp elt [⟨tg,iter,ifs,0⟩] scope pos) spos) (K9 (MP own.length ix wi g tt te) (Rv i)):=by
 intro nu s σ H D0 I h;rw[exec_Assign_Name_used _ _ _ _ hsw];refine aH (jh (aH ?_));show bA _ X.A (do let _ <-comprehension (.ListComp elt [⟨tg,iter,ifs,0⟩] scope pos) scope X.env _ (newList []) aC (eval iter X.env) (aA (assign (.Name y py) X.env))) _ _ s
 refine aH (cQ (jj (cl:=Xr X.env.cells scope.names []) (use:=aA (assign (.Name y py) X.env)) (Q:=λ_ s'=>SP X nu D0 .next s') (E:=X.xe) rfl hs (Su (S.clos I)) S.kind S.names
  (YN (hi nu s σ H _ I h) λv s1 h1=>YN h1 λitv s2 h2=>?_)) (λ_ s' hq=>aX (aX hq)) λ_ _ e=>e)
 obtain⟨it,fp,tn,J,H2,e,I2,T,st2,f2,W,⟨m0,w0⟩,turn⟩:=h2;subst e;refine OC (Fin:=λys H=>∀p,H p=aB->Rv i (.ref p) σ (upd H p (.lst ys)) D0.nx) (RR:=λacc C=>compPost (model X.prog X.w) X.A X.xe (aA (assign (.Name y py) X.env)) (λ_ s'=>SP X nu D0 .next s') acc C) hcalm S hg ht he I2 T st2 f2 w0 turn ?_;intro D C oC m s' H' ys I5 hoC hn fpC nD fin;show bA _ X.A (assign (.Name y py) X.env (.ref D)) _ _ _;refine wpAny_assign_Name (Ov I5 hN hy (.inl hloc) (v:=.ref D) rfl (λs6 I6=>?_) (.inr hloc));obtain⟨e6,_⟩:=I6.pin (C,oC) (ay _ (ay _ af));obtain⟨o',es,ep,ho',r'⟩:=hn;rw[hoC] at ho';cases ho';refine⟨m,⟨oC,es,ep,e6,r'⟩,λh' hs'=>⟨_,upd H' D (.lst ys),?_,fin D nD⟩⟩;exact(I6.unpinned (pl:=[(C,oC)])).turned (t':=s6.toks) (it:=C) (λb o hb e=>hs'.extBut b o hb e) fpC.1 fpC.2.1 fpC.2.2.2.1 fpC.2.2.2.2.1 fpC.2.2.2.2.2
end
open AutoSeq1 (wpAny_loadPart')
section
variable {prog:bQ} {w:bu} {A:bw} {E:aL->aQ->Prop} {s:aQ}
theorem RF{it l:aN}{i:Nat}{items}{x:aL}{Q:aL->aQ->Prop}(hit:s.heap.IsTupleIter it l i)
  (hl:s.heap.IsTuple l items) (hx:items[i]?=aA x)
  (hQ:∀h',h'.IsTupleIter it l (i+1)->cS it s.heap h'->Q x { s with heap:=h' }) :
  bA (model prog w) A (cC (.ref it)) Q E s:=by
 obtain⟨o,ho,hc,hd⟩:=id hit;obtain⟨ol,hol,_,nl,hdl⟩:=hl;unfold cC
 refine aH (cf (name:=gW "__next__") hit.typeIs F.slot_tuple_iterator_next
  (cU F.slot_tuple_iterator_next hit.typeIs F.entry_tuple_iterator_next ?_ (F.args_tuple_iterator_next_1 _)))
 show bA _ _ (field (.ref it) 0 >>= _) _ _ s;refine aH (dF ho hd (x:=.ref l) rfl ?_);show bA _ _ (if(bP l==cP)=aD then _ else _) _ _ s;rw[oB (show ¬((bP l==cP)=aD) from aw)];show bA _ _ (field (.ref it) 1 >>= _) _ _ s;refine aH (dF ho hd (x:=.int i 0) rfl ?_);show bA _ _ (mW (.ref l) >>= _) _ _ s;refine aH (ee hol hdl ?_);simp only[cF,hx];refine aH (jT ho hd (by simp) (aX ⟨x,rfl,aX (hQ _ ?_ (g8 ..))⟩));exact⟨_,iQ _ ho (k9 (iA hd _)),(mI ..).trans hc,by rw[iA hd];simp[gD]⟩
theorem Qv{it l:aN}{i:Nat}{items}{Q:aL->aQ->Prop}(hh:A.handled=aB)
  (hit:s.heap.IsTupleIter it l i) (hl:s.heap.IsTuple l items) (hx:items[i]?=aB)
  (hE:∀h' e,kh it s.heap h'->(∃o,h'.get? e=aA o/\o.cls = .type "StopIteration")->E (.ref e) { s with heap:=h' }) :
  bA (model prog w) A (cC (.ref it)) Q E s:=by
 obtain⟨o,ho,hc,hd⟩:=id hit;obtain⟨ol,hol,_,nl,hdl⟩:=hl;unfold cC
 refine aH (cf (name:=gW "__next__") hit.typeIs F.slot_tuple_iterator_next
  (cU F.slot_tuple_iterator_next hit.typeIs F.entry_tuple_iterator_next ?_ (F.args_tuple_iterator_next_1 _)))
 show bA _ _ (field (.ref it) 0 >>= _) _ _ s;refine aH (dF ho hd (x:=.ref l) rfl ?_);show bA _ _ (if(bP l==cP)=aD then _ else _) _ _ s;rw[oB (show ¬((bP l==cP)=aD) from aw)];show bA _ _ (field (.ref it) 1 >>= _) _ _ s;refine aH (dF ho hd (x:=.int i 0) rfl ?_);show bA _ _ (mW (.ref l) >>= _) _ _ s;refine aH (ee hol hdl ?_);simp only[cF,hx];refine aH (nK (aH (jT ho hd (by simp) ?_)));show bA _ _ (newExc (.type "StopIteration") [] >>= _) _ _ _;refine aH ?_;simp only[newExc,newTuple];refine aH (c9 ?_ (by size_fits));refine aH (m:=jU _ _) (wpAny_of_eq (a:=cP) (by first | rfl | (simp only[jU];rfl)) ?_);refine c9 ?_ (by size_fits);simp only[raiseNew];refine aH (wpAny_handled ?_)
 first | rw[show A.in1.handled=aB from hh] | rw[hh]
 refine aH (aX (wpAny_throw ?_));exact hE _ _ (((g8 ..).extBut.push _).push _) ⟨_,aj _ rfl,rfl⟩
end
def SeqB(b:Bool)(h:ba)(a:aN)(o9:Array aL):Prop:=if b=aD then h.IsList a o9 else h.IsTuple a o9
def IterB(b:Bool)(h:ba)(it a:aN)(i:Nat):Prop:=if b=aD then h.IsListIter it a i else h.IsTupleIter it a i
def Mg(b:Bool)(K:aJ)(H:Hp)(a:aN)(xs:List V):Prop:=if b=aD then SqL K H a xs else SqT K H a xs
noncomputable def U8(b:Bool)(a:aN):df:={ cls:=.type (if b=aD then "list_iterator" else "tuple_iterator"),data:=.fields #[.ref a,.int 0 0] }
theorem SeqB.at{b:Bool}{h h':ba}{a:aN}{o9:Array aL}(x:SeqB b h a o9)(k:∀o,h.get? a=aA o->h'.get? a=aA o):SeqB b h' a o9:=by
 cases b with
 | true=>obtain⟨o,e,r⟩:=(show h.IsList a o9 from x);exact⟨o,k o e,r⟩
 | false=>obtain⟨o,e,r⟩:=(show h.IsTuple a o9 from x);exact⟨o,k o e,r⟩
theorem SeqB.has{b:Bool}{h:ba}{a:aN}{o9:Array aL}(x:SeqB b h a o9):∃o,h.get? a=aA o:=by
 cases b with
 | true=>obtain⟨o,e,r⟩:=(show h.IsList a o9 from x);exact⟨o,e⟩
 | false=>obtain⟨o,e,r⟩:=(show h.IsTuple a o9 from x);exact⟨o,e⟩
theorem IterB.at{b:Bool}{h h':ba}{it a:aN}{i:Nat}(x:IterB b h it a i)(k:∀o,h.get? it=aA o->h'.get? it=aA o):IterB b h' it a i:=by
 cases b with
 | true=>obtain⟨o,e,r⟩:=(show h.IsListIter it a i from x);exact⟨o,k o e,r⟩
 | false=>obtain⟨o,e,r⟩:=(show h.IsTupleIter it a i from x);exact⟨o,k o e,r⟩
theorem IterB.has{b:Bool}{h:ba}{it a:aN}{i:Nat}(x:IterB b h it a i):∃o,h.get? it=aA o/\∀v,o.data≠.cell v:=by
 cases b with
 | true=>obtain⟨o,e,_,d⟩:=(show h.IsListIter it a i from x);exact⟨o,e,λv z=>by rw[d] at z;cases z⟩
 | false=>obtain⟨o,e,_,d⟩:=(show h.IsTupleIter it a i from x);exact⟨o,e,λv z=>by rw[d] at z;cases z⟩
theorem IterB.new{b:Bool}{h:ba}{it a:aN}(e:h.get? it=aA (U8 b a)):IterB b h it a 0:=by
 cases b with
 | true=>exact⟨_,e,rfl,rfl⟩
 | false=>exact⟨_,e,rfl,rfl⟩
section
variable {X:Cx} {nu:List (aN×df)} {σ:St} {H:Hp} {s:aQ} {a:aN} {xs ys:List V} {b:Bool}
theorem Inv.seqB(I:Inv X nu σ H s)(h:Mg b X.K H a xs):∃o9:List aL,Vals xs o9/\SeqB b s.heap a o9.toArray/\xs.length<=sizeLine:=by
 cases b with
 | true=>
  obtain⟨o9,r,p,z⟩:=I.list (show SqL X.K H a xs from h);exact⟨o9,r,p.isList,z⟩
 | false=>
  obtain⟨o9,r,p,z⟩:=I.tuple (show SqT X.K H a xs from h);exact⟨o9,r,p,z⟩
theorem Inv.seqB_inj(I:Inv X nu σ H s)(h:Mg b X.K H a xs)(h':Mg b X.K H a ys):xs=ys:=by
 cases b with
 | true=>exact I.list_inj (show SqL X.K H a xs from h) (show SqL X.K H a ys from h')
 | false=>exact I.tuple_inj (show SqT X.K H a xs from h) (show SqT X.K H a ys from h')
end
theorem Draws.seq{prog:bQ}{w:bu}{A:bw}(b:Bool)(hh:A.handled=aB)(it l:aN)(hne:l≠it)(items:Array aL) :
  Draws prog w A it [it,l] items.size (λi v=>items[i]?=aA v) (λi h=>IterB b h it l i/\SeqB b h l items) where
 live:=λ_ _ st=>let⟨o,ho,_⟩:=st.1.has;⟨o,ho⟩
 frame:=λ_ _ _ st hk=>⟨st.1.at λo e=>hk it (by simp) o e,st.2.at λo e=>hk l (by simp) o e⟩
 item:=λi s Q E hi st hQ=>by
  cases b with
  | true=>
   refine wpAny_nextOf_list_item (show s.heap.IsListIter it l i from st.1) (show s.heap.IsList l items from st.2) (x:=items[i]) (by simp[hi]) λh' hit' hs'=>?_;exact hQ _ h' s.toks (by simp[hi]) ⟨hit',st.2.at λo e=>hs'.extBut l o hne e⟩ hs'
  | false=>
   refine RF (show s.heap.IsTupleIter it l i from st.1) (show s.heap.IsTuple l items from st.2) (x:=items[i]) (by simp[hi]) λh' hit' hs'=>?_;exact hQ _ h' s.toks (by simp[hi]) ⟨hit',st.2.at λo e=>hs'.extBut l o hne e⟩ hs'
 done:=λs Q E st hE=>by
  cases b with
  | true=>exact wpAny_nextOf_list_end hh (show s.heap.IsListIter it l _ from st.1) (show s.heap.IsList l items from st.2) (by simp) hE
  | false=>exact Qv hh (show s.heap.IsTupleIter it l _ from st.1) (show s.heap.IsTuple l items from st.2) (by simp) hE
theorem YW{prog:bQ}{w:bu}{A:bw}{E:aL->aQ->Prop}{s:aQ}{b:Bool}{a:aN}{o9:Array aL}{Q:aL->aQ->Prop}(h:SeqB b s.heap a o9)
  (hQ:Q (.ref s.heap.objs.size) { s with heap:=s.heap.push (U8 b a) }):bA (model prog w) A (mz (.ref a)) Q E s:=by
 cases b with
 | true=>exact wpAny_pyIter_list (show s.heap.IsList a o9 from h) hQ
 | false=>exact l8 (show s.heap.IsTuple a o9 from h) hQ
set_option maxHeartbeats 4000000 in
theorem OD(b:Bool)(l:aN)(items:Array aL) :
  Meets (iX.«enumerate.__new__» ⟨[.type "enumerate",.ref l],[]⟩) (λ_ R s=>SeqB b s.heap l items/\
   R (.ok (.ret (.ref (s.heap.push (U8 b l)).objs.size)))
    { s with heap:=(s.heap.push (U8 b l)).push { cls:=.type "enumerate",data:=.fields #[.none,.bool aC,.ref s.heap.objs.size,gD 0,.none,.none] } }):=
 .of_wp λprog w A R s h=>by
  obtain⟨hp,g,d,tk,os⟩:=s;obtain⟨hl,h⟩:=h;have hsub:=sub_enumerate;obtain⟨o,ho⟩:=hl.has;have hL:SeqB b (m8 ⟨hp,g,d,tk,os⟩) l items:=hl
  wp_walk using ip ho
  refine wpAny_stack_any λst=>aX ?_;split
  ·rename_i c _ _ _ _ _;cases (c==kH "enumerate")
   ·wp_walk using ip ho,YW hL
    exact⟨_,rfl,h⟩
   ·wp_walk using ip ho,YW hL
    exact⟨_,rfl,h⟩
  ·wp_walk using ip ho,YW hL
   exact⟨_,rfl,h⟩
section
variable {prog:bQ} {w:bu} {A:bw} {E:aL->aQ->Prop} {s:aQ}
theorem Ml{b:Bool}{l:aN}{items:Array aL}{Q:aL->aQ->Prop}(hL:SeqB b s.heap l items)
  (h:∀h',IsEnum h' (s.heap.objs.size+1) s.heap.objs.size 0 .none->IterB b h' s.heap.objs.size l 0->h'.objs.size=s.heap.objs.size+2->
   (∀b o,s.heap.get? b=aA o->h'.get? b=aA o)->Q (.ref (s.heap.objs.size+1)) { s with heap:=h' }) :
  bA (model prog w) A (call (.type "enumerate") [.ref l]) Q E s:=by
 refine callType_new F.called_enumerate (by decide) (F.typeCall_enumerate_1 _) (F.newCall_enumerate_1 _) (λobj=>F.args_object_init_2 obj _) F.entry_enumerate_new
  (OD b l items) ⟨hL,?_⟩
 have hz:(s.heap.push (U8 b l)).objs.size=s.heap.objs.size+1:=dJ ..;show _/\_;rw[hz]
 have he:IsEnum ((s.heap.push (U8 b l)).push
   { cls:=.type "enumerate",data:=.fields #[.none,.bool aC,.ref s.heap.objs.size,gD 0,.none,.none] }) (s.heap.objs.size+1) s.heap.objs.size 0 .none:=by
  have:=aj (s.heap.push (U8 b l))
   (o:={ cls:=.type "enumerate",data:=.fields #[.none,.bool aC,.ref s.heap.objs.size,gD 0,.none,.none] }) rfl
  rw[hz] at this;exact this
 refine⟨⟨_,he,rfl⟩,h _ he (IterB.new (aM _ (aj _ rfl))) (by rw[dJ,hz]) λb o x=>aM _ (aM _ x)⟩
end
def Ite(b:Bool)(K:aJ)(a:aN):It:=
  ⟨λi H=>∃xs x,Mg b K H a xs/\xs[i]?=aA x,
   λi H v H'=>∃p x,H p=aB/\v = .ref p/\H'=upd H p (.tup [.int i,x])/\∀xs,Mg b K H a xs->xs[i]?=aA x,
   λi H=>∃xs,Mg b K H a xs/\xs.length=i⟩
theorem ED{P:bQ}{w:bu}{K:aJ}{elts:List bS}{k:Nat}{pos:fZ}(b:Bool)(a e it:aN)(hei:e≠it) :
  Ja P w K (.Tuple elts k pos) (Ite b K a) [e,it] e (λi h=>(∃old,IsEnum h e it i old)/\IterB b h it a i) where
 mem:=by simp
 obj:=λi h st c hc=>by
  rcases aa.mp hc with rfl | hc
  ·obtain⟨⟨old,q⟩,_⟩:=st;exact⟨_,q,λv z=>by cases z⟩
  ·rw[aR.mp hc];exact st.2.has
 keep:=λi h h' st kk=>⟨let⟨old,q⟩:=st.1;⟨old,kk e (by simp) _ q⟩,st.2.at λo q=>kk it (by simp) o q⟩
 item:=by
  intro X hP hw hK hc i nu s σ H E I hf st hg;subst hP hw hK;obtain⟨xs,x,hq,hx⟩:=hg;obtain⟨o9,rv,p,hz⟩:=I.seqB hq;obtain⟨u,hu,ru⟩:=rv.get hx;obtain⟨⟨old,he⟩,hit⟩:=st;have fe:=hf e (by simp);have fi:=hf it (by simp);obtain⟨oa,hoa⟩:=p.has;have tra:H a=aB->a<X.s₀.heap.objs.size\/True:=λ_=>.inr trivial
  -- the sequence is neither record
  have ne_of_fp:∀c,Rw X nu H c->(∃oc,s.heap.get? c=aA oc/\∃n vs,oc.cls = .type n/\oc.data = .fields vs)->a≠c:=λc _ ⟨oc,hoc,n,vs,hn,hv⟩ z=>by
   subst z;rw[hoa] at hoc;cases hoc
   cases b with
   | true=>obtain⟨o,e1,_,m,d⟩:=(show s.heap.IsList a o9.toArray from p);rw[hoa] at e1;cases e1;rw[hv] at d;cases d
   | false=>obtain⟨o,e1,_,m,d⟩:=(show s.heap.IsTuple a o9.toArray from p);rw[hoa] at e1;cases e1;rw[hv] at d;cases d
  have ae:a≠e:=ne_of_fp e fe ⟨_,he,_,_,rfl,rfl⟩
  have ai:a≠it:=ne_of_fp it fi (by
   cases b with
   | true=>obtain⟨o,e1,c1,d1⟩:=(show s.heap.IsListIter it a i from hit);exact⟨o,e1,_,_,c1,d1⟩
   | false=>obtain⟨o,e1,c1,d1⟩:=(show s.heap.IsTupleIter it a i from hit);exact⟨o,e1,_,_,c1,d1⟩)
  have D:=Draws.seq (prog:=X.prog) (w:=X.w) (A:=X.A.in1) b (I.ok.hd hc) it a ai o9.toArray;have hlt:i<o9.toArray.size:=by have:=(aS.mp hu).1;simpa using this
  refine wpAny_pyNext_enum_itemD D he ⟨hit,p⟩ hlt hei (by simp[hei,bX ae]) λy h' tk hPy ho hs' hT hsz hk=>?_
  have ey:y=u:=by
   have q1:o9.toArray[i]?=aA y:=hPy;have q2:o9.toArray[i]?=aA u:=by simpa using hu
   rw[q1] at q2;exact bG q2
  subst ey;refine⟨_,rfl,wpAny_letOwnedTupleGo_enum ho λh2 he2 hs2=>?_⟩;have hs2:cS e h' h2:=hs2;have Tne:s.heap.objs.size≠e:=gV (aZ he);have hTn:H s.heap.objs.size=aB:=I.hok.fresh (aT _);have kk:∀c o,c∉[e,it]->s.heap.get? c=aA o->h2.get? c=aA o:=λc o hc' q=>hs2.extBut c o (λz=>hc' (by simp[z])) (hk c o (λz=>hc' (by simp[z])) (λz=>hc' (by simp[z])) q);have hT2:h2.get? s.heap.objs.size=aA { cls:=.type "tuple",data:=.seq #[.int i tk,y] }:=hs2.extBut _ _ Tne hT;have hcs:∀c∈[e,it],(c∈X.ex\/X.s₀.heap.objs.size<=c)/\c≠X.env.locals/\(∀x d,X.env.cells.lookup x=aA d->d≠c)/\∀p∈X.pn++nu,p.1≠c:=λc hc'=>by have f:=hf c hc';exact⟨f.2.2.2.1,f.2.1,f.2.2.2.2.1,f.2.2.2.2.2⟩
  have nfp:∀c u',H c=aA u'->c∉[e,it]:=λc u' q hc'=>by rw[(hf c hc').1] at q;cases q
  have hok0:HOk X.prog X.w H h2:=λc u' q=>(I.hok c u' q).stay (λd v hd q'=>kk d v (by
    rcases hd with z | z
    ·rw[z];exact nfp c u' q
    ·exact nfp d _ z) q') (λ_ z=>z) (λ_ _ z=>z) λ_ _ z=>z
  have new:ObjOk X.prog X.w (upd H s.heap.objs.size (.tup [.int i,x])) h2 s.heap.objs.size (.tup [.int i,x]):=
   ⟨⟨by show 2<=sizeLine;decide,λo e=>by rw[hT2] at e;cases e;rfl⟩,[.int i tk,y],.cons ⟨tk,rfl⟩ (.cons ru .nil),⟨_,hT2,rfl,_,rfl⟩⟩
  have hok1:HOk X.prog X.w (upd H s.heap.objs.size (.tup [.int i,x])) h2:=λc u' q=>by
   by_cases hb:c=s.heap.objs.size
   ·subst hb;rw[upd_same] at q;cases q;exact new
   ·rw[upd_ne hb] at q;exact(hok0 c u' q).stay (λd v _ q'=>q') (λd z=>by rw[upd_ne (Zm z hTn)];exact z) (λd zs z=>by rw[upd_ne (Zm z hTn)];exact z) λd u z=>by rw[upd_ne (Zm z hTn)];exact z
  have un:Un (Lz X.stack) [e,it] H (upd H s.heap.objs.size (.tup [.int i,x])) s.heap h2:=by
   refine⟨λc o q _ _ hx'=>kk c o hx' q,λc o q _ _ hx'=>⟨o.slots,kk c o hx' q⟩,λc o q n _=>?_,λc o q hx'=>⟨o,kk c o hx' q⟩,λc zs q=>?_,λc o zs q=>?_,λc ps q=>⟨#[],?_⟩⟩
   ·rw[upd_ne (bU (aZ q))];exact n
   ·rw[upd_ne (Zm q hTn)];exact q
   ·rw[upd_ne (Zm q hTn)];exact q
   ·rw[upd_ne (Zm q hTn),q];simp
  have I2:Inv X nu σ (upd H s.heap.objs.size (.tup [.int i,x])) { s with heap:=h2,toks:=tk+1 }:=I.call (g':=s.gens) (d':=s.drawn) un hok1 I.bare hcs;refine⟨.ref s.heap.objs.size,upd H s.heap.objs.size (.tup [.int i,x]),I2,rfl,⟨_,x,hTn,rfl,rfl,λzs hzs=>by rw[I.seqB_inj hzs hq];exact hx⟩,⟨⟨y,by simpa using he2⟩,?_⟩,λc hc'=>?_⟩
  ·exact hs'.1.at λo q=>hs2.extBut it o (bX hei) q
  ·rw[upd_ne (bU (by
    rcases aa.mp hc' with rfl | hc'
    ·exact aZ he
    ·rw[aR.mp hc'];obtain⟨o,q,_⟩:=hit.has;exact aZ q))]
   exact(hf c hc').1
 done:=by
  intro X hP hw hK hc i nu s σ H E I hf st hg;subst hP hw hK;obtain⟨xs,hq,hx⟩:=hg;obtain⟨o9,rv,p,hz⟩:=I.seqB hq;obtain⟨⟨old,he⟩,hit⟩:=st;have fi:=hf it (by simp);obtain⟨oa,hoa⟩:=p.has
  have ai:a≠it:=λz=>by
   subst z
   cases b with
   | true=>
    obtain⟨o,e1,_,m,d⟩:=(show s.heap.IsList a o9.toArray from p);obtain⟨o',e2,_,d2⟩:=(show s.heap.IsListIter a a i from hit);rw[e1] at e2;cases e2;rw[d] at d2;cases d2
   | false=>
    obtain⟨o,e1,_,m,d⟩:=(show s.heap.IsTuple a o9.toArray from p);obtain⟨o',e2,_,d2⟩:=(show s.heap.IsTupleIter a a i from hit);rw[e1] at e2;cases e2;rw[d] at d2;cases d2
  have D:=Draws.seq (prog:=X.prog) (w:=X.w) (A:=X.A.in1) b (I.ok.hd hc) it a ai o9.toArray;have hl:=rv.length;have hi:i=o9.toArray.size:=by simp;omega
  refine wpAny_pyNext_enum_endD D he (by rw[<-hi];exact⟨hit,p⟩) λh' hx'=>⟨rfl,?_⟩;obtain⟨f0,f1,f2,f3,f4,f5⟩:=fi;exact I.turned (t':=s.toks) (λc o hb q=>hx' c o hb q) f0 f1 f3 f4 f5
 self:=λA i s Q E st hQ=>by obtain⟨⟨old,he⟩,_⟩:=st;exact wpAny_pyIter_enum he hQ
end L2
namespace L2
open PySem PySem.Spec PyProof.Rows
section
variable {X:Cx}
def Zgr(b:Bool)(K:aJ)(ta:TA):TI:=λσ H R=>ta σ H λvs H1=>∃a,vs=[.ref a]/\(∃xs,Mg b K H1 a xs)/\R (Ite b K a) H1
theorem A6{elts:List bS}{k:Nat}{tpos:fZ}(b:Bool){a:bS}{ta:TA}{p pos:fZ}(hg:Gl X "enumerate")(hm:X.mg "enumerate" = aB)(ha:PA X [a] ta)(hs:aV [a] X.env=[(aC,eval a X.env)]:=by rfl) :
  PI X (.Tuple elts k tpos) (.Call (.Name "enumerate" p) [a] [] pos) (Zgr b X.K ta):=by
 intro nu s σ H R I h;refine Call_ (Uv I hg hm (by decide +kernel:cw "enumerate" = aA (.type "enumerate")) (cI (YN (ha pos nu s σ H _ I h) λus s1 ⟨vs,H1,I1,r1,q1⟩=>?_) hs rfl));obtain⟨a,e,⟨xs,hq⟩,q⟩:=q1;subst e
 cases r1 with
 | cons r rr=>
  cases rr;cases r;obtain⟨o9,rv,hseq,hz⟩:=I1.seqB hq;refine Ml hseq λh' he hit hsz hk=>?_;refine wpAny_pyIter_enum he ?_;have I2:Inv X nu σ H1 { s1 with heap:=h' }:=I1.kept (t':=s1.toks) hk;have ne:s1.heap.objs.size+1≠s1.heap.objs.size:=gV (iT _);refine⟨s1.heap.objs.size+1,[s1.heap.objs.size+1,s1.heap.objs.size],_,_,H1,rfl,I2,ED b a (s1.heap.objs.size+1) s1.heap.objs.size ne,⟨⟨.none,he⟩,hit⟩,λc hc=>?_,q⟩;rcases aa.mp hc with rfl | hc
  ·exact I1.fpOk (Nat.le_succ _) (I1.hok.fresh (Nat.le_succ _))
  ·rw[aR.mp hc];exact I1.fpOk (aT _) (I1.hok.fresh (aT _))
end
section
variable {prog:bQ} {w:bu} {A:bw} {E:aL->aQ->Prop} {s:aQ}
structure MQ(z TI TO i1 i2:aN)(fp1 fp2:List aN):Prop where
 TIz:TI≠z
 TOz:TO≠z
 i1z:i1≠z
 i2z:i2≠z
 TITO:TI≠TO
 TIi1:TI≠i1
 TIi2:TI≠i2
 TOi1:TO≠i1
 TOi2:TO≠i2
 i12:i1≠i2
 z1:z∉fp1
 TO1:TO∉fp1
 i21:i2∉fp1
 z2:z∉fp2
 TO2:TO∉fp2
 i12':i1∉fp2
theorem Cj{z TI TO i1 i2:aN}{fp1 fp2:List aN}{n1 n2 k:Nat}{P1 P2:Nat->aL->Prop}{St1 St2:Nat->ba->Prop}{a b:aL}{Q:aL->aQ->Prop}(D:MQ z TI TO i1 i2 fp1 fp2)
  (D1:Draws prog w A i1 fp1 n1 P1 St1) (D2:Draws prog w A i2 fp2 n2 P2 St2)
  (hz:jV s.heap z TI TO .none) (hTI:fT s.heap TI (.ref i1) (.ref i2)) (hTO:fT s.heap TO a b)
  (h1:St1 k s.heap) (h2:St2 k s.heap) (hx:k<n1) (hy:k<n2)
  (hQ:∀x y h' tk,P1 k x->P2 k y->jV h' z TI TO (gD s.heap.objs.size)->fT h' TO x y->St1 (k+1) h'->St2 (k+1) h'->fT h' s.heap.objs.size x y->h'.objs.size=s.heap.objs.size+1->
   (∀c o,c≠z->c≠TO->c≠i1->c≠i2->s.heap.get? c=aA o->h'.get? c=aA o)->Q (.ref s.heap.objs.size) { s with heap:=h',toks:=tk }) :
  bA (model prog w) A (iX.«zip.__next__» ⟨[.ref z],[]⟩) (λfin s'=>∃v,fin = .done (.ret v)/\Q v s') E s:=by
 show bA _ _ (field (.ref z) 2 >>= _) _ _ _;refine aH (dF hz rfl (x:=.bool aC) rfl ?_);show bA _ _ (field (.ref z) 3 >>= _) _ _ _;refine aH (dF hz rfl (x:=.ref TI) rfl ?_);refine aH (ee hTI rfl ?_);show bA _ _ (dM (.ref z) >>= _) _ _ _;refine aH ?_;unfold dM;refine aH (dF hz rfl (x:=.none) rfl (aX ?_));simp only[if_true];refine aH (nK ?_);refine aH (dF hz rfl (x:=.ref TO) rfl ?_);refine aH (eu hz (by simp) λh₁ hz₁ hs₁=>?_)
 replace hz₁:jV h₁ z TI TO .ellipsis:=hz₁
 refine aH ?_;simp only[mX,mh,k4,nM];refine aH (aH (jk ?_));show bA _ _ (cC (.ref i1) >>= _) _ _ _;have st1:St1 k h₁:=D1.frame _ _ _ h1 λc hc o e=>hs₁.extBut c o (λq=>D.z1 (q▸hc)) e;refine aH (D1.item k _ _ _ hx st1 λx h₂ tk₂ hPx h1₂ hs₂=>aX ?_)
 replace hs₂:cS i1 h₁ h₂:=hs₂
 have hTO₂:fT h₂ TO a b:=hs₂.extBut _ _ D.TOi1 (hs₁.extBut _ _ D.TOz hTO);refine aH (ee hTO₂ rfl ?_);refine aH (i8 hTO₂ λh₃ hTO₃ hs₃=>?_)
 replace hTO₃:fT h₃ TO x b:=hTO₃
 replace hs₃:cS TO h₂ h₃:=hs₃
 refine aH (m9 (aX ?_));refine aH (aH (jk ?_));show bA _ _ (cC (.ref i2) >>= _) _ _ _;have st2:St2 k h₃:=D2.frame _ _ _ h2 λc hc o e=>hs₃.extBut c o (λq=>D.TO2 (q▸hc)) (hs₂.extBut c o (λq=>D.i12' (q▸hc)) (hs₁.extBut c o (λq=>D.z2 (q▸hc)) e));refine aH (D2.item k _ _ _ hy st2 λy h₄ tk₄ hPy h2₄ hs₄=>aX ?_)
 replace hs₄:cS i2 h₃ h₄:=hs₄
 have hTO₄:fT h₄ TO x b:=hs₄.extBut _ _ D.TOi2 hTO₃;refine aH (ee hTO₄ rfl ?_);refine aH (i8 hTO₄ λh₅ hTO₅ hs₅=>?_)
 replace hTO₅:fT h₅ TO x y:=hTO₅
 replace hs₅:cS TO h₄ h₅:=hs₅
 refine aH (m9 (aX (aX ?_)));refine aH (ee hTO₅ rfl ?_);refine aH (wpAny_newTuple ?_);have hsz:h₅.objs.size=s.heap.objs.size:=by rw[hs₅.1,hs₄.1,hs₃.1,hs₂.1,hs₁.1]
 have hz₅:jV h₅ z TI TO .ellipsis:=hs₅.extBut _ _ D.TOz.symm (hs₄.extBut _ _ D.i2z.symm (hs₃.extBut _ _ D.TOz.symm (hs₂.extBut _ _ D.i1z.symm hz₁)))
 have hk₅:∀c o,c≠z->c≠TO->c≠i1->c≠i2->s.heap.get? c=aA o->h₅.get? c=aA o:=λc o c1 c2 c3 c4 e=>
  hs₅.extBut _ _ c2 (hs₄.extBut _ _ c4 (hs₃.extBut _ _ c2 (hs₂.extBut _ _ c3 (hs₁.extBut _ _ c1 e))))
 have h1₅:St1 (k+1) h₅:=D1.frame _ _ _ h1₂ λc hc o e=>hs₅.extBut c o (λq=>D.TO1 (q▸hc)) (hs₄.extBut c o (λq=>D.i21 (q▸hc)) (hs₃.extBut c o (λq=>D.TO1 (q▸hc)) e));have h2₅:St2 (k+1) h₅:=D2.frame _ _ _ h2₄ λc hc o e=>hs₅.extBut c o (λq=>D.TO2 (q▸hc)) e;have hzlt:z<h₅.objs.size:=aZ hz₅;have hTOlt:TO<h₅.objs.size:=aZ hTO₅;show bA _ _ (g9 (.ref z) (.ref h₅.objs.size) >>= _) _ _ _;refine aH ?_;unfold g9;have hz₆:jV (h₅.push { cls:=.type "tuple",data:=.seq #[x,y] }) z TI TO .ellipsis:=aM _ hz₅;refine aH (eu hz₆ (by simp) λh₇ hz₇ hs₇=>?_)
 replace hz₇:jV h₇ z TI TO (gD h₅.objs.size):=hz₇
 refine eu hz₇ (by simp) λh₈ hz₈ hs₈=>?_
 replace hz₈:jV h₈ z TI TO (gD h₅.objs.size):=hz₈
 have up:∀c o,c≠z->h₅.get? c=aA o->h₈.get? c=aA o:=λc o c1 e=>hs₈.extBut _ _ c1 (hs₇.extBut _ _ c1 (aM _ e));have hT₈:fT h₈ h₅.objs.size x y:=hs₈.extBut _ _ (gV hzlt) (hs₇.extBut _ _ (gV hzlt) (aj _ rfl));have hz8:h₈.objs.size=h₅.objs.size+1:=by rw[hs₈.1,hs₇.1,dJ]
 rw[hsz] at hz₈ hT₈ hz8;refine aX ⟨_,rfl,?_⟩;show Q (.ref h₅.objs.size) _;rw[hsz];exact hQ x y h₈ tk₄ hPx hPy hz₈ (up _ _ D.TOz hTO₅) (D1.frame _ _ _ h1₅ λc hc o e=>up c o (λq=>D.z1 (q▸hc)) e) (D2.frame _ _ _ h2₅ λc hc o e=>up c o (λq=>D.z2 (q▸hc)) e) hT₈ hz8 λc o c1 c2 c3 c4 e=>up c o c1 (hk₅ c o c1 c2 c3 c4 e)
theorem A7{z TI TO i1 i2:aN}{fp1 fp2:List aN}{n1 n2 k:Nat}{P1 P2:Nat->aL->Prop}{St1 St2:Nat->ba->Prop}{a b:aL}{Q:PySem.Fin->aQ->Prop}(D:MQ z TI TO i1 i2 fp1 fp2)
  (D1:Draws prog w A i1 fp1 n1 P1 St1) (D2:Draws prog w A i2 fp2 n2 P2 St2)
  (hz:jV s.heap z TI TO .none) (hTI:fT s.heap TI (.ref i1) (.ref i2)) (hTO:fT s.heap TO a b)
  (h1:St1 k s.heap) (h2:St2 k s.heap) (hend:k=n1\/(k<n1/\k=n2))
  (hE:∀h' tk e,(∀c o,c≠z->c≠TO->c≠i1->c≠i2->s.heap.get? c=aA o->h'.get? c=aA o)->(∃o,h'.get? e=aA o/\o.cls = .type "StopIteration")->E (.ref e) { s with heap:=h',toks:=tk }) :
  bA (model prog w) A (iX.«zip.__next__» ⟨[.ref z],[]⟩) Q E s:=by
 show bA _ _ (field (.ref z) 2 >>= _) _ _ _;refine aH (dF hz rfl (x:=.bool aC) rfl ?_);show bA _ _ (field (.ref z) 3 >>= _) _ _ _;refine aH (dF hz rfl (x:=.ref TI) rfl ?_);refine aH (ee hTI rfl ?_);show bA _ _ (dM (.ref z) >>= _) _ _ _;refine aH ?_;unfold dM;refine aH (dF hz rfl (x:=.none) rfl (aX ?_));simp only[if_true];refine aH (nK ?_);refine aH (dF hz rfl (x:=.ref TO) rfl ?_);refine aH (eu hz (by simp) λh₁ hz₁ hs₁=>?_)
 replace hz₁:jV h₁ z TI TO .ellipsis:=hz₁
 replace hs₁:cS z s.heap h₁:=hs₁
 refine aH ?_;simp only[mX,mh,k4,nM];refine aH (aH (jk ?_));show bA _ _ (cC (.ref i1) >>= _) _ _ _;have st1:St1 k h₁:=D1.frame _ _ _ h1 λc hc o e=>hs₁.extBut c o (λq=>D.z1 (q▸hc)) e;rcases hend with hk | ⟨hx,hk⟩
 ·rw[hk] at st1;refine aH (D1.done _ _ _ st1 λh₂ e hs₂ he=>?_)
  replace hs₂:kh i1 h₁ h₂:=hs₂
  obtain⟨oe,hoe,hce⟩:=he;have hz₂:jV h₂ z TI TO .ellipsis:=hs₂ _ _ D.i1z.symm hz₁;have hez:e≠z:=λx=>by subst x;rw[hz₂] at hoe;cases hoe;simp at hce
  refine eu hz₂ (by simp) λh₃ _ hs₃=>?_
  replace hs₃:cS z h₂ h₃:=hs₃
  exact hE h₃ _ e (λc o c1 _ c3 _ x=>hs₃.extBut _ _ c1 (hs₂ _ _ c3 (hs₁.extBut _ _ c1 x))) ⟨oe,hs₃.extBut _ _ hez hoe,hce⟩
 ·refine aH (D1.item k _ _ _ hx st1 λx h₂ tk₂ hPx h1₂ hs₂=>aX ?_)
  replace hs₂:cS i1 h₁ h₂:=hs₂
  have hTO₂:fT h₂ TO a b:=hs₂.extBut _ _ D.TOi1 (hs₁.extBut _ _ D.TOz hTO);refine aH (ee hTO₂ rfl ?_);refine aH (i8 hTO₂ λh₃ hTO₃ hs₃=>?_)
  replace hs₃:cS TO h₂ h₃:=hs₃
  refine aH (m9 (aX ?_));refine aH (aH (jk ?_));show bA _ _ (cC (.ref i2) >>= _) _ _ _;have st2:St2 k h₃:=D2.frame _ _ _ h2 λc hc o e=>hs₃.extBut c o (λq=>D.TO2 (q▸hc)) (hs₂.extBut c o (λq=>D.i12' (q▸hc)) (hs₁.extBut c o (λq=>D.z2 (q▸hc)) e));rw[hk] at st2;refine aH (D2.done _ _ _ st2 λh₄ e hs₄ he=>?_)
  replace hs₄:kh i2 h₃ h₄:=hs₄
  obtain⟨oe,hoe,hce⟩:=he;have hz₄:jV h₄ z TI TO .ellipsis:=hs₄ _ _ D.i2z.symm (hs₃.extBut _ _ D.TOz.symm (hs₂.extBut _ _ D.i1z.symm hz₁));have hez:e≠z:=λx=>by subst x;rw[hz₄] at hoe;cases hoe;simp at hce
  refine eu hz₄ (by simp) λh₅ _ hs₅=>?_
  replace hs₅:cS z h₄ h₅:=hs₅
  exact hE h₅ _ e (λc o c1 c2 c3 c4 x=>hs₅.extBut _ _ c1 (hs₄ _ _ c4 (hs₃.extBut _ _ c2 (hs₂.extBut _ _ c3 (hs₁.extBut _ _ c1 x))))) ⟨oe,hs₅.extBut _ _ hez hoe,hce⟩
theorem PL{z TI TO i1 i2:aN}{fp1 fp2:List aN}{n1 n2 k:Nat}{P1 P2:Nat->aL->Prop}{St1 St2:Nat->ba->Prop}{a b:aL}{Q:Option aL->aQ->Prop}(D:MQ z TI TO i1 i2 fp1 fp2)
  (D1:Draws prog w A.in1 i1 fp1 n1 P1 St1) (D2:Draws prog w A.in1 i2 fp2 n2 P2 St2)
  (hz:jV s.heap z TI TO .none) (hTI:fT s.heap TI (.ref i1) (.ref i2)) (hTO:fT s.heap TO a b)
  (h1:St1 k s.heap) (h2:St2 k s.heap) (hx:k<n1) (hy:k<n2)
  (hQ:∀x y h' tk,P1 k x->P2 k y->jV h' z TI TO (gD s.heap.objs.size)->fT h' TO x y->St1 (k+1) h'->St2 (k+1) h'->fT h' s.heap.objs.size x y->h'.objs.size=s.heap.objs.size+1->
   (∀c o,c≠z->c≠TO->c≠i1->c≠i2->s.heap.get? c=aA o->h'.get? c=aA o)->Q (aA (.ref s.heap.objs.size)) { s with heap:=h',toks:=tk }) :
  bA (model prog w) A (ji (.ref z)) Q E s:=by
 have hT:s.TypeIs (.ref z) "zip":=⟨_,hz,rfl⟩;unfold ji
 exact aH (jm (cf (name:=gW "__next__") hT F.slot_zip_next
  (cU F.slot_zip_next hT F.entry_zip_next
   (Cj D D1 D2 hz hTI hTO h1 h2 hx hy λx y h' tk p1 p2 a1 a2 a3 a4 a5 a6 a7=>aX (hQ x y h' tk p1 p2 a1 a2 a3 a4 a5 a6 a7)) (F.args_zip_next_1 _))))
theorem OE{z TI TO i1 i2:aN}{fp1 fp2:List aN}{n1 n2 k:Nat}{P1 P2:Nat->aL->Prop}{St1 St2:Nat->ba->Prop}{a b:aL}{Q:Option aL->aQ->Prop}(D:MQ z TI TO i1 i2 fp1 fp2)
  (D1:Draws prog w A.in1 i1 fp1 n1 P1 St1) (D2:Draws prog w A.in1 i2 fp2 n2 P2 St2)
  (hz:jV s.heap z TI TO .none) (hTI:fT s.heap TI (.ref i1) (.ref i2)) (hTO:fT s.heap TO a b)
  (h1:St1 k s.heap) (h2:St2 k s.heap) (hend:k=n1\/(k<n1/\k=n2))
  (hQ:∀h' tk,(∀c o,c≠z->c≠TO->c≠i1->c≠i2->s.heap.get? c=aA o->h'.get? c=aA o)->Q aB { s with heap:=h',toks:=tk }):bA (model prog w) A (ji (.ref z)) Q E s:=by
 have hT:s.TypeIs (.ref z) "zip":=⟨_,hz,rfl⟩;unfold ji
 refine aH (jm (cf (name:=gW "__next__") hT F.slot_zip_next
  (cU F.slot_zip_next hT F.entry_zip_next (A7 D D1 D2 hz hTI hTO h1 h2 hend λh' tk e hk he=>?_) (F.args_zip_next_1 _))))
 obtain⟨o,ho,hc⟩:=he;refine aH (wpAny_isInstance (T:="StopIteration") (b:=aD) ⟨o,ho,hc⟩ isSubtype_stop ?_);exact aX (hQ _ tk hk)
end
abbrev zq1(h:ba)(b1:Bool)(l1:aN):ba:=h.push (U8 b1 l1)
abbrev zq2(h:ba)(b1 b2:Bool)(l1 l2:aN):ba:=(zq1 h b1 l1).push (U8 b2 l2)
abbrev zq3(h:ba)(b1 b2:Bool)(l1 l2:aN):ba:=(zq2 h b1 b2 l1 l2).push { cls:=.type "tuple",data:=.seq #[.ref h.objs.size,.ref (zq1 h b1 l1).objs.size] }
abbrev zq4(h:ba)(b1 b2:Bool)(l1 l2:aN):ba:=(zq3 h b1 b2 l1 l2).push { cls:=.type "tuple",data:=.seq #[.none,.none] }
abbrev zq5(h:ba)(b1 b2:Bool)(l1 l2:aN):ba:=(zq4 h b1 b2 l1 l2).push { cls:=.type "zip",data:=.fields #[.none,.bool aC,.bool aC,.ref (zq2 h b1 b2 l1 l2).objs.size,.ref (zq3 h b1 b2 l1 l2).objs.size] }
theorem Mm(b1 b2:Bool)(l1 l2:aN)(xs ys:Array aL) :
  Meets (iX.«zip.__new__» ⟨[.type "zip",.ref l1,.ref l2],[]⟩) (λ_ R s=>SeqB b1 s.heap l1 xs/\SeqB b2 s.heap l2 ys/\
   R (.ok (.ret (.ref (zq4 s.heap b1 b2 l1 l2).objs.size))) { s with heap:=zq5 s.heap b1 b2 l1 l2 }):=
 .of_wp λprog w A R s h=>by
  obtain⟨hp,g,d,tk,os⟩:=s;obtain⟨hl1,hl2,h⟩:=h;have hsub:=sub_zip;have hL1:SeqB b1 (m8 ⟨hp,g,d,tk,os⟩) l1 xs:=hl1;have hL2:SeqB b2 (m8 ⟨hp.push (U8 b1 l1),g,d,tk,os⟩) l2 ys:=hl2.at λo e=>aM _ e
  wp_walk using YW hL1,YW hL2
  exact⟨_,rfl,h⟩
section
variable {prog:bQ} {w:bu} {A:bw} {E:aL->aQ->Prop} {s:aQ}
theorem LL{b1 b2:Bool}{l1 l2:aN}{xs ys:Array aL}{Q:aL->aQ->Prop}(hl1:SeqB b1 s.heap l1 xs)(hl2:SeqB b2 s.heap l2 ys)
  (h:∀h',jV h' (s.heap.objs.size+4) (s.heap.objs.size+2) (s.heap.objs.size+3) .none->fT h' (s.heap.objs.size+2) (.ref s.heap.objs.size) (.ref (s.heap.objs.size+1))->
   fT h' (s.heap.objs.size+3) .none .none->IterB b1 h' s.heap.objs.size l1 0->IterB b2 h' (s.heap.objs.size+1) l2 0->h'.objs.size=s.heap.objs.size+5->
   (∀c o,s.heap.get? c=aA o->h'.get? c=aA o)->Q (.ref (s.heap.objs.size+4)) { s with heap:=h' }) :
  bA (model prog w) A (call (.type "zip") [.ref l1,.ref l2]) Q E s:=by
 refine callType_new F.called_zip (by decide) (F.typeCall_zip_2 _ _) (F.newCall_zip_2 _ _) (λobj=>F.args_object_init_3 obj _ _) F.entry_zip_new
  (Mm b1 b2 l1 l2 xs ys) ⟨hl1,hl2,?_⟩
 have z1:(zq1 s.heap b1 l1).objs.size=s.heap.objs.size+1:=dJ ..;have z2:(zq2 s.heap b1 b2 l1 l2).objs.size=s.heap.objs.size+2:=by rw[dJ,z1]
 have z3:(zq3 s.heap b1 b2 l1 l2).objs.size=s.heap.objs.size+3:=by rw[dJ,z2]
 have z4:(zq4 s.heap b1 b2 l1 l2).objs.size=s.heap.objs.size+4:=by rw[dJ,z3]
 have z5:(zq5 s.heap b1 b2 l1 l2).objs.size=s.heap.objs.size+5:=by rw[dJ,z4]
 have g5:(zq5 s.heap b1 b2 l1 l2).get? (zq4 s.heap b1 b2 l1 l2).objs.size=aA _:=aj _ rfl;have g4:(zq5 s.heap b1 b2 l1 l2).get? (zq3 s.heap b1 b2 l1 l2).objs.size=aA _:=aM _ (aj _ rfl);have g3:(zq5 s.heap b1 b2 l1 l2).get? (zq2 s.heap b1 b2 l1 l2).objs.size=aA _:=aM _ (aM _ (aj _ rfl));have g2:(zq5 s.heap b1 b2 l1 l2).get? (zq1 s.heap b1 l1).objs.size=aA (U8 b2 l2):=aM _ (aM _ (aM _ (aj _ rfl)));have g1:(zq5 s.heap b1 b2 l1 l2).get? s.heap.objs.size=aA (U8 b1 l1):=aM _ (aM _ (aM _ (aM _ (aj _ rfl))));show _/\_;rw[z2,z3,z4] at g5;rw[z1,z2] at g3;rw[z3] at g4;rw[z1] at g2;rw[z4]
 exact⟨⟨_,g5,rfl⟩,h _ g5 g3 g4 (IterB.new g1) (IterB.new g2) z5 λc o x=>
  aM _ (aM _ (aM _ (aM _ (aM _ x))))⟩
end
theorem Inv.newTup{X:Cx}{nu:List (aN×df)}{σ:St}{H:Hp}{s:aQ}{fp:List aN}{h2:ba}{tk n:Nat}{us:List aL}{xs:List V}(I:Inv X nu σ H s)(hf:∀b∈fp,Rw X nu H b)
  (kk:∀c o,c∉fp->s.heap.get? c=aA o->h2.get? c=aA o) (hT:h2.get? s.heap.objs.size=aA { cls:=.type "tuple",data:=.seq us.toArray n }) (rv:Vals xs us) (hz:xs.length<=sizeLine) :
  Inv X nu σ (upd H s.heap.objs.size (.tup xs)) { s with heap:=h2,toks:=tk }:=by
 have hTn:H s.heap.objs.size=aB:=I.hok.fresh (aT _);have hcs:∀c∈fp,(c∈X.ex\/X.s₀.heap.objs.size<=c)/\c≠X.env.locals/\(∀x d,X.env.cells.lookup x=aA d->d≠c)/\∀p∈X.pn++nu,p.1≠c:=λc hc'=>by have f:=hf c hc';exact⟨f.2.2.2.1,f.2.1,f.2.2.2.2.1,f.2.2.2.2.2⟩
 have nfp:∀c u',H c=aA u'->c∉fp:=λc u' q hc'=>by rw[(hf c hc').1] at q;cases q
 have hok0:HOk X.prog X.w H h2:=λc u' q=>(I.hok c u' q).stay (λd v hd q'=>kk d v (by
   rcases hd with z | z
   ·rw[z];exact nfp c u' q
   ·exact nfp d _ z) q') (λ_ z=>z) (λ_ _ z=>z) λ_ _ z=>z
 have new:ObjOk X.prog X.w (upd H s.heap.objs.size (.tup xs)) h2 s.heap.objs.size (.tup xs):=
  ⟨⟨hz,λo e=>by rw[hT] at e;cases e;rfl⟩,us,rv,⟨_,hT,rfl,_,rfl⟩⟩
 have hok1:HOk X.prog X.w (upd H s.heap.objs.size (.tup xs)) h2:=λc u' q=>by
  by_cases hb:c=s.heap.objs.size
  ·subst hb;rw[upd_same] at q;cases q;exact new
  ·rw[upd_ne hb] at q;exact(hok0 c u' q).stay (λd v _ q'=>q') (λd z=>by rw[upd_ne (Zm z hTn)];exact z) (λd zs z=>by rw[upd_ne (Zm z hTn)];exact z) λd u z=>by rw[upd_ne (Zm z hTn)];exact z
 have un:Un (Lz X.stack) fp H (upd H s.heap.objs.size (.tup xs)) s.heap h2:=by
  refine⟨λc o q _ _ hx'=>kk c o hx' q,λc o q _ _ hx'=>⟨o.slots,kk c o hx' q⟩,λc o q n _=>?_,λc o q hx'=>⟨o,kk c o hx' q⟩,λc zs q=>?_,λc o zs q=>?_,λc ps q=>⟨#[],?_⟩⟩
  ·rw[upd_ne (bU (aZ q))];exact n
  ·rw[upd_ne (Zm q hTn)];exact q
  ·rw[upd_ne (Zm q hTn)];exact q
  ·rw[upd_ne (Zm q hTn),q];simp
 exact I.call (g':=s.gens) (d':=s.drawn) un hok1 I.bare hcs
theorem Inv.turnedL{X:Cx}{nu:List (aN×df)}{σ:St}{H:Hp}{s:aQ}{fp:List aN}{h2:ba}{tk:Nat}(I:Inv X nu σ H s)(hf:∀b∈fp,Rw X nu H b)
  (kk:∀c o,c∉fp->s.heap.get? c=aA o->h2.get? c=aA o):Inv X nu σ H { s with heap:=h2,toks:=tk }:=by
 have hcs:∀c∈fp,(c∈X.ex\/X.s₀.heap.objs.size<=c)/\c≠X.env.locals/\(∀x d,X.env.cells.lookup x=aA d->d≠c)/\∀p∈X.pn++nu,p.1≠c:=λc hc'=>by have f:=hf c hc';exact⟨f.2.2.2.1,f.2.1,f.2.2.2.2.1,f.2.2.2.2.2⟩
 have nfp:∀c u',H c=aA u'->c∉fp:=λc u' q hc'=>by rw[(hf c hc').1] at q;cases q
 have hok0:HOk X.prog X.w H h2:=λc u' q=>(I.hok c u' q).stay (λd v hd q'=>kk d v (by
   rcases hd with z | z
   ·rw[z];exact nfp c u' q
   ·exact nfp d _ z) q') (λ_ z=>z) (λ_ _ z=>z) λ_ _ z=>z
 have un:Un (Lz X.stack) fp H H s.heap h2:=
  ⟨λc o q _ _ hx'=>kk c o hx' q,λc o q _ _ hx'=>⟨o.slots,kk c o hx' q⟩,λc o q n _=>n,λc o q hx'=>⟨o,kk c o hx' q⟩,λc zs q=>q,λc o zs q=>q,λc ps q=>⟨#[],by rw[q];simp⟩⟩
 exact I.call (g':=s.gens) (d':=s.drawn) un hok0 I.bare hcs
theorem SeqB.ne_rec{b:Bool}{h:ba}{a c:aN}{o9:Array aL}{o:df}{vs:Array aL}(p:SeqB b h a o9)(e:h.get? c=aA o)(d:o.data = .fields vs):a≠c:=λz=>by
 subst z
 cases b with
 | true=>obtain⟨o',e1,_,m,d'⟩:=(show h.IsList a o9 from p);rw[e] at e1;cases e1;rw[d] at d';cases d'
 | false=>obtain⟨o',e1,_,m,d'⟩:=(show h.IsTuple a o9 from p);rw[e] at e1;cases e1;rw[d] at d';cases d'
theorem IterB.rec{b:Bool}{h:ba}{it a:aN}{i:Nat}(x:IterB b h it a i):∃o,h.get? it=aA o/\∃vs,o.data = .fields vs:=by
 cases b with
 | true=>obtain⟨o,e,_,d⟩:=(show h.IsListIter it a i from x);exact⟨o,e,_,d⟩
 | false=>obtain⟨o,e,_,d⟩:=(show h.IsTupleIter it a i from x);exact⟨o,e,_,d⟩
structure Zd8(a1 a2 TO TI:aN):Prop where
 a:a1≠TO
 b:a2≠TO
 c:a1≠TI
 d:a2≠TI
def Itz(b1 b2:Bool)(K:aJ)(a1 a2:aN):It:=
  ⟨λi H=>∃xs ys x y,Mg b1 K H a1 xs/\Mg b2 K H a2 ys/\xs[i]?=aA x/\ys[i]?=aA y,
   λi H v H'=>∃p x y,H p=aB/\v = .ref p/\H'=upd H p (.tup [x,y])/\(∀xs,Mg b1 K H a1 xs->xs[i]?=aA x)/\∀ys,Mg b2 K H a2 ys->ys[i]?=aA y,
   λi H=>∃xs ys,Mg b1 K H a1 xs/\Mg b2 K H a2 ys/\(i=xs.length\/(i<xs.length/\i=ys.length))⟩
theorem Ck{P:bQ}{w:bu}{K:aJ}{elts:List bS}{k:Nat}{pos:fZ}(b1 b2:Bool)(a1 a2 z TI TO i1 i2:aN)(d:[z,TI,TO,i1,i2].Nodup) :
  Ja P w K (.Tuple elts k pos) (Itz b1 b2 K a1 a2) [z,TI,TO,i1,i2] z
   (λi h=>jV h z TI TO .none/\fT h TI (.ref i1) (.ref i2)/\(∃u v,fT h TO u v/\Zd8 a1 a2 TO TI)/\IterB b1 h i1 a1 i/\IterB b2 h i2 a2 i) where
 mem:=by simp
 obj:=λi h st c hc=>by
  obtain⟨hz,hTI,⟨u,v,hTO,_⟩,h1,h2⟩:=st;simp only[aa,dj,or_false] at hc;rcases hc with rfl | rfl | rfl | rfl | rfl
  ·exact⟨_,hz,λv q=>by cases q⟩
  ·exact⟨_,hTI,λv q=>by cases q⟩
  ·exact⟨_,hTO,λv q=>by cases q⟩
  ·exact h1.has
  ·exact h2.has
 keep:=λi h h' st kk=>by obtain⟨hz,hTI,⟨u,v,hTO,f⟩,h1,h2⟩:=st;exact⟨kk z (by simp) _ hz,kk TI (by simp) _ hTI,⟨u,v,kk TO (by simp) _ hTO,f⟩,h1.at λo q=>kk i1 (by simp) o q,h2.at λo q=>kk i2 (by simp) o q⟩
 item:=by
  intro X hP hw hK hc i nu s σ H E I hf st hg;subst hP hw hK;obtain⟨xs,ys,x,y,hq1,hq2,hx,hy⟩:=hg;obtain⟨its1,rv1,p1,hz1⟩:=I.seqB hq1;obtain⟨its2,rv2,p2,hz2⟩:=I.seqB hq2;obtain⟨u,hu,ru⟩:=rv1.get hx;obtain⟨v,hv,rv⟩:=rv2.get hy;obtain⟨hz,hTI,⟨q1,q2,hTO,f⟩,h1,h2⟩:=st;obtain⟨o1,e1,vs1,d1⟩:=h1.rec;obtain⟨o2,e2,vs2,d2⟩:=h2.rec;have A1z:a1≠z:=p1.ne_rec hz rfl;have A2z:a2≠z:=p2.ne_rec hz rfl;have A11:a1≠i1:=p1.ne_rec e1 d1;have A12:a1≠i2:=p1.ne_rec e2 d2;have A21:a2≠i1:=p2.ne_rec e1 d1;have A22:a2≠i2:=p2.ne_rec e2 d2;simp only[ar,aa,dj,or_false,not_or,cG,and_true,not_false_eq_true] at d;obtain⟨⟨dzTI,dzTO,dz1,dz2⟩,⟨dIO,dI1,dI2⟩,⟨dO1,dO2⟩,d12⟩:=d;obtain⟨f1,f2,f3,f4⟩:=f;have D:MQ z TI TO i1 i2 [i1,a1] [i2,a2]:=⟨bX dzTI,bX dzTO,bX dz1,bX dz2,dIO,dI1,dI2,dO1,dO2,d12,by simp[dz1,bX A1z],by simp[dO1,bX f1],by simp[bX d12,bX A12],by simp[dz2,bX A2z],by simp[dO2,bX f2],by simp[d12,bX A21]⟩;have D1:=Draws.seq (prog:=X.prog) (w:=X.w) (A:=X.A.in1) b1 (I.ok.hd hc) i1 a1 A11 its1.toArray;have D2:=Draws.seq (prog:=X.prog) (w:=X.w) (A:=X.A.in1) b2 (I.ok.hd hc) i2 a2 A22 its2.toArray;have l1:i<its1.toArray.size:=by simpa using(aS.mp hu).1
  have l2:i<its2.toArray.size:=by simpa using(aS.mp hv).1
  refine PL D D1 D2 hz hTI hTO ⟨h1,p1⟩ ⟨h2,p2⟩ l1 l2 λx' y' h' tk hPx hPy c1 c2 c3 c4 c5 c6 hk=>?_
  have ex':x'=u:=by
   have w1:its1.toArray[i]?=aA x':=hPx;have w2:its1.toArray[i]?=aA u:=by simpa using hu
   rw[w1] at w2;exact bG w2
  have ey':y'=v:=by
   have w1:its2.toArray[i]?=aA y':=hPy;have w2:its2.toArray[i]?=aA v:=by simpa using hv
   rw[w1] at w2;exact bG w2
  subst ex' ey';refine⟨_,rfl,wpAny_letOwnedTupleGo_zip c1 λh3 hz3 hs3=>?_⟩
  replace hs3:cS z h' h3:=hs3
  have kk:∀c o,c∉[z,TI,TO,i1,i2]->s.heap.get? c=aA o->h3.get? c=aA o:=λc o hc' q=>
   hs3.extBut c o (λe=>hc' (by simp[e])) (hk c o (λe=>hc' (by simp[e])) (λe=>hc' (by simp[e])) (λe=>hc' (by simp[e])) (λe=>hc' (by simp[e])) q)
  have hTn:H s.heap.objs.size=aB:=I.hok.fresh (aT _);have hT3:h3.get? s.heap.objs.size=aA { cls:=.type "tuple",data:=.seq [x',y'].toArray }:=hs3.extBut _ _ (gV (aZ hz)) c5;have I2:=I.newTup (tk:=tk) hf kk hT3 (.cons ru (.cons rv .nil)) (by show 2<=sizeLine;decide);refine⟨.ref s.heap.objs.size,_,I2,rfl,⟨_,x,y,hTn,rfl,rfl,λzs hzs=>by rw[I.seqB_inj hzs hq1];exact hx,λzs hzs=>by rw[I.seqB_inj hzs hq2];exact hy⟩,⟨hz3,hs3.extBut _ _ (bX dzTI) (hk _ _ (bX dzTI) dIO dI1 dI2 hTI),⟨_,_,hs3.extBut _ _ (bX dzTO) c2,f1,f2,f3,f4⟩,c3.1.at λo q=>hs3.extBut _ o (bX dz1) q,c4.1.at λo q=>hs3.extBut _ o (bX dz2) q⟩,λc hc'=>?_⟩;rw[upd_ne (bU ?_)]
  ·exact(hf c hc').1
  ·simp only[aa,dj,or_false] at hc';rcases hc' with rfl | rfl | rfl | rfl | rfl
   ·exact aZ hz
   ·exact aZ hTI
   ·exact aZ hTO
   ·exact aZ e1
   ·exact aZ e2
 done:=by intro X hP hw hK hc i nu s σ H E I hf st hg;subst hP hw hK;obtain⟨xs,ys,hq1,hq2,hx⟩:=hg;obtain⟨its1,rv1,p1,hz1⟩:=I.seqB hq1;obtain⟨its2,rv2,p2,hz2⟩:=I.seqB hq2;obtain⟨hz,hTI,⟨q1,q2,hTO,f⟩,h1,h2⟩:=st;obtain⟨o1,e1,vs1,d1⟩:=h1.rec;obtain⟨o2,e2,vs2,d2⟩:=h2.rec;have A1z:a1≠z:=p1.ne_rec hz rfl;have A2z:a2≠z:=p2.ne_rec hz rfl;have A11:a1≠i1:=p1.ne_rec e1 d1;have A12:a1≠i2:=p1.ne_rec e2 d2;have A21:a2≠i1:=p2.ne_rec e1 d1;have A22:a2≠i2:=p2.ne_rec e2 d2;simp only[ar,aa,dj,or_false,not_or,cG,and_true,not_false_eq_true] at d;obtain⟨⟨dzTI,dzTO,dz1,dz2⟩,⟨dIO,dI1,dI2⟩,⟨dO1,dO2⟩,d12⟩:=d;obtain⟨f1,f2,f3,f4⟩:=f;have D:MQ z TI TO i1 i2 [i1,a1] [i2,a2]:=⟨bX dzTI,bX dzTO,bX dz1,bX dz2,dIO,dI1,dI2,dO1,dO2,d12,by simp[dz1,bX A1z],by simp[dO1,bX f1],by simp[bX d12,bX A12],by simp[dz2,bX A2z],by simp[dO2,bX f2],by simp[d12,bX A21]⟩;have D1:=Draws.seq (prog:=X.prog) (w:=X.w) (A:=X.A.in1) b1 (I.ok.hd hc) i1 a1 A11 its1.toArray;have D2:=Draws.seq (prog:=X.prog) (w:=X.w) (A:=X.A.in1) b2 (I.ok.hd hc) i2 a2 A22 its2.toArray;have n1:=rv1.length;have n2:=rv2.length;refine OE D D1 D2 hz hTI hTO ⟨h1,p1⟩ ⟨h2,p2⟩ (by simp only[aU];omega) λh' tk hk=>⟨rfl,?_⟩;exact I.turnedL hf λc o hc' q=>hk c o (λe=>hc' (by simp[e])) (λe=>hc' (by simp[e])) (λe=>hc' (by simp[e])) (λe=>hc' (by simp[e])) q
 self:=λA i s Q E st hQ=>wpAny_pyIter_zip st.1 hQ
section
variable {X:Cx}
def Zih(b1 b2:Bool)(K:aJ)(ta:TA):TI:=λσ H R=>ta σ H λvs H1=>∃a1 a2,vs=[.ref a1,.ref a2]/\(∃xs,Mg b1 K H1 a1 xs)/\(∃ys,Mg b2 K H1 a2 ys)/\R (Itz b1 b2 K a1 a2) H1
theorem Zd9{elts:List bS}{k:Nat}{tpos:fZ}(b1 b2:Bool){a b:bS}{ta:TA}{p pos:fZ}(hg:Gl X "zip")(hm:X.mg "zip" = aB)(ha:PA X [a,b] ta)
  (hs:aV [a,b] X.env=[(aC,eval a X.env),(aC,eval b X.env)]:=by rfl) (hs2:aV [b] X.env=[(aC,eval b X.env)]:=by rfl) :
  PI X (.Tuple elts k tpos) (.Call (.Name "zip" p) [a,b] [] pos) (Zih b1 b2 X.K ta):=by
 intro nu s σ H R I h;refine Call_ (Uv I hg hm boot_zip (cI (YN (ha pos nu s σ H _ I h) λus s1 ⟨vs,H1,I1,r1,q1⟩=>?_) (by rw[hs,hs2]) (by rw[hs2];rfl)));obtain⟨a1,a2,e,⟨xs,hq1⟩,⟨ys,hq2⟩,q⟩:=q1;subst e
 cases r1 with
 | cons r rr=>
  cases rr with
  | cons r' rr=>
   cases rr;cases r;cases r';obtain⟨its1,rv1,p1,_⟩:=I1.seqB hq1;obtain⟨its2,rv2,p2,_⟩:=I1.seqB hq2;refine LL p1 p2 λh' c1 c2 c3 c4 c5 c6 hk=>?_;refine wpAny_pyIter_zip c1 ?_;have I2:Inv X nu σ H1 { s1 with heap:=h' }:=I1.kept (t':=s1.toks) hk;have L1:a1<s1.heap.objs.size:=let⟨_,e⟩:=p1.has;aZ e;have L2:a2<s1.heap.objs.size:=let⟨_,e⟩:=p2.has;aZ e;generalize hn:s1.heap.objs.size=n at *;have ne:∀(a:aN)(j:Nat),a<n->a≠n+j:=λa j h=>bU (bM h (gX _ _));have nd:([n+4,n+2,n+3,n,n+1]:List aN).Nodup:=by have hh:∀(i j:Nat),i≠j->(n+i:Nat)≠n+j:=λi j h e=>h (lV e);have h0:∀(i:Nat),i≠0->(n+i:Nat)≠n:=λi h e=>h (lV (e.trans (Nat.add_zero n).symm));simp only[ar,aa,dj,or_false,not_or,cG,and_true,not_false_eq_true];exact⟨⟨hh 4 2 (by decide),hh 4 3 (by decide),h0 4 (by decide),hh 4 1 (by decide)⟩,⟨hh 2 3 (by decide),h0 2 (by decide),hh 2 1 (by decide)⟩,⟨h0 3 (by decide),hh 3 1 (by decide)⟩,(h0 1 (by decide)).symm⟩
   refine⟨n+4,[n+4,n+2,n+3,n,n+1],_,_,H1,rfl,I2,Ck b1 b2 a1 a2 (n+4) (n+2) (n+3) n (n+1) nd,⟨c1,c2,⟨_,_,c3,ne a1 3 L1,ne a2 3 L2,ne a1 2 L1,ne a2 2 L2⟩,c4,c5⟩,λc hc=>?_,q⟩
   have hle:s1.heap.objs.size<=c:=by
    rw[hn];simp only[aa,dj,or_false] at hc;rcases hc with rfl | rfl | rfl | rfl | rfl
    ·exact gX _ _
    ·exact gX _ _
    ·exact gX _ _
    ·exact aT _
    ·exact gX _ _
   exact I1.fpOk hle (I1.hok.fresh hle)
end
section
variable {prog:bQ} {w:bu} {A:bw} {E:aL->aQ->Prop} {s:aQ}
theorem LM{d:aN}{o:df}{es:Array lP}{ep:Nat}{Q:aL->aQ->Prop}(hd:(d==fQ)=aC)(ho:s.heap.get? d=aA o)(hc:o.ExactDict)(hdat:o.data = .dict es ep)
  (hQ:Q (.ref s.heap.objs.size) { s with heap:=s.heap.push { cls:=.type "dict_keyiterator",data:=.fields #[.ref d,.int 0 0,.int es.size 0,.int ep 0] } }) :
  bA (model prog w) A (mz (.ref d)) Q E s:=by
 have hT:s.TypeIs (.ref d) "dict":=⟨o,ho,hc.1⟩;refine wpAny_pyIter_slot hT F.slot_dict_iter (cU F.slot_dict_iter hT F.entry_dict_iter ?_ (F.args_dict_iter_1 _));unfold iX.«dict.__iter__»;refine aH ?_;unfold iX.Dict.dictSlotNone;refine aH (wpAny_notOrdered_dict hT ?_);show bA _ _ (pure (bP d)) _ _ s;refine aX ?_;show bA _ _ (ka d >>= _) _ _ s;unfold ka;rw[oB (by rw[hd];exact aw)];refine aH (aX ?_);refine aH (j8 ho hdat ?_);refine aH (k5 ho hdat ?_);refine aH (c9 (aX ⟨_,rfl,"dict_keyiterator",_,⟨_,aj _ rfl,rfl⟩,F.slot_dict_keyiterator_next.lookup,?_⟩));simpa [gD] using hQ
theorem RG{it d:aN}{i ep:Nat}{od:df}{es:Array lP}{e:lP}{Q:Option aL->aQ->Prop}(hit:s.heap.IsKeyIter it d i es.size ep)
  (hod:s.heap.get? d=aA od) (hdd:od.data = .dict es ep) (hx:es[i]?=aA e)
  (hQ:∀h',h'.IsKeyIter it d (i+1) es.size ep->cS it s.heap h'->Q (aA e.key) { s with heap:=h' }) :
  bA (model prog w) A (ji (.ref it)) Q E s:=by
 obtain⟨o,ho,hc,hd⟩:=id hit;unfold ji
 refine aH (jm (cf (name:=gW "__next__") hit.typeIs F.slot_dict_keyiterator_next
  (cU F.slot_dict_keyiterator_next hit.typeIs F.entry_dict_keyiterator_next ?_ (F.args_dict_keyiterator_next_1 _))))
 refine aH (aX ?_);refine aH ?_;refine aH ?_
 first | refine aH (dt hit.typeIs (aX ?_)) | refine aH (fU hit.typeIs (aX ?_))
 refine aH (wpAny_fieldsOf ho hd ?_);have hown:iu "dict_keyiterator" = aC:=by decide
 simp only[hown,dR,if_false];show bA _ _ (if(bP d==cP)=aD then _ else _) _ _ s;rw[oB (show ¬((bP d==cP)=aD) from aw)];refine aH (aX ?_);refine aH (j8 hod hdd ?_);rw[oB (by simp)];refine aH (aX ?_);refine aH (k5 hod hdd ?_);rw[oB (by simp)];refine aX ?_;obtain⟨hlt',he⟩:=Array.getElem?_eq_some_iff.mp hx;subst he;simp only[show ¬((i:Int)<0) from by omega,if_false,cF,jY hlt'];refine aH ?_
 first | refine aH (dt hit.typeIs (aX ?_)) | refine aH (fU hit.typeIs (aX ?_))
 refine aH (kb hit.typeIs ?_);show bA _ _ (setField (.ref it) 1 (gD ((i:Int)+1)) >>= _) _ _ s;refine aH (jT ho hd (by simp) ?_)
 have hit':(s.heap.update it (df.mapFields (·.setIfInBounds 1 (gD ((i:Int)+1))))).IsKeyIter it d (i+1) es.size ep:=
  ⟨_,iQ _ ho (k9 (iA hd _)),(mI ..).trans hc,by rw[iA hd];simp[gD]⟩
 refine aH (eQ ?_);refine aH (kb (s:={ s with heap:=s.heap.update it (df.mapFields (·.setIfInBounds 1 (gD ((i:Int)+1)))) }) hit'.typeIs ?_);show bA _ _ (pure es[i].key) _ _ _;exact aX (aX ⟨_,rfl,aX (hQ _ hit' (g8 ..))⟩)
theorem Qw{it d:aN}{ep:Nat}{od:df}{es:Array lP}{Q:Option aL->aQ->Prop}(hh:A.handled=aB)(hit:s.heap.IsKeyIter it d es.size es.size ep)
  (hod:s.heap.get? d=aA od) (hdd:od.data = .dict es ep)
  (hQ:∀h',kh it s.heap h'->Q aB { s with heap:=h' }):bA (model prog w) A (ji (.ref it)) Q E s:=by
 obtain⟨o,ho,hc,hd⟩:=id hit;unfold ji
 refine aH (jm (cf (name:=gW "__next__") hit.typeIs F.slot_dict_keyiterator_next
  (cU F.slot_dict_keyiterator_next hit.typeIs F.entry_dict_keyiterator_next ?_ (F.args_dict_keyiterator_next_1 _))))
 refine aH (aX ?_);refine aH ?_;refine aH ?_
 first | refine aH (dt hit.typeIs (aX ?_)) | refine aH (fU hit.typeIs (aX ?_))
 refine aH (wpAny_fieldsOf ho hd ?_);have hown:iu "dict_keyiterator" = aC:=by decide
 simp only[hown,dR,if_false];show bA _ _ (if(bP d==cP)=aD then _ else _) _ _ s;rw[oB (show ¬((bP d==cP)=aD) from aw)];refine aH (aX ?_);refine aH (j8 hod hdd ?_);rw[oB (by simp)];refine aH (aX ?_);refine aH (k5 hod hdd ?_);rw[oB (by simp)];refine aX ?_;simp only[show ¬((es.size:Int)<0) from by omega,if_false,cF,kI (aT es.size)];refine aH ?_
 first | refine aH (dt hit.typeIs (aX ?_)) | refine aH (fU hit.typeIs (aX ?_))
 show bA _ _ (setField (.ref it) 0 .none >>= _) _ _ s;refine aH (jT ho hd (by simp) ?_);show bA _ _ (newExc (.type "StopIteration") [] >>= _) _ _ _;refine aH ?_;simp only[newExc,newTuple];refine aH (c9 ?_ (by size_fits));refine aH (m:=jU _ _) (wpAny_of_eq (a:=cP) (by first | rfl | (simp only[jU];rfl)) ?_);refine c9 ?_ (by size_fits);simp only[raiseNew];refine aH (wpAny_handled ?_);rw[show A.in1.handled=aB from hh];refine aH (aX (wpAny_throw ?_));refine aH (wpAny_isInstance (T:="StopIteration") (b:=aD) ⟨_,aj _ rfl,rfl⟩ isSubtype_stop ?_);exact aX (hQ _ (((g8 ..).extBut.push _).push _))
end
def Itd(d:aN)(o:df)(o4:List (List YV×V)):It:=
  ⟨λi H=>H d=aA (.frz o (.dT o4))/\i<o4.length,
   λi H v H'=>H'=H/\∃b k y,o4[i]?=aA (k,y)/\v = .ref b/\H b=aA (.tup (k.map kV)),
   λi H=>H d=aA (.frz o (.dT o4))/\i=o4.length⟩
theorem KT.get{H:Hp}:∀{o4:List (List YV×V)}{xs:List (List YV×aN×aL)}{i:Nat}{p:List YV×V},KT H o4 xs->o4[i]?=aA p->∃q,xs[i]?=aA q/\p.1=q.1/\H q.2.1=aA (.tup (p.1.map kV))/\RelV p.2 q.2.2
 | _,_,_,_,.nil,e=>by simp at e
 | _,_,0,_,.cons r _,e=>by simp at e;subst e;exact⟨_,rfl,r⟩
 | _,_,i+1,p,.cons _ t,e=>by obtain⟨q,h1,h2⟩:=KT.get (i:=i) (p:=p) t (by simpa using e);exact⟨q,by simpa using h1,h2⟩
theorem EE{P:bQ}{w:bu}{K:aJ}{tg:bS}(d it:aN)(o:df)(es:Array lP)(ep:Nat)(o4:List (List YV×V))(ho:o.data = .dict es ep)(hlen:es.size=o4.length) :
  Ja P w K tg (Itd d o o4) [it] it (λi h=>h.IsKeyIter it d i es.size ep) where
 mem:=by simp
 obj:=λi h st b hb=>by rw[aR.mp hb];obtain⟨o,e,c,q⟩:=st;exact⟨o,e,λv z=>by rw[q] at z;cases z⟩
 keep:=λi h h' st k=>by obtain⟨o,e,r⟩:=st;exact⟨o,k it (by simp) o e,r⟩
 item:=by
  intro X hP hw hK hc i nu s σ H E I hf st hg;subst hP hw hK;obtain⟨hd,hi⟩:=hg;obtain⟨e1,z,y,xs,r,o',es',ep',h1,h2,h3,h4,h5⟩:=(show ObjOk X.prog X.w H s.heap d (.frz o (.dT o4)) from I.hok d _ hd);rw[e1] at h1;cases h1;rw[ho] at h3;cases h3;have hk:o4[i]?=aA o4[i]:=aE hi;obtain⟨q,hq,eq,hb,rv⟩:=KT.get r hk;have he:es[i]?=aA (entryOfKey (jy (YZ X.prog X.w)) q):=by have:=congrArg (λl=>l[i]?) h4;simp only[aW,hq,bc] at this;simpa using this
  obtain⟨f0,f1,f2,f3,f4,f5⟩:=hf it (by simp);refine RG st e1 ho he λh' st' sb=>?_;have I1:Inv X nu σ H { s with heap:=h' }:=I.turned (t':=s.toks) (λb o hb e=>(sb.2 b hb).trans e) f0 f1 f3 f4 f5;obtain⟨o2,e2,c2,d2⟩:=id st';exact⟨_,rfl,GR (s:={ s with heap:=h' }) e2 c2 d2 (by decide) ⟨.ref q.2.1,H,I1,rfl,⟨rfl,q.2.1,_,_,hk,rfl,hb⟩,st',λb hb=>(hf b hb).1⟩⟩
 done:=by intro X hP hw hK hc i nu s σ H E I hf st hg;subst hP hw hK;obtain⟨hd,hi⟩:=hg;obtain⟨e1,_⟩:=(show ObjOk X.prog X.w H s.heap d (.frz o (.dT o4)) from I.hok d _ hd);obtain⟨f0,f1,f2,f3,f4,f5⟩:=hf it (by simp);rw[hi,<-hlen] at st;exact Qw (I.ok.hd hc) st e1 ho λh' eb=>⟨rfl,I.turned (t':=s.toks) (λb o hb e=>eb b o hb e) f0 f1 f3 f4 f5⟩
 self:=λA i s Q E st hQ=>by refine wpAny_pyIter_slot st.typeIs F.slot_dict_keyiterator_iter (cU F.slot_dict_keyiterator_iter st.typeIs F.entry_dict_keyiterator_iter ?_ (F.args_dict_keyiterator_iter_1 _));show bA _ _ (ret (.ref it)) _ _ s;exact aX ⟨_,rfl,"dict_keyiterator",_,st.typeIs,F.slot_dict_keyiterator_next.lookup,hQ⟩
section
variable {X:Cx} {tg:bS}
theorem Inv.freeze{nu:List (aN×df)}{σ:St}{H:Hp}{s:aQ}{d:aN}{o4:List (List YV×V)}{o:df}(I:Inv X nu σ H s)(hd:H d=aA (.dT o4))(ho:s.heap.get? d=aA o) :
  Inv X nu σ (upd H d (.frz o (.dT o4))) s:=by
 have ne:∀b u,H b=aA u->(∀k,u≠.dT k)->b≠d:=λb u q n z=>by rw[z,hd] at q;exact n _ (bG q).symm
 have nn:∀b,H b=aB->b≠d:=λb q z=>by rw[z,hd] at q;cases q
 have un:Un X.fs [] H (upd H d (.frz o (.dT o4))) s.heap s.heap:=
  ⟨λb o q _ _ _=>q,λb o q _ _ _=>⟨o.slots,q⟩,λb o q n _=>by rw[upd_ne (nn b n)];exact n,λb o q _=>⟨o,q⟩,
   λb xs q=>by rw[upd_ne (ne b _ q λ_ z=>nomatch z)];exact q,λb o u q=>by rw[upd_ne (ne b _ q λ_ z=>nomatch z)];exact q,λb ps q=>⟨#[],by rw[upd_ne (ne b _ q λ_ z=>nomatch z),q];simp⟩⟩
 have hok:HOk X.prog X.w (upd H d (.frz o (.dT o4))) s.heap:=λb u q=>by
  have hown:∀c y,H c=aA (.own y)->upd H d (.frz o (.dT o4)) c=aA (.own y):=λc y z=>by rw[upd_ne (ne c _ z λ_ z=>nomatch z)];exact z
  have htup:∀c xs,H c=aA (.tup xs)->upd H d (.frz o (.dT o4)) c=aA (.tup xs):=λc y z=>by rw[upd_ne (ne c _ z λ_ z=>nomatch z)];exact z
  by_cases hb:b=d
  ·subst hb;rw[upd_same] at q;cases q;exact⟨ho,(I.hok b _ hd).stay (λ_ _ _ z=>z) (λc z=>hown c _ z) htup λc u z=>by rw[upd_ne (ne c _ z λ_ z=>nomatch z)];exact z⟩
  ·rw[upd_ne hb] at q;exact(I.hok b u q).stay (λ_ _ _ z=>z) (λc z=>hown c _ z) htup λc u z=>by rw[upd_ne (ne c _ z λ_ z=>nomatch z)];exact z
 have:=I.un (t':=s.toks) un hok;exact this
def G6(tl:TE):TI:=λσ H R=>tl σ H λx H1=>∃d o4,x = .ref d/\((H1 d=aA (.dT o4)/\∀o,R (Itd d o o4) (upd H1 d (.frz o (.dT o4))))\/∃o,H1 d=aA (.frz o (.dT o4))/\R (Itd d o o4) H1)
theorem LN{l:bS}{tl:TE}(hl:PE X l tl):PI X tg l (G6 tl):=by
 intro nu s σ H R I h;refine YN (hl nu s σ H _ I h) λv s1 ⟨x,H1,I1,r1,q1⟩=>?_;obtain⟨d,o4,e,q⟩:=q1;subst e;cases r1
 have core:∀(o:df)(H2:Hp),Inv X nu σ H2 s1->H2 d=aA (.frz o (.dT o4))->R (Itd d o o4) H2->bA (model X.prog X.w) X.A (mz (.ref d)) (PIE X nu σ tg R) X.xe s1:=λo H2 I2 e2 q2=>by
  obtain⟨e1,z,y,xs,r,o',es,ep,h1,h2,h3,h4,h5⟩:=(show ObjOk X.prog X.w H2 s1.heap d (.frz o (.dT o4)) from I2.hok d _ e2);rw[e1] at h1;cases h1;have hsz:es.size=o4.length:=by have a1:=congrArg i7 h4;have a2:=Paired.length r;simp only[cA,aK] at a1;omega
  refine LM y e1 h2 h3 ?_;refine⟨s1.heap.objs.size,[s1.heap.objs.size],_,_,H2,rfl,I2.kept (t':=s1.toks) λb o e=>aM _ e,EE d _ o es ep o4 h3 hsz,⟨_,aj _ rfl,rfl,rfl⟩,λb hb=>?_,q2⟩;rw[aR.mp hb];exact I2.fpOk (aT _) (I2.hok.fresh (aT _))
 rcases q with⟨hd,q⟩ | ⟨o,hd,q⟩
 ·obtain⟨z,y,xs,r,o,es,ep,h1,h2,h3,h4,h5⟩:=(show ObjOk X.prog X.w H1 s1.heap d (.dT o4) from I1.hok d _ hd);exact core o _ (I1.freeze hd h1) upd_same (q o)
 ·exact core o H1 I1 hd q
end
theorem Walks.seqB{prog:bQ}{w:bu}{A:bw}(b:Bool)(hh:A.handled=aB)(I ax:aN)(hne:ax≠I)(items:Array aL) :
  Walks prog w A I [I,ax] [I] items.size (λi v=>items[i]?=aA v) (λi h=>IterB b h I ax i/\SeqB b h ax items):=by
 cases b with
 | true=>exact Walks.list hh I ax hne items
 | false=>exact Walks.tuple hh I ax hne items
section
variable {X:Cx}
theorem Uh(hc:X.calm=aD):XU X (.builtin "sum") (λxs H Q=>∃(b:Bool) (p:aN) (ns:List Int),xs=[.ref p]/\Mg b X.K H p (ns.map V.int)/\Q (.int ns.sum) H):=by
 intro nu s σ H xs us Q I r h;obtain⟨b,p,ns,rfl,hq,q⟩:=h;obtain⟨u,rfl,rx⟩:=Ry r;cases rx;obtain⟨o9,rv,hseq,hz⟩:=I.seqB hq;have hp:p<s.heap.objs.size:=let⟨_,e⟩:=hseq.has;aZ e;refine call_sum_walkG (YW hseq ?_);refine⟨_,_,_,_,_,_,λi=>ns.getD i 0,rfl,Walks.seqB (A:=X.A.in1) b (I.ok.hd hc) s.heap.objs.size p (bU hp) o9.toArray,⟨IterB.new (aj _ rfl),hseq.at λo e=>aM _ e⟩,λc hcm=>?_,λi v hv=>?_,λh' tk t' hk=>?_⟩
 ·show c<(s.heap.push _).objs.size;rw[dJ];rcases aa.mp hcm with rfl | hcm
  ·exact iT _
  ·rw[aR.mp hcm];exact iJ hp
 ·have hv:o9.toArray[i]?=aA v:=hv;have hv:o9[i]?=aA v:=by simpa using hv
  have hl:=rv.length;rw[aK] at hl;have hi:i<ns.length:=by rw[hl];exact(aS.mp hv).1
  obtain⟨u,hu,ru⟩:=rv.get (i:=i) (x:=.int ns[i]) (by rw[aW,aE hi];rfl);rw[hv] at hu;cases hu;obtain⟨t,rfl⟩:=ru;refine⟨t,?_⟩;show gU ns[i] t=gU (ns.getD i 0) t;rw[aI,aE hi];rfl
 ·have e:preSum (λi=>ns.getD i 0) o9.toArray.size=ns.sum:=by
   have hl:=rv.length;rw[aK] at hl;rw[aU,<-hl]
   have gen:∀k,k<=ns.length->preSum (λi=>ns.getD i 0) k=(ns.take k).sum:=by
    intro k
    induction k with
    | zero=>intro _;simp[preSum]
    | succ k ih=>
     intro hk;rw[preSum,ih (by omega),iK,aI,aE (by omega),gu];simp
   rw[gen _ (aT _),dW]
  rw[e];refine⟨.int ns.sum,H,I.kept (λc o hco=>hk c o ?_ (aM _ hco)),⟨_,rfl⟩,q⟩;intro hm;rw[aR.mp hm] at hco;exact absurd (aZ hco) (dI _)
theorem EF(hc:X.calm=aD):XU X (.builtin "all") (λxs H Q=>∃(b:Bool) (p:aN) (bs:List Bool),xs=[.ref p]/\Mg b X.K H p (bs.map V.bl)/\Q (.bl (bs.all id)) H):=by
 intro nu s σ H xs us Q I r h;obtain⟨b,p,bs,rfl,hq,q⟩:=h;obtain⟨u,rfl,rx⟩:=Ry r;cases rx;obtain⟨o9,rv,hseq,hz⟩:=I.seqB hq;have hp:p<s.heap.objs.size:=let⟨_,e⟩:=hseq.has;aZ e;have hl:=rv.length;rw[aK] at hl;refine call_all_walk (YW hseq ?_);refine⟨_,_,_,_,_,_,λi=>bs.getD i aD,rfl,Walks.seqB (A:=X.A.in1) b (I.ok.hd hc) s.heap.objs.size p (bU hp) o9.toArray,⟨IterB.new (aj _ rfl),hseq.at λo e=>aM _ e⟩,λi v s' Q' E' hv hQ=>?_,λh' tk hk=>?_⟩
 ·have hv:o9.toArray[i]?=aA v:=hv;have hv:o9[i]?=aA v:=by simpa using hv
  have hi:i<bs.length:=by rw[hl];exact(aS.mp hv).1
  obtain⟨u,hu,ru⟩:=rv.get (i:=i) (x:=.bl bs[i]) (by rw[aW,aE hi];rfl);rw[hv] at hu;cases hu;cases ru;refine dD ?_;have e:bs.getD i aD=bs[i]:=by rw[aI,aE hi];rfl
  rw[<-e];exact hQ
 ·have e:(aF o9.toArray.size).all (λi=>bs.getD i aD)=bs.all id:=by
   rw[aU,<-hl,jA,bO,bO];constructor
   ·intro h x hx;obtain⟨i,hi,rfl⟩:=i9.mp hx;have:=h i (aY.mpr hi);rw[aI,aE hi] at this;exact this
   ·intro h i hi;have hi:=aY.mp hi;rw[aI,aE hi];exact h _ (cD hi)
  rw[e];refine⟨.bl (bs.all id),H,I.kept (λc o hco=>hk c o ?_ (aM _ hco)),rfl,q⟩;intro hm;rw[aR.mp hm] at hco;exact absurd (aZ hco) (dI _)
theorem Th:XU X (.builtin "isinstance") (λxs H Q=>∃x T t b,xs=[x,.ty T]/\TyOf X.K H x t/\dY X.K t (.type T)=aA b/\Q (.bl b) H):=by intro nu s σ H xs us Q I r h;obtain⟨x,T,t,b,rfl,ht,hk,q⟩:=h;obtain⟨u,v,rfl,ru,rv⟩:=D8 r;cases rv;exact Eu I ru ht hk λtk=>⟨.bl b,H,I.tok tk,rfl,q⟩
theorem Jj{K:aJ}:dY K (.type "int") (.type "int")=aA aD:=rfl
theorem LO{K:aJ}:dY K (.type "int") (.type "bool")=aA aC:=by first | rfl | decide | (unfold dY;rw[oB (by decide)];first | rfl | decide | kernel_rfl)
theorem Jk{K:aJ}:dY K (.type "tuple") (.type "tuple")=aA aD:=rfl
theorem Mn{K:aJ}:dY K (.type "list") (.type "list")=aA aD:=rfl
theorem Jl{K:aJ}:dY K (.type "str") (.type "str")=aA aD:=rfl
def G7:V->List V->Hp->VK->Prop:=λx vs H Q=>∃l xs k y,x = .ref l/\vs=[.int k,y]/\H l=aA (.lst xs)/\0<=k/\k<2^63/\xs.length<sizeLine/\Q .non (upd H l (.lst (xs.take k.toNat++y::xs.drop k.toNat)))
theorem MR:MtM X "list.insert" G7:=by
 intro nu s σ H x vs v us Q I rx rv h;obtain⟨l,xs,k,y,rfl,rfl,hH,h0,h1,hz,q⟩:=h;cases rx;obtain⟨u1,u2,rfl,r1,r2⟩:=rv.two;obtain⟨t,rfl⟩:=r1;obtain⟨z,o9,n,r,hl,e⟩:=I.lstM hH;have hfit:¬(!Builtin.List.listFitsIndex k)=aD:=by rw[fitsIndex_both (by omega) h1];exact aw
 refine hV F.slot_list_insert ⟨_,e,rfl⟩ F.entry_list_insert (F.args_list_insert_3 _ _ _) (AutoListH.list_insert_list_int_val_1 l o9.toArray n k t u2 hfit (by rw[aU];omega)) ⟨e,?_⟩;refine⟨.non,_,I.lset (its':=o9.take k.toNat++u2::o9.drop k.toNat) hH e ?_ ((r.take k.toNat).append (.cons r2 (r.drop k.toNat))) ?_,rfl,q⟩
 ·show(have j:=if k<0 then(k+((o9.toArray.size:Nat):Int)).toNat else min k.toNat o9.toArray.size;(o9.toArray.extract 0 j).push u2++o9.toArray.extract j)=_;rw[oB (by omega)]
  dsimp only
  by_cases hle:k.toNat<=o9.length
  ·rw[fH (by rw[aU];exact hle)];simp;rw[cH (by rw[br];exact aT _)]
  ·rw[iU (by rw[aU];omega)];rw[cH (by omega),eO (by omega)];simp
 ·rw[ag,bB,bT,br];omega
end
def TK(H H':Hp):Prop:=∀b xs,H b=aA (.tup xs)->H' b=aA (.tup xs)
theorem Same.tk{H H':Hp}(s:Same H H'):TK H H':=λb xs h=>s b _ h
theorem Same.new{H:Hp}{p:aN}(h:H p=aB)(o:HO):Same H (upd H p o):=λb u q=>by rw[upd_ne (Zm q h)];exact q
structure Def(K:aJ)(mg:bH->Option aL)(x:bH)(st:bx):Prop where
 ex:∃f fd,mg x=aA (.ref f)/\Fun K x x st f fd
theorem def_mk{K:aJ}{h:ba}{mg:bH->Option aL}{x:bH}{st:bx}{f:aN}{oc:aL}{od an:Option aN}{osl:Array (Option aL)}{kV doc pm cdv ct:aL}(X:K.In h)(G:h.Ns cJ mg)
  (a:jI K cJ x=aA (aA (.ref f))) (l:K.lookup f=aA ⟨oc,od,.func (c0 x x (Y0 st) (Yf st) (Zf st) .none kV doc pm an cdv ct),osl⟩)
  (c:cg K cdv x=aD) (k:eZ K (.ref f)=aD):Def K mg x st:=⟨f,_,nW X G a,Zd6 (st:=st) l c k⟩
structure XW(P:bQ)(w:bu)(K:aJ)(mg:bH->Option aL)(base:ba)(x:bH)(ps:List bH)(sp:Sp)(k:Nat):Prop where
 ex:∃f fd,mg x=aA (.ref f)/\eZ K (.ref f)=aD/\Binds K fd ps []/\Qq P w K mg base LJ k f fd ps sp
section
variable {P:bQ} {w:bu} {K:aJ} {mg:bH->Option aL} {base:ba}
theorem Def.cal{x:bH}{st:bx}{N ps:List bH}{k:Nat}{sp:Sp}(D:Def K mg x st)(S:Zp N ps (Zf st))
  (hb:∀(kV doc pm:aL)(an:Option aN)(cdv ct:aL)(us:List aL),us.length=ps.length->i6 (c0 x x (Y0 st) (Yf st) (Zf st) .none kV doc pm an cdv ct) ⟨us,[]⟩=pure (ps.zip us))
  (len:∀vs H Q E,sp vs H Q E->vs.length=ps.length)
  (hbody:∀(f:aN)(cdv:aL)(A:bw)(outer:List lZ)(s:aQ)(H:Hp)(vs:List V)(Q:VK)(E:XK),Room k (A.deeper (iH x (Zf st) s.heap.objs.size f cdv))->sp vs H Q E->
   ∃t,PSs (PH LJ P w K mg base N x (Zf st) f cdv A outer s H E).nox (Yf st) t/\t { nx:=λ_ H'=>Q .non H',rt:=Q } (start N vs) H):XW P w K mg base x ps sp (k+1):=by
 obtain⟨f,fd,hm,F⟩:=D.ex;exact⟨f,fd,hm,F.kp,F.binds hb,F.ok S len λcdv A outer s H vs Q E hr h=>hbody f cdv A outer s H vs Q E hr h⟩
end
section
variable {X:Cx} {x:bH} {ps:List bH} {sp:Sp} {k:Nat} {e:bS} {es:List bS} {t:TA} {p pos:fZ}
theorem Zeb(C:XW X.prog X.w X.K X.mg X.base x ps sp k)(hr:Room k X.A)(hg:Gl X x)(ha:PA X (e::es) t)
  (hdb:(x==("__debug__" : bH))=aC:=by decide) (he:aV (e::es) X.env=(aC,eval e X.env)::aV es X.env:=by rfl) (hpl:(eI pos (aV es X.env)).any (·.1)=aC:=by rfl) :
  PE X (.Call (.Name x p) (e::es) [] pos) (Zci sp [] E0 t):=by
 obtain⟨f,fd,a,b,c,d⟩:=C.ex;exact GS d hr hg a b c .nil Zcl ha hdb he hpl
end
noncomputable def Uy(N:List bH)(around scope:gK)(own fr:List bH)(ix:List Nat):Bool:=
 (match scope.kind with | .function=>aD | _=>aC)&&scope.names.all (λy=>y.2 != .cell)&&scope.names.all (λy=>y.2 != .local || scope.names.lookup y.1==aA .local)&&
 scope.names.all (λy=>y.2 != .free || (around.names.lookup y.1==aA .cell || around.names.lookup y.1==aA .free))&&(fr.map aA==ix.map (λi=>N[i]?))&&
 fr.all (λx=>scope.names.contains (x,cB))&&fr.all (λx=>scope.names.lookup x != aA .local)
theorem MS{N:List bH}{around scope:gK}{own fr:List bH}{ix:List Nat}(h:Uy N around scope own fr ix=aD):CompScope N around scope own fr ix:=by
 unfold Uy at h;simp only[ak] at h;obtain⟨⟨⟨⟨⟨⟨h1,h2⟩,h3⟩,h4⟩,h5⟩,h6⟩,h7⟩:=h;refine⟨?_,λy hy=>?_,λy hy e=>?_,λy hy e=>?_,by simpa using h5,λx hx=>?_,λx hx=>?_⟩
 ·split at h1
  ·assumption
  ·cases h1
 ·simpa using bO.mp h2 y hy
 ·have:=bO.mp h3 y hy;rw[e] at this;simpa using this
 ·have:=bO.mp h4 y hy;rw[e] at this;simpa using this
 ·simpa using bO.mp h6 x hx
 ·simpa using bO.mp h7 x hx
section
variable {X:Cx} {tg elt iter:bS} {ifs:List bS} {scope:gK} {pos:fZ} {wi:TI} {g:TG} {tt:TT} {te:TE}
theorem Jm(own fr:List bH)(ix:List Nat)(hcalm:X.calm=aD)(hi:PI X tg iter wi)(S:Uy X.N X.env.scope scope own fr ix=aD)
  (hg:∀cl C s H ex,PG (ZG X (own++fr) scope cl C s H ex) tg g) (ht:∀cl C s H ex,Cg (ZG X (own++fr) scope cl C s H ex) ifs tt) (he:∀cl C s H ex,PE (ZG X (own++fr) scope cl C s H ex) elt te)
  (hs:∀x,cE iter X.env x=pure x:=by intro _;rfl):PE X (.ListComp elt [⟨tg,iter,ifs,0⟩] scope pos) (MP own.length ix wi g tt te):=
 A4 hcalm hi (MS S) hg ht he hs
theorem Cm(own fr:List bH)(ix:List Nat){i:Nat}{y:bH}{py spos:fZ}(hN:X.N.Nodup)(hy:X.N[i]?=aA y)(hloc:X.env.scope.names.lookup y=aA .local)(hcalm:X.calm=aD)(hi:PI X tg iter wi)(S:Uy X.N X.env.scope scope own fr ix=aD)
  (hg:∀cl C s H ex,PG (ZG X (own++fr) scope cl C s H ex) tg g) (ht:∀cl C s H ex,Cg (ZG X (own++fr) scope cl C s H ex) ifs tt) (he:∀cl C s H ex,PE (ZG X (own++fr) scope cl C s H ex) elt te)
  (hsw:iC (.ListComp elt [⟨tg,iter,ifs,0⟩] scope pos) (aA (.Name y py)) spos.line X.env=pure aD:=by rfl)
  (hs:∀x,cE iter X.env x=pure x:=by intro _;rfl):PS X (.Assign [.Name y py] (.ListComp elt [⟨tg,iter,ifs,0⟩] scope pos) spos) (K9 (MP own.length ix wi g tt te) (Rv i)):=
 A5 hN hy hloc hcalm hi (MS S) hg ht he hsw hs
end
structure WM(mg:bH->Option aL):Prop where
 «len» : mg "len" = aB
 «sum» : mg "sum" = aB
 «range» : mg "range" = aB
 «enumerate» : mg "enumerate" = aB
 «zip» : mg "zip" = aB
 «tuple» : mg "tuple" = aB
 «list» : mg "list" = aB
 «all» : mg "all" = aB
 «any» : mg "any" = aB
 «isinstance» : mg "isinstance" = aB
 «int» : mg "int" = aB
 «bool» : mg "bool" = aB
 «str» : mg "str" = aB
 «min» : mg "min" = aB
 «max» : mg "max" = aB
 «sorted» : mg "sorted" = aB
 «abs» : mg "abs" = aB
 «ValueError» : mg "ValueError" = aB
 «reversed» : mg "reversed" = aB
 «set» : mg "set" = aB
abbrev Zec(g:TG)(tb:TS)(D:Ru)(σ:St)(J:It)(H:Hp):Prop:=
 ∃W:Nat->Nat->St->Hp->Prop,(∃m,W 0 m σ H)/\∀i m σ H,W i m σ H->
   (J.stop i H/\D.nx σ H)\/(J.go i H/\∃N:St->Hp->Prop,(∀σ' H',N σ' H'->∃m',m'<m/\W (i+1) m' σ' H')/\∀x H',J.yld i H x H'->g x σ H' λσ2 H2=>tb { D with nx:=N,ct:=N,bk:=D.nx } σ2 H2)
def Zl(l:List Int)(i:Nat):Int:=l.getD i 0
theorem Qx(l:List Int):(aF l.length).map (Zl l)=l:=by
 apply fM;intro i;rw[aW];by_cases h:i<l.length
 ·rw[aE (by simpa using h),aE h];simp[Zl,aI,aE h]
 ·rw[cK (by simpa using h),cK (by omega)];rfl
theorem Yg{f:Nat->Int}{n i:Nat}(h:i<n):Zl ((aF n).map f) i=f i:=by unfold Zl;rw[aI,aW,dC h];rfl
def Zz(w:List (List Int))(i:Nat):List Int:=w.getD i []
theorem OF{w:List (List Int)}{i:Nat}(h:i<w.length):w[i]?=aA (Zz w i):=by unfold Zz;rw[aI,aE h];rfl
def Z1(w:List (List Int))(i j:Nat):Int:=Zl (Zz w i) j
structure Zt(w:List (List Int)):Prop where
 pos:1<=w.length
 few:w.length<=7
 sq:∀i,i<w.length->(Zz w i).length=w.length
 lo:∀i j,i<w.length->j<w.length->0<=Z1 w i j
 hi:∀i j,i<w.length->j<w.length->Z1 w i j<=9
 sym:∀i j,i<w.length->j<w.length->Z1 w i j=Z1 w j i
 dia:∀i,i<w.length->Z1 w i i=0
def Zed(K:aJ):List V->Hp->VK->Prop:=λxs H Q=>∃p ys,xs=[.ref p]/\((SqL K H p ys/\∀l,H l=aB->Q (.ref l) (upd H l (.tup ys)))\/(SqT K H p ys/\Q (.ref p) H))
def A8(K:aJ):List V->Hp->VK->Prop:=λxs H Q=>∃p ys,xs=[.ref p]/\(SqL K H p ys\/SqT K H p ys)/\∀l,H l=aB->Q (.ref l) (upd H l (.lst ys))
theorem Same.off{H Hc:Hp}{p:aN}(s:Same H Hc)(n:Hc p=aB):H p=aB:=s.free n
abbrev Xb:=Nat×Nat×Int
noncomputable def EG(e:Xb):List YV×V:=([.inl (e.1:Int),.inl (e.2.1:Int)],.int e.2.2)
def dE(ts:List Xb):List (List YV×V):=ts.map EG
structure DictOk(n:Nat)(ts:List Xb):Prop where
 ok:∀e∈ts,e.1<e.2.1/\e.2.1<n/\1<=e.2.2/\e.2.2<=9
 nd:(ts.map λe=>(e.1,e.2.1)).Nodup
theorem LP{a b a' b':Nat}(h:([eB (a:Int),eB (b:Int)]:List YV)=[eB (a':Int),eB (b':Int)]):a=a'/\b=b':=by have h1:=(l6 h).1;have h2:=(l6 (l6 h).2).1;have e1:=m5 h1;have e2:=m5 h2;omega
theorem DictOk.nil(n:Nat):DictOk n []:=⟨λ_ h=>by simp at h,by simp⟩
theorem A9{ts:List Xb}{a b:Nat}:(∀t,(a,b,t)∉ts)->Tg (dE ts) [.inl (a:Int),.inl (b:Int)]=aB:=by intro h;unfold Tg dE;rw[Option.map_eq_none_iff,fg];intro x hx;obtain⟨e,he,rfl⟩:=ah.mp hx;intro q;have q:=of_decide_eq_true q;obtain⟨h1,h2⟩:=LP q;obtain⟨a',b',t⟩:=e;simp only at h1 h2;subst h1 h2;exact h t he
theorem Zee{n:Nat}{ts:List Xb}{a b:Nat}{t:Int}(ok:DictOk n ts)(hab:a<b)(hb:b<n)(h1:1<=t)(h9:t<=9) :
  ∃ts',Ug (dE ts) [.inl (a:Int),.inl (b:Int)] (.int t)=dE ts'/\DictOk n ts'/\ts'.length<=ts.length+1:=by
 by_cases hm:∃t',(a,b,t')∈ts
 ·-- it is there: replaced
  obtain⟨t',hm⟩:=hm;refine⟨ts.map λe=>if(e.1,e.2.1)=(a,b) then(e.1,e.2.1,t) else e,?_,⟨?_,?_⟩,by simp⟩
  ·unfold Ug;rw[oA ?_]
   ·unfold dE;rw[bV,bV];apply ao;intro e _;show(if(EG e).1=_ then((EG e).1,V.int t) else EG e)=EG (if(e.1,e.2.1)=(a,b) then(e.1,e.2.1,t) else e);by_cases q:(e.1,e.2.1)=(a,b)
    ·rw[oA q,oA ?_]
     ·rfl
     ·have:=kj q;show([.inl (e.1:Int),.inl (e.2.1:Int)]:List YV)=_;rw[this.1,this.2]
    ·rw[oB q,oB ?_];intro z;obtain⟨h1,h2⟩:=LP (show([.inl (e.1:Int),.inl (e.2.1:Int)]:List YV)=_ from z);exact q (by rw[h1,h2])
   ·rw[eU];exact⟨EG (a,b,t'),ah.mpr ⟨_,hm,rfl⟩,decide_eq_true rfl⟩
  ·intro e he;obtain⟨e',he',rfl⟩:=ah.mp he;have:=ok.ok e' he';by_cases q:(e'.1,e'.2.1)=(a,b)
   ·rw[oA q];exact⟨this.1,this.2.1,h1,h9⟩
   ·rw[oB q];exact this
  ·rw[bV]
   have e:((λe:Xb=>(e.1,e.2.1)) ∘ λe:Xb=>if(e.1,e.2.1)=(a,b) then(e.1,e.2.1,t) else e)=λe:Xb=>(e.1,e.2.1):=by
    funext e;show((if(e.1,e.2.1)=(a,b) then((e.1,e.2.1,t):Xb) else e).1,(if(e.1,e.2.1)=(a,b) then((e.1,e.2.1,t):Xb) else e).2.1)=_;by_cases q:(e.1,e.2.1)=(a,b)
    ·rw[oA q]
    ·rw[oB q]
   rw[e];exact ok.nd
 ·have hn:∀t',(a,b,t')∉ts:=λt' h=>hm ⟨t',h⟩;refine⟨ts++[(a,b,t)],?_,⟨?_,?_⟩,by simp⟩
  ·rw[Cd _ (A9 hn)];unfold dE;rw[bR];rfl
  ·intro e he;rcases aq.mp he with q | q
   ·exact ok.ok e q
   ·rw[aR.mp q];exact⟨hab,hb,h1,h9⟩
  ·rw[bR];refine Ww ok.nd ?_;rw[ah];rintro⟨e,he,q⟩;obtain⟨a',b',t'⟩:=e;have:=kj q;simp only at this;rw[this.1,this.2] at he;exact hn t' he
def Wz(M:List (List Int))(a b:Nat)(t:Int):List (List Int):=M.set a ((Zz M a).set b t)
def Z9(M:List (List Int))(e:Xb):List (List Int):=Wz (Wz M e.1 e.2.1 e.2.2) e.2.1 e.1 e.2.2
def Hg(n:Nat)(ts:List Xb):List (List Int):=ts.foldl Z9 (aG n (aG n 0))
structure MatOk(n:Nat)(M:List (List Int)):Prop where
 len:M.length=n
 row:∀i,i<n->(Zz M i).length=n
 lo:∀i j,i<n->j<n->0<=Z1 M i j
 hi:∀i j,i<n->j<n->Z1 M i j<=9
 sym:∀i j,i<n->j<n->Z1 M i j=Z1 M j i
 dia:∀i,i<n->Z1 M i i=0
theorem MT{M:List (List Int)}{a i:Nat}{r:List Int}(ha:a<M.length):Zz (M.set a r) i=if a=i then r else Zz M i:=by
 unfold Zz;rw[aI,aI,bW];by_cases h:a=i
 ·subst h;simp[ha]
 ·simp[h]
theorem Zaa{l:List Int}{b j:Nat}{t:Int}(hb:b<l.length):Zl (l.set b t) j=if b=j then t else Zl l j:=by
 unfold Zl;rw[aI,aI,bW];by_cases h:b=j
 ·subst h;simp[hb]
 ·simp[h]
theorem RH{n:Nat}{M:List (List Int)}{a b i j:Nat}{t:Int}(hl:M.length=n)(hr:∀i,i<n->(Zz M i).length=n)(ha:a<n)(hb:b<n):Z1 (Wz M a b t) i j=if a=i/\b=j then t else Z1 M i j:=by
 show Zl (Zz (M.set a ((Zz M a).set b t)) i) j=_;rw[MT (by omega)];by_cases h:a=i
 ·subst h;rw[oA rfl,Zaa (by rw[hr a ha];exact hb)];by_cases q:b=j
  ·rw[oA q,oA ⟨rfl,q⟩]
  ·rw[oB q,oB (λz=>q z.2)];rfl
 ·rw[oB h,oB (λz=>h z.1)];rfl
theorem Uz{n:Nat}{M:List (List Int)}{a b:Nat}{t:Int}(hl:M.length=n)(hr:∀i,i<n->(Zz M i).length=n)(ha:a<n):(Wz M a b t).length=n/\∀i,i<n->(Zz (Wz M a b t) i).length=n:=by
 refine⟨by unfold Wz;rw[bp];exact hl,λi hi=>?_⟩;show(Zz (M.set a ((Zz M a).set b t)) i).length=n;rw[MT (by omega)];split
 ·rw[bp];exact hr a ha
 ·exact hr i hi
theorem MatOk.step{n:Nat}{M:List (List Int)}{e:Xb}(ok:MatOk n M)(h:e.1<e.2.1/\e.2.1<n/\1<=e.2.2/\e.2.2<=9):MatOk n (Z9 M e):=by
 obtain⟨a,b,t⟩:=e;obtain⟨hab,hb,h1,h9⟩:=h;simp only at hab hb h1 h9;have ha:a<n:=by omega
 obtain⟨l1,r1⟩:=Uz (t:=t) (b:=b) ok.len ok.row ha;obtain⟨l2,r2⟩:=Uz (t:=t) (b:=a) l1 r1 hb;have E:∀i j,Z1 (Wz (Wz M a b t) b a t) i j=if b=i/\a=j then t else if a=i/\b=j then t else Z1 M i j:=λi j=>by rw[RH l1 r1 hb ha,RH ok.len ok.row ha hb]
 refine⟨l2,r2,λi j hi hj=>?_,λi j hi hj=>?_,λi j hi hj=>?_,λi hi=>?_⟩
 ·show 0<=Z1 (Wz (Wz M a b t) b a t) i j;rw[E];split
  ·omega
  ·split
   ·omega
   ·exact ok.lo i j hi hj
 ·show Z1 (Wz (Wz M a b t) b a t) i j<=9;rw[E];split
  ·omega
  ·split
   ·omega
   ·exact ok.hi i j hi hj
 ·show Z1 (Wz (Wz M a b t) b a t) i j=Z1 (Wz (Wz M a b t) b a t) j i;rw[E,E];have s:=ok.sym i j hi hj;by_cases q1:b=i/\a=j
  ·rw[oA q1];obtain⟨rfl,rfl⟩:=q1;rw[oB (by omega),oA ⟨rfl,rfl⟩]
  ·rw[oB q1];by_cases q2:a=i/\b=j
   ·rw[oA q2];obtain⟨rfl,rfl⟩:=q2;rw[oA ⟨rfl,rfl⟩]
   ·rw[oB q2,oB (λz=>q2 ⟨z.2,z.1⟩),oB (λz=>q1 ⟨z.2,z.1⟩),s]
 ·show Z1 (Wz (Wz M a b t) b a t) i i=0;rw[E,oB (by omega),oB (by omega)];exact ok.dia i hi
theorem MatOk.zero(n:Nat):MatOk n (aG n (aG n 0)):=by
 have r:∀i,i<n->Zz (aG n (aG n (0:Int))) i=aG n 0:=λi hi=>by unfold Zz;rw[aI,b7,oA hi];rfl
 have z:∀i j,i<n->j<n->Z1 (aG n (aG n (0:Int))) i j=0:=λi j hi hj=>by show Zl (Zz _ i) j=0;rw[r i hi];unfold Zl;rw[aI,b7,oA hj];rfl
 exact⟨by simp,λi hi=>by rw[r i hi];simp,λi j hi hj=>by rw[z i j hi hj];omega,λi j hi hj=>by rw[z i j hi hj];omega,λi j hi hj=>by rw[z i j hi hj,z j i hj hi],λi hi=>z i i hi hi⟩
theorem OG{n:Nat}{ts:List Xb}(ok:DictOk n ts):MatOk n (Hg n ts):=by
 have gen:∀(l:List Xb)(M:List (List Int)),(∀e∈l,e.1<e.2.1/\e.2.1<n/\1<=e.2.2/\e.2.2<=9)->MatOk n M->MatOk n (l.foldl Z9 M):=by
  intro l
  induction l with
  | nil=>intro M _ h;exact h
  | cons e r ih=>
   intro M h hM;rw[me];exact ih _ (λe' he'=>h e' (aP _ he')) (hM.step (h e af))
 exact gen ts _ ok.ok (MatOk.zero n)
theorem MatOk.web{n:Nat}{M:List (List Int)}(h:MatOk n M)(h1:1<=n)(h7:n<=7):Zt M:=by have e:=h.len;subst e;exact⟨h1,h7,h.row,h.lo,h.hi,h.sym,h.dia⟩
theorem ZX(f:Nat->Int)(n:Nat):((aF (n+1)).map f).sum=((aF n).map f).sum+f n:=by rw[gw,bR,gu];simp
theorem Yn{f g:Nat->Int}{n:Nat}(h:∀i,i<n->f i=g i):((aF n).map f).sum=((aF n).map g).sum:=by congr 1;apply ao;intro i hi;exact h i (aY.mp hi)
theorem G8(f g:Nat->Int)(n:Nat):((aF n).map λi=>f i+g i).sum=((aF n).map f).sum+((aF n).map g).sum:=by
 induction n with
 | zero=>simp
 | succ n ih=>rw[ZX,ZX,ZX,ih];omega
theorem G9(f g:Nat->Int)(n:Nat):((aF n).map λi=>f i-g i).sum=((aF n).map f).sum-((aF n).map g).sum:=by
 induction n with
 | zero=>simp
 | succ n ih=>rw[ZX,ZX,ZX,ih];omega
theorem EH(c:Int)(n:Nat):((aF n).map λ_=>c).sum=n*c:=by
 induction n with
 | zero=>simp
 | succ n ih=>rw[ZX,ih];rw[show((n+1:Nat):Int)=(n:Int)+1 by omega,km];omega
theorem Fb(l:List Int):((aF l.length).map (Zl l)).sum=l.sum:=by rw[Qx]
theorem Cn(e:Nat->Nat->Int)(n:Nat)(hs:∀i j,i<n->j<n->e i j=e j i)(hd:∀i,i<n->e i i=0) :
  ((aF n).map λi=>((aF n).map λj=>e i j).sum).sum=2*((aF n).map λa=>((aF (n-(a+1))).map λj=>e a (a+1+j)).sum).sum:=by
 induction n with
 | zero=>simp
 | succ n ih=>
  have ih:=ih (λi j hi hj=>hs i j (by omega) (by omega)) λi hi=>hd i (by omega);rw[ZX,ZX,ZX];have a1:((aF n).map λi=>((aF (n+1)).map λj=>e i j).sum).sum=((aF n).map λi=>((aF n).map λj=>e i j).sum).sum+((aF n).map λi=>e i n).sum:=by rw[<-G8];apply Yn;intro i _;rw[ZX]
  have a2:((aF n).map λa=>((aF (n+1-(a+1))).map λj=>e a (a+1+j)).sum).sum=((aF n).map λa=>((aF (n-(a+1))).map λj=>e a (a+1+j)).sum).sum+((aF n).map λi=>e i n).sum:=by rw[<-G8];apply Yn;intro i hi;rw[show n+1-(i+1)=(n-(i+1))+1 by omega,ZX,show i+1+(n-(i+1))=n by omega]
  have a3:((aF n).map λj=>e n j).sum=((aF n).map λi=>e i n).sum:=by apply Yn;intro i hi;exact hs n i (by omega) (by omega)
  rw[a1,a2,a3,hd n (by omega),show n+1-(n+1)=0 by omega];simp;omega
theorem Jn{α:Type}(n:Nat)(x:α):(aG n [x]).flatten=aG n x:=by
 induction n with
 | zero=>rfl
 | succ n ih=>rw[cL,dZ,ih];rfl
theorem Hh{α β:Type}(f:β->α->β)(s:β){l:List α}{i:Nat}{x:α}(h:l[i]?=aA x):(l.take (i+1)).foldl f s=f ((l.take i).foldl f s) x:=by rw[iK,h];show jR f s (l.take i++[x])=_;rw[mJ];rfl
structure NamesOk(i:Nat)(l:List Int):Prop where
 len:l.length=i
 nd:l.Nodup
 lo:∀x∈l,0<=x
 hi:∀x∈l,x<i
theorem NamesOk.nil:NamesOk 0 []:=⟨rfl,cG,λ_ h=>by simp at h,λ_ h=>by simp at h⟩
theorem NamesOk.ins{i:Nat}{l:List Int}(h:NamesOk i l)(k:Nat):NamesOk (i+1) (l.take k++(i:Int)::l.drop k):=by
 have hp:(l.take k++(i:Int)::l.drop k).Perm ((i:Int)::l):=by have:=List.perm_middle (a:=(i:Int)) (l₁:=l.take k) (l₂:=l.drop k);rw[iR] at this;exact this
 refine⟨by rw[hp.length_eq,bB,h.len],?_,λx hx=>?_,λx hx=>?_⟩
 ·rw[hp.nodup_iff,ar];exact⟨λhm=>by have:=h.hi _ hm;omega,h.nd⟩
 ·rcases aa.mp (hp.mem_iff.mp hx) with e | e
  ·omega
  ·exact h.lo x e
 ·rcases aa.mp (hp.mem_iff.mp hx) with e | e
  ·omega
  ·have:=h.hi x e;omega
theorem NamesOk.at{i:Nat}{l:List Int}(h:NamesOk i l){x:Nat}(hx:x<i):0<=Zl l x/\Zl l x<i:=by
 have e:Zl l x=l[x]'(by rw[h.len];exact hx):=by unfold Zl;rw[aI,aE (by rw[h.len];exact hx)];rfl
 rw[e];exact⟨h.lo _ (cD _),h.hi _ (cD _)⟩
theorem NamesOk.ne{i:Nat}{l:List Int}(h:NamesOk i l){x y:Nat}(hx:x<i)(hy:y<i)(n:x≠y):Zl l x≠Zl l y:=by
 have ex:Zl l x=l[x]'(by rw[h.len];exact hx):=by unfold Zl;rw[aI,aE (by rw[h.len];exact hx)];rfl
 have ey:Zl l y=l[y]'(by rw[h.len];exact hy):=by unfold Zl;rw[aI,aE (by rw[h.len];exact hy)];rfl
 rw[ex,ey];intro e;exact n ((jz h.nd).mp e)
theorem lt_size{n:Nat}(h:n<=10000):n<sizeLine:=e8 h (by decide)
end L2
namespace VL
open PySem PySem.Spec PyProof.Rows L2
variable {K:aJ}
def NsO(od:df)(f:bH)(u:aL):Prop:=∀(hp:ba)(dx:aN),hp.get? dx=aA od->hp.Ns1 dx (λn=>if n=f then aA u else aB)
noncomputable def Zab(n:bH):bH:=if n = "NoWeb" then "place" else if n = "Apart" then "houses" else if n = "TooMany" then "most" else "total"
structure Mh where
 qual:bH
 params:lJ
 body:bS
 scope:gK
 free:bH
inductive PV where
 | non | bl (b:Bool) | int (i:Int) | str (x:bH) | ty (n:String) | exc (n:bH) | exf (n:bH) (l:PV) | clo (L:Mh) (l:PV)
 | tup (l:List PV) | lst (l:List PV) | cst (l:List PV)
 | dK (ks:List YV) (vs:List PV) | dT (ks:List (List YV)) (vs:List PV)
instance:Inhabited PV:=⟨.non⟩
mutual
/-- nothing in it can be changed -/
def ZH:PV->Bool
 | .tup l=>ZD l
 | .cst l=>ZD l
 | .lst _=>aC
 | .dK _ _=>aC
 | .dT _ _=>aC
 | .non=>aD
 | .bl _=>aD
 | .int _=>aD
 | .str _=>aD
 | .ty _=>aD
 | .exc _=>aD
 | .exf _ _=>aD
 | .clo _ l=>ZH l
def ZD:List PV->Bool
 | []=>aD
 | x::r=>ZH x&&ZD r
end
theorem W9:∀l:List PV,ZD l=l.all ZH
 | []=>rfl
 | x::r=>by rw[iY,<-W9 r];rfl
def KL(K:aJ)(a:aN)(xs:List V):Prop:=
 ∃(o:df) (o9:Array aL) (n:Nat),K.lookup a=aA o/\o.cls = .type "list"/\o.dict=aB/\o.data = .seq o9 n/\o9.size<=sizeLine/\Vals xs o9.toList
def CsK(K:aJ)(H:Hp)(p:aN)(xs:List V):Prop:=(∃o,H p=aA (.frz o (.lst xs)))\/KL K p xs
theorem CsK.sq{K:aJ}{H:Hp}{p:aN}{xs:List V}(h:CsK K H p xs):SqL K H p xs:=by
 rcases h with h | h
 ·exact .inl (.inr h)
 ·exact .inr h
def CloAt(H:Hp)(L:Mh)(v:V)(u:aL):Prop:=∃f fo c oc e eo pm ct,v = .ref f/\H f=aA (.frz fo (.own 0))/\fo.data = .func (gO "<lambda>" L.qual L.params L.body L.scope [(L.free,e)] pm (.ref c) ct)/\H c=aA (.frz oc (.own 0))/\IS oc L.qual/\H e=aA (.frz eo (.own 1))/\eo.data = .cell (aA u)
mutual
/-- v is the tree l in the heap H;fp: the addresses of o9 lists and dicts -/
def Is(K:aJ)(H:Hp):PV->V->List aN->Prop
 | .non,v,fp=>v = .non/\fp=[]
 | .bl b,v,fp=>v = .bl b/\fp=[]
 | .int i,v,fp=>v = .int i/\fp=[]
 | .str x,v,fp=>v = .str x/\fp=[]
 | .ty n,v,fp=>v = .ty n/\fp=[]
 | .exc n,v,fp=>(∃e o x C,v = .ref e/\H e=aA (.frz o (.own x))/\o.cls = .ref C/\jI K cJ n=aA (aA (.ref C))/\o.dict=aB/\∃vs,o.data = .fields vs)/\fp=[]
 | .exf n l,v,fp=>(∃e o x C dx od u z,v = .ref e/\H e=aA (.frz o (.own x))/\o.cls = .ref C/\jI K cJ n=aA (aA (.ref C))/\o.dict=aA dx/\(∃vs,o.data = .fields vs)/\H dx=aA (.frz od (.own dx))/\NsO od (Zab n) u/\RelV z u/\Is K H l z [])/\fp=[]
 | .clo L l,v,fp=>∃u x,CloAt H L v u/\RelV x u/\Is K H l x fp
 | .tup l,v,fp=>∃p xs,v = .ref p/\H p=aA (.tup xs)/\Iss K H l xs fp
 | .lst l,v,fp=>∃p xs fq,v = .ref p/\H p=aA (.lst xs)/\Iss K H l xs fq/\fp=p::fq
 | .cst l,v,fp=>∃p xs,v = .ref p/\CsK K H p xs/\Iss K H l xs fp
 | .dK ks l,v,fp=>∃p o4 fq,v = .ref p/\Rd H p (.dK o4)/\o4.map (·.1)=ks/\Iss K H l (o4.map (·.2)) fq/\fp=p::fq
 | .dT ks l,v,fp=>∃p o4 fq,v = .ref p/\Rd H p (.dT o4)/\o4.map (·.1)=ks/\Iss K H l (o4.map (·.2)) fq/\fp=p::fq
def Iss(K:aJ)(H:Hp):List PV->List V->List aN->Prop
 | [],xs,fp=>xs=[]/\fp=[]
 | l::ls,xs,fp=>∃x r f1 f2,xs=x::r/\Is K H l x f1/\Iss K H ls r f2/\fp=f1++f2
end
def RdK(H H':Hp)(p:aN):Prop:=(∀xs,H p=aA (.lst xs)->H' p=aA (.lst xs))/\(∀o4,Rd H p (.dK o4)->Rd H' p (.dK o4))/\∀o4,Rd H p (.dT o4)->Rd H' p (.dT o4)
theorem RdK.of{H H':Hp}{p:aN}(h:∀o,H p=aA o->H' p=aA o):RdK H H' p:=by
 have r:∀u,Rd H p u->Rd H' p u:=λu q=>by
  rcases q with q | ⟨o,q⟩
  ·exact .inl (h _ q)
  ·exact .inr ⟨o,h _ q⟩
 exact⟨λ_=>h _,λ_=>r _,λ_=>r _⟩
structure TK2(H H':Hp):Prop where
 tup:TK H H'
 frz:∀b o xs,H b=aA (.frz o (.lst xs))->H' b=aA (.frz o (.lst xs))
 exc:∀b o x,H b=aA (.frz o (.own x))->H' b=aA (.frz o (.own x))
theorem Same.tk2{H H':Hp}(s:Same H H'):TK2 H H':=⟨s.tk,λb o xs h=>s b _ h,λb o x h=>s b _ h⟩
theorem CsK.tr{K:aJ}{H H':Hp}(t:TK2 H H'){p:aN}{xs:List V}(h:CsK K H p xs):CsK K H' p xs:=by
 rcases h with⟨o,h⟩ | h
 ·exact .inl ⟨o,t.frz p o xs h⟩
 ·exact .inr h
theorem CloAt.tr{H H':Hp}(t:TK2 H H'){L:Mh}{v:V}{u:aL}(h:CloAt H L v u):CloAt H' L v u:=by obtain⟨f,fo,c,oc,e,eo,pm,ct,h1,h2,h3,h4,h5,h6,h7⟩:=h;exact⟨f,fo,c,oc,e,eo,pm,ct,h1,t.exc f fo 0 h2,h3,t.exc c oc 0 h4,h5,t.exc e eo 1 h6,h7⟩
mutual
theorem Is.tr{H H':Hp}(ht:TK2 H H'):∀(l:PV)(v:V)(fp:List aN),(∀p∈fp,RdK H H' p)->Is K H l v fp->Is K H' l v fp
 | .non,_,_,_,h=>by simpa only[Is] using h
 | .bl _,_,_,_,h=>by simpa only[Is] using h
 | .int _,_,_,_,h=>by simpa only[Is] using h
 | .str _,_,_,_,h=>by simpa only[Is] using h
 | .ty _,_,_,_,h=>by simpa only[Is] using h
 | .exc _,_,_,_,h=>by simp only[Is] at h ⊢;obtain⟨⟨e,o,x,C,a,b,c⟩,d⟩:=h;exact⟨⟨e,o,x,C,a,ht.exc e o x b,c⟩,d⟩
 | .exf _ l,_,_,_,h=>by simp only[Is] at h ⊢;obtain⟨⟨e,o,x,C,dx,od,u,z,a,b,c1,c2,c3,c4,c5,c6,c7,c8⟩,d⟩:=h;exact⟨⟨e,o,x,C,dx,od,u,z,a,ht.exc e o x b,c1,c2,c3,c4,ht.exc dx od dx c5,c6,c7,Is.tr ht l z [] (λp hp=>by simp at hp) c8⟩,d⟩
 | .clo L l,v,fp,hm,h=>by simp only[Is] at h ⊢;obtain⟨u,x,hc,hr,hi⟩:=h;exact⟨u,x,hc.tr ht,hr,Is.tr ht l x fp hm hi⟩
 | .tup l,v,fp,hm,h=>by simp only[Is] at h ⊢;obtain⟨p,xs,e,hp,hi⟩:=h;exact⟨p,xs,e,ht.tup p xs hp,Iss.tr ht l xs fp hm hi⟩
 | .lst l,v,fp,hm,h=>by simp only[Is] at h ⊢;obtain⟨p,xs,fq,e,hr,hi,rfl⟩:=h;exact⟨p,xs,fq,e,(hm p af).1 _ hr,Iss.tr ht l xs fq (λq hq=>hm q (aP _ hq)) hi,rfl⟩
 | .cst l,v,fp,hm,h=>by simp only[Is] at h ⊢;obtain⟨p,xs,e,hr,hi⟩:=h;exact⟨p,xs,e,hr.tr ht,Iss.tr ht l xs fp hm hi⟩
 | .dK ks l,v,fp,hm,h=>by simp only[Is] at h ⊢;obtain⟨p,o4,fq,e,hr,hk,hi,rfl⟩:=h;exact⟨p,o4,fq,e,(hm p af).2.1 _ hr,hk,Iss.tr ht l _ fq (λq hq=>hm q (aP _ hq)) hi,rfl⟩
 | .dT ks l,v,fp,hm,h=>by simp only[Is] at h ⊢;obtain⟨p,o4,fq,e,hr,hk,hi,rfl⟩:=h;exact⟨p,o4,fq,e,(hm p af).2.2 _ hr,hk,Iss.tr ht l _ fq (λq hq=>hm q (aP _ hq)) hi,rfl⟩
theorem Iss.tr{H H':Hp}(ht:TK2 H H'):∀(l:List PV)(xs:List V)(fp:List aN),(∀p∈fp,RdK H H' p)->Iss K H l xs fp->Iss K H' l xs fp
 | [],_,_,_,h=>by simpa only[Iss] using h
 | l::ls,xs,fp,hm,h=>by simp only[Iss] at h ⊢;obtain⟨x,r,f1,f2,e,h1,h2,rfl⟩:=h;exact⟨x,r,f1,f2,e,Is.tr ht l x f1 (λq hq=>hm q (au _ hq)) h1,Iss.tr ht ls r f2 (λq hq=>hm q (ay _ hq)) h2,rfl⟩
end
theorem Is.mono{H H':Hp}(s:Same H H'){l:PV}{v:V}{fp:List aN}(h:Is K H l v fp):Is K H' l v fp:=Is.tr (Same.tk2 s) l v fp (λp _=>RdK.of λo q=>s p o q) h
theorem Iss.mono{H H':Hp}(s:Same H H'){l:List PV}{v:List V}{fp:List aN}(h:Iss K H l v fp):Iss K H' l v fp:=Iss.tr (Same.tk2 s) l v fp (λp _=>RdK.of λo q=>s p o q) h
mutual
theorem Is.pure{H:Hp}:∀(l:PV)(v:V)(fp:List aN),ZH l=aD->Is K H l v fp->fp=[]
 | .non,_,_,_,h=>by simp only[Is] at h;exact h.2
 | .bl _,_,_,_,h=>by simp only[Is] at h;exact h.2
 | .int _,_,_,_,h=>by simp only[Is] at h;exact h.2
 | .str _,_,_,_,h=>by simp only[Is] at h;exact h.2
 | .ty _,_,_,_,h=>by simp only[Is] at h;exact h.2
 | .exc _,_,_,_,h=>by simp only[Is] at h;exact h.2
 | .exf _ _,_,_,_,h=>by simp only[Is] at h;exact h.2
 | .clo L l,v,fp,hp,h=>by simp only[Is] at h;obtain⟨u,x,hc,hr,hi⟩:=h;exact Is.pure l x fp (by simpa only[ZH] using hp) hi
 | .tup l,v,fp,hp,h=>by simp only[Is] at h;obtain⟨p,xs,e,_,hi⟩:=h;exact Iss.pure l xs fp (by simpa only[ZH] using hp) hi
 | .lst l,v,fp,hp,h=>by simp[ZH] at hp
 | .cst l,v,fp,hp,h=>by simp only[Is] at h;obtain⟨p,xs,e,_,hi⟩:=h;exact Iss.pure l xs fp (by simpa only[ZH] using hp) hi
 | .dK ks l,v,fp,hp,h=>by simp[ZH] at hp
 | .dT ks l,v,fp,hp,h=>by simp[ZH] at hp
theorem Iss.pure{H:Hp}:∀(l:List PV)(xs:List V)(fp:List aN),ZD l=aD->Iss K H l xs fp->fp=[]
 | [],_,_,_,h=>by simp only[Iss] at h;exact h.2
 | l::ls,xs,fp,hp,h=>by simp only[Iss] at h;simp only[ZD,ak] at hp;obtain⟨x,r,f1,f2,e,h1,h2,rfl⟩:=h;rw[Is.pure l x f1 hp.1 h1,Iss.pure ls r f2 hp.2 h2];rfl
end
section
variable {H H':Hp}
theorem Iss.len:∀{l:List PV}{xs:List V}{fp:List aN},Iss K H l xs fp->xs.length=l.length
 | [],xs,fp,h=>by simp only[Iss] at h;rw[h.1];rfl
 | l::ls,xs,fp,h=>by simp only[Iss] at h;obtain⟨x,r,f1,f2,rfl,_,h2,_⟩:=h;rw[bB,bB,h2.len]
theorem Iss.get:∀{l:List PV}{xs:List V}{fp:List aN}{i:Nat}{a:PV},Iss K H l xs fp->l[i]?=aA a->∃x f1,xs[i]?=aA x/\Is K H a x f1/\∀p∈f1,p∈fp
 | [],xs,fp,i,a,h,e=>by simp at e
 | l::ls,xs,fp,0,a,h,e=>by simp only[Iss] at h;obtain⟨x,r,f1,f2,rfl,h1,_,rfl⟩:=h;simp at e;subst e;exact⟨x,f1,rfl,h1,λp hp=>au _ hp⟩
 | l::ls,xs,fp,i+1,a,h,e=>by simp only[Iss] at h;obtain⟨x,r,f1,f2,rfl,_,h2,rfl⟩:=h;obtain⟨y,g,h3,h4,h5⟩:=h2.get (i:=i) (a:=a) (by simpa using e);exact⟨y,g,by simpa using h3,h4,λp hp=>ay _ (h5 p hp)⟩
theorem Iss.get'{l:List PV}{xs:List V}{fp:List aN}{i:Nat}{x:V}(h:Iss K H l xs fp)(e:xs[i]?=aA x):∃a f1,l[i]?=aA a/\Is K H a x f1/\∀p∈f1,p∈fp:=by
 have hi:i<l.length:=by rw[<-h.len];exact(aS.mp e).1
 obtain⟨y,f1,h1,h2,h3⟩:=h.get (aE hi);rw[e] at h1;cases h1;exact⟨_,f1,aE hi,h2,h3⟩
theorem Iss.nil:Iss K H [] [] []:=by simp[Iss]
theorem Iss.cons{l:PV}{ls:List PV}{x:V}{xs:List V}{f1 f2:List aN}(h1:Is K H l x f1)(h2:Iss K H ls xs f2):Iss K H (l::ls) (x::xs) (f1++f2):=by simp only[Iss];exact⟨x,xs,f1,f2,rfl,h1,h2,rfl⟩
theorem Iss.inv{l:PV}{ls:List PV}{xs:List V}{fp:List aN}(h:Iss K H (l::ls) xs fp):∃x r f1 f2,xs=x::r/\Is K H l x f1/\Iss K H ls r f2/\fp=f1++f2:=by simpa only[Iss] using h
theorem Iss.append:∀{l m:List PV}{xs ys:List V}{f1 f2:List aN},Iss K H l xs f1->Iss K H m ys f2->Iss K H (l++m) (xs++ys) (f1++f2)
 | [],m,xs,ys,f1,f2,h,h'=>by simp only[Iss] at h;rw[h.1,h.2];exact h'
 | l::ls,m,xs,ys,f1,f2,h,h'=>by obtain⟨x,r,g1,g2,rfl,a,b,rfl⟩:=h.inv;rw[gH];exact Iss.cons a (b.append h')
theorem Iss.one{l:PV}{x:V}{f:List aN}(h:Is K H l x f):Iss K H [l] [x] f:=by
 have:=Iss.cons h (Iss.nil (H:=H))
 rwa [di] at this
theorem Iss.take:∀{l:List PV}{xs:List V}{fp:List aN}(n:Nat),Iss K H l xs fp->∃f1,Iss K H (l.take n) (xs.take n) f1/\∀p∈f1,p∈fp
 | l,xs,fp,0,h=>⟨[],by rw[nN,nN];exact Iss.nil,λp hp=>by simp at hp⟩
 | [],xs,fp,n+1,h=>by simp only[Iss] at h;rw[h.1];exact⟨[],by rw[nX,nX];exact Iss.nil,λp hp=>by simp at hp⟩
 | l::ls,xs,fp,n+1,h=>by
  obtain⟨x,r,f1,f2,rfl,h1,h2,rfl⟩:=h.inv;obtain⟨f3,a,b⟩:=h2.take n;refine⟨f1++f3,Iss.cons h1 a,λp hp=>?_⟩;rcases aq.mp hp with h | h
  ·exact au _ h
  ·exact ay _ (b p h)
theorem Iss.drop:∀{l:List PV}{xs:List V}{fp:List aN}(n:Nat),Iss K H l xs fp->∃f1,Iss K H (l.drop n) (xs.drop n) f1/\∀p∈f1,p∈fp
 | l,xs,fp,0,h=>⟨fp,h,λp hp=>hp⟩
 | [],xs,fp,n+1,h=>by simp only[Iss] at h;rw[h.1];exact⟨[],by rw[nY,nY];exact Iss.nil,λp hp=>by simp at hp⟩
 | l::ls,xs,fp,n+1,h=>by obtain⟨x,r,f1,f2,rfl,h1,h2,rfl⟩:=h.inv;obtain⟨f3,a,b⟩:=h2.drop n;exact⟨f3,a,λp hp=>ay _ (b p hp)⟩
theorem Iss.setP:∀{l:List PV}{xs:List V}{a:PV}{x:V}(i:Nat),ZD l=aD->ZH a=aD->Iss K H l xs []->Is K H a x []->Iss K H (l.set i a) (xs.set i x) []
 | [],xs,a,x,i,_,_,h,_=>by simp only[Iss] at h;rw[h.1];simp only[List.set_nil];exact Iss.nil
 | l::ls,xs,a,x,0,hp,_,h,ha=>by simp only[ZD,ak] at hp;obtain⟨y,r,f1,f2,rfl,_,h2,e⟩:=h.inv;have e2:=Iss.pure _ _ _ hp.2 h2;subst e2;exact Iss.cons (f1:=[]) ha h2
 | l::ls,xs,a,x,i+1,hp,hq,h,ha=>by simp only[ZD,ak] at hp;obtain⟨y,r,f1,f2,rfl,h1,h2,e⟩:=h.inv;have e1:=Is.pure _ _ _ hp.1 h1;have e2:=Iss.pure _ _ _ hp.2 h2;subst e1 e2;exact Iss.cons (f1:=[]) h1 (Iss.setP i hp.2 hq h2 ha)
theorem Is.int_inv{i:Int}{v:V}{fp:List aN}(h:Is K H (.int i) v fp):v = .int i/\fp=[]:=by simpa only[Is] using h
theorem Is.int(i:Int):Is K H (.int i) (.int i) []:=by simp[Is]
theorem Is.bl(i:Bool):Is K H (.bl i) (.bl i) []:=by simp[Is]
theorem Is.non:Is K H .non .non []:=by simp[Is]
theorem Is.str(x:bH):Is K H (.str x) (.str x) []:=by simp[Is]
theorem Is.ty(n:String):Is K H (.ty n) (.ty n) []:=by simp[Is]
theorem Is.bl_inv{i:Bool}{v:V}{fp:List aN}(h:Is K H (.bl i) v fp):v = .bl i/\fp=[]:=by simpa only[Is] using h
theorem Is.str_inv{i:bH}{v:V}{fp:List aN}(h:Is K H (.str i) v fp):v = .str i/\fp=[]:=by simpa only[Is] using h
theorem Is.non_inv{v:V}{fp:List aN}(h:Is K H .non v fp):v = .non/\fp=[]:=by simpa only[Is] using h
theorem Is.ty_inv{n:String}{v:V}{fp:List aN}(h:Is K H (.ty n) v fp):v = .ty n/\fp=[]:=by simpa only[Is] using h
theorem Is.tup_inv{l:List PV}{v:V}{fp:List aN}(h:Is K H (.tup l) v fp):∃p xs,v = .ref p/\H p=aA (.tup xs)/\Iss K H l xs fp:=by simpa only[Is] using h
theorem Is.tup{l:List PV}{p:aN}{xs:List V}{fp:List aN}(h:H p=aA (.tup xs))(hi:Iss K H l xs fp):Is K H (.tup l) (.ref p) fp:=by simp only[Is];exact⟨p,xs,rfl,h,hi⟩
theorem Is.lst_inv{l:List PV}{v:V}{fp:List aN}(h:Is K H (.lst l) v fp):∃p xs fq,v = .ref p/\H p=aA (.lst xs)/\Iss K H l xs fq/\fp=p::fq:=by simpa only[Is] using h
theorem Is.lst{l:List PV}{p:aN}{xs:List V}{fp:List aN}(h:H p=aA (.lst xs))(hi:Iss K H l xs fp):Is K H (.lst l) (.ref p) (p::fp):=by simp only[Is];exact⟨p,xs,fp,rfl,h,hi,rfl⟩
theorem Is.cst_inv{l:List PV}{v:V}{fp:List aN}(h:Is K H (.cst l) v fp):∃p xs,v = .ref p/\CsK K H p xs/\Iss K H l xs fp:=by simpa only[Is] using h
theorem Is.cst{l:List PV}{p:aN}{xs:List V}{fp:List aN}(h:CsK K H p xs)(hi:Iss K H l xs fp):Is K H (.cst l) (.ref p) fp:=by simp only[Is];exact⟨p,xs,rfl,h,hi⟩
theorem Is.dT_inv{ks:List (List YV)}{l:List PV}{v:V}{fp:List aN}(h:Is K H (.dT ks l) v fp):∃p o4 fq,v = .ref p/\Rd H p (.dT o4)/\o4.map (·.1)=ks/\Iss K H l (o4.map (·.2)) fq/\fp=p::fq:=by simpa only[Is] using h
theorem Is.dT{ks:List (List YV)}{l:List PV}{p:aN}{o4:List (List YV×V)}{fp:List aN}(h:H p=aA (.dT o4))(hk:o4.map (·.1)=ks)(hi:Iss K H l (o4.map (·.2)) fp):Is K H (.dT ks l) (.ref p) (p::fp):=by simp only[Is];exact⟨p,o4,fp,rfl,.inl h,hk,hi,rfl⟩
theorem Is.dK_inv{ks:List YV}{l:List PV}{v:V}{fp:List aN}(h:Is K H (.dK ks l) v fp):∃p o4 fq,v = .ref p/\Rd H p (.dK o4)/\o4.map (·.1)=ks/\Iss K H l (o4.map (·.2)) fq/\fp=p::fq:=by simpa only[Is] using h
theorem Is.dK{ks:List YV}{l:List PV}{p:aN}{o4:List (YV×V)}{fp:List aN}(h:H p=aA (.dK o4))(hk:o4.map (·.1)=ks)(hi:Iss K H l (o4.map (·.2)) fp):Is K H (.dK ks l) (.ref p) (p::fp):=by simp only[Is];exact⟨p,o4,fp,rfl,.inl h,hk,hi,rfl⟩
end
abbrev iL(l:List Int):List PV:=l.map PV.int
theorem Y7(l:List Int):ZD (iL l)=aD:=by rw[W9,bO];intro x hx;obtain⟨i,_,rfl⟩:=ah.mp hx;rfl
theorem Iss.iL{H:Hp}:∀{l:List Int}{xs:List V}{fp:List aN},Iss K H (VL.iL l) xs fp->xs=l.map V.int/\fp=[]
 | [],xs,fp,h=>by simpa only[VL.iL,dq,Iss] using h
 | i::l,xs,fp,h=>by obtain⟨x,r,f1,f2,rfl,h1,h2,rfl⟩:=Iss.inv (show Iss K H (PV.int i::VL.iL l) xs fp from h);obtain⟨rfl,rfl⟩:=h1.int_inv;obtain⟨rfl,rfl⟩:=h2.iL;exact⟨rfl,rfl⟩
theorem Iss.ofInts{H:Hp}:∀(l:List Int),Iss K H (VL.iL l) (l.map V.int) []
 | []=>Iss.nil
 | i::l=>Iss.cons (f1:=[]) (Is.int i) (Iss.ofInts l)
end VL
namespace VL
open PySem PySem.Spec PyProof.Rows L2
variable {K:aJ}
abbrev Pq:=L2.St
abbrev ZL:=List (Option PV)
abbrev XE:=ZL->Option PV
structure EnvIs(K:aJ)(Rm:aN->Prop)(H:Hp)(s:ZL)(σ:Pq):Prop where
 is:∀(i:Nat) l,s[i]?=aA (aA l)->∃v fp,σ[i]?=aA (aA v)/\Is K H l v fp/\∀p∈fp,¬Rm p
theorem EnvIs.mono{Rm:aN->Prop}{H H':Hp}{s:ZL}{σ:Pq}(h:EnvIs K Rm H s σ)(e:Same H H'):EnvIs K Rm H' s σ:=⟨λi l q=>by
 obtain⟨v,fp,a,b,c⟩:=h.is i l q;exact⟨v,fp,a,b.mono e,c⟩⟩
theorem EnvIs.free{Rm:aN->Prop}{H:Hp}{s:ZL}{σ:Pq}(h:EnvIs K Rm H s σ):EnvIs K (λ_=>False) H s σ:=⟨λi l q=>by
 obtain⟨v,fp,a,b,c⟩:=h.is i l q;exact⟨v,fp,a,b,λ_ _ z=>z⟩⟩
theorem Same.mut{H H':Hp}(e:Same H H'){p:aN}(h:Ue (H p)):Ue (H' p):=by
 cases q:H p with
 | none=>rw[q] at h;exact h.elim
 | some o=>rw[e p o q,<-q];exact h
theorem Xz{H:Hp}{p:aN}(h:Ue (H p)):H p≠aB:=λz=>by rw[z] at h;exact h
def tF(K:aJ)(f:XE):TE:=λσ H Q=>∃(Rm:aN->Prop) (s:ZL) (l:PV),(∀p,Rm p->Ue (H p))/\EnvIs K Rm H s σ/\f s=aA l/\∀v H' fp,Same H H'->Is K H' l v fp->(∀p∈fp,¬Rm p)->Q v H'
def tM(K:aJ)(f:XE):TE:=λσ H Q=>∃(s:ZL) (l:PV),EnvIs K (λ_=>False) H s σ/\f s=aA l/\∀v H' fp,Same H H'->Is K H' l v fp->fp.Nodup->(∀p∈fp,H p=aB/\Ue (H' p))->Q v H'
def VE(X:Cx)(e:bS)(f:XE):Prop:=PE X e (tF X.K f)
def VM(X:Cx)(e:bS)(f:XE):Prop:=PE X e (tM X.K f)
section
variable {X:Cx} {e:bS} {f g:XE} {t t':TE}
theorem PE.imp(h:PE X e t)(i:∀σ H Q,t' σ H Q->t σ H Q):PE X e t':=λnu s σ H Q I q=>h nu s σ H Q I (i σ H Q q)
theorem VM.ve(h:VM X e f):VE X e f:=PE.imp h λσ H Q ⟨Rm,s,l,hd,env,e,k⟩=>
 ⟨s,l,env.free,e,λv H' fp sm i _ n=>k v H' fp sm i λp hp z=>Xz (hd p z) (n p hp).1⟩
def eP(f:XE):XE:=λs=>(f s).bind λl=>if ZH l=aD then aA l else aB
theorem Zac{s:ZL}{l:PV}(h:eP f s=aA l):f s=aA l/\ZH l=aD:=by
 unfold eP at h
 cases q:f s with
 | none=>rw[q] at h;cases h
 | some a=>
  rw[q] at h;simp only[aO] at h;split at h
  ·cases h;exact⟨rfl,by assumption⟩
  ·cases h
theorem VE.pure(h:VE X e f):VM X e (eP f):=PE.imp h λσ H Q ⟨s,l,env,e,k⟩=>by
 obtain⟨e1,e2⟩:=Zac e;refine⟨λ_=>False,s,l,λ_ z=>z.elim,env,e1,λv H' fp sm i n=>?_⟩;have:=Is.pure l v fp e2 i;subst this;exact k v H' [] sm i cG λp hp=>by simp at hp
end
noncomputable def Za(i:Nat):XE:=λs=>(s[i]?).join
def eC(l:PV):XE:=λ_=>aA l
theorem Qy{i:Nat}{s:ZL}{l:PV}(h:Za i s=aA l):s[i]?=aA (aA l):=by
 unfold Za at h
 cases q:s[i]? with
 | none=>rw[q] at h;cases h
 | some o=>rw[q] at h;cases o with
  | none=>cases h
  | some a=>cases h;rfl
section
variable {X:Cx} {pos:fZ}
theorem Co{e:bS}{i:Nat}(h:PE X e (Sy i)):VE X e (Za i):=PE.imp h λσ H Q ⟨Rm,s,l,hd,env,e,k⟩=>by obtain⟨v,fp,a,b,c⟩:=env.is i l (Qy e);exact⟨v,a,k v H fp (Same.refl H) b c⟩
theorem Zad{e:bS}{v:V}{l:PV}(h:PE X e (tC v))(hv:∀H,Is X.K H l v []):VE X e (eC l):=PE.imp h λσ H Q ⟨Rm,s,l',hd,env,e,k⟩=>by
 cases e;exact k v H [] (Same.refl H) (hv H) λp hp=>by simp at hp
theorem Zi{i j}:VE X (.Constant (.int i) j pos) (eC (.int i)):=Zad Zc9 λ_=>Is.int i
theorem MU{i j}:VE X (.Constant (.bool i) j pos) (eC (.bl i)):=Zad Zft λ_=>Is.bl i
theorem Hi{j}:VE X (.Constant .none j pos) (eC .non):=Zad DV λ_=>Is.non
end
def RB(K:aJ)(r:R2)(g:PV->PV->Option PV):Prop:=∀(H:Hp)(x y:V)(a b l:PV)(fa fb:List aN),Is K H a x fa->Is K H b y fb->g a b=aA l->∀Q:VK,
 (∀v H' fp,Same H H'->Is K H' l v fp->(∀p∈fp,p∈fa\/p∈fb\/H p=aB)->Q v H')->r x y H Q
def Zg(g:PV->PV->Option PV)(a b:XE):XE:=λs=>(a s).bind λx=>(b s).bind λy=>g x y
theorem RI{g:PV->PV->Option PV}{a b:XE}{s:ZL}{l:PV}(h:Zg g a b s=aA l):∃x y,a s=aA x/\b s=aA y/\g x y=aA l:=by
 unfold Zg at h
 cases q:a s with
 | none=>rw[q] at h;cases h
 | some x=>cases q2:b s with
  | none=>rw[q,q2] at h;cases h
  | some y=>rw[q,q2] at h;exact⟨x,y,rfl,rfl,h⟩
section
variable {X:Cx} {a b:bS} {fa fb:XE} {pos:fZ}
theorem Fc{r:R2}{g:PV->PV->Option PV}(hr:RB K r g):∀σ H Q,tF K (Zg g fa fb) σ H Q->tOp r (tF K fa) (tF K fb) σ H Q:=λσ H Q ⟨Rm,s,l,hd,env,e,k⟩=>by
 obtain⟨x',y',ex,ey,e⟩:=RI e;refine⟨Rm,s,x',hd,env,ex,λx H1 f1 s1 i1 n1=>⟨Rm,s,y',λp hp=>Same.mut s1 (hd p hp),env.mono s1,ey,λy H2 f2 s2 i2 n2=>?_⟩⟩;refine hr H2 x y x' y' l f1 f2 (i1.mono s2) i2 e Q λv H3 fp s3 i3 n3=>k v H3 fp (s1.trans (s2.trans s3)) i3 λp hp z=>?_;rcases n3 p hp with h | h | h
 ·exact n1 p h z
 ·exact n2 p h z
 ·exact Xz (Same.mut (s1.trans s2) (hd p z)) h
theorem WX{op:Operator}{r:R2}{g:PV->PV->Option PV}(ho:Sr X (fK op) r)(hr:RB X.K r g)(ha:VE X a fa)(hb:VE X b fb):VE X (.BinOp a op b pos) (Zg g fa fb):=
 PE.imp (D4 ho ha hb) (Fc hr)
theorem LQ{op:lu}{r:R2}{g:PV->PV->Option PV}(ho:Sr X (dc op) r)(hr:RB X.K r g)(ha:VE X a fa)(hb:VE X b fb)(hm:cq op b=aC):VE X (.Compare a [op] [b] pos) (Zg g fa fb):=
 PE.imp (AO ho ha hb hm) (Fc hr)
theorem Zgs{r:R2}{g:PV->PV->Option PV}(ho:IxR X r)(hr:RB X.K r g)(ha:VE X a fa)(hb:VE X b fb)(hs:LF b):VE X (.Subscript a b pos) (Zg g fa fb):=
 PE.imp (GX ho ha hb hs) (Fc hr)
end
noncomputable def gI(g:Int->Int->Int):PV->PV->Option PV
 | .int i,.int j=>aA (.int (g i j))
 | _,_=>aB
noncomputable def gB(g:Int->Int->Bool):PV->PV->Option PV
 | .int i,.int j=>aA (.bl (g i j))
 | _,_=>aB
noncomputable def Ay(C:Int->Int->Prop)[∀i j,Decidable (C i j)](g:Int->Int->Int):PV->PV->Option PV
 | .int i,.int j=>if C i j then aA (.int (g i j)) else aB
 | _,_=>aB
theorem Zae{g:Int->Int->Int}{a b l:PV}(h:gI g a b=aA l):∃i j,a = .int i/\b = .int j/\l = .int (g i j):=by
 unfold gI at h;split at h
 ·cases h;exact⟨_,_,rfl,rfl,rfl⟩
 ·cases h
theorem Zaf{g:Int->Int->Bool}{a b l:PV}(h:gB g a b=aA l):∃i j,a = .int i/\b = .int j/\l = .bl (g i j):=by
 unfold gB at h;split at h
 ·cases h;exact⟨_,_,rfl,rfl,rfl⟩
 ·cases h
theorem Cp{C:Int->Int->Prop}[∀i j,Decidable (C i j)]{g:Int->Int->Int}{a b l:PV}(h:Ay C g a b=aA l):∃i j,a = .int i/\b = .int j/\C i j/\l = .int (g i j):=by
 unfold Ay at h;split at h
 ·split at h
  ·cases h;exact⟨_,_,rfl,rfl,by assumption,rfl⟩
  ·cases h
 ·cases h
theorem Zgt(g:Int->Int->Int):RB K (AM λi j=>.int (g i j)) (gI g):=λH x y a b l fa fb ha hb e Q k=>by obtain⟨i,j,rfl,rfl,rfl⟩:=Zae e;exact⟨i,j,ha.int_inv.1,hb.int_inv.1,k _ H [] (Same.refl H) (Is.int _) λp hp=>by simp at hp⟩
theorem Cq(g:Int->Int->Bool):RB K (AM λi j=>.bl (g i j)) (gB g):=λH x y a b l fa fb ha hb e Q k=>by obtain⟨i,j,rfl,rfl,rfl⟩:=Zaf e;exact⟨i,j,ha.int_inv.1,hb.int_inv.1,k _ H [] (Same.refl H) (Is.bl _) λp hp=>by simp at hp⟩
theorem Jo(C:Int->Int->Prop)[∀i j,Decidable (C i j)](g:Int->Int->Int):RB K (rI C λi j=>.int (g i j)) (Ay C g):=λH x y a b l fa fb ha hb e Q k=>by obtain⟨i,j,rfl,rfl,c,rfl⟩:=Cp e;exact⟨i,j,ha.int_inv.1,hb.int_inv.1,c,k _ H [] (Same.refl H) (Is.int _) λp hp=>by simp at hp⟩
instance (i j:Int):Decidable (CMul i j):=by unfold CMul;infer_instance
instance (i j:Int):Decidable (Rx i j):=by unfold Rx;infer_instance
instance (i j:Int):Decidable (Zce i j):=by unfold Zce;infer_instance
instance (i j:Int):Decidable (Zga i j):=by unfold Zga;infer_instance
abbrev Yi:=gI (· + ·)
abbrev X3:=gI (· - ·)
abbrev Jp:=Ay CMul (· * ·)
abbrev WA:=Ay Rx (· / ·)
abbrev Wa:=Ay (λ_ j=>0<j) (· % ·)
abbrev oLt:=gB (λi j=>decide (i<j))
abbrev oLe:=gB (λi j=>decide (i<=j))
abbrev MV:=gB (λi j=>decide (j<i))
section
variable {X:Cx} {a b:bS} {fa fb:XE} {pos:fZ}
theorem YC(ha:VE X a fa)(hb:VE X b fb):VE X (.BinOp a .Add b pos) (Zg Yi fa fb):=WX Zdp (Zgt _) ha hb
theorem Wb(ha:VE X a fa)(hb:VE X b fb):VE X (.BinOp a .Sub b pos) (Zg X3 fa fb):=WX Zdq (Zgt _) ha hb
theorem Hj(ha:VE X a fa)(hb:VE X b fb):VE X (.BinOp a .Mult b pos) (Zg Jp fa fb):=WX Zdr (Jo _ _) ha hb
theorem XX(ha:VE X a fa)(hb:VE X b fb):VE X (.BinOp a .FloorDiv b pos) (Zg WA fa fb):=WX AN (Jo _ _) ha hb
theorem Wc(ha:VE X a fa)(hb:VE X b fb):VE X (.BinOp a .Mod b pos) (Zg Wa fa fb):=WX Zds (Jo _ _) ha hb
theorem Zcm(ha:VE X a fa)(hb:VE X b fb):VE X (.Compare a [.Gt] [b] pos) (Zg MV fa fb):=LQ Zcg (Cq _) ha hb (Sz _)
end
def ZC:PV->PV->Option PV
 | .lst l,.int i=>Td l i
 | .cst l,.int i=>Td l i
 | .tup l,.int i=>Td l i
 | .str z,.int i=>if z.length<=sizeLine then(Td z.cps.toList i).map λc=>.str ⟨#[c]⟩ else aB
 | _,_=>aB
theorem Hk{l:List PV}{xs:List V}{H:Hp}{fp:List aN}{i:Int}{a:PV}(h:Iss K H l xs fp)(e:Td l i=aA a):∃x f1,Td xs i=aA x/\Is K H a x f1/\∀p∈f1,p∈fp:=by
 unfold Td at e ⊢;rw[h.len]
 cases q:ML l.length i with
 | none=>rw[q] at e;cases e
 | some j=>rw[q] at e;exact h.get e
theorem Zgu:RB K (rIx K) ZC:=λH x y a b l fa fb ha hb e Q k=>by
 unfold ZC at e;split at e
 ·obtain⟨p,xs,fq,rfl,hp,hi,rfl⟩:=ha.lst_inv;obtain⟨z,f1,h1,h2,h3⟩:=Hk hi e;exact .inl ⟨p,xs,_,z,rfl,hb.int_inv.1,SqL.of hp,h1,k z H f1 (Same.refl H) h2 λq hq=>.inl (aP _ (h3 q hq))⟩
 ·obtain⟨p,xs,rfl,hp,hi⟩:=ha.cst_inv;obtain⟨z,f1,h1,h2,h3⟩:=Hk hi e;exact .inl ⟨p,xs,_,z,rfl,hb.int_inv.1,hp.sq,h1,k z H f1 (Same.refl H) h2 λq hq=>.inl (h3 q hq)⟩
 ·obtain⟨p,xs,rfl,hp,hi⟩:=ha.tup_inv;obtain⟨z,f1,h1,h2,h3⟩:=Hk hi e;exact .inr (.inl ⟨p,xs,_,z,rfl,hb.int_inv.1,SqT.of hp,h1,k z H f1 (Same.refl H) h2 λq hq=>.inl (h3 q hq)⟩)
 ·split at e
  ·cases q:Td _ _ with
   | none=>rw[q] at e;cases e
   | some c=>
    rw[q] at e;cases e;exact .inr (.inr ⟨_,_,c,ha.str_inv.1,hb.int_inv.1,by assumption,q,k _ H [] (Same.refl H) (Is.str _) λp hp=>by simp at hp⟩)
  ·cases e
 ·cases e
section
variable {X:Cx} {a b:bS} {fa fb:XE} {pos:fZ}
theorem Zn(ha:VE X a fa)(hb:VE X b fb)(hs:LF b:=by exact λ_ _=>rfl):VE X (.Subscript a b pos) (Zg ZC fa fb):=Zgs Zdz Zgu ha hb hs
end
abbrev XT:=ZL->Option Bool
def IP(K:aJ)(f:XT):TT:=λσ H Q=>∃(Rm:aN->Prop) (s:ZL) (c:Bool),(∀p,Rm p->Ue (H p))/\EnvIs K Rm H s σ/\f s=aA c/\∀H',Same H H'->Q c H'
def VT(X:Cx)(e:bS)(f:XT):Prop:=PT X e (IP X.K f)
def VW(X:Cx)(e:bS)(f:XT):Prop:=PW X e (IP X.K f)
section
variable {X:Cx} {e:bS} {f:XT}
theorem PT.imp{t t':TT}(h:PT X e t)(i:∀σ H Q,t' σ H Q->t σ H Q):PT X e t':=λnu s σ H Q I q=>h nu s σ H Q I (i σ H Q q)
theorem PW.imp{t t':TT}(h:PW X e t)(i:∀σ H Q,t' σ H Q->t σ H Q):PW X e t':=λwhole nu s σ H Q I q=>h whole nu s σ H Q I (i σ H Q q)
theorem VW.vt(h:VW X e f):VT X e f:=PW.pt h
end
def xB(f:XE):XT:=λs=>match f s with | some (.bl c)=>aA c | _=>aB
theorem RJ{f:XE}{s:ZL}{c:Bool}(h:xB f s=aA c):f s=aA (.bl c):=by
 unfold xB at h;split at h
 ·cases h;assumption
 ·cases h
noncomputable def Zgv:PV->Option Bool
 | .non=>aA aC
 | .bl b=>aA b
 | .int i=>aA (i != 0)
 | .str y=>if y.length<=sizeLine then aA ((y.length:Int) != 0) else aB
 | .lst l=>aA !l.isEmpty
 | .cst l=>aA !l.isEmpty
 | .tup l=>aA !l.isEmpty
 | _=>aB
def xV(f:XE):XT:=λs=>(f s).bind Zgv
section
variable {X:Cx} {a b c:bS} {Zu:List bS} {fa fb:XE} {ga gb:XT} {pos:fZ}
theorem OH(h:VE X a fa)(he:∀whole,l7 a X.env whole=(do let v <-whole;mv a.pos;holding [v] (truthy v)):=by intro _;rfl):VT X a (xB fa):=
 PT.imp (Zda h he) λσ H Q ⟨Rm,s,c,hd,env,e,k⟩=>⟨Rm,s,.bl c,hd,env,RJ e,λv H' fp sm i n=>⟨c,i.bl_inv.1,k H' sm⟩⟩
theorem Jq:∀σ H Q,IP K (xB fa) σ H Q->Jc (tF K fa) σ H Q:=λσ H Q ⟨Rm,s,c,hd,env,e,k⟩=>⟨Rm,s,.bl c,hd,env,RJ e,λv H' fp sm i n=>⟨c,i.bl_inv.1,k H' sm⟩⟩
theorem OI{t t':TE}(i:∀σ H Q,t' σ H Q->t σ H Q):∀σ H Q,Jc t' σ H Q->Jc t σ H Q:=λσ H Q h=>i σ H _ h
theorem Qz{op:lu}{r:R2}{g:PV->PV->Option PV}(ho:Sr X (dc op) r)(hr:RB X.K r g)(ha:VE X a fa)(hb:VE X b fb)(hm:cq op b=aC):VT X (.Compare a [op] [b] pos) (xB (Zg g fa fb)):=
 PT.imp (AQ ho ha hb hm) λσ H Q h=>OI (Fc hr) σ H Q (Jq σ H Q h)
theorem Zcn(ha:VE X a fa)(hb:VE X b fb):VT X (.Compare a [.Lt] [b] pos) (xB (Zg oLt fa fb)):=Qz Zcf (Cq _) ha hb (Sz _)
theorem Jr(ha:VE X a fa)(hb:VE X b fb):VT X (.Compare a [.Gt] [b] pos) (xB (Zg MV fa fb)):=Qz Zcg (Cq _) ha hb (Sz _)
def V5(a b:XT):XT:=λs=>(a s).bind λc=>if c=aD then b s else aA aC
def Cr(a b:XT):XT:=λs=>(a s).bind λc=>if c=aD then aA aD else b s
def Js(a:XT):XT:=λs=>(a s).map not
theorem Zah:∀σ H Q,IP K (V5 ga gb) σ H Q->Zfu (IP K ga) (IP K gb) σ H Q:=λσ H Q ⟨Rm,s,c,hd,env,e,k⟩=>by
 unfold V5 at e
 cases q:ga s with
 | none=>rw[q] at e;cases e
 | some d=>
  rw[q] at e;refine⟨Rm,s,d,hd,env,q,λH1 s1=>?_⟩
  cases d with
  | true=>
   simp only[aO,if_true] at e;rw[oA rfl];exact⟨Rm,s,c,λp hp=>Same.mut s1 (hd p hp),env.mono s1,e,λH2 s2=>k H2 (s1.trans s2)⟩
  | false=>
   simp only[aO,dR,if_false] at e;cases e;rw[oB aw];exact k H1 s1
theorem Zef:∀σ H Q,IP K (Cr ga gb) σ H Q->tOr (IP K ga) (IP K gb) σ H Q:=λσ H Q ⟨Rm,s,c,hd,env,e,k⟩=>by
 unfold Cr at e
 cases q:ga s with
 | none=>rw[q] at e;cases e
 | some d=>
  rw[q] at e;refine⟨Rm,s,d,hd,env,q,λH1 s1=>?_⟩
  cases d with
  | true=>
   simp only[aO,if_true] at e;cases e;rw[oA rfl];exact k H1 s1
  | false=>
   simp only[aO,dR,if_false] at e;rw[oB aw];exact⟨Rm,s,c,λp hp=>Same.mut s1 (hd p hp),env.mono s1,e,λH2 s2=>k H2 (s1.trans s2)⟩
theorem UA(ha:VT X a ga):VW X (.BoolOp .And [a] pos) ga:=AH ha
theorem LR(ha:VT X a ga):VW X (.BoolOp .Or [a] pos) ga:=Zdb ha
theorem SA(ha:VT X a ga)(hb:VW X (.BoolOp .And (b::Zu) pos) gb):VW X (.BoolOp .And (a::b::Zu) pos) (V5 ga gb):=PW.imp (Zdc ha hb) Zah
theorem MW(ha:VT X a ga)(hb:VW X (.BoolOp .Or (b::Zu) pos) gb):VW X (.BoolOp .Or (a::b::Zu) pos) (Cr ga gb):=PW.imp (Zfv ha hb) Zef
theorem LS(ha:VT X a ga):VT X (.UnaryOp .Not a pos) (Js ga):=PT.imp (Zdd ha) λσ H Q ⟨Rm,s,c,hd,env,e,k⟩=>by
 unfold Js at e
 cases q:ga s with
 | none=>rw[q] at e;cases e
 | some d=>rw[q] at e;cases e;exact⟨Rm,s,d,hd,env,q,k⟩
theorem Cs(ha:VE X a fa)(he:∀whole,l7 a X.env whole=(do let v <-whole;mv a.pos;holding [v] (truthy v)):=by intro _;rfl):VT X a (xV fa):=
 PT.imp (D7 ha he) λσ H Q ⟨Rm,s,c,hd,env,e,k⟩=>by
 unfold xV at e
 cases q:fa s with
 | none=>rw[q] at e;cases e
 | some l=>
  rw[q] at e;simp only[aO] at e;refine⟨Rm,s,l,hd,env,q,λv H' fp sm i n=>⟨c,?_,k H' sm⟩⟩
  cases l with
  | non=>rw[i.non_inv.1];cases e;rfl
  | bl b=>rw[i.bl_inv.1];cases e;rfl
  | int j=>rw[i.int_inv.1];cases e;rfl
  | str y=>
   rw[i.str_inv.1];simp only[Zgv] at e;split at e
   ·cases e;exact⟨by assumption,rfl⟩
   ·cases e
  | lst l=>
   obtain⟨p,xs,fq,rfl,hp,hi,_⟩:=i.lst_inv;cases e;refine .inl ⟨xs,SqL.of hp,?_⟩;have:=hi.len;cases xs<;>cases l<;>simp at this ⊢
  | cst l=>
   obtain⟨p,xs,rfl,hp,hi⟩:=i.cst_inv;cases e;refine .inl ⟨xs,hp.sq,?_⟩;have:=hi.len;cases xs<;>cases l<;>simp at this ⊢
  | tup l=>
   obtain⟨p,xs,rfl,hp,hi⟩:=i.tup_inv;cases e;refine .inr (.inl ⟨xs,SqT.of hp,?_⟩);have:=hi.len;cases xs<;>cases l<;>simp at this ⊢
  | ty n=>cases e
  | exc C=>cases e
  | exf C l=>cases e
  | clo C l=>cases e
  | dK ks l=>cases e
  | dT ks l=>cases e
end
section
variable {X:Cx} {a b c:bS} {Zu:List bS} {fa fb:XE} {gc:XT} {pos:fZ}
noncomputable def Mo(a b:XE):XE:=λs=>(xB a s).bind λc=>if c=aD then b s else aA (.bl aC)
noncomputable def eOr(a b:XE):XE:=λs=>(xB a s).bind λc=>if c=aD then aA (.bl aD) else b s
noncomputable def Zai(a:XE):XE:=λs=>(xB a s).map λc=>.bl !c
def PM(c:XT)(a b:XE):XE:=λs=>(c s).bind λk=>if k=aD then a s else b s
theorem OJ{op}(h:VE X a fa):VE X (.BoolOp op [a] pos) fa:=Zde h
theorem QA(ha:VE X a fa)(hb:VE X (.BoolOp .And (b::Zu) pos) fb):VE X (.BoolOp .And (a::b::Zu) pos) (Mo fa fb):=PE.imp (Zdf ha hb) λσ H Q ⟨Rm,s,l,hd,env,e,k⟩=>by
 unfold Mo at e
 cases q:xB fa s with
 | none=>rw[q] at e;cases e
 | some d=>
  rw[q] at e;refine⟨Rm,s,.bl d,hd,env,RJ q,λv H1 fp s1 i1 _=>⟨d,i1.bl_inv.1,?_⟩⟩
  cases d with
  | true=>
   simp only[aO,if_true] at e;rw[oA rfl];exact⟨Rm,s,l,λp hp=>Same.mut s1 (hd p hp),env.mono s1,e,λv2 H2 fp2 s2 i2 n2=>k v2 H2 fp2 (s1.trans s2) i2 n2⟩
  | false=>
   simp only[aO,dR,if_false] at e;cases e;rw[oB aw];exact k _ H1 [] s1 (Is.bl aC) λp hp=>by simp at hp
theorem Zeg(ha:VE X a fa):VE X (.UnaryOp .Not a pos) (Zai fa):=PE.imp (Zdg ha) λσ H Q ⟨Rm,s,l,hd,env,e,k⟩=>by
 unfold Zai at e
 cases q:xB fa s with
 | none=>rw[q] at e;cases e
 | some d=>
  rw[q] at e;cases e;exact⟨Rm,s,.bl d,hd,env,RJ q,λv H1 fp s1 i1 _=>⟨d,i1.bl_inv.1,k _ H1 [] s1 (Is.bl _) λp hp=>by simp at hp⟩⟩
theorem MX(hc:VT X c gc)(ha:VE X a fa)(hb:VE X b fb):VE X (.IfExp c a b pos) (PM gc fa fb):=PE.imp (DY hc ha hb) λσ H Q ⟨Rm,s,l,hd,env,e,k⟩=>by
 unfold PM at e
 cases q:gc s with
 | none=>rw[q] at e;cases e
 | some d=>
  rw[q] at e;refine⟨Rm,s,d,hd,env,q,λH1 s1=>?_⟩
  cases d with
  | true=>
   simp only[aO,if_true] at e;rw[oA rfl];exact⟨Rm,s,l,λp hp=>Same.mut s1 (hd p hp),env.mono s1,e,λv2 H2 fp2 s2 i2 n2=>k v2 H2 fp2 (s1.trans s2) i2 n2⟩
  | false=>
   simp only[aO,dR,if_false] at e;rw[oB aw];exact⟨Rm,s,l,λp hp=>Same.mut s1 (hd p hp),env.mono s1,e,λv2 H2 fp2 s2 i2 n2=>k v2 H2 fp2 (s1.trans s2) i2 n2⟩
end
section
variable {X:Cx} {a b c:bS} {fa fb fc:XE} {pos:fZ}
noncomputable def Jt(neg:Bool):PV->Option PV
 | .non=>aA (.bl !neg)
 | _=>aA (.bl neg)
def OK:PV->Bool
 | .non=>aD
 | _=>aC
theorem Hl{H:Hp}{l:PV}{v:V}{fp:List aN}(i:Is K H l v fp):decide (v=V.non)=OK l:=by
 cases l with
 | non=>rw[i.non_inv.1];rfl
 | bl b=>rw[i.bl_inv.1];rfl
 | int j=>rw[i.int_inv.1];rfl
 | str y=>rw[i.str_inv.1];rfl
 | ty n=>rw[i.ty_inv.1];rfl
 | exc C=>simp only[Is] at i;obtain⟨⟨e,o,x,C,rfl,_⟩,_⟩:=i;rfl
 | exf C l=>simp only[Is] at i;obtain⟨⟨e,o,x,C,dx,od,u,z,rfl,_⟩,_⟩:=i;rfl
 | clo C l=>simp only[Is] at i;obtain⟨u,x,⟨f,fo,c,oc,e,eo,pm,ct,rfl,_⟩,_⟩:=i;rfl
 | lst l=>obtain⟨p,xs,fq,rfl,_⟩:=i.lst_inv;rfl
 | cst l=>obtain⟨p,xs,rfl,_⟩:=i.cst_inv;rfl
 | tup l=>obtain⟨p,xs,rfl,_⟩:=i.tup_inv;rfl
 | dK ks l=>obtain⟨p,xs,fq,rfl,_⟩:=i.dK_inv;rfl
 | dT ks l=>obtain⟨p,xs,fq,rfl,_⟩:=i.dT_inv;rfl
def OL(neg:Bool)(a:XE):XE:=λs=>(a s).bind (Jt neg)
theorem Ct:∀σ H Q,tF K (OL aD fa) σ H Q->Zcb (tF K fa) σ H Q:=λσ H Q ⟨Rm,s,l,hd,env,e,k⟩=>by
 unfold OL at e
 cases q:fa s with
 | none=>rw[q] at e;cases e
 | some m=>
  rw[q] at e;simp only[aO] at e;refine⟨Rm,s,m,hd,env,q,λv H1 fp s1 i1 _=>?_⟩;show Q _ H1;rw[Hl i1];have:l = .bl (!OK m):=by cases m<;>cases e<;>rfl
  subst this;exact k _ H1 [] s1 (Is.bl _) λp hp=>by simp at hp
theorem Zco:∀σ H Q,IP K (xB fa) σ H Q->tB (tF K fa) σ H Q:=λσ H Q ⟨Rm,s,c,hd,env,e,k⟩=>⟨Rm,s,.bl c,hd,env,RJ e,λv H' fp sm i n=>⟨c,i.bl_inv.1,k H' sm⟩⟩
theorem Fe{t t':TE}(i:∀σ H Q,t' σ H Q->t σ H Q):∀σ H Q,tB t' σ H Q->tB t σ H Q:=λσ H Q h=>i σ H _ h
theorem LU{j pos'}(ha:VE X a fa):VT X (.Compare a [.IsNot] [.Constant .none j pos'] pos) (xB (OL aD fa)):=PT.imp (DX (AG ha)) λσ H Q h=>Fe Ct σ H Q (Zco σ H Q h)
def QB:PV->Option PV
 | .int i=>aA (.int (-i))
 | _=>aB
def Ju(g:PV->Option PV)(a:XE):XE:=λs=>(a s).bind g
theorem LV(ha:VE X a fa):VE X (.UnaryOp .USub a pos) (Ju QB fa):=PE.imp (Zf7 Zdt ha) λσ H Q ⟨Rm,s,l,hd,env,e,k⟩=>by
 unfold Ju at e
 cases q:fa s with
 | none=>rw[q] at e;cases e
 | some m=>
  rw[q] at e;simp only[aO] at e;unfold QB at e;split at e
  ·cases e;exact⟨Rm,s,_,hd,env,q,λv H1 fp s1 i1 _=>⟨_,i1.int_inv.1,k _ H1 [] s1 (Is.int _) λp hp=>by simp at hp⟩⟩
  ·cases e
end
end VL
namespace VL
open PySem PySem.Spec PyProof.Rows L2
variable {K:aJ}
noncomputable def QC:List XE->ZL->Option (List PV)
 | [],_=>aA []
 | f::fs,s=>(f s).bind λx=>(QC fs s).map (x::·)
theorem OM{f:XE}{fs:List XE}{s:ZL}{ls:List PV}(h:QC (f::fs) s=aA ls):∃x r,f s=aA x/\QC fs s=aA r/\ls=x::r:=by
 unfold QC at h
 cases q:f s with
 | none=>rw[q] at h;cases h
 | some x=>cases q2:QC fs s with
  | none=>rw[q,q2] at h;cases h
  | some r=>rw[q,q2] at h;cases h;exact⟨x,r,rfl,rfl,rfl⟩
theorem VJ:∀{fs:List XE}{s:ZL}{ls:List PV},QC fs s=aA ls->ls.length=fs.length
 | [],_,_,h=>by cases h;rfl
 | f::fs,s,ls,h=>by obtain⟨x,r,_,h2,rfl⟩:=OM h;rw[bB,bB,VJ h2]
def tFA(K:aJ)(fs:List XE):TA:=λσ H Q=>∃(Rm:aN->Prop) (s:ZL) (ls:List PV),(∀p,Rm p->Ue (H p))/\EnvIs K Rm H s σ/\QC fs s=aA ls/\∀vs H' fp,Same H H'->Iss K H' ls vs fp->(∀p∈fp,¬Rm p)->Q vs H'
def tMA(K:aJ)(fs:List XE):TA:=λσ H Q=>∃(s:ZL) (ls:List PV),EnvIs K (λ_=>False) H s σ/\QC fs s=aA ls/\∀vs H' fp,Same H H'->Iss K H' ls vs fp->fp.Nodup->(∀p∈fp,H p=aB/\Ue (H' p))->Q vs H'
def VA(X:Cx)(es:List bS)(fs:List XE):Prop:=PA X es (tFA X.K fs)
def VMA(X:Cx)(es:List bS)(fs:List XE):Prop:=PA X es (tMA X.K fs)
section
variable {X:Cx} {e:bS} {es:List bS} {f:XE} {fs:List XE} {pos:fZ} {k:Nat}
theorem PA.imp{t t':TA}(h:PA X es t)(i:∀σ H Q,t' σ H Q->t σ H Q):PA X es t':=λpos nu s σ H Q I q=>h pos nu s σ H Q I (i σ H Q q)
theorem LW:VA X [] []:=PA.imp Xu λσ H Q ⟨Rm,s,ls,hd,env,e,k⟩=>by
 cases e;exact k [] H [] (Same.refl H) Iss.nil λp hp=>by simp at hp
theorem VN(ha:VE X e f)(hr:VA X es fs)(hs:aV (e::es) X.env=(aC,eval e X.env)::aV es X.env:=by rfl):VA X (e::es) (f::fs):=PA.imp (Z7 ha hr hs) λσ H Q ⟨Rm,s,ls,hd,env,e,k⟩=>by
 obtain⟨x',r',h1,h2,rfl⟩:=OM e;refine⟨Rm,s,x',hd,env,h1,λx H1 f1 s1 i1 n1=>⟨Rm,s,r',λp hp=>Same.mut s1 (hd p hp),env.mono s1,h2,λxs H2 f2 s2 i2 n2=>?_⟩⟩;refine k _ H2 (f1++f2) (s1.trans s2) (Iss.cons (i1.mono s2) i2) λp hp=>?_;rcases aq.mp hp with h | h
 ·exact n1 p h
 ·exact n2 p h
theorem XA:VMA X [] []:=PA.imp Xu λσ H Q ⟨s,ls,env,e,k⟩=>by
 cases e;exact k [] H [] (Same.refl H) Iss.nil cG λp hp=>by simp at hp
theorem WB(ha:VM X e f)(hr:VMA X es fs)(hs:aV (e::es) X.env=(aC,eval e X.env)::aV es X.env:=by rfl):VMA X (e::es) (f::fs):=PA.imp (Z7 ha hr hs) λσ H Q ⟨s,ls,env,e,k⟩=>by
 obtain⟨x',r',h1,h2,rfl⟩:=OM e;refine⟨s,x',env,h1,λx H1 f1 s1 i1 d1 n1=>⟨s,r',env.mono s1,h2,λxs H2 f2 s2 i2 d2 n2=>?_⟩⟩;refine k _ H2 (f1++f2) (s1.trans s2) (Iss.cons (i1.mono s2) i2) ?_ λp hp=>?_
 ·refine dG.mpr ⟨d1,d2,λa ha b hb z=>?_⟩;subst z;exact Xz (n1 a ha).2 (n2 a hb).1
 ·rcases aq.mp hp with h | h
  ·exact⟨(n1 p h).1,Same.mut s2 (n1 p h).2⟩
  ·exact⟨Same.off s1 (n2 p h).1,(n2 p h).2⟩
def Yp(fs:List XE):XE:=λs=>(QC fs s).map .tup
def Xc(fs:List XE):XE:=λs=>(QC fs s).map .lst
theorem map_some{α β:Type}{o:Option α}{g:α->β}{b:β}(h:o.map g=aA b):∃a,o=aA a/\b=g a:=by
 cases o with
 | none=>cases h
 | some a=>cases h;exact⟨a,rfl,rfl⟩
theorem Y8(h:VA X es fs)(hl:fs.length<=1000:=by decide):VE X (.Tuple es k pos) (Yp fs):=PE.imp (IX h) λσ H Q ⟨Rm,s,l,hd,env,e,q⟩=>by
 obtain⟨ls,e1,rfl⟩:=map_some e;refine⟨Rm,s,ls,hd,env,e1,λvs H1 fp s1 i1 n1=>⟨?_,λp hp=>?_⟩⟩
 ·rw[i1.len,VJ e1];exact cZ (lt_size (by omega))
 ·exact q _ _ fp (s1.trans (Same.new hp _)) (Is.tup upd_same (i1.mono (Same.new hp _))) n1
theorem Zeh(h:VMA X es fs)(hl:fs.length<=1000:=by decide):VM X (.Tuple es k pos) (Yp fs):=PE.imp (IX h) λσ H Q ⟨s,l,env,e,q⟩=>by
 obtain⟨ls,e1,rfl⟩:=map_some e;refine⟨s,ls,env,e1,λvs H1 fp s1 i1 d1 n1=>⟨?_,λp hp=>?_⟩⟩
 ·rw[i1.len,VJ e1];exact cZ (lt_size (by omega))
 ·exact q _ _ fp (s1.trans (Same.new hp _)) (Is.tup upd_same (i1.mono (Same.new hp _))) d1 λa ha=>⟨(n1 a ha).1,Same.mut (Same.new hp _) (n1 a ha).2⟩
theorem Ti(h:VA X es fs)(hl:fs.length<=1000:=by decide):VE X (.List es pos) (Xc fs):=PE.imp (IY h) λσ H Q ⟨Rm,s,l,hd,env,e,q⟩=>by
 obtain⟨ls,e1,rfl⟩:=map_some e;refine⟨Rm,s,ls,hd,env,e1,λvs H1 fp s1 i1 n1=>⟨?_,λp hp=>?_⟩⟩
 ·rw[i1.len,VJ e1];exact cZ (lt_size (by omega))
 ·refine q _ _ (p::fp) (s1.trans (Same.new hp _)) (Is.lst upd_same (i1.mono (Same.new hp _))) λa ha z=>?_;rcases aa.mp ha with rfl | ha
  ·exact Xz (Same.mut s1 (hd a z)) hp
  ·exact n1 a ha z
theorem Vg(h:VMA X es fs)(hl:fs.length<=1000:=by decide):VM X (.List es pos) (Xc fs):=PE.imp (IY h) λσ H Q ⟨s,l,env,e,q⟩=>by
 obtain⟨ls,e1,rfl⟩:=map_some e;refine⟨s,ls,env,e1,λvs H1 fp s1 i1 d1 n1=>⟨?_,λp hp=>?_⟩⟩
 ·rw[i1.len,VJ e1];exact cZ (lt_size (by omega))
 ·refine q _ _ (p::fp) (s1.trans (Same.new hp _)) (Is.lst upd_same (i1.mono (Same.new hp _))) (ar.mpr ⟨λz=>Xz (n1 p z).2 hp,d1⟩) λa ha=>?_;rcases aa.mp ha with rfl | ha
  ·exact⟨Same.off s1 hp,by rw[upd_same];exact bj⟩
  ·exact⟨(n1 a ha).1,Same.mut (Same.new hp _) (n1 a ha).2⟩
theorem ON:VM X (.Dict [] [] pos) (eC (.dT [] [])):=PE.imp Cf λσ H Q ⟨s,l,env,e,q⟩ p hp=>by
 cases e;exact q _ _ [p] (Same.new hp _) (Is.dT upd_same rfl Iss.nil) (by simp) λa ha=>by rw[aR.mp ha];exact⟨hp,by rw[upd_same];exact bj⟩
end
def Xd(K:aJ)(D:List PV->Option PV)(n:Nat):Sp:=λvs H Q _=>vs.length=n/\∃ls fp l,Iss K H ls vs fp/\D ls=aA l/\∀v H' fq,Same H H'->Is K H' l v fq->fq.Nodup->(∀p∈fq,H p=aB/\Ue (H' p))->Q v H'
def Zc(D:List PV->Option PV)(fs:List XE):XE:=λs=>(QC fs s).bind D
theorem Zd{α β:Type}{o:Option α}{g:α->Option β}{b:β}(h:o.bind g=aA b):∃a,o=aA a/\g a=aA b:=by
 cases o with
 | none=>cases h
 | some a=>exact⟨a,rfl,h⟩
section
variable {X:Cx} {x:bH} {ps:List bH} {k:Nat} {e:bS} {es:List bS} {fs:List XE} {p pos:fZ}
theorem Ff{D:List PV->Option PV}{n:Nat}(C:XW X.prog X.w X.K X.mg X.base x ps (Xd X.K D n) k)(hr:Room k X.A)(hg:Gl X x)(ha:VA X (e::es) fs)(hn:fs.length=n:=by rfl)
  (hdb:(x==("__debug__" : bH))=aC:=by decide) (he:aV (e::es) X.env=(aC,eval e X.env)::aV es X.env:=by rfl) (hpl:(eI pos (aV es X.env)).any (·.1)=aC:=by rfl) :
  VM X (.Call (.Name x p) (e::es) [] pos) (Zc D fs):=PE.imp (Zeb C hr hg ha hdb he hpl) λσ H Q ⟨s,l,env,e,q⟩=>by
 obtain⟨ls,e1,e2⟩:=Zd e;refine⟨λ_=>False,s,ls,λ_ z=>z.elim,env,e1,λvs H1 fp s1 i1 n1=>?_⟩;show Xd X.K D n (vs++[]) H1 Q E0;rw[di];exact⟨by rw[i1.len,VJ e1,hn],ls,fp,l,i1,e2,λv H2 fq s2 i2 d2 n2=>q v H2 fq (s1.trans s2) i2 d2 λa ha=>⟨Same.off s1 (n2 a ha).1,(n2 a ha).2⟩⟩
end
def RC(K:aJ)(r:List V->Hp->VK->Prop)(g:List PV->Option PV):Prop:=∀(H:Hp)(vs:List V)(ls:List PV)(l:PV)(fp:List aN),Iss K H ls vs fp->g ls=aA l->∀Q:VK,
 (∀v H' fq,Same H H'->Is K H' l v fq->(∀p∈fq,p∈fp\/H p=aB)->Q v H')->r vs H Q
def RCM(K:aJ)(r:List V->Hp->VK->Prop)(g:List PV->Option PV):Prop:=∀(H:Hp)(vs:List V)(ls:List PV)(l:PV)(fp:List aN),Iss K H ls vs fp->g ls=aA l->∀Q:VK,
 (∀v H' fq,Same H H'->Is K H' l v fq->fq.Nodup->(∀p∈fq,H p=aB/\Ue (H' p))->Q v H')->r vs H Q
theorem Zcp{r:List V->Hp->VK->Prop}{g:List PV->Option PV}{fs:List XE}(hr:RC K r g):∀σ H Q,tF K (Zc g fs) σ H Q->tCB r (tFA K fs) σ H Q:=λσ H Q ⟨Rm,s,l,hd,env,e,k⟩=>by
 obtain⟨ls,e1,e2⟩:=Zd e;refine⟨Rm,s,ls,hd,env,e1,λvs H1 fp s1 i1 n1=>hr H1 vs ls l fp i1 e2 Q λv H2 fq s2 i2 n2=>k v H2 fq (s1.trans s2) i2 λp hp z=>?_⟩;rcases n2 p hp with h | h
 ·exact n1 p h z
 ·exact Xz (Same.mut s1 (hd p z)) h
theorem Zcq{r:List V->Hp->VK->Prop}{g:List PV->Option PV}{fs:List XE}(hr:RCM K r g):∀σ H Q,tM K (Zc g fs) σ H Q->tCB r (tFA K fs) σ H Q:=λσ H Q ⟨s,l,env,e,k⟩=>by obtain⟨ls,e1,e2⟩:=Zd e;exact⟨λ_=>False,s,ls,λ_ z=>z.elim,env,e1,λvs H1 fp s1 i1 n1=>hr H1 vs ls l fp i1 e2 Q λv H2 fq s2 i2 d2 n2=>k v H2 fq (s1.trans s2) i2 d2 λp hp=>⟨Same.off s1 (n2 p hp).1,(n2 p hp).2⟩⟩
section
variable {X:Cx} {x:bH} {k:Nat} {e:bS} {es:List bS} {fs:List XE} {p pos:fZ} {id T:String} {r:List V->Hp->VK->Prop} {g:List PV->Option PV}
theorem Jw(hc:XU X (.builtin id) r)(hr:RC X.K r g)(hg:Gl X x)(hm:X.mg x=aB)(hv:cw x=aA (.builtin id))(ha:VA X (e::es) fs)(hn:x≠"__name__":=by decide)(hdb:(x==("__debug__" : bH))=aC:=by decide)
  (he:aV (e::es) X.env=(aC,eval e X.env)::aV es X.env:=by rfl) (hpl:(eI pos (aV es X.env)).any (·.1)=aC:=by rfl):VE X (.Call (.Name x p) (e::es) [] pos) (Zc g fs):=
 PE.imp (Je hc hg hm hv ha hn hdb he hpl) (Zcp hr)
theorem Cu(hc:XU X (.builtin id) r)(hr:RCM X.K r g)(hg:Gl X x)(hm:X.mg x=aB)(hv:cw x=aA (.builtin id))(ha:VA X (e::es) fs)(hn:x≠"__name__":=by decide)(hdb:(x==("__debug__" : bH))=aC:=by decide)
  (he:aV (e::es) X.env=(aC,eval e X.env)::aV es X.env:=by rfl) (hpl:(eI pos (aV es X.env)).any (·.1)=aC:=by rfl):VM X (.Call (.Name x p) (e::es) [] pos) (Zc g fs):=
 PE.imp (Je hc hg hm hv ha hn hdb he hpl) (Zcq hr)
theorem Z3(hc:XU X (.type T) r)(hr:RC X.K r g)(hg:Gl X x)(hm:X.mg x=aB)(hv:cw x=aA (.type T))(ha:VA X (e::es) fs)(hn:x≠"__name__":=by decide)(hdb:(x==("__debug__" : bH))=aC:=by decide)
  (he:aV (e::es) X.env=(aC,eval e X.env)::aV es X.env:=by rfl) (hpl:(eI pos (aV es X.env)).any (·.1)=aC:=by rfl):VE X (.Call (.Name x p) (e::es) [] pos) (Zc g fs):=
 PE.imp (MK hc hg hm hv ha hn hdb he hpl) (Zcp hr)
theorem MY(hc:XU X (.type T) r)(hr:RCM X.K r g)(hg:Gl X x)(hm:X.mg x=aB)(hv:cw x=aA (.type T))(ha:VA X (e::es) fs)(hn:x≠"__name__":=by decide)(hdb:(x==("__debug__" : bH))=aC:=by decide)
  (he:aV (e::es) X.env=(aC,eval e X.env)::aV es X.env:=by rfl) (hpl:(eI pos (aV es X.env)).any (·.1)=aC:=by rfl):VM X (.Call (.Name x p) (e::es) [] pos) (Zc g fs):=
 PE.imp (MK hc hg hm hv ha hn hdb he hpl) (Zcq hr)
end
theorem Iss.one_inv{H:Hp}{l:PV}{vs:List V}{fp:List aN}(h:Iss K H [l] vs fp):∃v,vs=[v]/\Is K H l v fp:=by obtain⟨x,r,f1,f2,rfl,a,b,rfl⟩:=h.inv;simp only[Iss] at b;rw[b.1,b.2,di];exact⟨x,rfl,a⟩
theorem Iss.two_inv{H:Hp}{l m:PV}{vs:List V}{fp:List aN}(h:Iss K H [l,m] vs fp):∃v w f1 f2,vs=[v,w]/\Is K H l v f1/\Is K H m w f2/\fp=f1++f2:=by obtain⟨x,r,f1,f2,rfl,a,b,rfl⟩:=h.inv;obtain⟨y,rfl,c⟩:=b.one_inv;exact⟨x,y,f1,f2,rfl,a,c,rfl⟩
noncomputable def PN:PV->Option (List PV)
 | .lst l=>aA l
 | .cst l=>aA l
 | .tup l=>aA l
 | _=>aB
theorem UB{H:Hp}{l:PV}{v:V}{fp:List aN}{m:List PV}(h:Is K H l v fp)(e:PN l=aA m):∃p xs fq,v = .ref p/\(SqL K H p xs\/SqT K H p xs)/\Iss K H m xs fq/\∀q∈fq,q∈fp:=by
 cases l with
 | lst l=>
  cases e;obtain⟨p,xs,fq,rfl,hp,hi,rfl⟩:=h.lst_inv;exact⟨p,xs,fq,rfl,.inl (SqL.of hp),hi,λq hq=>aP _ hq⟩
 | cst l=>
  cases e;obtain⟨p,xs,rfl,hp,hi⟩:=h.cst_inv;exact⟨p,xs,fp,rfl,.inl hp.sq,hi,λq hq=>hq⟩
 | tup l=>
  cases e;obtain⟨p,xs,rfl,hp,hi⟩:=h.tup_inv;exact⟨p,xs,fp,rfl,.inr (SqT.of hp),hi,λq hq=>hq⟩
 | _=>cases e
noncomputable def ZR:List PV->Option PV
 | [.str z]=>if z.length<=sizeLine then aA (.int z.length) else aB
 | [l]=>(PN l).map λm=>.int m.length
 | _=>aB
theorem Zei:RC K (λxs H Q=>∃x n,xs=[x]/\Zgd K x H n/\Q (.int n) H) ZR:=λH vs ls l fp h e Q k=>by
 unfold ZR at e;split at e
 ·split at e
  ·cases e;obtain⟨v,rfl,i⟩:=h.one_inv;exact⟨v,_,rfl,by rw[i.str_inv.1];exact⟨by assumption,rfl⟩,k _ H [] (Same.refl H) (Is.int _) λp hp=>by simp at hp⟩
  ·cases e
 ·obtain⟨m,e1,rfl⟩:=map_some e;obtain⟨v,rfl,i⟩:=h.one_inv;obtain⟨p,xs,fq,rfl,hp,hi,_⟩:=UB (K:=K) i e1;refine⟨_,xs.length,rfl,?_,?_⟩
  ·rcases hp with hp | hp
   ·exact .inl ⟨xs,hp,rfl⟩
   ·exact .inr ⟨xs,hp,rfl⟩
  ·rw[hi.len];exact k _ H [] (Same.refl H) (Is.int _) λp hp=>by simp at hp
 ·cases e
def YD:List PV->Option PV
 | [l]=>(PN l).map .tup
 | _=>aB
theorem YQ:RC K (Zed K) YD:=λH vs ls l fp h e Q k=>by
 unfold YD at e;split at e
 ·obtain⟨m,e1,rfl⟩:=map_some e;obtain⟨v,rfl,i⟩:=h.one_inv;rename_i l0
  cases l0 with
  | tup l=>
   cases e1;obtain⟨p,xs,rfl,hp,hi⟩:=id i.tup_inv;exact⟨p,xs,rfl,.inr ⟨SqT.of hp,k _ H fp (Same.refl H) i λa ha=>.inl ha⟩⟩
  | lst l=>
   cases e1;obtain⟨p,xs,fq,rfl,hp,hi,rfl⟩:=i.lst_inv;exact⟨p,xs,rfl,.inl ⟨SqL.of hp,λq hq=>k _ _ fq (Same.new hq _) (Is.tup upd_same (hi.mono (Same.new hq _))) λa ha=>.inl (aP _ ha)⟩⟩
  | cst l=>
   cases e1;obtain⟨p,xs,rfl,hp,hi⟩:=i.cst_inv;exact⟨p,xs,rfl,.inl ⟨hp.sq,λq hq=>k _ _ fp (Same.new hq _) (Is.tup upd_same (hi.mono (Same.new hq _))) λa ha=>.inl ha⟩⟩
  | _=>cases e1
 ·cases e
def UC:List PV->Option PV
 | [l]=>(PN l).bind λm=>if ZD m=aD then aA (.lst m) else aB
 | _=>aB
theorem Jx:RCM K (A8 K) UC:=λH vs ls l fp h e Q k=>by
 unfold UC at e;split at e
 ·obtain⟨m,e1,e2⟩:=Zd e;split at e2
  ·cases e2;obtain⟨v,rfl,i⟩:=h.one_inv;obtain⟨p,xs,fq,rfl,hp,hi,hs⟩:=UB (K:=K) i e1;have:=Iss.pure _ _ _ (by assumption) hi;subst this;refine⟨p,xs,rfl,hp,λq hq=>k _ _ [q] (Same.new hq _) (Is.lst upd_same (hi.mono (Same.new hq _))) (by simp) λa ha=>?_⟩;rw[aR.mp ha];exact⟨hq,by rw[upd_same];exact bj⟩
  ·cases e2
 ·cases e
noncomputable def Vh:List PV->Option (List Int)
 | []=>aA []
 | .int i::r=>(Vh r).map (i::·)
 | _=>aB
theorem WC:∀l:List Int,Vh (iL l)=aA l
 | []=>rfl
 | i::r=>by show(Vh (iL r)).map (i::·)=_;rw[WC r];rfl
theorem VP:∀{m:List PV}{l:List Int},Vh m=aA l->m=iL l
 | [],l,h=>by cases h;rfl
 | .int i::r,l,h=>by obtain⟨a,e,rfl⟩:=map_some (show(Vh r).map (i::·)=aA l from h);rw[VP e];rfl
 | .non::_,_,h=>by cases h
 | .bl _::_,_,h=>by cases h
 | .str _::_,_,h=>by cases h
 | .ty _::_,_,h=>by cases h
 | .exc _::_,_,h=>by cases h
 | .exf _ _::_,_,h=>by cases h
 | .clo _ _::_,_,h=>by cases h
 | .tup _::_,_,h=>by cases h
 | .lst _::_,_,h=>by cases h
 | .cst _::_,_,h=>by cases h
 | .dK _ _::_,_,h=>by cases h
 | .dT _ _::_,_,h=>by cases h
abbrev bL(l:List Bool):List PV:=l.map PV.bl
noncomputable def T6:List PV->Option (List Bool)
 | []=>aA []
 | .bl i::r=>(T6 r).map (i::·)
 | _=>aB
theorem Sv:∀l:List Bool,T6 (bL l)=aA l
 | []=>rfl
 | i::r=>by show(T6 (bL r)).map (i::·)=_;rw[Sv r];rfl
theorem RK:∀{m:List PV}{l:List Bool},T6 m=aA l->m=bL l
 | [],l,h=>by cases h;rfl
 | .bl i::r,l,h=>by obtain⟨a,e,rfl⟩:=map_some (show(T6 r).map (i::·)=aA l from h);rw[RK e];rfl
 | .non::_,_,h=>by cases h
 | .int _::_,_,h=>by cases h
 | .str _::_,_,h=>by cases h
 | .ty _::_,_,h=>by cases h
 | .exc _::_,_,h=>by cases h
 | .exf _ _::_,_,h=>by cases h
 | .clo _ _::_,_,h=>by cases h
 | .tup _::_,_,h=>by cases h
 | .lst _::_,_,h=>by cases h
 | .cst _::_,_,h=>by cases h
 | .dK _ _::_,_,h=>by cases h
 | .dT _ _::_,_,h=>by cases h
theorem Iss.bL{H:Hp}:∀{l:List Bool}{xs:List V}{fp:List aN},Iss K H (VL.bL l) xs fp->xs=l.map V.bl/\fp=[]
 | [],xs,fp,h=>by simpa only[VL.bL,dq,Iss] using h
 | i::l,xs,fp,h=>by obtain⟨x,r,f1,f2,rfl,h1,h2,rfl⟩:=Iss.inv (show Iss K H (PV.bl i::VL.bL l) xs fp from h);obtain⟨rfl,rfl⟩:=h1.bl_inv;obtain⟨rfl,rfl⟩:=h2.bL;exact⟨rfl,rfl⟩
theorem Hm{H:Hp}{p:aN}{xs:List V}(h:SqL K H p xs\/SqT K H p xs):∃b,Mg b K H p xs:=by
 rcases h with h | h
 ·exact⟨aD,h⟩
 ·exact⟨aC,h⟩
def PQ:List PV->Option PV
 | [l]=>(PN l).bind λm=>(Vh m).map λns=>.int ns.sum
 | _=>aB
def EI:List PV->Option PV
 | [l]=>(PN l).bind λm=>(T6 m).map λbs=>.bl (bs.all id)
 | _=>aB
theorem OO:RC K (λxs H Q=>∃(b:Bool) (p:aN) (ns:List Int),xs=[.ref p]/\Mg b K H p (ns.map V.int)/\Q (.int ns.sum) H) PQ:=λH vs ls l fp h e Q k=>by
 unfold PQ at e;split at e
 ·obtain⟨m,e1,e2⟩:=Zd e;obtain⟨ns,e3,rfl⟩:=map_some e2;obtain⟨v,rfl,i⟩:=h.one_inv;obtain⟨p,xs,fq,rfl,hp,hi,hs⟩:=UB (K:=K) i e1;have em:=VP e3;subst em;obtain⟨rfl,rfl⟩:=hi.iL;obtain⟨b,hb⟩:=Hm hp;exact⟨b,p,ns,rfl,hb,k _ H [] (Same.refl H) (Is.int _) λp hp=>by simp at hp⟩
 ·cases e
theorem Zej:RC K (λxs H Q=>∃(b:Bool) (p:aN) (bs:List Bool),xs=[.ref p]/\Mg b K H p (bs.map V.bl)/\Q (.bl (bs.all id)) H) EI:=λH vs ls l fp h e Q k=>by
 unfold EI at e;split at e
 ·obtain⟨m,e1,e2⟩:=Zd e;obtain⟨ns,e3,rfl⟩:=map_some e2;obtain⟨v,rfl,i⟩:=h.one_inv;obtain⟨p,xs,fq,rfl,hp,hi,hs⟩:=UB (K:=K) i e1;have em:=RK e3;subst em;obtain⟨rfl,rfl⟩:=hi.bL;obtain⟨b,hb⟩:=Hm hp;exact⟨b,p,ns,rfl,hb,k _ H [] (Same.refl H) (Is.bl _) λp hp=>by simp at hp⟩
 ·cases e
noncomputable def Tj:List PV->Option PV
 | [.int i,.int j]=>aA (.int (if j<i then j else i))
 | _=>aB
noncomputable def MZ:List PV->Option PV
 | [.int i,.int j]=>aA (.int (if j>i then j else i))
 | _=>aB
noncomputable def Sw:List PV->Option PV
 | [.int i]=>aA (.int i)
 | [.bl c]=>aA (.int (if c then 1 else 0))
 | _=>aB
theorem LX:RC K (λxs H Q=>∃i j,xs=[.int i,.int j]/\Q (.int (if j<i then j else i)) H) Tj:=λH vs ls l fp h e Q k=>by
 unfold Tj at e;split at e
 ·cases e;obtain⟨v,w,f1,f2,rfl,a,b,rfl⟩:=h.two_inv;exact⟨_,_,by rw[a.int_inv.1,b.int_inv.1],k _ H [] (Same.refl H) (Is.int _) λp hp=>by simp at hp⟩
 ·cases e
theorem Zaj:RC K (λxs H Q=>∃i j,xs=[.int i,.int j]/\Q (.int (if j>i then j else i)) H) MZ:=λH vs ls l fp h e Q k=>by
 unfold MZ at e;split at e
 ·cases e;obtain⟨v,w,f1,f2,rfl,a,b,rfl⟩:=h.two_inv;exact⟨_,_,by rw[a.int_inv.1,b.int_inv.1],k _ H [] (Same.refl H) (Is.int _) λp hp=>by simp at hp⟩
 ·cases e
theorem LY:RC K (λxs H Q=>(∃i,xs=[.int i]/\Q (.int i) H)\/∃k,xs=[.bl k]/\Q (.int (if k then 1 else 0)) H) Sw:=λH vs ls l fp h e Q k=>by
 unfold Sw at e;split at e
 ·cases e;obtain⟨v,rfl,a⟩:=h.one_inv;exact .inl ⟨_,by rw[a.int_inv.1],k _ H [] (Same.refl H) (Is.int _) λp hp=>by simp at hp⟩
 ·cases e;obtain⟨v,rfl,a⟩:=h.one_inv;exact .inr ⟨_,by rw[a.bl_inv.1],k _ H [] (Same.refl H) (Is.int _) λp hp=>by simp at hp⟩
 ·cases e
section
variable {X:Cx} {e:bS} {es:List bS} {fs:List XE} {p pos:fZ}
noncomputable def RL:List PV->Option PV
 | [.int _,.ty "int"]=>aA (.bl aD)
 | [.int _,.ty "bool"]=>aA (.bl aC)
 | [.bl _,.ty "bool"]=>aA (.bl aD)
 | [.tup _,.ty "tuple"]=>aA (.bl aD)
 | [.lst _,.ty "list"]=>aA (.bl aD)
 | [.str _,.ty "str"]=>aA (.bl aD)
 | _=>aB
theorem Mp:dY K (.type "bool") (.type "bool")=aA aD:=rfl
theorem LZ:RC K (λxs H Q=>∃x T t b,xs=[x,.ty T]/\TyOf K H x t/\dY K t (.type T)=aA b/\Q (.bl b) H) RL:=λH vs ls l fp h e Q k=>by
  have fin:∀b:Bool,l = .bl b->Q (.bl b) H:=λb z=>by subst z;exact k _ H [] (Same.refl H) (Is.bl _) λp hp=>by simp at hp
  unfold RL at e
  split at e<;>first
    | (cases e
       obtain⟨v,w,f1,f2,rfl,a,b,rfl⟩:=h.two_inv
       first
         | (obtain⟨rfl,_⟩:=a.int_inv;first
             | exact⟨_,_,_,_,by rw[b.ty_inv.1],TyOf.int _,Jj,fin _ rfl⟩
             | exact⟨_,_,_,_,by rw[b.ty_inv.1],TyOf.int _,LO,fin _ rfl⟩)
         | (obtain⟨rfl,_⟩:=a.bl_inv;exact⟨_,_,_,_,by rw[b.ty_inv.1],TyOf.bl _,Mp,fin _ rfl⟩)
         | (obtain⟨rfl,_⟩:=a.str_inv;exact⟨_,_,_,_,by rw[b.ty_inv.1],TyOf.str _,Jl,fin _ rfl⟩)
         | (obtain⟨q,xs,rfl,hp,_⟩:=a.tup_inv;exact⟨_,_,_,_,by rw[b.ty_inv.1],TyOf.tup hp,Jk,fin _ rfl⟩)
         | (obtain⟨q,xs,fq,rfl,hp,_⟩:=a.lst_inv
            exact⟨_,_,_,_,by rw[b.ty_inv.1],TyOf.lst hp,Mn,fin _ rfl⟩))
    | cases e
theorem Cv{x:bH}{n:String}(hg:Gl X x)(hm:X.mg x=aB)(hv:cw x=aA (.type n))(hn:x≠"__name__":=by decide)(hd:(x==("__debug__" : bH))=aC:=by decide):VE X (.Name x pos) (eC (.ty n)):=
 Zad (AF hg hm hv (v:=.ty n) rfl hn hd) λ_=>Is.ty n
end
end VL
namespace VL
open PySem PySem.Spec PyProof.Rows L2
variable {K:aJ}
open Classical in
instance:DecidableEq PV:=λa b=>propDecidable (a=b)
noncomputable def Wd:Nat->PV->PV->Bool
 | _+1,.non,.non=>aD
 | _+1,.bl _,.bl _=>aD
 | _+1,.int _,.int _=>aD
 | _+1,.str _,.str _=>aD
 | n+1,.tup l,.tup m=>(l.zip m).all λz=>Wd n z.1 z.2
 | n+1,.lst l,.lst m=>(l.zip m).all λz=>Wd n z.1 z.2
 | _,_,_=>aC
theorem RM{α β:Type}{p:α×β->Bool}{a:α}{b:β}{l:List α}{m:List β}(h:((a::l).zip (b::m)).all p=aD):p (a,b)=aD/\(l.zip m).all p=aD:=by rw[dS,iY,ak] at h;exact h
theorem Iss.inj'{n:Nat}{H:Hp}(ih:∀a b v fa fb,Wd n a b=aD->Is K H a v fa->Is K H b v fb->a=b):∀{l m:List PV}{xs:List V}{fa fb:List aN},(l.zip m).all (λz=>Wd n z.1 z.2)=aD->Iss K H l xs fa->Iss K H m xs fb->l=m
 | [],m,xs,fa,fb,_,h,h'=>by
  simp only[Iss] at h;rw[h.1] at h';have:=h'.len
  cases m with
  | nil=>rfl
  | cons _ _=>simp at this
 | a::l,m,xs,fa,fb,hc,h,h'=>by
  obtain⟨x,r,f1,f2,rfl,h1,h2,rfl⟩:=h.inv
  cases m with
  | nil=>have:=h'.len;simp at this
  | cons b m=>
   obtain⟨x',r',g1,g2,e,h3,h4,rfl⟩:=h'.inv;cases e;obtain⟨c1,c2⟩:=RM hc;rw[ih a b x f1 g1 c1 h1 h3,Iss.inj' ih c2 h2 h4]
theorem Is.inj'{H:Hp}:∀(n:Nat)(a b:PV)(v:V)(fa fb:List aN),Wd n a b=aD->Is K H a v fa->Is K H b v fb->a=b
 | 0,a,b,v,fa,fb,hc,_,_=>by unfold Wd at hc;simp at hc
 | n+1,a,b,v,fa,fb,hc,ha,hb=>by
  cases a<;>cases b<;>first
   | (exfalso;revert hc;unfold Wd;simp;done)
   | skip
  ·rfl
  ·rw[ha.bl_inv.1] at hb;have:=hb.bl_inv.1;cases this;rfl
  ·rw[ha.int_inv.1] at hb;have:=hb.int_inv.1;cases this;rfl
  ·rw[ha.str_inv.1] at hb;have:=hb.str_inv.1;cases this;rfl
  ·obtain⟨p,xs,rfl,hp,hi⟩:=ha.tup_inv;obtain⟨p',ys,e,hp',hi'⟩:=hb.tup_inv;cases e;rw[hp] at hp';cases hp';unfold Wd at hc;rw[Iss.inj' (Is.inj' n) hc hi hi']
  ·obtain⟨p,xs,fq,rfl,hp,hi,_⟩:=ha.lst_inv;obtain⟨p',ys,fq',e,hp',hi',_⟩:=hb.lst_inv;cases e;rw[hp] at hp';cases hp';unfold Wd at hc;rw[Iss.inj' (Is.inj' n) hc hi hi']
section
variable {X:Cx} {nu:List (aN×df)} {σ:Pq} {H:Hp} {s:aQ} {A:bw}
theorem Hn{n:Nat}(ih:∀a b x y fa fb u w,Wd n a b=aD->Is K H a x fa->Is K H b y fb->RelV x u->RelV y w->∃r,kU A s u w r/\(r=aD↔a=b)) :
  ∀{l m:List PV}{xs ys:List V}{fa fb:List aN}{us ws:List aL},(l.zip m).all (λz=>Wd n z.1 z.2)=aD->Iss K H l xs fa->Iss K H m ys fb->Vals xs us->Vals ys ws->
  ∃e:Nat->Bool,(∀j (h1:j<us.length) (h2:j<ws.length),kU A s us[j] ws[j] (e j))/\((aF (min us.length ws.length)).all e=aD↔l.take (min us.length ws.length)=m.take (min us.length ws.length))
 | [],m,xs,ys,fa,fb,us,ws,_,h,_,r,_=>by simp only[Iss] at h;obtain⟨rfl,_⟩:=h;cases r;exact⟨λ_=>aD,λj h1=>by simp at h1,by simp⟩
 | a::l,[],xs,ys,fa,fb,us,ws,_,_,h,_,r=>by simp only[Iss] at h;obtain⟨rfl,_⟩:=h;cases r;exact⟨λ_=>aD,λj h1 h2=>by simp at h2,by simp⟩
 | a::l,b::m,xs,ys,fa,fb,us,ws,hc,h,h',r,r'=>by
  obtain⟨x,xr,f1,f2,rfl,h1,h2,rfl⟩:=h.inv;obtain⟨y,yr,g1,g2,rfl,h3,h4,rfl⟩:=h'.inv;obtain⟨c1,c2⟩:=RM hc
  cases r with
  | cons q v=>cases r' with
   | cons q' v'=>
    obtain⟨t,ht,ht'⟩:=ih a b x y f1 g1 _ _ c1 h1 h3 q q';obtain⟨e,he,he'⟩:=Hn ih c2 h2 h4 v v';refine⟨λj=>match j with | 0=>t | k+1=>e k,λj h1 h2=>?_,?_⟩
    ·cases j with
     | zero=>exact ht
     | succ k=>exact he k (by simpa using h1) (by simpa using h2)
    ·simp only[bB,Nat.succ_min_succ,kW,iY,jJ,ak,List.take_succ_cons,List.cons.injEq];exact and_congr ht' he'
theorem Iss.same'{l m:List PV}{xs ys:List V}{fa fb:List aN}{us ws:List aL}(h:Iss K H l xs fa)(h':Iss K H m ys fb)(r:Vals xs us)(r':Vals ys ws) :
  (l.take (min us.length ws.length)=m.take (min us.length ws.length)/\us.length=ws.length)↔l=m:=by
 have e1:=h.len;have e2:=h'.len;have e3:=r.length;have e4:=r'.length;constructor
 ·rintro⟨a,b⟩;rw[cH (by omega),cH (by omega)] at a;exact a
 ·intro a;subst a;exact⟨rfl,by omega⟩
def Zcr(A:bw)(s:aQ)(u w:aL)(r:Bool):Prop:=SeqAt.RcAt A s u w r/\SeqAt.RcNeAt A s u w !r
theorem OP(I:Inv X nu σ H s):∀(n:Nat)(A:bw)(a b:PV)(x y:V)(fa fb:List aN)(u w:aL),A.units+2*n+2<fL->Wd n a b=aD->Is K H a x fa->Is K H b y fb->RelV x u->RelV y w->
  (∃r,kU A s u w r/\(r=aD↔a=b))/\∃r,Zcr A s u w r/\(r=aD↔a=b)
 | 0,A,a,b,x,y,fa,fb,u,w,hu,hc,_,_,_,_=>by unfold Wd at hc;simp at hc
 | n+1,A,a,b,x,y,fa,fb,u,w,hu,hc,ha,hb,ru,Z0=>by
  cases a<;>cases b<;>first
   | (exfalso;revert hc;unfold Wd;simp;done)
   | skip
  ·rw[ha.non_inv.1] at ru;rw[hb.non_inv.1] at Z0;cases ru;cases Z0;exact⟨⟨aD,k6 _,by simp⟩,aD,⟨SeqAt.RcAt.none_none,SeqAt.RcNeAt.none_none⟩,by simp⟩
  ·rw[ha.bl_inv.1] at ru;rw[hb.bl_inv.1] at Z0;cases ru;cases Z0;exact⟨⟨_,kU.bool_bool _ _,by simp⟩,_,⟨SeqAt.RcAt.bool_bool _ _,SeqAt.RcNeAt.bool_bool _ _⟩,by simp⟩
  ·rw[ha.int_inv.1] at ru;rw[hb.int_inv.1] at Z0;obtain⟨t,rfl⟩:=ru;obtain⟨t',rfl⟩:=Z0;exact⟨⟨_,kU.int_int _ _ _ _,by simp⟩,_,⟨SeqAt.RcAt.int_int _ _ _ _,SeqAt.RcNeAt.int_int _ _ _ _⟩,by simp⟩
  ·rw[ha.str_inv.1] at ru;rw[hb.str_inv.1] at Z0;obtain⟨t,rfl⟩:=ru;obtain⟨t',rfl⟩:=Z0;exact⟨⟨_,kU.str_str _ _ _ _,by simp⟩,_,⟨SeqAt.RcAt.str_str _ _ _ _,SeqAt.RcNeAt.str_str _ _ _ _⟩,by simp⟩
  ·rename_i l1 l2;obtain⟨p,xs,rfl,hp,hi⟩:=id ha.tup_inv;obtain⟨p',ys,rfl,hp',hi'⟩:=id hb.tup_inv;cases ru;cases Z0;have hc':=hc;unfold Wd at hc';obtain⟨us,rv,q,_⟩:=I.tuple (SqT.of hp);obtain⟨ws,rv',q',_⟩:=I.tuple (SqT.of hp');obtain⟨f,hf,hf'⟩:=Hn (A:=A.in1) (λa b x y fa fb u w c i1 i2 r1 r2=>(OP I n A.in1 a b x y fa fb u w (by show A.units+1+2*n+2<fL;omega) c i1 i2 r1 r2).1) hc' hi hi' rv rv';have rc:=SeqAt.RcAt.tuples (A:=A) (e:=f) (show s.heap.IsTuple p us.toArray from q) (show s.heap.IsTuple p' ws.toArray from q') (by omega) (λj h1 h2=>hf j (by simpa using h1) (by simpa using h2));have rn:=SeqAt.RcNeAt.tuples (A:=A) (e:=f) (show s.heap.IsTuple p us.toArray from q) (show s.heap.IsTuple p' ws.toArray from q') (by omega) (λj h1 h2=>hf j (by simpa using h1) (by simpa using h2));have key:(((aF (min us.toArray.size ws.toArray.size)).all f&&us.toArray.size==ws.toArray.size)=aD)↔PV.tup l1=PV.tup l2:=by simp only[aU,ak,beq_iff_eq,PV.tup.injEq];rw[hf'];exact Iss.same' hi hi' rv rv'
   refine⟨?_,_,⟨rc,rn⟩,key⟩;by_cases e:p=p'
   ·subst e;exact⟨aD,k6 _,by simp[Is.inj' (n+1) _ _ _ _ _ hc ha hb]⟩
   ·exact⟨_,lp e rc,key⟩
  ·rename_i l1 l2;obtain⟨p,xs,fq,rfl,hp,hi,_⟩:=id ha.lst_inv;obtain⟨p',ys,fq',rfl,hp',hi',_⟩:=id hb.lst_inv;cases ru;cases Z0;have hc':=hc;unfold Wd at hc';obtain⟨us,rv,q,_⟩:=I.list (SqL.of hp);obtain⟨ws,rv',q',_⟩:=I.list (SqL.of hp');obtain⟨f,hf,hf'⟩:=Hn (A:=A.in1) (λa b x y fa fb u w c i1 i2 r1 r2=>(OP I n A.in1 a b x y fa fb u w (by show A.units+1+2*n+2<fL;omega) c i1 i2 r1 r2).1) hc' hi hi' rv rv'
   have fin:∃r,Zcr A s (.ref p) (.ref p') r/\(r=aD↔PV.lst l1=PV.lst l2):=by
    have key:=Iss.same' hi hi' rv rv';by_cases hsz:us.length=ws.length
    ·refine⟨_,⟨SeqAt.RcAt.lists (e:=f) q.isList q'.isList (by simpa using hsz) (by omega) (λj h1 h2=>hf j (by simpa using h1) (by simpa using h2)),SeqAt.RcNeAt.lists (e:=f) q.isList q'.isList (by simpa using hsz) (by omega) (λj h1 h2=>hf j (by simpa using h1) (by simpa using h2))⟩,?_⟩;rw[hsz,Nat.min_self] at hf' key;simp only[aU,PV.lst.injEq];rw[hsz,hf',<-key];simp
    ·refine⟨aC,⟨SeqAt.RcAt.lists_lengths q.isList q'.isList (by simpa using hsz) (by omega),SeqAt.RcNeAt.lists_lengths q.isList q'.isList (by simpa using hsz) (by omega)⟩,?_⟩;rw[PV.lst.injEq,<-key];simp[hsz]
   obtain⟨r,hr,hk⟩:=fin;refine⟨?_,r,hr,hk⟩;by_cases e:p=p'
   ·subst e;exact⟨aD,k6 _,by simp[Is.inj' (n+1) _ _ _ _ _ hc ha hb]⟩
   ·exact⟨r,lp e hr.1,hk⟩
end
def Zek(K:aJ)(neg:Bool):R2:=λx y H Q=>∃a b fa fb,Is K H a x fa/\Is K H b y fb/\Wd 8 a b=aD/\∀r:Bool,(r=aD↔a=b)->Q (.bl (if neg then !r else r)) H
section
variable {X:Cx}
theorem Cw(hu:X.A.units+64<fL):Sr X (dc .Eq) (Zek X.K aC):=by intro nu s σ H x y v u Q I rx ry h;obtain⟨a,b,fa,fb,ha,hb,hc,q⟩:=h;obtain⟨_,r,hr,hk⟩:=OP I 8 X.A a b x y fa fb v u (by omega) hc ha hb rx ry;exact hr.1 X.prog X.w X.xe _ ⟨.bl r,H,I,rfl,q r hk⟩
theorem Cy(hu:X.A.units+64<fL):Sr X (dc .NotEq) (Zek X.K aD):=by intro nu s σ H x y v u Q I rx ry h;obtain⟨a,b,fa,fb,ha,hb,hc,q⟩:=h;obtain⟨_,r,hr,hk⟩:=OP I 8 X.A a b x y fa fb v u (by omega) hc ha hb rx ry;exact hr.2 X.prog X.w X.xe _ ⟨.bl !r,H,I,rfl,q r hk⟩
end
def Xv(neg:Bool):PV->PV->Option PV:=λa b=>if Wd 8 a b=aD then aA (.bl (if neg then !decide (a=b) else decide (a=b))) else aB
theorem L0(neg:Bool):RB K (Zek K neg) (Xv neg):=λH x y a b l fa fb ha hb e Q k=>by
 unfold Xv at e;split at e
 ·cases e;refine⟨a,b,fa,fb,ha,hb,by assumption,λr hr=>?_⟩
  have:r=decide (a=b):=by
   cases r with
   | true=>exact(decide_eq_true (hr.mp rfl)).symm
   | false=>exact(decide_eq_false λz=>aw (hr.mpr z)).symm
  subst this;exact k _ H [] (Same.refl H) (Is.bl _) λp hp=>by simp at hp
 ·cases e
def Zel(K:aJ)(neg:Bool):R2:=λx y H Q=>∃a b m fa fb,Is K H a x fa/\Is K H b y fb/\PN b=aA m/\(m.all λz=>Wd 8 z a)=aD/\∀r:Bool,(r=aD↔a∈m)->Q (.bl (if neg then !r else r)) H
section
variable {X:Cx} {nu:List (aN×df)} {σ:Pq} {H:Hp} {s:aQ}
theorem P4{a:PV}{x:V}{fa:List aN}{u:aL}{A:bw}(I:Inv X nu σ H s)(hu:A.units+18<fL)(ha:Is K H a x fa)(rx:RelV x u):∀{m:List PV}{xs:List V}{fb:List aN}{us:List aL},(m.all λz=>Wd 8 z a)=aD->Iss K H m xs fb->Vals xs us->
  ∃e:aL->Bool,(∀y∈us,kU A s y u (e y))/\(us.any e=aD↔a∈m):=λ{m xs fb us} hc h r=>by
 -- each one's answer
 have each:∀y∈us,∃t:Bool,kU A s y u t/\(t=aD↔∃b,b∈m/\b=a/\∃z f,Is K H b z f/\RelV z y):=λy hy=>by obtain⟨j,hj,e⟩:=i9.mp hy;have hl:=r.length;have hxj:xs[j]?=aA xs[j]:=aE (by omega);obtain⟨b,f,hb,ib,_⟩:=h.get' hxj;obtain⟨w,hw,Z0⟩:=r.get hxj;rw[aE hj] at hw;cases hw;rw[e] at Z0;have hbm:b∈m:=av hb;have cb:=bO.mp hc b hbm;obtain⟨⟨t,ht,hk⟩,_⟩:=OP I 8 A b a xs[j] x f fa y u (by omega) cb ib ha Z0 rx;refine⟨t,ht,hk.trans ⟨λz=>⟨b,hbm,z,xs[j],f,ib,Z0⟩,λ⟨b',hb',e',z,f',i',r'⟩=>?_⟩⟩;have ez:z=xs[j]:=r'.inj Z0;subst ez;have cb':=bO.mp hc b' hb';subst e';exact Is.inj' 8 b b' _ _ _ cb ib i'
 classical
 refine⟨λy=>if hy:y∈us then(each y hy).choose else aC,λy hy=>?_,?_⟩
 ·simp only[dif_pos hy];exact(each y hy).choose_spec.1
 ·rw[eU];constructor
  ·rintro⟨y,hy,e⟩;rw[dif_pos hy] at e;obtain⟨b,hb,rfl,_⟩:=(each y hy).choose_spec.2.mp e;exact hb
  ·intro hm;obtain⟨j,hj,e⟩:=i9.mp hm;obtain⟨z,f,hz,iz,_⟩:=h.get (aE hj);obtain⟨y,hy,ry⟩:=r.get hz;have hyu:y∈us:=av hy;refine⟨y,hyu,?_⟩;rw[dif_pos hyu];exact(each y hyu).choose_spec.2.mpr ⟨a,hm,rfl,z,f,e▸iz,ry⟩
end
section
variable {X:Cx}
theorem Cz(hu:X.A.units+64<fL):Sr X (dc .In) (Zel X.K aC):=by
 intro nu s σ H x y v u Q I rx ry h;obtain⟨a,b,m,fa,fb,ha,hb,hm,hc,q⟩:=h;obtain⟨p,xs,fq,rfl,hp,hi,_⟩:=UB (K:=X.K) hb hm;cases ry;rcases hp with hp | hp
 ·obtain⟨us,rv,t,_⟩:=I.list hp;obtain⟨e,he,hk⟩:=P4 (A:=X.A.in1) I (by show X.A.units+1+18<fL;omega) ha rx hc hi rv;refine SeqAt.in_listAt e t.isList (λw hw=>he w (by simpa using hw)) ⟨.bl _,H,I,rfl,?_⟩;rw[show us.toArray.any e=us.any e by simp];exact q _ hk
 ·obtain⟨us,rv,t,_⟩:=I.tuple hp;obtain⟨e,he,hk⟩:=P4 (A:=X.A.in1) I (by show X.A.units+1+18<fL;omega) ha rx hc hi rv;refine SeqAt.in_tupleAt e t (λw hw=>he w (by simpa using hw)) ⟨.bl _,H,I,rfl,?_⟩;rw[show us.toArray.any e=us.any e by simp];exact q _ hk
theorem EJ(hu:X.A.units+64<fL):Sr X (dc .NotIn) (Zel X.K aD):=by
 intro nu s σ H x y v u Q I rx ry h;obtain⟨a,b,m,fa,fb,ha,hb,hm,hc,q⟩:=h;obtain⟨p,xs,fq,rfl,hp,hi,_⟩:=UB (K:=X.K) hb hm;cases ry;rcases hp with hp | hp
 ·obtain⟨us,rv,t,_⟩:=I.list hp;obtain⟨e,he,hk⟩:=P4 (A:=X.A.in1) I (by show X.A.units+1+18<fL;omega) ha rx hc hi rv;refine SeqAt.notIn_listAt e t.isList (λw hw=>he w (by simpa using hw)) ⟨.bl _,H,I,rfl,?_⟩;rw[show us.toArray.any e=us.any e by simp];exact q _ hk
 ·obtain⟨us,rv,t,_⟩:=I.tuple hp;obtain⟨e,he,hk⟩:=P4 (A:=X.A.in1) I (by show X.A.units+1+18<fL;omega) ha rx hc hi rv;refine SeqAt.notIn_tupleAt e t (λw hw=>he w (by simpa using hw)) ⟨.bl _,H,I,rfl,?_⟩;rw[show us.toArray.any e=us.any e by simp];exact q _ hk
end
def X4(neg:Bool):PV->PV->Option PV:=λa b=>(PN b).bind λm=>if(m.all λz=>Wd 8 z a)=aD then aA (.bl (if neg then !decide (a∈m) else decide (a∈m))) else aB
theorem Ho(neg:Bool):RB K (Zel K neg) (X4 neg):=λH x y a b l fa fb ha hb e Q k=>by
 obtain⟨m,hm,e⟩:=Zd e;split at e
 ·cases e;refine⟨a,b,m,fa,fb,ha,hb,hm,by assumption,λr hr=>?_⟩
  have:r=decide (a∈m):=by
   cases r with
   | true=>exact(decide_eq_true (hr.mp rfl)).symm
   | false=>exact(decide_eq_false λz=>aw (hr.mpr z)).symm
  subst this;exact k _ H [] (Same.refl H) (Is.bl _) λp hp=>by simp at hp
 ·cases e
end VL
namespace VL
open PySem PySem.Spec PyProof.Rows L2
variable {K:aJ}
mutual
theorem Is.dom{H:Hp}:∀(l:PV)(v:V)(fp:List aN),Is K H l v fp->∀p∈fp,H p≠aB
 | .non,_,_,h=>by simp only[Is] at h;rw[h.2];simp
 | .bl _,_,_,h=>by simp only[Is] at h;rw[h.2];simp
 | .int _,_,_,h=>by simp only[Is] at h;rw[h.2];simp
 | .str _,_,_,h=>by simp only[Is] at h;rw[h.2];simp
 | .ty _,_,_,h=>by simp only[Is] at h;rw[h.2];simp
 | .exc _,_,_,h=>by simp only[Is] at h;rw[h.2];simp
 | .exf _ _,_,_,h=>by simp only[Is] at h;rw[h.2];simp
 | .clo L l,v,fp,h=>by simp only[Is] at h;obtain⟨u,x,_,_,hi⟩:=h;exact Is.dom l x fp hi
 | .tup l,v,fp,h=>by obtain⟨p,xs,_,_,hi⟩:=h.tup_inv;exact Iss.dom l xs fp hi
 | .lst l,v,fp,h=>by
  obtain⟨p,xs,fq,_,hp,hi,rfl⟩:=h.lst_inv;intro q hq;rcases aa.mp hq with rfl | hq
  ·rw[hp];simp
  ·exact Iss.dom l xs fq hi q hq
 | .cst l,v,fp,h=>by obtain⟨p,xs,_,_,hi⟩:=h.cst_inv;exact Iss.dom l xs fp hi
 | .dK ks l,v,fp,h=>by
  obtain⟨p,o4,fq,_,hp,_,hi,rfl⟩:=h.dK_inv;intro q hq;rcases aa.mp hq with rfl | hq
  ·rcases hp with e | ⟨o,e⟩<;>rw[e]<;>simp
  ·exact Iss.dom l _ fq hi q hq
 | .dT ks l,v,fp,h=>by
  obtain⟨p,o4,fq,_,hp,_,hi,rfl⟩:=h.dT_inv;intro q hq;rcases aa.mp hq with rfl | hq
  ·rcases hp with e | ⟨o,e⟩<;>rw[e]<;>simp
  ·exact Iss.dom l _ fq hi q hq
theorem Iss.dom{H:Hp}:∀(l:List PV)(xs:List V)(fp:List aN),Iss K H l xs fp->∀p∈fp,H p≠aB
 | [],_,_,h=>by simp only[Iss] at h;rw[h.2];simp
 | l::ls,xs,fp,h=>by
  obtain⟨x,r,f1,f2,_,h1,h2,rfl⟩:=h.inv;intro q hq;rcases aq.mp hq with hq | hq
  ·exact Is.dom l x f1 h1 q hq
  ·exact Iss.dom ls r f2 h2 q hq
end
def Ab(Rm:aN->Prop)(H H':Hp):Prop:=∀b o,H b=aA o->¬Rm b->H' b=aA o
theorem Same.ab{Rm:aN->Prop}{H H':Hp}(s:Same H H'):Ab Rm H H':=λb o h _=>s b o h
theorem Ab.tk{Rm:aN->Prop}{H H':Hp}(a:Ab Rm H H')(hd:∀p,Rm p->Ue (H p)):TK2 H H':=⟨λb xs h=>a b _ h λz=>by
 have:=hd b z
 rw[h] at this;exact this,λb o xs h=>a b _ h λz=>by
 have:=hd b z
 rw[h] at this;exact this,λb o x h=>a b _ h λz=>by
 have:=hd b z;rw[h] at this;exact this⟩
theorem Is.ab{Rm:aN->Prop}{H H':Hp}(a:Ab Rm H H')(hd:∀p,Rm p->Ue (H p)){l:PV}{v:V}{fp:List aN}(n:∀p∈fp,¬Rm p)(h:Is K H l v fp):Is K H' l v fp:=
 Is.tr (a.tk hd) l v fp (λp hp=>RdK.of λo q=>a p o q (n p hp)) h
structure JIs(K:aJ)(Rm:aN->Prop)(H1:Hp)(J:It)(ls:List PV):Prop where
 stop:∀H',Ab Rm H1 H'->J.stop ls.length H'
 go:∀H' (i:Nat) l,Ab Rm H1 H'->ls[i]?=aA l->J.go i H'
 yld:∀H' (i:Nat) l x H'',Ab Rm H1 H'->ls[i]?=aA l->J.yld i H' x H''->Same H' H''/\∃fp,Is K H'' l x fp/\∀p∈fp,H1 p≠aB/\¬Rm p
abbrev XL:=ZL->Option (List PV)
def iF(K:aJ)(f:XL):TI:=λσ H R=>∃(Rm:aN->Prop) (s:ZL) (ls:List PV),(∀p,Rm p->Ue (H p))/\EnvIs K Rm H s σ/\f s=aA ls/\∀J H1,Same H H1->JIs K Rm H1 J ls->R J H1
def VI(X:Cx)(tg e:bS)(f:XL):Prop:=PI X tg e (iF X.K f)
section
variable {X:Cx} {tg e:bS} {es:List bS}
theorem PI.imp{t t':TI}(h:PI X tg e t)(i:∀σ H R,t' σ H R->t σ H R):PI X tg e t':=λnu s σ H R I q=>h nu s σ H R I (i σ H R q)
noncomputable def asS:PV->Option (List PV)
 | .lst m=>aA m
 | .cst m=>aA m
 | _=>aB
def X5(f:XE):XL:=λs=>(f s).bind asS
def PR(f:XE):XL:=λs=>match f s with | some (.tup m)=>aA m | _=>aB
theorem CA{a:PV}{m:List PV}(h:asS a=aA m):a = .lst m\/a = .cst m:=by
 unfold asS at h;split at h
 ·cases h;exact .inl rfl
 ·cases h;exact .inr rfl
 ·cases h
theorem EK{f:XE}{s:ZL}{m:List PV}(h:PR f s=aA m):f s=aA (.tup m):=by
 unfold PR at h;split at h
 ·cases h;assumption
 ·cases h
theorem Wx{f:XE}(h:VE X e f):VI X tg e (X5 f):=PI.imp (AK h) λσ H R ⟨Rm,s,ls,hd,env,e,k⟩=>by
 obtain⟨l,e1,e2⟩:=Zd e;refine⟨Rm,s,l,hd,env,e1,λv H1 fp s1 i1 n1=>?_⟩;have hd1:∀p,Rm p->Ue (H1 p):=λp hp=>Same.mut s1 (hd p hp)
 have main:∀a xs fq,v = .ref a->SqL X.K H1 a xs->(∀H',Ab Rm H1 H'->SqL X.K H' a xs)->Iss X.K H1 ls xs fq->(∀p∈fq,p∈fp)->∃a,v = .ref a/\(∃xs,SqL X.K H1 a xs)/\R (Itl X.K a) H1:=by
  rintro a xs fq rfl ha keep hi sub;refine⟨a,rfl,⟨xs,ha⟩,k _ H1 s1 ⟨λH' ab=>⟨xs,keep H' ab,by rw[hi.len];exact aT _⟩,λH' i l ab hl=>?_,λH' i l x H'' ab hl y=>?_⟩⟩
  ·obtain⟨x,f1,hx,_,_⟩:=hi.get hl;exact⟨xs,x,keep H' ab,hx⟩
  ·obtain⟨rfl,y⟩:=y;obtain⟨x',f1,hx,ix,sub'⟩:=hi.get hl;have:=y xs (keep _ ab);rw[hx] at this;cases this;have n1':∀p∈f1,¬Rm p:=λp hp=>n1 p (sub p (sub' p hp));exact⟨Same.refl _,f1,ix.ab ab hd1 n1',λp hp=>⟨Is.dom _ _ _ ix p hp,n1' p hp⟩⟩
 rcases CA e2 with rfl | rfl
 ·obtain⟨a,xs,fq,rfl,ha,hi,rfl⟩:=i1.lst_inv;exact main a xs fq rfl (SqL.of ha) (λH' ab=>SqL.of (ab a _ ha (n1 a af))) hi λp hp=>aP _ hp
 ·obtain⟨a,xs,rfl,ha,hi⟩:=i1.cst_inv;exact main a xs fp rfl ha.sq (λH' ab=>(ha.tr (ab.tk hd1)).sq) hi λp hp=>hp
theorem Hq{f:XE}(h:VE X e f):VI X tg e (PR f):=PI.imp (Zdl h) λσ H R ⟨Rm,s,ls,hd,env,e,k⟩=>by
 refine⟨Rm,s,.tup ls,hd,env,EK e,λv H1 fp s1 i1 n1=>?_⟩;obtain⟨a,xs,rfl,ha,hi⟩:=i1.tup_inv;have hd1:∀p,Rm p->Ue (H1 p):=λp hp=>Same.mut s1 (hd p hp);have keep:∀H',Ab Rm H1 H'->SqT X.K H' a xs:=λH' ab=>SqT.of ((ab.tk hd1).tup a xs ha);refine⟨a,rfl,⟨xs,SqT.of ha⟩,k _ H1 s1 ⟨λH' ab=>⟨xs,keep H' ab,by rw[hi.len];exact aT _⟩,λH' i l ab hl=>?_,λH' i l x H'' ab hl y=>?_⟩⟩
 ·obtain⟨x,f1,hx,_,_⟩:=hi.get hl;exact⟨xs,x,keep H' ab,hx⟩
 ·obtain⟨rfl,y⟩:=y;obtain⟨x',f1,hx,ix,sub⟩:=hi.get hl;have:=y xs (keep _ ab);rw[hx] at this;cases this;have n1':∀p∈f1,¬Rm p:=λp hp=>n1 p (sub p hp);exact⟨Same.refl _,f1,ix.ab ab hd1 n1',λp hp=>⟨Is.dom _ _ _ ix p hp,n1' p hp⟩⟩
def WD(n:Nat):List PV:=(aF n).map λ(i:Nat)=>PV.int (i:Int)
def WE(lo:Int)(n:Nat):List PV:=(aF n).map λ(i:Nat)=>PV.int (lo+(i:Int))
def ZQ(fs:List XE):XL:=λs=>match QC fs s with | some [.int j]=>if -1000000<=j/\j<=1000000 then aA (WD j.toNat) else aB | _=>aB
def Xa(fs:List XE):XL:=λs=>match QC fs s with | some [.int i,.int j]=>if -1000000<=i/\i<=1000000/\-1000000<=j/\j<=1000000 then aA (WE i (j-i).toNat) else aB | _=>aB
theorem Fg{Rm:aN->Prop}{H1:Hp}(lo:Int)(n:Nat):JIs K Rm H1 (Itr lo n) (WE lo n):=by
 refine⟨λH' _=>by unfold WE;rw[aK,cR];exact aT n,λH' i l _ hl=>?_,λH' i l x H'' _ hl y=>?_⟩
 ·have:=(aS.mp hl).1;unfold WE at this;rw[aK,cR] at this;exact this
 ·obtain⟨rfl,rfl⟩:=y;have hi:=(aS.mp hl).1;unfold WE at hi hl;rw[aK,cR] at hi;rw[aW,dC hi] at hl;cases hl;exact⟨Same.refl _,[],Is.int _,λp hp=>by simp at hp⟩
theorem Zak(n:Nat):WD n=WE 0 n:=by unfold WD WE;apply ao;intro i _;rw[Int.zero_add]
theorem EL{a:bS}{fs:List XE}{p pos:fZ}(hg:Gl X "range")(hm:X.mg "range" = aB)(ha:VA X [a] fs)(hs:aV [a] X.env=[(aC,eval a X.env)]:=by rfl):VI X tg (.Call (.Name "range" p) [a] [] pos) (ZQ fs):=
 PI.imp (Eo hg hm ha hs) λσ H R ⟨Rm,s,ls,hd,env,e,k⟩=>by
 unfold ZQ at e;split at e
 ·split at e
  ·cases e;rename_i j he hb;refine⟨Rm,s,_,hd,env,he,λvs H1 fp s1 i1 _=>?_⟩;obtain⟨v,rfl,i⟩:=i1.one_inv;refine⟨j,by rw[i.int_inv.1],by omega,by omega,k _ H1 s1 ?_⟩;rw[Zak];exact Fg _ _
  ·cases e
 ·cases e
theorem EM{a b:bS}{fs:List XE}{p pos:fZ}(hg:Gl X "range")(hm:X.mg "range" = aB)(ha:VA X [a,b] fs)(hs:aV [a,b] X.env=[(aC,eval a X.env),(aC,eval b X.env)]:=by rfl)(hs2:aV [b] X.env=[(aC,eval b X.env)]:=by rfl):VI X tg (.Call (.Name "range" p) [a,b] [] pos) (Xa fs):=
 PI.imp (Ep hg hm ha hs hs2) λσ H R ⟨Rm,s,ls,hd,env,e,k⟩=>by
 unfold Xa at e;split at e
 ·split at e
  ·cases e;rename_i i j he hb;refine⟨Rm,s,_,hd,env,he,λvs H1 fp s1 i1 _=>?_⟩;obtain⟨v,w,f1,f2,rfl,iv,iw,_⟩:=i1.two_inv;exact⟨i,j,by rw[iv.int_inv.1,iw.int_inv.1],⟨by omega,by omega,by omega,by omega⟩,k _ H1 s1 (Fg _ _)⟩
  ·cases e
 ·cases e
def Vi(m:List PV):List PV:=m.zipIdx.map λz=>.tup [.int (z.2:Nat),z.1]
def SD(m n:List PV):List PV:=(m.zip n).map λz=>.tup [z.1,z.2]
theorem M0{m:List PV}{i:Nat}{l:PV}(h:(Vi m)[i]?=aA l):∃a,m[i]?=aA a/\l = .tup [.int (i:Nat),a]:=by
 unfold Vi at h;rw[aW,kn] at h
 cases q:m[i]? with
 | none=>rw[q] at h;cases h
 | some a=>rw[q] at h;cases h;exact⟨a,rfl,by simp⟩
theorem T7(m:List PV):(Vi m).length=m.length:=by unfold Vi;rw[aK,List.length_zipIdx]
theorem Jy{m n:List PV}{i:Nat}{l:PV}(h:(SD m n)[i]?=aA l):∃a b,m[i]?=aA a/\n[i]?=aA b/\l = .tup [a,b]:=by
 unfold SD at h;rw[aW] at h
 cases q:(m.zip n)[i]? with
 | none=>rw[q] at h;cases h
 | some z=>
  rw[q] at h;cases h;obtain⟨q1,q2⟩:=jZ.mp q;exact⟨z.1,z.2,q1,q2,rfl⟩
theorem Jz(m n:List PV):(SD m n).length=min m.length n.length:=by unfold SD;rw[aK,List.length_zip]
noncomputable def seqB:Bool->PV->Option (List PV)
 | true,.lst l=>aA l
 | true,.cst l=>aA l
 | false,.tup l=>aA l
 | _,_=>aB
theorem L3{H:Hp}{b:Bool}{l:PV}{v:V}{fp:List aN}{m:List PV}(h:Is K H l v fp)(e:seqB b l=aA m):∃p xs fq,v = .ref p/\Iss K H m xs fq/\(∀q∈fq,q∈fp)/\∀(Rm:aN->Prop) H',Ab Rm H H'->(∀p,Rm p->Ue (H p))->(∀p∈fp,¬Rm p)->Mg b K H' p xs:=by
 cases b with
 | true=>cases l with
  | lst l=>
   cases e;obtain⟨p,xs,fq,rfl,hp,hi,rfl⟩:=h.lst_inv;exact⟨p,xs,fq,rfl,hi,λq hq=>aP _ hq,λRm H' ab _ n=>SqL.of (ab p _ hp (n p af))⟩
  | cst l=>
   cases e;obtain⟨p,xs,rfl,hp,hi⟩:=h.cst_inv;exact⟨p,xs,fp,rfl,hi,λq hq=>hq,λRm H' ab hd _=>(hp.tr (ab.tk hd)).sq⟩
  | _=>cases e
 | false=>cases l with
  | tup l=>
   cases e;obtain⟨p,xs,rfl,hp,hi⟩:=h.tup_inv;exact⟨p,xs,fp,rfl,hi,λq hq=>hq,λRm H' ab hd _=>SqT.of ((ab.tk hd).tup p xs hp)⟩
  | _=>cases e
def Y3(b:Bool)(fs:List XE):XL:=λs=>match QC fs s with | some [l]=>(seqB b l).map Vi | _=>aB
def Sm(b1 b2:Bool)(fs:List XE):XL:=λs=>match QC fs s with | some [l,r]=>(seqB b1 l).bind λm=>(seqB b2 r).map λn=>SD m n | _=>aB
theorem UD{elts:List bS}{k:Nat}{tpos:fZ}(b:Bool){a:bS}{fs:List XE}{p pos:fZ}(hg:Gl X "enumerate")(hm:X.mg "enumerate" = aB)(ha:VA X [a] fs)(hs:aV [a] X.env=[(aC,eval a X.env)]:=by rfl) :
  VI X (.Tuple elts k tpos) (.Call (.Name "enumerate" p) [a] [] pos) (Y3 b fs):=PI.imp (A6 b hg hm ha hs) λσ H R ⟨Rm,s,ls,hd,env,e,k⟩=>by
 unfold Y3 at e;split at e
 ·rename_i l he;obtain⟨m,e1,rfl⟩:=map_some e;refine⟨Rm,s,_,hd,env,he,λvs H1 fp s1 i1 n1=>?_⟩;obtain⟨v,rfl,i⟩:=i1.one_inv;have hd1:∀p,Rm p->Ue (H1 p):=λp hp=>Same.mut s1 (hd p hp);obtain⟨a,xs,fq,rfl,hi,sub,keep⟩:=L3 (K:=X.K) i e1;have kp:=λH' ab=>keep Rm H' ab hd1 n1;refine⟨a,rfl,⟨xs,kp H1 (Same.ab (Same.refl H1))⟩,k _ H1 s1 ⟨λH' ab=>⟨xs,kp H' ab,by rw[T7,hi.len]⟩,λH' i l ab hl=>?_,λH' i l x H'' ab hl y=>?_⟩⟩
  ·obtain⟨c,hc,rfl⟩:=M0 hl;obtain⟨x,f1,hx,_,_⟩:=hi.get hc;exact⟨xs,x,kp H' ab,hx⟩
  ·obtain⟨c,hc,rfl⟩:=M0 hl;obtain⟨x',f1,hx,ix,sb⟩:=hi.get hc;obtain⟨q,z,hq,rfl,rfl,y⟩:=y;have:=y xs (kp _ ab);rw[hx] at this;cases this;have n1':∀p∈f1,¬Rm p:=λp hp=>n1 p (sub p (sb p hp));refine⟨Same.new hq _,f1,Is.tup upd_same ?_,λp hp=>⟨Is.dom _ _ _ ix p hp,n1' p hp⟩⟩;exact Iss.cons (f1:=[]) (Is.int _) (Iss.one ((ix.ab ab hd1 n1').mono (Same.new hq _)))
 ·cases e
theorem L4{elts:List bS}{k:Nat}{tpos:fZ}(b1 b2:Bool){a b:bS}{fs:List XE}{p pos:fZ}(hg:Gl X "zip")(hm:X.mg "zip" = aB)(ha:VA X [a,b] fs)
  (hs:aV [a,b] X.env=[(aC,eval a X.env),(aC,eval b X.env)]:=by rfl) (hs2:aV [b] X.env=[(aC,eval b X.env)]:=by rfl) :
  VI X (.Tuple elts k tpos) (.Call (.Name "zip" p) [a,b] [] pos) (Sm b1 b2 fs):=PI.imp (Zd9 b1 b2 hg hm ha hs hs2) λσ H R ⟨Rm,s,ls,hd,env,e,k⟩=>by
 unfold Sm at e;split at e
 ·rename_i l r he;obtain⟨m,e1,e⟩:=Zd e;obtain⟨n,e2,rfl⟩:=map_some e;refine⟨Rm,s,_,hd,env,he,λvs H1 fp s1 i1 n1=>?_⟩;obtain⟨v,w,g1,g2,rfl,iv,iw,rfl⟩:=i1.two_inv;have hd1:∀p,Rm p->Ue (H1 p):=λp hp=>Same.mut s1 (hd p hp);have ng1:∀p∈g1,¬Rm p:=λp hp=>n1 p (au _ hp);have ng2:∀p∈g2,¬Rm p:=λp hp=>n1 p (ay _ hp);obtain⟨a1,xs,fq,rfl,hi,sub,keep⟩:=L3 (K:=X.K) iv e1;obtain⟨a2,ys,fr,rfl,hj,sub2,keep2⟩:=L3 (K:=X.K) iw e2;have kp:=λH' ab=>keep Rm H' ab hd1 ng1;have kp2:=λH' ab=>keep2 Rm H' ab hd1 ng2;refine⟨a1,a2,rfl,⟨xs,kp H1 (Same.ab (Same.refl H1))⟩,⟨ys,kp2 H1 (Same.ab (Same.refl H1))⟩,k _ H1 s1 ⟨λH' ab=>⟨xs,ys,kp H' ab,kp2 H' ab,?_⟩,λH' i l ab hl=>?_,λH' i l x H'' ab hl y=>?_⟩⟩
  ·rw[Jz,hi.len,hj.len];omega
  ·obtain⟨c,d,hc,hd',rfl⟩:=Jy hl;obtain⟨x,f1,hx,_,_⟩:=hi.get hc;obtain⟨y,f2,hy,_,_⟩:=hj.get hd';exact⟨xs,ys,x,y,kp H' ab,kp2 H' ab,hx,hy⟩
  ·obtain⟨c,d,hc,hd',rfl⟩:=Jy hl;obtain⟨x',f1,hx,ix,sb⟩:=hi.get hc;obtain⟨y',f2,hy,iy,sb2⟩:=hj.get hd';obtain⟨q,z,z',hq,rfl,rfl,y1,y2⟩:=y;have:=y1 xs (kp _ ab);rw[hx] at this;cases this;have:=y2 ys (kp2 _ ab);rw[hy] at this;cases this;have n1':∀p∈f1,¬Rm p:=λp hp=>ng1 p (sub p (sb p hp));have n2':∀p∈f2,¬Rm p:=λp hp=>ng2 p (sub2 p (sb2 p hp));refine⟨Same.new hq _,f1++f2,Is.tup upd_same ?_,λp hp=>?_⟩
   ·exact Iss.cons ((ix.ab ab hd1 n1').mono (Same.new hq _)) (Iss.one ((iy.ab ab hd1 n2').mono (Same.new hq _)))
   ·rcases aq.mp hp with hp | hp
    ·exact⟨Is.dom _ _ _ ix p hp,n1' p hp⟩
    ·exact⟨Is.dom _ _ _ iy p hp,n2' p hp⟩
 ·cases e
end
inductive Tgt where
 | one (i:Nat) | many (is:List Nat)
def Tgt.slots:Tgt->List Nat
 | .one i=>[i]
 | .many is=>is
noncomputable def setAll:List Nat->List PV->ZL->ZL
 | i::is,l::ls,s=>setAll is ls (s.set i (aA l))
 | _,_,s=>s
noncomputable def Xk:List Nat->List V->Pq->Pq
 | i::is,l::ls,s=>Xk is ls (s.set i (aA l))
 | _,_,s=>s
noncomputable def Vj:Tgt->PV->ZL->Option ZL
 | .one i,l,s=>aA (s.set i (aA l))
 | .many is,.tup ls,s=>if ls.length=is.length then aA (setAll is ls s) else aB
 | _,_,_=>aB
def L5:List Nat->Ax
 | []=>Zf1
 | i::is=>Zcd (Rv i) (L5 is)
def gT(K:aJ):Tgt->TG
 | .one i=>Rv i
 | .many is=>Zf2 K is.length (L5 is)
theorem SE:∀{is:List Nat}{vs:List V}{σ:Pq}{H:Hp}{Q:Pq->Hp->Prop},vs.length=is.length->Q (Xk is vs σ) H->L5 is vs σ H Q
 | [],[],_,_,_,_,q=>⟨rfl,q⟩
 | [],_::_,_,_,_,h,_=>by simp at h
 | _::_,[],_,_,_,h,_=>by simp at h
 | i::is,v::vs,σ,H,Q,h,q=>⟨v,vs,rfl,SE (is:=is) (vs:=vs) (by simpa using h) q⟩
theorem Hr{T:Tgt}{l:PV}{v:V}{fp:List aN}{s s':ZL}{H:Hp}(h:Is K H l v fp)(e:Vj T l s=aA s') :
  ∃ls vs fs,s'=setAll T.slots ls s/\Iss K H ls vs fs/\ls.length=T.slots.length/\(∀p∈fs,p∈fp)/\∀σ (Q:Pq->Hp->Prop),Q (Xk T.slots vs σ) H->gT K T v σ H Q:=by
 cases T with
 | one i=>
  cases e;exact⟨[l],[v],fp,rfl,Iss.one h,rfl,λp hp=>hp,λσ Q q=>q⟩
 | many is=>
  cases l with
  | tup ls=>
   have e:(if ls.length=is.length then aA (VL.setAll is ls s) else aB)=aA s':=e;split at e
   ·cases e;obtain⟨p,xs,rfl,hp,hi⟩:=h.tup_inv;exact⟨ls,xs,fp,rfl,hi,by assumption,λp hp=>hp,λσ Q q=>⟨p,xs,rfl,SqT.of hp,by rw[hi.len];assumption,SE (by rw[hi.len];assumption) q⟩⟩
   ·cases e
  | _=>cases e
theorem UE:∀{is:List Nat}{vs:List V}{σ:Pq}{n:Nat},(∀i∈is,i<n)->(Xk is vs σ).drop n=σ.drop n
 | [],_,_,_,_=>rfl
 | _::_,[],_,_,_=>rfl
 | i::is,v::vs,σ,n,h=>by show(Xk is vs (σ.set i (aA v))).drop n=_;rw[UE (λj hj=>h j (aP _ hj))];have:=h i af;rw[List.drop_set,oA this]
theorem EnvIs.set{Rm:aN->Prop}{H:Hp}{s:ZL}{σ:Pq}{i:Nat}{l:PV}{v:V}{fp:List aN}(h:EnvIs K Rm H s σ)(hl:s.length=σ.length)(hi:Is K H l v fp)(n:∀p∈fp,¬Rm p):EnvIs K Rm H (s.set i (aA l)) (σ.set i (aA v)):=⟨λj a e=>by
 rw[bW] at e;by_cases hj:i=j
 ·subst hj;rw[oA rfl] at e;split at e
  ·cases e;exact⟨v,fp,by rw[bW,oA rfl,oA (by omega)],hi,n⟩
  ·cases e
 ·rw[oB hj] at e;obtain⟨w,f,h1,h2,h3⟩:=h.is j a e;exact⟨w,f,by rw[bW,oB hj];exact h1,h2,h3⟩⟩
theorem EnvIs.setAll{Rm:aN->Prop}{H:Hp}:∀{is:List Nat}{ls:List PV}{vs:List V}{fs:List aN}{s:ZL}{σ:Pq},EnvIs K Rm H s σ->s.length=σ.length->Iss K H ls vs fs->(∀p∈fs,¬Rm p)->EnvIs K Rm H (VL.setAll is ls s) (Xk is vs σ)
 | [],_,_,_,_,_,h,_,_,_=>by unfold VL.setAll Xk;exact h
 | i::is,[],vs,fs,s,σ,h,_,hi,_=>by simp only[Iss] at hi;rw[hi.1];exact h
 | i::is,l::ls,vs,fs,s,σ,h,hl,hi,n=>by obtain⟨x,r,f1,f2,rfl,h1,h2,rfl⟩:=hi.inv;show EnvIs K Rm H (VL.setAll is ls (s.set i (aA l))) (Xk is r (σ.set i (aA x)));exact EnvIs.setAll (h.set hl h1 λp hp=>n p (au _ hp)) (by rw[bp,bp];exact hl) h2 λp hp=>n p (ay _ hp)
def compEnv(n:Nat)(ix:List Nat)(s:ZL):ZL:=aG n aB++ix.map (λi=>(s[i]?).join)
noncomputable def Vk(T:Tgt)(ft:XT)(fe:XE)(s0:ZL):List PV->Option (List PV)
 | []=>aA []
 | l::r=>(Vj T l s0).bind λs1=>(ft s1).bind λc=>if c=aD then(fe s1).bind λy=>(Vk T ft fe s0 r).map (y::·) else Vk T ft fe s0 r
def Zr(n:Nat)(ix:List Nat)(fi:XL)(T:Tgt)(ft:XT)(fe:XE):XE:=λs=>(fi s).bind λls=>if ls.length<=10000 then(Vk T ft fe (compEnv n ix s) ls).map .lst else aB
def ZF:XT:=λ_=>aA aD
theorem join_some{α:Type}{o:Option (Option α)}{a:α}(h:o.join=aA a):o=aA (aA a):=by
 cases o with
 | none=>cases h
 | some b=>cases b with
  | none=>cases h
  | some c=>cases h;rfl
theorem EnvIs.comp{Rm:aN->Prop}{H:Hp}{s:ZL}{σ:Pq}{n:Nat}{ix:List Nat}(h:EnvIs K Rm H s σ):EnvIs K Rm H (compEnv n ix s) (YB n ix σ):=⟨λi l e=>by
 unfold compEnv at e;unfold YB;by_cases hi:i<n
 ·rw[az (by simpa using hi),b7,oA hi] at e;cases e
 ·rw[bK (by simpa using hi),bJ,aW] at e;rw[bK (by simpa using hi),bJ,aW]
  cases q:ix[i-n]? with
  | none=>rw[q] at e;cases e
  | some j=>
   rw[q] at e;have e:=join_some (bG e);obtain⟨v,fp,a,b,c⟩:=h.is j l e;exact⟨v,fp,by show aA ((σ[j]?).join)=_;rw[a];rfl,b,c⟩⟩
theorem JA(n:Nat)(ix:List Nat)(s:ZL)(σ:Pq):(compEnv n ix s).length=(YB n ix σ).length:=by unfold compEnv YB;simp
theorem OQ{T:Tgt}{ft:XT}{fe:XE}{s0:ZL}{l:PV}{r ys:List PV}(h:Vk T ft fe s0 (l::r)=aA ys):∃s1 c,Vj T l s0=aA s1/\ft s1=aA c/\((c=aD/\∃y zs,fe s1=aA y/\Vk T ft fe s0 r=aA zs/\ys=y::zs)\/(c=aC/\Vk T ft fe s0 r=aA ys)):=by
 unfold Vk at h;obtain⟨s1,e1,h⟩:=Zd h;obtain⟨c,e2,h⟩:=Zd h;refine⟨s1,c,e1,e2,?_⟩
 cases c with
 | true=>
  rw[oA rfl] at h;obtain⟨y,e3,h⟩:=Zd h;obtain⟨zs,e4,rfl⟩:=map_some h;exact .inl ⟨rfl,y,zs,e3,e4,rfl⟩
 | false=>
  rw[oB aw] at h;exact .inr ⟨rfl,h⟩
theorem OR{α:Type}{l:List α}{i:Nat}{a:α}{r:List α}(h:l.drop i=a::r):l[i]?=aA a/\l.drop (i+1)=r:=by
 constructor
 ·have:=congrArg (λz=>z[0]?) h;simpa [hX] using this
 ·rw[<-List.drop_drop,h];rfl
section
variable {n:Nat} {ix:List Nat} {fi:XL} {T:Tgt} {ft:XT} {fe:XE}
theorem Zal(hT:∀i∈T.slots,i<n):∀σ H Q,tF K (Zr n ix fi T ft fe) σ H Q->MP n ix (iF K fi) (gT K T) (IP K ft) (tF K fe) σ H Q:=λσ H Q ⟨Rm,s,L,hd,env,e,k⟩=>by
 obtain⟨ls,e1,e⟩:=Zd e;split at e
 case isFalse=>cases e
 rename_i hlen;obtain⟨ys,e2,rfl⟩:=map_some e;refine⟨Rm,s,ls,hd,env,e1,λJ H1 s1 jis=>?_⟩;have hd1:∀p,Rm p->Ue (H1 p):=λp hp=>Same.mut s1 (hd p hp)
 refine⟨λi m vs Hc=>m=ls.length-i/\i<=ls.length/\Same H1 Hc/\∃dn Zu fp,ys=dn++Zu/\dn.length<=i/\Vk T ft fe (compEnv n ix s) (ls.drop i)=aA Zu/\Iss K Hc dn vs fp/\∀p∈fp,¬Rm p,
  ⟨ls.length,by simp,cj _,Same.refl H1,[],ys,[],rfl,aT _,e2,Iss.nil,λp hp=>by simp at hp⟩,?_⟩
 rintro i m vs Hc ⟨rfl,hi,sc,dn,Zu,fp,rfl,hdl,ec,iv,nv⟩;refine⟨by rw[iv.len];exact cZ (lt_size (by omega)),?_⟩
 cases q:ls.drop i with
 | nil=>
  have hil:i=ls.length:=by have:=congrArg i7 q;rw[br] at this;simp at this;omega
  subst hil;rw[q] at ec;cases ec;refine .inl ⟨jis.stop Hc (Same.ab sc),λp hp=>k _ _ (p::fp) (s1.trans (sc.trans (Same.new hp _))) ?_ λa ha z=>?_⟩
  ·rw[di];exact Is.lst upd_same (iv.mono (Same.new hp _))
  ·rcases aa.mp ha with rfl | ha
   ·exact Xz (Same.mut (s1.trans sc) (hd a z)) hp
   ·exact nv a ha z
 | cons l r=>
  obtain⟨hl,hr⟩:=OR q;have hilt:i<ls.length:=(aS.mp hl).1;rw[q] at ec;obtain⟨sb,c,eb,et,alt⟩:=OQ ec
  refine .inr ⟨jis.go Hc i l (Same.ab sc) hl,λvs' H'=>Same H1 H'/\∃dn' o8 fp',dn++Zu=dn'++o8/\dn'.length<=i+1/\Vk T ft fe (compEnv n ix s) (ls.drop (i+1))=aA o8/\Iss K H' dn' vs' fp'/\∀p∈fp',¬Rm p,
   λvs' H' h'=>⟨ls.length-(i+1),by omega,rfl,hilt,h'.1,h'.2⟩,λx H2 y=>?_⟩
  obtain⟨s2,fx,ix',nx⟩:=jis.yld Hc i l x H2 (Same.ab sc) hl y;have hd2:∀p,Rm p->Ue (H2 p):=λp hp=>Same.mut (sc.trans s2) (hd1 p hp);obtain⟨bl,bv,bf,rfl,bi,_,bsub,buse⟩:=Hr (K:=K) ix' eb;have env2:EnvIs K Rm H2 (compEnv n ix s) (YB n ix σ):=(env.mono (s1.trans (sc.trans s2))).comp;have env3:=env2.setAll (is:=T.slots) (JA n ix s σ) bi λp hp=>(nx p (bsub p hp)).2;refine buse _ _ ⟨UE hT,Rm,_,c,hd2,env3,et,λH3 s3=>?_⟩;have hd3:∀p,Rm p->Ue (H3 p):=λp hp=>Same.mut s3 (hd2 p hp);rcases alt with⟨rfl,y',zs,ey,ez,rfl⟩ | ⟨rfl,ez⟩
  ·refine Zgo ?_;refine⟨Rm,_,y',hd3,env3.mono s3,ey,λv H4 f4 s4 i4 n4=>?_⟩;refine⟨sc.trans (s2.trans (s3.trans s4)),dn++[y'],zs,fp++f4,by rw[gH];rfl,by rw[ag];simp;exact hdl,by rw[hr];exact ez,(iv.mono (s2.trans (s3.trans s4))).append (Iss.one i4),λp hp=>?_⟩;rcases aq.mp hp with h | h
   ·exact nv p h
   ·exact n4 p h
  ·refine Zgn ?_;exact⟨sc.trans (s2.trans s3),dn,Zu,fp,rfl,mK hdl,by rw[hr];exact ez,iv.mono (s2.trans s3),nv⟩
theorem Fh(hT:∀i∈T.slots,i<n):∀σ H Q,tM K (Zr n ix fi T ft fe) σ H Q->MP n ix (iF K fi) (gT K T) (IP K ft) (tM K fe) σ H Q:=λσ H Q ⟨s,L,env,e,k⟩=>by
 obtain⟨ls,e1,e⟩:=Zd e;split at e
 case isFalse=>cases e
 rename_i hlen;obtain⟨ys,e2,rfl⟩:=map_some e;have hd:∀(H:Hp) p,(λ_=>False:aN->Prop) p->Ue (H p):=λ_ _ z=>z.elim;refine⟨λ_=>False,s,ls,hd H,env,e1,λJ H1 s1 jis=>?_⟩
 refine⟨λi m vs Hc=>m=ls.length-i/\i<=ls.length/\Same H1 Hc/\∃dn Zu fp,ys=dn++Zu/\dn.length<=i/\Vk T ft fe (compEnv n ix s) (ls.drop i)=aA Zu/\Iss K Hc dn vs fp/\fp.Nodup/\∀p∈fp,H1 p=aB/\Ue (Hc p),
  ⟨ls.length,by simp,cj _,Same.refl H1,[],ys,[],rfl,aT _,e2,Iss.nil,cG,λp hp=>by simp at hp⟩,?_⟩
 rintro i m vs Hc ⟨rfl,hi,sc,dn,Zu,fp,rfl,hdl,ec,iv,dv,nv⟩;refine⟨by rw[iv.len];exact cZ (lt_size (by omega)),?_⟩
 cases q:ls.drop i with
 | nil=>
  have hil:i=ls.length:=by have:=congrArg i7 q;rw[br] at this;simp at this;omega
  subst hil;rw[q] at ec;cases ec;refine .inl ⟨jis.stop Hc (Same.ab sc),λp hp=>k _ _ (p::fp) (s1.trans (sc.trans (Same.new hp _))) ?_ (ar.mpr ⟨λz=>Xz (nv p z).2 hp,dv⟩) λa ha=>?_⟩
  ·rw[di];exact Is.lst upd_same (iv.mono (Same.new hp _))
  ·rcases aa.mp ha with rfl | ha
   ·exact⟨Same.off (s1.trans sc) hp,by rw[upd_same];exact bj⟩
   ·exact⟨Same.off s1 (nv a ha).1,Same.mut (Same.new hp _) (nv a ha).2⟩
 | cons l r=>
  obtain⟨hl,hr⟩:=OR q;have hilt:i<ls.length:=(aS.mp hl).1;rw[q] at ec;obtain⟨sb,c,eb,et,alt⟩:=OQ ec
  refine .inr ⟨jis.go Hc i l (Same.ab sc) hl,λvs' H'=>Same H1 H'/\∃dn' o8 fp',dn++Zu=dn'++o8/\dn'.length<=i+1/\Vk T ft fe (compEnv n ix s) (ls.drop (i+1))=aA o8/\Iss K H' dn' vs' fp'/\fp'.Nodup/\∀p∈fp',H1 p=aB/\Ue (H' p),
   λvs' H' h'=>⟨ls.length-(i+1),by omega,rfl,hilt,h'.1,h'.2⟩,λx H2 y=>?_⟩
  obtain⟨s2,fx,ix',nx⟩:=jis.yld Hc i l x H2 (Same.ab sc) hl y;obtain⟨bl,bv,bf,rfl,bi,_,bsub,buse⟩:=Hr (K:=K) ix' eb;have env2:EnvIs K (λ_=>False) H2 (compEnv n ix s) (YB n ix σ):=(env.mono (s1.trans (sc.trans s2))).comp;have env3:=env2.setAll (is:=T.slots) (JA n ix s σ) bi λp hp=>(nx p (bsub p hp)).2;refine buse _ _ ⟨UE hT,λ_=>False,_,c,hd H2,env3,et,λH3 s3=>?_⟩;rcases alt with⟨rfl,y',zs,ey,ez,rfl⟩ | ⟨rfl,ez⟩
  ·refine Zgo ?_;refine⟨_,y',env3.mono s3,ey,λv H4 f4 s4 i4 d4 n4=>?_⟩;refine⟨sc.trans (s2.trans (s3.trans s4)),dn++[y'],zs,fp++f4,by rw[gH];rfl,by rw[ag];simp;exact hdl,by rw[hr];exact ez,(iv.mono (s2.trans (s3.trans s4))).append (Iss.one i4),dG.mpr ⟨dv,d4,λa ha b hb z=>?_⟩,λp hp=>?_⟩
   ·subst z;exact Xz (Same.mut (s2.trans s3) (nv a ha).2) (n4 a hb).1
   ·rcases aq.mp hp with h | h
    ·exact⟨(nv p h).1,Same.mut (s2.trans (s3.trans s4)) (nv p h).2⟩
    ·exact⟨Same.off (sc.trans (s2.trans s3)) (n4 p h).1,(n4 p h).2⟩
  ·refine Zgn ?_;exact⟨sc.trans (s2.trans s3),dn,Zu,fp,rfl,mK hdl,by rw[hr];exact ez,iv.mono (s2.trans s3),dv,λp hp=>⟨(nv p hp).1,Same.mut (s2.trans s3) (nv p hp).2⟩⟩
end
def VTs(X:Cx)(ifs:List bS)(f:XT):Prop:=Cg X ifs (IP X.K f)
section
variable {X:Cx} {tg elt iter c:bS} {ifs:List bS} {scope:gK} {pos:fZ} {fi:XL} {T:Tgt} {ft:XT} {fe:XE}
theorem XB:VTs X [] ZF:=λnu s σ H Q I ⟨Rm,s',c,hd,env,e,k⟩=>by cases e;exact A2 nu s σ H Q I (k H (Same.refl H))
theorem P5(h:VT X c ft):VTs X [c] ft:=A3 h
theorem VQ(own fr:List bH)(ix:List Nat)(hcalm:X.calm=aD)(hi:VI X tg iter fi)(S:Uy X.N X.env.scope scope own fr ix=aD)
  (hg:∀cl C s H ex,PG (ZG X (own++fr) scope cl C s H ex) tg (gT X.K T)) (ht:∀cl C s H ex,VTs (ZG X (own++fr) scope cl C s H ex) ifs ft) (he:∀cl C s H ex,VE (ZG X (own++fr) scope cl C s H ex) elt fe)
  (hT:∀i∈T.slots,i<own.length:=by decide) (hs:∀x,cE iter X.env x=pure x:=by intro _;rfl):VE X (.ListComp elt [⟨tg,iter,ifs,0⟩] scope pos) (Zr own.length ix fi T ft fe):=
 PE.imp (Jm own fr ix hcalm hi S hg (λcl C s H ex=>(show Cg (ZG X (own++fr) scope cl C s H ex) ifs (IP X.K ft) from ht cl C s H ex)) (λcl C s H ex=>(show PE (ZG X (own++fr) scope cl C s H ex) elt (tF X.K fe) from he cl C s H ex)) hs) (Zal hT)
theorem RN(own fr:List bH)(ix:List Nat)(hcalm:X.calm=aD)(hi:VI X tg iter fi)(S:Uy X.N X.env.scope scope own fr ix=aD)
  (hg:∀cl C s H ex,PG (ZG X (own++fr) scope cl C s H ex) tg (gT X.K T)) (ht:∀cl C s H ex,VTs (ZG X (own++fr) scope cl C s H ex) ifs ft) (he:∀cl C s H ex,VM (ZG X (own++fr) scope cl C s H ex) elt fe)
  (hT:∀i∈T.slots,i<own.length:=by decide) (hs:∀x,cE iter X.env x=pure x:=by intro _;rfl):VM X (.ListComp elt [⟨tg,iter,ifs,0⟩] scope pos) (Zr own.length ix fi T ft fe):=
 PE.imp (Jm own fr ix hcalm hi S hg (λcl C s H ex=>(show Cg (ZG X (own++fr) scope cl C s H ex) ifs (IP X.K ft) from ht cl C s H ex)) (λcl C s H ex=>(show PE (ZG X (own++fr) scope cl C s H ex) elt (tM X.K fe) from he cl C s H ex)) hs) (Fh hT)
end
def UG(xs:List PV)(lo hi:Option Int):List PV:=(xs.drop (HT.sIx xs.length 0 lo)).take (HT.sIx xs.length xs.length hi-HT.sIx xs.length 0 lo)
theorem Iss.cut{H:Hp}{l:List PV}{xs:List V}{fp:List aN}(lo hi:Option Int)(h:Iss K H l xs fp):∃f1,Iss K H (UG l lo hi) (Jg xs lo hi) f1/\∀p∈f1,p∈fp:=by unfold UG Jg;rw[h.len];obtain⟨f1,a,b⟩:=h.drop (HT.sIx l.length 0 lo);obtain⟨f2,c,d⟩:=a.take (HT.sIx l.length l.length hi-HT.sIx l.length 0 lo);exact⟨f2,c,λp hp=>b p (d p hp)⟩
abbrev XO:=ZL->Option (Option Int)
def tFO(K:aJ)(f:XO):TO:=λσ H Q=>∃(Rm:aN->Prop) (s:ZL) (i:Option Int),(∀p,Rm p->Ue (H p))/\EnvIs K Rm H s σ/\f s=aA i/\∀H',Same H H'->Q i H'
def VO(X:Cx)(e:Option bS)(f:XO):Prop:=PO X e (tFO X.K f)
def Mi:XO:=λ_=>aA aB
noncomputable def QD(f:XE):XO:=λs=>match f s with | some (.int i)=>aA (aA i) | _=>aB
def Zen(x:PV)(lo hi:Option Int):Option PV:=match x with | .lst l=>aA (.lst (UG l lo hi)) | .cst l=>aA (.lst (UG l lo hi)) | _=>aB
noncomputable def XD(x:PV)(lo hi:Option Int):Option PV:=match x with | .tup l=>if HT.sIx l.length 0 lo=0/\HT.sIx l.length l.length hi=l.length then aB else aA (.tup (UG l lo hi)) | _=>aB
noncomputable def P6(g:PV->Option Int->Option Int->Option PV)(a:XE)(lo hi:XO):XE:=λs=>(a s).bind λx=>(lo s).bind λl=>(hi s).bind λu=>g x l u
theorem EN{l:List PV}(lo hi:Option Int)(h:ZD l=aD):ZD (UG l lo hi)=aD:=by rw[W9,bO] at *;intro x hx;unfold UG at hx;exact h x (ko (fN hx))
section
variable {X:Cx} {e:bS} {lo hi:Option bS} {p2 pos:fZ} {fa:XE} {fl fh:XO}
theorem UH:VO X aB Mi:=λnu s σ H Q I ⟨Rm,s',i,hd,env,e,k⟩=>by cases e;exact AU nu s σ H Q I (k H (Same.refl H))
theorem W3{e:bS}(h:VE X e fa):VO X (aA e) (QD fa):=λnu s σ H Q I ⟨Rm,s',i,hd,env,e,k⟩=>by
 unfold QD at e;split at e
 ·cases e;rename_i j hj;exact AV h nu s σ H Q I ⟨Rm,s',.int j,hd,env,hj,λv H' fp sm i n=>⟨j,i.int_inv.1,k H' sm⟩⟩
 ·cases e
theorem EO(ha:VE X e fa)(hl:VO X lo fl)(hh:VO X hi fh):VE X (.Subscript e (.Slice lo hi aB p2) pos) (P6 Zen fa fl fh):=PE.imp (Jf AY ha hl hh) λσ H Q ⟨Rm,s,l,hd,env,e,k⟩=>by
 obtain⟨x,e1,e⟩:=Zd e;obtain⟨a,e2,e⟩:=Zd e;obtain⟨b,e3,e⟩:=Zd e;refine⟨Rm,s,x,hd,env,e1,λv H1 fp s1 i1 n1=>⟨Rm,s,a,λp hp=>Same.mut s1 (hd p hp),env.mono s1,e2,λH2 s2=>⟨Rm,s,b,λp hp=>Same.mut (s1.trans s2) (hd p hp),env.mono (s1.trans s2),e3,λH3 s3=>?_⟩⟩⟩
 cases x with
 | lst l=>
  cases e;obtain⟨p,xs,fq,rfl,hp,hi,rfl⟩:=(i1.mono (s2.trans s3)).lst_inv;obtain⟨f1,c,d⟩:=hi.cut a b;refine⟨p,xs,rfl,SqL.of hp,λq hq=>k _ _ (q::f1) (s1.trans (s2.trans (s3.trans (Same.new hq _)))) (Is.lst upd_same (c.mono (Same.new hq _))) λr hr z=>?_⟩;rcases aa.mp hr with rfl | hr
  ·exact Xz (Same.mut (s1.trans (s2.trans s3)) (hd r z)) hq
  ·exact n1 r (aP _ (d r hr)) z
 | cst l=>
  cases e;obtain⟨p,xs,rfl,hp,hi⟩:=(i1.mono (s2.trans s3)).cst_inv;obtain⟨f1,c,d⟩:=hi.cut a b;refine⟨p,xs,rfl,hp.sq,λq hq=>k _ _ (q::f1) (s1.trans (s2.trans (s3.trans (Same.new hq _)))) (Is.lst upd_same (c.mono (Same.new hq _))) λr hr z=>?_⟩;rcases aa.mp hr with rfl | hr
  ·exact Xz (Same.mut (s1.trans (s2.trans s3)) (hd r z)) hq
  ·exact n1 r (d r hr) z
 | _=>cases e
theorem We(ha:VE X e fa)(hl:VO X lo fl)(hh:VO X hi fh):VE X (.Subscript e (.Slice lo hi aB p2) pos) (P6 XD fa fl fh):=PE.imp (Jf Zdx ha hl hh) λσ H Q ⟨Rm,s,l,hd,env,e,k⟩=>by
 obtain⟨x,e1,e⟩:=Zd e;obtain⟨a,e2,e⟩:=Zd e;obtain⟨b,e3,e⟩:=Zd e;refine⟨Rm,s,x,hd,env,e1,λv H1 fp s1 i1 n1=>⟨Rm,s,a,λp hp=>Same.mut s1 (hd p hp),env.mono s1,e2,λH2 s2=>⟨Rm,s,b,λp hp=>Same.mut (s1.trans s2) (hd p hp),env.mono (s1.trans s2),e3,λH3 s3=>?_⟩⟩⟩
 cases x with
 | tup l=>
  unfold XD at e;simp only at e;split at e
  ·cases e
  ·rename_i hne;cases e;obtain⟨p,xs,rfl,hp,hi⟩:=(i1.mono (s2.trans s3)).tup_inv;obtain⟨f1,c,d⟩:=hi.cut a b;refine⟨p,xs,rfl,SqT.of hp,by rw[hi.len];exact hne,λq hq=>k _ _ f1 (s1.trans (s2.trans (s3.trans (Same.new hq _)))) (Is.tup upd_same (c.mono (Same.new hq _))) λr hr=>n1 r (d r hr)⟩
 | _=>cases e
end
end VL
namespace VL
open PySem PySem.Spec PyProof.Rows L2
variable {K:aJ}
structure Rel(K:aJ)(O:List Nat)(H0:Hp)(fps:Nat->List aN)(s:ZL)(σ:Pq)(H:Hp):Prop where
 same:Same H0 H
 len:s.length=σ.length
 is:∀(i:Nat) l,s[i]?=aA (aA l)->∃v,σ[i]?=aA (aA v)/\Is K H l v (fps i)
 emp:∀(i:Nat),(∀l,s[i]?≠aA (aA l))->fps i=[]
 nd:∀i∈O,(fps i).Nodup
 own:∀i∈O,∀p∈fps i,H0 p=aB/\Ue (H p)
 dis:∀i∈O,∀j,j≠i->∀p∈fps i,p∉fps j
def Ow(O:List Nat)(fps:Nat->List aN)(p:aN):Prop:=∃i∈O,p∈fps i
def Z5(O:List Nat)(s:ZL):ZL:=O.foldl (λs i=>s.set i aB) s
theorem OS:∀{O:List Nat}{s:ZL}{i:Nat}{l:PV},(Z5 O s)[i]?=aA (aA l)->i∉O/\s[i]?=aA (aA l)
 | [],s,i,l,h=>⟨by simp,h⟩
 | o::O,s,i,l,h=>by
  obtain⟨h1,h2⟩:=OS (O:=O) (s:=s.set o aB) h;rw[bW] at h2;by_cases e:o=i
  ·rw[oA e] at h2;split at h2<;>cases h2
  ·rw[oB e] at h2;exact⟨by simp only[aa,not_or];exact⟨λz=>e z.symm,h1⟩,h2⟩
section
variable {O:List Nat} {H0 H H':Hp} {fps:Nat->List aN} {s:ZL} {σ:Pq}
theorem Rel.at(r:Rel K O H0 fps s σ H)(i:Nat){p:aN}(hp:p∈fps i):∃l v,s[i]?=aA (aA l)/\σ[i]?=aA (aA v)/\Is K H l v (fps i):=by
 cases q:s[i]? with
 | none=>rw[r.emp i (λl z=>by rw[q] at z;cases z)] at hp;simp at hp
 | some o=>cases o with
  | none=>rw[r.emp i (λl z=>by rw[q] at z;cases z)] at hp;simp at hp
  | some l=>
   obtain⟨v,a,b⟩:=r.is i l q;exact⟨l,v,rfl,a,b⟩
theorem Rel.dom(r:Rel K O H0 fps s σ H)(i:Nat):∀p∈fps i,H p≠aB:=λp hp=>by obtain⟨l,v,_,_,b⟩:=r.at i hp;exact Is.dom _ _ _ b p hp
theorem Rel.env(r:Rel K O H0 fps s σ H):EnvIs K (λ_=>False) H s σ:=⟨λi l e=>by
 obtain⟨v,a,b⟩:=r.is i l e;exact⟨v,_,a,b,λ_ _ z=>z⟩⟩
theorem Rel.envO(r:Rel K O H0 fps s σ H):EnvIs K (Ow O fps) H (Z5 O s) σ:=⟨λi l e=>by
 obtain⟨n,e⟩:=OS e;obtain⟨v,a,b⟩:=r.is i l e;exact⟨v,_,a,b,λp hp ⟨j,hj,hpj⟩=>r.dis j hj i (λz=>n (z▸hj)) p hpj hp⟩⟩
theorem Rel.owMut(r:Rel K O H0 fps s σ H):∀p,Ow O fps p->Ue (H p):=λp ⟨i,hi,hp⟩=>(r.own i hi p hp).2
theorem Rel.grow(r:Rel K O H0 fps s σ H)(e:Same H H'):Rel K O H0 fps s σ H':=
 ⟨r.same.trans e,r.len,λi l q=>by obtain⟨v,a,b⟩:=r.is i l q;exact⟨v,a,b.mono e⟩,r.emp,r.nd,λi hi p hp=>⟨(r.own i hi p hp).1,Same.mut e (r.own i hi p hp).2⟩,r.dis⟩
theorem Rel.less{F:Hp}(r:Rel K O F fps s σ H)(e:Same H0 F):Rel K O H0 fps s σ H:=
 ⟨e.trans r.same,r.len,r.is,r.emp,r.nd,λi hi p hp=>⟨Same.off e (r.own i hi p hp).1,(r.own i hi p hp).2⟩,r.dis⟩
open Classical in
def WG(H:Hp)(Rm:aN->Prop):Hp:=λb=>if Rm b then aB else H b
theorem M1{Rm:aN->Prop}:Same (WG H Rm) H:=λb o h=>by
 unfold WG at h;split at h
 ·cases h
 ·exact h
theorem Rel.frame(r:Rel K O H0 fps s σ H):Rel K O (WG H (Ow O fps)) fps s σ H:=
 ⟨M1,r.len,r.is,r.emp,r.nd,λi hi p hp=>⟨by unfold WG;rw[oA ⟨i,hi,hp⟩],(r.own i hi p hp).2⟩,r.dis⟩
theorem Rel.under(r:Rel K O H0 fps s σ H):Same H0 (WG H (Ow O fps)):=λb o h=>by unfold WG;rw[oB (λ⟨i,hi,hp⟩=>by rw[(r.own i hi b hp).1] at h;cases h)];exact r.same b o h
open Classical in
def PU(fps:Nat->List aN)(n:Nat)(i:Nat)(fp:List aN):Nat->List aN:=λj=>if j=i/\i<n then fp else fps j
theorem Yv{n i j:Nat}{fp:List aN}(h:j≠i):PU fps n i fp j=fps j:=by unfold PU;rw[oB (λz=>h z.1)]
theorem Fj{n i:Nat}{fp:List aN}(h:i<n):PU fps n i fp i=fp:=by unfold PU;rw[oA ⟨rfl,h⟩]
theorem Rel.set(r:Rel K O H0 fps s σ H){i:Nat}{l:PV}{v:V}{fp:List aN}(hi:Is K H l v fp)(ho:i∈O->fp.Nodup/\∀p∈fp,H0 p=aB/\Ue (H p))
  (hd:∀j,j≠i->(j∈O\/i∈O)->∀p∈fp,p∉fps j):Rel K O H0 (PU fps s.length i fp) (s.set i (aA l)) (σ.set i (aA v)) H:=by
 by_cases hlt:i<s.length
 ·have e1:PU fps s.length i fp i=fp:=Fj hlt;refine⟨r.same,by rw[bp,bp];exact r.len,λj a e=>?_,λj h=>?_,λj hj=>?_,λj hj p hp=>?_,λj hj k hk p hp=>?_⟩
  ·rw[bW] at e;by_cases hj:i=j
   ·subst hj;rw[oA rfl,oA hlt] at e;cases e;rw[e1];exact⟨v,by rw[bW,oA rfl,oA (by rw[<-r.len];exact hlt)],hi⟩
   ·rw[oB hj] at e;obtain⟨w,h1,h2⟩:=r.is j a e;rw[Yv (bX hj)];exact⟨w,by rw[bW,oB hj];exact h1,h2⟩
  ·by_cases hj:i=j
   ·subst hj;exact absurd (by rw[bW,oA rfl,oA hlt]) (h l)
   ·rw[Yv (bX hj)];exact r.emp j λa z=>h a (by rw[bW,oB hj];exact z)
  ·by_cases e:j=i
   ·subst e;rw[e1];exact(ho hj).1
   ·rw[Yv e];exact r.nd j hj
  ·by_cases e:j=i
   ·subst e;rw[e1] at hp;exact(ho hj).2 p hp
   ·rw[Yv e] at hp;exact r.own j hj p hp
  ·by_cases e:j=i
   ·subst e;rw[e1] at hp;rw[Yv hk];exact hd k hk (.inr hj) p hp
   ·rw[Yv e] at hp;by_cases e2:k=i
    ·subst e2;rw[e1];exact λz=>hd j e (.inl hj) p z hp
    ·rw[Yv e2];exact r.dis j hj k hk p hp
 ·have e1:s.set i (aA l)=s:=jn (by omega);have e2:σ.set i (aA v)=σ:=jn (by rw[<-r.len];omega);have e3:PU fps s.length i fp=fps:=by funext j;unfold PU;rw[oB (λz=>hlt z.2)]
  rw[e1,e2,e3];exact r
theorem Rel.mutate(r:Rel K O H0 fps s σ H){i:Nat}(hi:i∈O){p:aN}(hp:p∈fps i){o:HO}{l':PV}{v:V}{fp':List aN}(hv:σ[i]?=aA (aA v))(hlt:i<s.length)
  (h':Is K (upd H p o) l' v fp') (nd:fp'.Nodup) (hm:∀q∈fp',H0 q=aB/\Ue (upd H p o q)) (hd:∀j,j≠i->∀q∈fp',q∉fps j) (hmo:Ue (aA o)):Rel K O H0 (PU fps s.length i fp') (s.set i (aA l')) σ (upd H p o):=by
 have mu:=(r.own i hi p hp).2;have pn:H0 p=aB:=(r.own i hi p hp).1;have e1:PU fps s.length i fp' i=fp':=Fj hlt
 have tk:TK2 H (upd H p o):=⟨λb xs h=>by
  rw[upd_ne (λz=>by rw[z] at h;rw[h] at mu;exact mu)];exact h,λb o xs h=>by
  rw[upd_ne (λz=>by rw[z] at h;rw[h] at mu;exact mu)];exact h,λb o x h=>by
  rw[upd_ne (λz=>by rw[z] at h;rw[h] at mu;exact mu)];exact h⟩
 refine⟨λb u h=>by rw[upd_ne (Zm h pn)];exact r.same b u h,by rw[bp];exact r.len,λj a e=>?_,λj h=>?_,λj hj=>?_,λj hj q hq=>?_,λj hj k hk q hq=>?_⟩
 ·rw[bW] at e;by_cases hj:i=j
  ·subst hj;rw[oA rfl,oA hlt] at e;cases e;rw[e1];exact⟨v,hv,h'⟩
  ·rw[oB hj] at e;obtain⟨w,h1,h2⟩:=r.is j a e;rw[Yv (bX hj)];refine⟨w,h1,Is.tr tk _ _ _ (λq hq=>RdK.of λu hu=>?_) h2⟩;have ne:q≠p:=λz=>r.dis i hi j (bX hj) p hp (z▸hq);rw[upd_ne ne];exact hu
 ·by_cases hj:i=j
  ·subst hj;exact absurd (by rw[bW,oA rfl,oA hlt]) (h l')
  ·rw[Yv (bX hj)];exact r.emp j λa z=>h a (by rw[bW,oB hj];exact z)
 ·by_cases e:j=i
  ·subst e;rw[e1];exact nd
  ·rw[Yv e];exact r.nd j hj
 ·by_cases e:j=i
  ·subst e;rw[e1] at hq;exact hm q hq
  ·rw[Yv e] at hq;refine⟨(r.own j hj q hq).1,?_⟩;have ne:q≠p:=λz=>r.dis j hj i (bX e) q hq (z▸hp);rw[upd_ne ne];exact(r.own j hj q hq).2
 ·by_cases e:j=i
  ·subst e;rw[e1] at hq;rw[Yv hk];exact hd k hk q hq
  ·rw[Yv e] at hq;by_cases e2:k=i
   ·subst e2;rw[e1];exact λz=>hd j e q z hq
   ·rw[Yv e2];exact r.dis j hj k hk q hq
end
def Kep(a b:List aN):Prop:=a=b\/a=[]
theorem Kep.refl(a:List aN):Kep a a:=.inl rfl
theorem Kep.trans{a b c:List aN}(h:Kep a b)(k:Kep b c):Kep a c:=by
 rcases h with rfl | h
 ·exact k
 ·exact .inr h
inductive Out where
 | nx (s:ZL) | rt (l:PV) | bk (s:ZL) | ct (s:ZL)
abbrev XS:=ZL->Option Out
def OutOk(K:aJ)(O W:List Nat)(H0:Hp)(fps:Nat->List aN)(σ:Pq)(D:Ru):Out->Prop
 | .nx s'=>∀o6 σ' H',Rel K O H0 o6 s' σ' H'->(∀j,j∉W->σ'[j]?=σ[j]?/\Kep (o6 j) (fps j))->D.nx σ' H'
 | .bk s'=>∀o6 σ' H',Rel K O H0 o6 s' σ' H'->(∀j,j∉W->σ'[j]?=σ[j]?/\Kep (o6 j) (fps j))->D.bk σ' H'
 | .ct s'=>∀o6 σ' H',Rel K O H0 o6 s' σ' H'->(∀j,j∉W->σ'[j]?=σ[j]?/\Kep (o6 j) (fps j))->D.ct σ' H'
 | .rt l=>∀v fp H',Same H0 H'->Is K H' l v fp->fp.Nodup->(∀p∈fp,H0 p=aB/\Ue (H' p))->D.rt v H'
def Az(K:aJ)(O W:List Nat)(f:XS):TS:=λD σ H=>∃H0 fps s out,Rel K O H0 fps s σ H/\f s=aA out/\OutOk K O W H0 fps σ D out
def VS(X:Cx)(O W:List Nat)(st:bx)(f:XS):Prop:=PS X st (Az X.K O W f)
def Fl(X:Cx)(O W:List Nat)(st:List bx)(f:XS):Prop:=PSs X st (Az X.K O W f)
theorem OutOk.same{O W W':List Nat}{H0:Hp}{fps fps1:Nat->List aN}{σ σ1:Pq}{D:Ru}{out:Out}(h:OutOk K O W' H0 fps σ D out)(k:∀j,j∉W'->σ1[j]?=σ[j]?/\Kep (fps1 j) (fps j))(hs:∀j,j∉W'->j∉W):OutOk K O W H0 fps1 σ1 D out:=by
 cases out with
 | nx s'=>exact λo6 σ' H' r q=>h o6 σ' H' r λj hj=>⟨(q j (hs j hj)).1.trans (k j hj).1,(q j (hs j hj)).2.trans (k j hj).2⟩
 | bk s'=>exact λo6 σ' H' r q=>h o6 σ' H' r λj hj=>⟨(q j (hs j hj)).1.trans (k j hj).1,(q j (hs j hj)).2.trans (k j hj).2⟩
 | ct s'=>exact λo6 σ' H' r q=>h o6 σ' H' r λj hj=>⟨(q j (hs j hj)).1.trans (k j hj).1,(q j (hs j hj)).2.trans (k j hj).2⟩
 | rt l=>exact h
theorem OutOk.less{O W:List Nat}{H0 F:Hp}{fps:Nat->List aN}{σ:Pq}{D:Ru}{out:Out}(h:OutOk K O W H0 fps σ D out)(e:Same H0 F):OutOk K O W F fps σ D out:=by
 cases out with
 | nx s'=>exact λo6 σ' H' r q=>h o6 σ' H' (r.less e) q
 | bk s'=>exact λo6 σ' H' r q=>h o6 σ' H' (r.less e) q
 | ct s'=>exact λo6 σ' H' r q=>h o6 σ' H' (r.less e) q
 | rt l=>exact λv fp H' sm i d n=>h v fp H' (e.trans sm) i d λp hp=>⟨Same.off e (n p hp).1,(n p hp).2⟩
def Yk:XS:=λs=>aA (.nx s)
def Zj(f g:XS):XS:=λs=>(f s).bind λo=>match o with | .nx s'=>g s' | r=>aA r
def Sn(c:XT)(f g:XS):XS:=λs=>(c s).bind λk=>if k=aD then f s else g s
def ZN(f:XE):XS:=λs=>(f s).map .rt
def Zk(i:Nat)(f:XE):XS:=λs=>(f s).map λl=>.nx (s.set i (aA l))
section
variable {X:Cx} {O W W1 W2:List Nat} {st:bx} {Zu:List bx} {f g:XS} {pos:fZ}
theorem PS.imp{t t':TS}(h:PS X st t)(i:∀D σ H,t' D σ H->t D σ H):PS X st t':=λnu s σ H D I q=>h nu s σ H D I (i D σ H q)
theorem PSs.imp{t t':TS}(h:PSs X Zu t)(i:∀D σ H,t' D σ H->t D σ H):PSs X Zu t':=λnu s σ H D I q=>h nu s σ H D I (i D σ H q)
theorem CB:∀D σ H,Az K O W Yk D σ H->Zcc D σ H:=λD σ H ⟨H0,fps,s,out,r,e,k⟩=>by cases e;exact k fps σ H r λj _=>⟨rfl,Kep.refl _⟩
theorem Ym:Fl X O [] [] Yk:=PSs.imp AI CB
theorem Zh(h:VS X O W st f):Fl X O W [st] f:=AJ h
theorem Ze(h1:VS X O W1 st f)(h2:Fl X O W2 Zu g):Fl X O (W1++W2) (st::Zu) (Zj f g):=PSs.imp (DZ h1 h2) λD σ H ⟨H0,fps,s,out,r,e,k⟩=>by
 obtain⟨o1,e1,e⟩:=Zd e;have sub1:∀j,j∉W1++W2->j∉W1:=λj hj z=>hj (au _ z);have sub2:∀j,j∉W1++W2->j∉W2:=λj hj z=>hj (ay _ z);refine⟨H0,fps,s,o1,r,e1,?_⟩
 cases o1 with
 | nx s1=>
  intro fps1 σ1 H1 r1 q1;exact⟨H0,fps1,s1,out,r1,e,k.same (λj hj=>q1 j (sub1 j hj)) sub2⟩
 | bk s1=>cases e;exact λo6 σ' H' r' q'=>k o6 σ' H' r' λj hj=>q' j (sub1 j hj)
 | ct s1=>cases e;exact λo6 σ' H' r' q'=>k o6 σ' H' r' λj hj=>q' j (sub1 j hj)
 | rt l=>cases e;exact k
theorem XY{c:bS}{a b:List bx}{fc:XT}(hc:VT X c fc)(ha:Fl X O W1 a f)(hb:Fl X O W2 b g):VS X O (W1++W2) (.If c a b pos) (Sn fc f g):=PS.imp (Zfy hc ha hb) λD σ H ⟨H0,fps,s,out,r,e,k⟩=>by
 obtain⟨c,e1,e⟩:=Zd e;have sub1:∀j,j∉W1++W2->j∉W1:=λj hj z=>hj (au _ z);have sub2:∀j,j∉W1++W2->j∉W2:=λj hj z=>hj (ay _ z);refine⟨λ_=>False,s,c,λ_ z=>z.elim,r.env,e1,λH1 s1=>?_⟩
 cases c with
 | true=>
  rw[oA rfl] at e ⊢;exact⟨H0,fps,s,out,r.grow s1,e,k.same (λj _=>⟨rfl,Kep.refl _⟩) sub1⟩
 | false=>
  rw[oB aw] at e ⊢;exact⟨H0,fps,s,out,r.grow s1,e,k.same (λj _=>⟨rfl,Kep.refl _⟩) sub2⟩
theorem Zy{e:bS}{fe:XE}(he:VM X e fe):VS X O [] (.Return (aA e) pos) (ZN fe):=PS.imp (LA he) λD σ H ⟨H0,fps,s,out,r,e,k⟩=>by obtain⟨l,e1,rfl⟩:=map_some e;exact⟨s,l,r.env,e1,λv H' fp sm i d n=>k v fp H' (r.same.trans sm) i d λp hp=>⟨Same.off r.same (n p hp).1,(n p hp).2⟩⟩
theorem VR{e:bS}{i:Nat}(he:PE X e (Sy i))(hi:i∈O:=by decide):VS X O [] (.Return (aA e) pos) (ZN (Za i)):=PS.imp (LA he) λD σ H ⟨H0,fps,s,out,r,e,k⟩=>by obtain⟨l,e1,rfl⟩:=map_some e;obtain⟨v,a,b⟩:=r.is i l (Qy e1);exact⟨v,a,k v _ H r.same b (r.nd i hi) (r.own i hi)⟩
theorem Fm{t:TE}{i:Nat}{fe:XE}(ht:∀σ H Q,tM K fe σ H Q->t σ H Q):∀D σ H,Az K O [i] (Zk i fe) D σ H->K9 t (Rv i) D σ H:=λD σ H ⟨H0,fps,s,out,r,e,k⟩=>by
 obtain⟨l,e1,rfl⟩:=map_some e;refine ht σ H _ ⟨s,l,r.env,e1,λv H' fp sm is d n=>?_⟩;refine k _ _ H' ((r.grow sm).set (i:=i) is (λ_=>⟨d,λp hp=>⟨Same.off r.same (n p hp).1,(n p hp).2⟩⟩) λj _ _ p hp z=>r.dom j p z (n p hp).1) λj hj=>?_;have:j≠i:=by simpa using hj
 exact⟨by rw[bW,oB (bX this)],.inl (Yv this)⟩
theorem Zeo{i:Nat}{x:bH}{e:bS}{fe:XE}{pos':fZ}(hN:X.N.Nodup)(hi:X.N[i]?=aA x)(hx:AE X.env.scope x)(he:VM X e fe)(hs:iC e (aA (.Name x pos')) pos.line X.env=pure aC:=by rfl)(hf:X.fn x=aD\/X.env.scope.names.lookup x=aA .local:=by first | exact .inl rfl | exact .inr rfl | assumption) :
  VS X O [i] (.Assign [.Name x pos'] e pos) (Zk i fe):=PS.imp (Zdj hN hi hx he hs hf) (Fm λ_ _ _ h=>h)
end
def Xe(T:Tgt)(fb:XS):List PV->ZL->Option Out
 | [],s=>aA (.nx s)
 | l::r,s=>(Vj T l s).bind λs1=>(fb s1).bind λo=>match o with | .nx s2=>Xe T fb r s2 | .ct s2=>Xe T fb r s2 | .bk s2=>aA (.nx s2) | .rt v=>aA (.rt v)
def YR(O:List Nat)(fi:XL)(T:Tgt)(fb:XS):XS:=λs=>(fi (Z5 O s)).bind λls=>Xe T fb ls s
theorem Rel.setAll{O:List Nat}{H0 H:Hp}:∀{is:List Nat}{ls:List PV}{vs:List V}{fs:List aN}{fps:Nat->List aN}{s:ZL}{σ:Pq},Rel K O H0 fps s σ H->Iss K H ls vs fs->ls.length=is.length->(∀i∈is,i∉O)->(∀i∈O,∀p∈fps i,p∉fs)->
  ∃o6,Rel K O H0 o6 (VL.setAll is ls s) (Xk is vs σ) H/\∀j,j∉is->(Xk is vs σ)[j]?=σ[j]?/\Kep (o6 j) (fps j)
 | [],ls,vs,fs,fps,s,σ,r,_,_,_,_=>⟨fps,by unfold VL.setAll Xk;exact r,λj _=>⟨by unfold Xk;rfl,Kep.refl _⟩⟩
 | i::is,[],vs,fs,fps,s,σ,r,_,hl,_,_=>by simp at hl
 | i::is,l::ls,vs,fs,fps,s,σ,r,hi,hl,hO,hd=>by
  obtain⟨x,rr,f1,f2,rfl,h1,h2,rfl⟩:=hi.inv;have hiO:=hO i af
  have r1:=r.set (i:=i) h1 (λz=>absurd z hiO) λj hj hjo p hp z=>by
   rcases hjo with hjo | hjo
   ·exact hd j hjo p z (au _ hp)
   ·exact absurd hjo hiO
  obtain⟨o6,r2,q2⟩:=Rel.setAll (is:=is) r1 h2 (by simpa using hl) (λj hj=>hO j (aP _ hj)) λj hj p hp z=>by have hji:j≠i:=λe=>hiO (by rw[<-e];exact hj);rw[Yv hji] at hp;exact hd j hj p hp (ay _ z)
  refine⟨o6,r2,λj hj=>?_⟩;have hji:j≠i:=λe=>hj (e▸af);obtain⟨a,b⟩:=q2 j (λz=>hj (aP _ z));exact⟨a.trans (by rw[bW,oB (bX hji)]),b.trans (.inl (Yv hji))⟩
section
variable {O W:List Nat} {T:Tgt} {fb:XS}
theorem OT{H1:Hp}{fps:Nat->List aN}{s:ZL}{σ:Pq}{D:Ru}{J:It}{ls:List PV}{out:Out}(r:Rel K O (WG H1 (Ow O fps)) fps s σ H1)(jis:JIs K (Ow O fps) H1 J ls)(e:Xe T fb ls s=aA out)(hT:∀i∈T.slots,i∉O)
  (k:OutOk K O (T.slots++W) (WG H1 (Ow O fps)) fps σ D out):Zec (gT K T) (Az K O W fb) D σ J H1:=by
 have subT:∀j,j∉T.slots++W->j∉T.slots:=λj hj z=>hj (au _ z);have subW:∀j,j∉T.slots++W->j∉W:=λj hj z=>hj (ay _ z)
 refine⟨λi m σ' H'=>m=ls.length-i/\i<=ls.length/\∃o6 s',Rel K O (WG H1 (Ow O fps)) o6 s' σ' H'/\Xe T fb (ls.drop i) s'=aA out/\∀j,j∉T.slots++W->σ'[j]?=σ[j]?/\Kep (o6 j) (fps j),
  ⟨ls.length,by simp,cj _,fps,s,r,e,λj _=>⟨rfl,Kep.refl _⟩⟩,?_⟩
 rintro i m σ' H' ⟨rfl,hi,o6,s',r',e',q'⟩;have ab:Ab (Ow O fps) H1 H':=λb o h n=>r'.same b o (by unfold WG;rw[oB n];exact h)
 cases q:ls.drop i with
 | nil=>
  have hil:i=ls.length:=by have:=congrArg i7 q;rw[br] at this;simp at this;omega
  subst hil;rw[q] at e';cases e';exact .inl ⟨jis.stop H' ab,k o6 σ' H' r' q'⟩
 | cons l rr=>
  obtain⟨hl,hr⟩:=OR q;have hilt:i<ls.length:=(aS.mp hl).1;rw[q] at e';unfold Xe at e';obtain⟨sb,eb,e'⟩:=Zd e';obtain⟨o,eo,e'⟩:=Zd e'
  refine .inr ⟨jis.go H' i l ab hl,λσ2 H2=>∃fps2 s2,Rel K O (WG H1 (Ow O fps)) fps2 s2 σ2 H2/\Xe T fb (ls.drop (i+1)) s2=aA out/\∀j,j∉T.slots++W->σ2[j]?=σ[j]?/\Kep (fps2 j) (fps j),
   λσ2 H2 h2=>⟨ls.length-(i+1),by omega,rfl,hilt,h2⟩,λx H2 y=>?_⟩
  obtain⟨s2,fx,ix,nx⟩:=jis.yld H' i l x H2 ab hl y;obtain⟨bl,bv,bf,rfl,bi,blen,bsub,buse⟩:=Hr (K:=K) ix eb;obtain⟨fps3,r3,q3⟩:=Rel.setAll (is:=T.slots) (r'.grow s2) bi blen hT λj hj p hp z=>by obtain⟨n1,n2⟩:=nx p (bsub p z);have:=(r'.own j hj p hp).1;unfold WG at this;rw[oB n2] at this;exact n1 this
  refine buse _ _ ⟨_,fps3,_,o,r3,eo,?_⟩;have keep:∀j,j∉T.slots++W->(Xk T.slots bv σ')[j]?=σ[j]?/\Kep (fps3 j) (fps j):=λj hj=>⟨(q3 j (subT j hj)).1.trans (q' j hj).1,(q3 j (subT j hj)).2.trans (q' j hj).2⟩
  cases o with
  | nx s4=>exact λfps4 σ4 H4 r4 q4=>⟨fps4,s4,r4,by rw[hr];exact e',λj hj=>⟨(q4 j (subW j hj)).1.trans (keep j hj).1,(q4 j (subW j hj)).2.trans (keep j hj).2⟩⟩
  | ct s4=>exact λfps4 σ4 H4 r4 q4=>⟨fps4,s4,r4,by rw[hr];exact e',λj hj=>⟨(q4 j (subW j hj)).1.trans (keep j hj).1,(q4 j (subW j hj)).2.trans (keep j hj).2⟩⟩
  | bk s4=>
   cases e';exact λfps4 σ4 H4 r4 q4=>k fps4 σ4 H4 r4 λj hj=>⟨(q4 j (subW j hj)).1.trans (keep j hj).1,(q4 j (subW j hj)).2.trans (keep j hj).2⟩
  | rt v=>
   cases e';exact k
end
section
variable {X:Cx} {O W:List Nat} {tg iter:bS} {body:List bx} {fi:XL} {T:Tgt} {fb:XS} {pos:fZ}
theorem Zep(hp:lI (model X.prog X.w) X.A X.env X.xe)(hc:X.calm=aD)(hi:VI X tg iter fi)(hg:PG X tg (gT X.K T))(hb:Fl X O W body fb)(hT:∀i∈T.slots,i∉O:=by decide)
  (hs:∀x,cE iter X.env x=pure x:=by intro _;rfl):VS X O (T.slots++W) (.For tg iter body [] pos) (YR O fi T fb):=PS.imp (LC hp hc hi hg hb hs) λD σ H ⟨H0,fps,s,out,r,e,k⟩=>by
 obtain⟨ls,e1,e⟩:=Zd e;refine⟨Ow O fps,Z5 O s,ls,r.owMut,r.envO,e1,λJ H1 s1 jis=>?_⟩;exact OT (r.grow s1).frame jis e hT (k.less (r.grow s1).under)
end
noncomputable def YS(c:XT)(fb:XS):Nat->ZL->Option Out
 | 0,_=>aB
 | n+1,s=>(c s).bind λk=>if k=aD then(fb s).bind λo=>match o with | .nx s2=>YS c fb n s2 | .ct s2=>YS c fb n s2 | .bk s2=>aA (.nx s2) | .rt v=>aA (.rt v) else aA (.nx s)
theorem Tn{c:XT}{fb:XS}:∀{n:Nat}{s:ZL}{o:Out},YS c fb n s=aA o->YS c fb (n+1) s=aA o
 | 0,_,_,h=>by cases h
 | n+1,s,o,h=>by
  unfold YS at h ⊢;obtain⟨k,e1,h⟩:=Zd h;rw[e1]
  cases k with
  | false=>exact h
  | true=>
   rw[oA rfl] at h;obtain⟨o1,e2,h⟩:=Zd h;simp only[aO,if_true,e2]
   cases o1 with
   | nx s2=>exact Tn h
   | ct s2=>exact Tn h
   | bk s2=>exact h
   | rt v=>exact h
theorem M3{c:XT}{fb:XS}{n m:Nat}{s:ZL}{o:Out}(h:YS c fb n s=aA o)(hm:n<=m):YS c fb m s=aA o:=by
 induction m with
 | zero=>
  have:n=0:=by omega
  subst this;exact h
 | succ m ih=>
  by_cases e:n=m+1
  ·subst e;exact h
  ·exact Tn (ih (by omega))
open Classical in
def UI(c:XT)(fb:XS):XS:=λs=>if h:∃n,(YS c fb n s).isSome=aD then YS c fb h.choose s else aB
theorem M4{c:XT}{fb:XS}{n:Nat}{s:ZL}{o:Out}(h:YS c fb n s=aA o):UI c fb s=aA o:=by
 have ex:∃n,(YS c fb n s).isSome=aD:=⟨n,by rw[h];rfl⟩;unfold UI;rw[dif_pos ex];obtain⟨o',e⟩:=cT.mp ex.choose_spec;rw[e];rcases Nat.le_total n ex.choose with hl | hl
 ·rw[M3 h hl] at e;exact e.symm
 ·rw[M3 e hl] at h;exact h
section
variable {X:Cx} {O W:List Nat} {c:bS} {body:List bx} {fc:XT} {fb:XS} {pos:fZ}
theorem OU(hp:lI (model X.prog X.w) X.A X.env X.xe)(hc:VT X c fc)(hb:Fl X O W body fb):VS X O W (.While c body [] pos) (UI fc fb):=PS.imp (D3 hp hc hb) λD σ H ⟨H0,fps,s,out,r,e,k⟩=>by
 unfold UI at e;split at e
 case isFalse=>cases e
 rename_i ex;generalize ex.choose=n at e;refine⟨λm σ' H'=>∃o6 s',Rel X.K O H0 o6 s' σ' H'/\YS fc fb m s'=aA out/\∀j,j∉W->σ'[j]?=σ[j]?/\Kep (o6 j) (fps j),⟨n,fps,s,r,e,λj _=>⟨rfl,Kep.refl _⟩⟩,?_⟩;rintro m σ' H' ⟨o6,s',r',e',q'⟩
 cases m with
 | zero=>cases e'
 | succ m=>
  unfold YS at e';obtain⟨b,e1,e'⟩:=Zd e';refine⟨λ_=>False,s',b,λ_ z=>z.elim,r'.env,e1,λH2 s2=>?_⟩
  cases b with
  | false=>
   rw[oB aw] at e' ⊢;cases e';exact k o6 σ' H2 (r'.grow s2) q'
  | true=>
   rw[oA rfl] at e' ⊢;obtain⟨o,eo,e'⟩:=Zd e';refine⟨λσ2 H2=>∃fps2 s2,Rel X.K O H0 fps2 s2 σ2 H2/\YS fc fb m s2=aA out/\∀j,j∉W->σ2[j]?=σ[j]?/\Kep (fps2 j) (fps j),λσ2 H2 h2=>⟨m,iT m,h2⟩,H0,o6,s',o,r'.grow s2,eo,?_⟩
   cases o with
   | nx s4=>exact λfps4 σ4 H4 r4 q4=>⟨fps4,s4,r4,e',λj hj=>⟨(q4 j hj).1.trans (q' j hj).1,(q4 j hj).2.trans (q' j hj).2⟩⟩
   | ct s4=>exact λfps4 σ4 H4 r4 q4=>⟨fps4,s4,r4,e',λj hj=>⟨(q4 j hj).1.trans (q' j hj).1,(q4 j hj).2.trans (q' j hj).2⟩⟩
   | bk s4=>
    cases e';exact λfps4 σ4 H4 r4 q4=>k fps4 σ4 H4 r4 λj hj=>⟨(q4 j hj).1.trans (q' j hj).1,(q4 j hj).2.trans (q' j hj).2⟩
   | rt v=>cases e';exact k
end
end VL
namespace VL
open PySem PySem.Spec PyProof.Rows L2
variable {K:aJ}
section
variable {O:List Nat} {H0 H H':Hp} {fps:Nat->List aN} {s:ZL} {σ:Pq}
theorem Rel.lst_at(r:Rel K O H0 fps s σ H){i:Nat}(hi:i∈O){m:List PV}(e:s[i]?=aA (aA (.lst m))):∃p xs fq,σ[i]?=aA (aA (.ref p))/\H p=aA (.lst xs)/\Iss K H m xs fq/\fps i=p::fq:=by obtain⟨v,a,b⟩:=r.is i _ e;obtain⟨p,xs,fq,rfl,hp,hm,ef⟩:=b.lst_inv;exact⟨p,xs,fq,a,hp,hm,ef⟩
theorem Rel.dT_at(r:Rel K O H0 fps s σ H){i:Nat}(hi:i∈O){ks:List (List YV)}{m:List PV}(e:s[i]?=aA (aA (.dT ks m))):∃p o4 fq,σ[i]?=aA (aA (.ref p))/\H p=aA (.dT o4)/\o4.map (·.1)=ks/\Iss K H m (o4.map (·.2)) fq/\fps i=p::fq:=by
 obtain⟨v,a,b⟩:=r.is i _ e;obtain⟨p,xs,fq,rfl,hp,hk,hm,ef⟩:=b.dT_inv;refine⟨p,xs,fq,a,?_,hk,hm,ef⟩;have mu:=(r.own i hi p (by rw[ef];exact af)).2;rcases hp with hp | ⟨o,hp⟩
 ·exact hp
 ·rw[hp] at mu;exact mu.elim
theorem Rel.dK_at(r:Rel K O H0 fps s σ H){i:Nat}(hi:i∈O){ks:List YV}{m:List PV}(e:s[i]?=aA (aA (.dK ks m))):∃p o4 fq,σ[i]?=aA (aA (.ref p))/\H p=aA (.dK o4)/\o4.map (·.1)=ks/\Iss K H m (o4.map (·.2)) fq/\fps i=p::fq:=by
 obtain⟨v,a,b⟩:=r.is i _ e;obtain⟨p,xs,fq,rfl,hp,hk,hm,ef⟩:=b.dK_inv;refine⟨p,xs,fq,a,?_,hk,hm,ef⟩;have mu:=(r.own i hi p (by rw[ef];exact af)).2;rcases hp with hp | ⟨o,hp⟩
 ·exact hp
 ·rw[hp] at mu;exact mu.elim
theorem T8{α:Type}{l:List α}{i:Nat}{a:α}(h:l[i]?=aA a):i<l.length:=(aS.mp h).1
theorem TK.upd'{p:aN}{o:HO}(mu:Ue (H p)):TK2 H (L2.upd H p o):=⟨λb xs h=>by
 rw[upd_ne (λz=>by rw[z] at h;rw[h] at mu;exact mu)];exact h,λb o xs h=>by
 rw[upd_ne (λz=>by rw[z] at h;rw[h] at mu;exact mu)];exact h,λb o x h=>by
 rw[upd_ne (λz=>by rw[z] at h;rw[h] at mu;exact mu)];exact h⟩
theorem RdK.upd_ne{p q:aN}{o:HO}(ne:q≠p):RdK H (L2.upd H p o) q:=RdK.of λu hu=>by rw[L2.upd_ne ne];exact hu
theorem Rel.relist(r:Rel K O H0 fps s σ H){i:Nat}(hi:i∈O){m m':List PV}(e:s[i]?=aA (aA (.lst m))){p:aN}{fq fq':List aN}{xs':List V}(ef:fps i=p::fq)(hv:σ[i]?=aA (aA (.ref p)))
  (h':Iss K H m' xs' fq') (nd:(p::fq').Nodup) (hf:∀q∈fq',q∈fq\/((H0 q=aB/\Ue (H q))/\∀j,q∉fps j)):Rel K O H0 (PU fps s.length i (p::fq')) (s.set i (aA (.lst m'))) σ (L2.upd H p (.lst xs')):=by
 have hp:p∈fps i:=by rw[ef];exact af
 have mu:=(r.own i hi p hp).2;have np:p∉fq':=(ar.mp nd).1;refine r.mutate hi hp hv (T8 e) (Is.lst upd_same (Iss.tr (TK.upd' mu) _ _ _ (λq hq=>RdK.upd_ne λz=>np (z▸hq)) h')) nd (λq hq=>?_) (λj hj q hq z=>?_) bj
 ·rcases aa.mp hq with rfl | hq
  ·exact⟨(r.own i hi q hp).1,by rw[upd_same];exact bj⟩
  ·have ne:q≠p:=λz=>np (z▸hq);rw[L2.upd_ne ne];rcases hf q hq with h | h
   ·exact r.own i hi q (by rw[ef];exact aP _ h)
   ·exact h.1
 ·rcases aa.mp hq with rfl | hq
  ·exact r.dis i hi j hj q hp z
  ·rcases hf q hq with h | h
   ·exact r.dis i hi j hj q (by rw[ef];exact aP _ h) z
   ·exact h.2 j z
end
noncomputable def DS(s:ZL)(i:Nat):Option (List PV):=match s[i]? with | some (aA (.lst m))=>aA m | _=>aB
noncomputable def ER:PV->Option Int
 | .int k=>aA k
 | _=>aB
def asL:PV->Option (List PV)
 | .lst k=>aA k
 | _=>aB
theorem To{s:ZL}{i:Nat}{m:List PV}(h:DS s i=aA m):s[i]?=aA (aA (.lst m)):=by
 unfold DS at h;split at h
 ·cases h;assumption
 ·cases h
theorem Tp{a:PV}{k:Int}(h:ER a=aA k):a = .int k:=by
 unfold ER at h;split at h
 ·cases h;rfl
 ·cases h
theorem JB{a:PV}{k:List PV}(h:asL a=aA k):a = .lst k:=by
 unfold asL at h;split at h
 ·cases h;rfl
 ·cases h
noncomputable def gd(c:Bool):Option Unit:=if c=aD then aA () else aB
theorem UJ{c:Bool}{u:Unit}(h:gd c=aA u):c=aD:=by
 unfold gd at h;split at h
 ·assumption
 ·cases h
def ZZ(i:Nat)(f:XE):XS:=λs=>(f s).bind λl=>(DS s i).bind λm=>(gd (decide (m.length<=10000))).bind λ_=>aA (.nx (s.set i (aA (.lst (m++[l])))))
def W4(i:Nat)(f:XE):XS:=λs=>(f s).bind λl=>(asL l).bind λn=>(DS s i).bind λm=>(gd (decide (m.length+n.length<=10000))).bind λ_=>aA (.nx (s.set i (aA (.lst (m++n)))))
def VU(i:Nat)(fk:XE)(f:XE):XS:=λs=>(fk s).bind λk=>(f s).bind λl=>(ER k).bind λk=>(DS s i).bind λm=>(gd (ZD m&&ZH l&&decide (0<=k/\k<=1000000/\m.length<=10000))).bind λ_=>aA (.nx (s.set i (aA (.lst (m.take k.toNat++l::m.drop k.toNat)))))
def QE(i:Nat)(fk:XE)(f:XE):XS:=λs=>(f s).bind λl=>(fk s).bind λk=>(ER k).bind λk=>(DS s i).bind λm=>(gd (ZD m&&ZH l)).bind λ_=>(ML m.length k).map λj=>.nx (s.set i (aA (.lst (m.set j l))))
section
variable {X:Cx} {O:List Nat} {i:Nat} {st:bx} {f fk:XE}
theorem tyL{H:Hp}{p:aN}{xs:List V}(h:H p=aA (.lst xs)):tyV K "list" (.ref p) H:=.inl ⟨rfl,_,SqL.of h⟩
theorem OV{s:ZL}{σ:Pq}{fps:Nat->List aN}{fp:List aN}:∀j,j∉[i]->σ[j]?=σ[j]?/\Kep (PU fps s.length i fp j) (fps j):=λj hj=>⟨rfl,.inl (Yv (by simpa using hj))⟩
theorem Wf(h:PS X st (GQ (tBM X.K "list" GY (Sy i) (Rz (tM X.K f) Ew))))(hi:i∈O:=by decide):VS X O [i] st (ZZ i f):=PS.imp h λD σ H ⟨H0,fps,s,out,r,e,k⟩=>by
 obtain⟨l,e1,e⟩:=Zd e;obtain⟨m,em,e⟩:=Zd e;obtain⟨_,eg,e⟩:=Zd e;have em:=To em;have hlen:=of_decide_eq_true (UJ eg);cases e;obtain⟨p,xs,fq,hv,hp,hm,ef⟩:=r.lst_at hi em;refine⟨.ref p,hv,tyL hp,s,l,r.env,e1,λy H2 fe s2 i2 d2 n2=>?_⟩;refine⟨p,xs,y,rfl,rfl,s2 _ _ hp,by rw[hm.len];exact lt_size (by omega),?_⟩;have r2:=r.grow s2;have fr:∀q∈fe,∀j,q∉fps j:=λq hq j z=>r.dom j q z (n2 q hq).1;refine k _ _ _ (r2.relist hi em ef hv ((hm.mono s2).append (Iss.one i2)) ?_ λq hq=>?_) OV
 ·have nd:=r.nd i hi;rw[ef] at nd;rw[<-iV];exact dG.mpr ⟨nd,d2,λa ha b hb z=>fr b hb i (by rw[ef,<-z];exact ha)⟩
 ·rcases aq.mp hq with h | h
  ·exact .inl h
  ·exact .inr ⟨⟨Same.off r.same (n2 q h).1,(n2 q h).2⟩,fr q h⟩
theorem M5(h:PS X st (GQ (tBM X.K "list" GZ (Sy i) (Rz (tM X.K f) Ew))))(hi:i∈O:=by decide):VS X O [i] st (W4 i f):=PS.imp h λD σ H ⟨H0,fps,s,out,r,e,k⟩=>by
 obtain⟨l,e1,e⟩:=Zd e;obtain⟨n,en,e⟩:=Zd e;obtain⟨m,em,e⟩:=Zd e;obtain⟨_,eg,e⟩:=Zd e;rw[JB en] at e1;have em:=To em;have hlen:=of_decide_eq_true (UJ eg);cases e;obtain⟨p,xs,fq,hv,hp,hm,ef⟩:=r.lst_at hi em;refine⟨.ref p,hv,tyL hp,s,_,r.env,e1,λy H2 fe s2 i2 d2 n2=>?_⟩;obtain⟨b,zs,fb,rfl,hb,hz,rfl⟩:=i2.lst_inv;have hb':H2 b=aA (.lst zs):=hb;refine⟨p,b,xs,zs,rfl,rfl,s2 _ _ hp,hb',by rw[hm.len,hz.len];exact cZ (lt_size (by omega)),?_⟩;have r2:=r.grow s2;have fr:∀q∈fb,∀j,q∉fps j:=λq hq j z=>r.dom j q z (n2 q (aP _ hq)).1;refine k _ _ _ (r2.relist hi em ef hv ((hm.mono s2).append hz) ?_ λq hq=>?_) OV
 ·have nd:=r.nd i hi;rw[ef] at nd;rw[<-iV];exact dG.mpr ⟨nd,(ar.mp d2).2,λa ha b hb z=>fr b hb i (by rw[ef,<-z];exact ha)⟩
 ·rcases aq.mp hq with h | h
  ·exact .inl h
  ·exact .inr ⟨⟨Same.off r.same (n2 q (aP _ h)).1,(n2 q (aP _ h)).2⟩,fr q h⟩
theorem Iss.pureEq{H:Hp}{l:List PV}{xs:List V}{fp:List aN}(h:Iss K H l xs fp)(hp:ZD l=aD):Iss K H l xs []:=by have:=Iss.pure _ _ _ hp h;subst this;exact h
theorem Hs{l:List PV}(n:Nat)(h:ZD l=aD):ZD (l.take n)=aD:=by rw[W9,bO] at *;exact λx hx=>h x (fN hx)
theorem Ht{l:List PV}(n:Nat)(h:ZD l=aD):ZD (l.drop n)=aD:=by rw[W9,bO] at *;exact λx hx=>h x (ko hx)
theorem M6(h:PS X st (GQ (tBM X.K "list" G7 (Sy i) (Rz (tF X.K fk) (Rz (tF X.K f) Ew)))))(hi:i∈O:=by decide):VS X O [i] st (VU i fk f):=PS.imp h λD σ H ⟨H0,fps,s,out,r,e,k⟩=>by obtain⟨kk,e0,e⟩:=Zd e;obtain⟨l,e1,e⟩:=Zd e;obtain⟨ki,ek,e⟩:=Zd e;obtain⟨m,em,e⟩:=Zd e;obtain⟨_,eg,e⟩:=Zd e;rw[Tp ek] at e0;have em:=To em;have hc:=UJ eg;simp only[ak,decide_eq_true_eq] at hc;obtain⟨⟨pm,pl⟩,k0,k1,hlen⟩:=hc;cases e;obtain⟨p,xs,fq,hv,hp,hm,ef⟩:=r.lst_at hi em;refine⟨.ref p,hv,tyL hp,λ_=>False,s,_,λ_ z=>z.elim,r.env,e0,λz H1 fz s1 i1 _=>⟨λ_=>False,s,l,λ_ z=>z.elim,r.env.mono s1,e1,λy H2 fe s2 i2 _=>?_⟩⟩;have s12:=s1.trans s2;obtain⟨rfl,_⟩:=i1.int_inv;have:=Is.pure _ _ _ pl i2;subst this;refine⟨p,xs,ki,y,rfl,rfl,s12 _ _ hp,k0,by omega,by rw[hm.len];exact lt_size (by omega),?_⟩;have hm':=(hm.mono s12).pureEq pm;obtain⟨f1,a1,_⟩:=hm'.take ki.toNat;obtain⟨f2,a2,_⟩:=hm'.drop ki.toNat;have a1:=a1.pureEq (Hs _ pm);have a2:=a2.pureEq (Ht _ pm);exact k _ _ _ ((r.grow s12).relist hi em ef hv (a1.append (Iss.cons i2 a2)) (by simp) λq hq=>by simp at hq) OV
theorem CC(h:PS X st (K9 (tF X.K f) (Zdi (Sy i) (tF X.K fk) Cb)))(hi:i∈O:=by decide):VS X O [i] st (QE i fk f):=PS.imp h λD σ H ⟨H0,fps,s,out,r,e,k⟩=>by obtain⟨l,e0,e⟩:=Zd e;obtain⟨kk,e1,e⟩:=Zd e;obtain⟨ki,ek,e⟩:=Zd e;obtain⟨m,em,e⟩:=Zd e;obtain⟨_,eg,e⟩:=Zd e;rw[Tp ek] at e1;have em:=To em;have hc:=UJ eg;simp only[ak] at hc;obtain⟨pm,pl⟩:=hc;obtain⟨j,ej,rfl⟩:=map_some e;obtain⟨p,xs,fq,hv,hp,hm,ef⟩:=r.lst_at hi em;refine⟨λ_=>False,s,l,λ_ z=>z.elim,r.env,e0,λy H1 fy s1 i1 _=>?_⟩;refine⟨.ref p,hv,λ_=>False,s,_,λ_ z=>z.elim,r.env.mono s1,e1,λz H2 fz s2 i2 _=>?_⟩;have s12:=s1.trans s2;obtain⟨rfl,_⟩:=i2.int_inv;have:=Is.pure _ _ _ pl i1;subst this;refine⟨p,xs,ki,j,rfl,rfl,s12 _ _ hp,by rw[hm.len];exact ej,?_⟩;exact k _ _ _ ((r.grow s12).relist hi em ef hv (Iss.setP j pm pl ((hm.mono s12).pureEq pm) (i1.mono s2)) (by simp) λq hq=>by simp at hq) OV
end
theorem Iss.setRow{H:Hp}{o:List V}:∀{m:List PV}{xs:List V}{fq:List aN}{j:Nat}{n n':List PV}{q:aN},Iss K H m xs fq->m[j]?=aA (.lst n)->xs[j]?=aA (.ref q)->fq.Nodup->Ue (H q)->ZD n=aD->Iss K (L2.upd H q (.lst o)) n' o []->
  Iss K (L2.upd H q (.lst o)) (m.set j (.lst n')) xs fq
 | [],_,_,_,_,_,_,_,e,_,_,_,_,_=>by simp at e
 | a::m,xs,fq,0,n,n',q,h,e,ex,nd,mu,pn,h'=>by obtain⟨x,r,f1,f2,rfl,h1,h2,rfl⟩:=h.inv;simp at e ex;subst e ex;obtain⟨p',zs,fz,e,hp,hz,rfl⟩:=h1.lst_inv;cases e;have:=Iss.pure _ _ _ pn hz;subst this;have nq:q∉f2:=(ar.mp nd).1;exact Iss.cons (Is.lst upd_same h') (Iss.tr (TK.upd' mu) _ _ _ (λz hz=>RdK.upd_ne λe=>nq (e▸hz)) h2)
 | a::m,xs,fq,j+1,n,n',q,h,e,ex,nd,mu,pn,h'=>by obtain⟨x,r,f1,f2,rfl,h1,h2,rfl⟩:=h.inv;simp at e ex;obtain⟨nd1,nd2,nd3⟩:=dG.mp nd;obtain⟨y,fy,hy,iy,suby⟩:=h2.get e;rw[ex] at hy;cases hy;obtain⟨p',zs,fz,e',_,_,rfl⟩:=iy.lst_inv;cases e';have nq:q∉f1:=λz=>nd3 q z q (suby q af) rfl;exact Iss.cons (Is.tr (TK.upd' mu) _ _ _ (λz hz=>RdK.upd_ne λe=>nq (e▸hz)) h1) (Iss.setRow h2 e ex nd2 mu pn h')
def VV(i:Nat)(fa fb:XE)(f:XE):XS:=λs=>(f s).bind λl=>(fa s).bind λa=>(fb s).bind λb=>(ER a).bind λa=>(ER b).bind λb=>(DS s i).bind λm=>(ML m.length a).bind λj=>(m[j]?).bind λr=>(asL r).bind λn=>
 (gd (ZD n&&ZH l)).bind λ_=>(ML n.length b).map λc=>.nx (s.set i (aA (.lst (m.set j (.lst (n.set c l))))))
theorem M7{X:Cx}{O:List Nat}{i:Nat}{st:bx}{f fa fb:XE}(h:PS X st (K9 (tF X.K f) (Zdi (tOp (AX X.K) (Sy i) (tF X.K fa)) (tF X.K fb) Cb)))(hi:i∈O:=by decide):VS X O [i] st (VV i fa fb f):=PS.imp h λD σ H ⟨H0,fps,s,out,r,e,k⟩=>by
 obtain⟨l,e0,e⟩:=Zd e;obtain⟨a,e1,e⟩:=Zd e;obtain⟨b,e2,e⟩:=Zd e;obtain⟨ai,ea,e⟩:=Zd e;obtain⟨bi,eb,e⟩:=Zd e;obtain⟨m,em,e⟩:=Zd e;obtain⟨j,ej,e⟩:=Zd e;obtain⟨Z0,en,e⟩:=Zd e;obtain⟨n,er,e⟩:=Zd e;obtain⟨_,eg,e⟩:=Zd e;rw[Tp ea] at e1;rw[Tp eb] at e2;rw[JB er] at en;have em:=To em;have hc:=UJ eg;simp only[ak] at hc;obtain⟨pn,pl⟩:=hc;obtain⟨c,ec,rfl⟩:=map_some e;obtain⟨p,xs,fq,hv,hp,hm,ef⟩:=r.lst_at hi em;refine⟨λ_=>False,s,l,λ_ z=>z.elim,r.env,e0,λy H1 fy s1 i1 _=>?_⟩;refine⟨.ref p,hv,λ_=>False,s,_,λ_ z=>z.elim,r.env.mono s1,e1,λz H2 fz s2 i2 _=>?_⟩;obtain⟨rfl,_⟩:=i2.int_inv;have s12:=s1.trans s2;obtain⟨q,f1,hq,iq,subq⟩:=(hm.mono s12).get en;obtain⟨qa,zs,fz',rfl,hqa,hz,rfl⟩:=id iq.lst_inv;refine⟨p,xs,ai,.ref qa,rfl,rfl,SqL.of (s12 _ _ hp),?_,λ_=>False,s,_,λ_ z=>z.elim,r.env.mono s12,e2,λw H3 fw s3 i3 _=>?_⟩
 ·unfold Td;rw[hm.len,ej];exact hq
 obtain⟨rfl,_⟩:=i3.int_inv;have s123:=s12.trans s3;have r3:=r.grow s123;have hqf:qa∈fps i:=by rw[ef];exact aP _ (subq qa af)
 have mu:=(r3.own i hi qa hqf).2;have hqa3:H3 qa=aA (.lst zs):=s3 _ _ hqa;have:=Is.pure _ _ _ pl i1;subst this;refine⟨qa,zs,bi,c,rfl,rfl,hqa3,by rw[hz.len];exact ec,?_⟩;have nd:=r.nd i hi;rw[ef] at nd;have hqp:qa≠p:=λz=>(ar.mp nd).1 (z▸subq qa af);have newrow:Iss X.K (L2.upd H3 qa (.lst (zs.set c y))) (n.set c l) (zs.set c y) []:=Iss.tr (TK.upd' mu) _ _ _ (λq hq=>by simp at hq) (Iss.setP c pn pl ((hz.mono s3).pureEq pn) (i1.mono (s2.trans s3)));have rows:=Iss.setRow (hm.mono s123) en hq (ar.mp nd).2 mu pn newrow;refine k _ _ _ (r3.mutate (o:=.lst (zs.set c y)) (l':=.lst (m.set j (.lst (n.set c l)))) (fp':=p::fq) hi hqf hv (T8 em) (Is.lst (by rw[L2.upd_ne (bX hqp)];exact s123 _ _ hp) rows) nd (λq hq=>?_) (λj hj q hq z=>r.dis i hi j hj q (by rw[ef];exact hq) z) bj) OV;refine⟨(r.own i hi q (by rw[ef];exact hq)).1,?_⟩;by_cases e:q=qa
 ·subst e;rw[upd_same];exact bj
 ·rw[L2.upd_ne e];exact(r3.own i hi q (by rw[ef];exact hq)).2
end VL
namespace VL
open PySem PySem.Spec PyProof.Rows L2
variable {K:aJ}
noncomputable def OW:PV->Option YV
 | .int i=>aA (.inl i)
 | .str x=>aA (.inr x)
 | _=>aB
def JC:List PV->Option (List YV)
 | []=>aA []
 | a::r=>(OW a).bind λk=>(JC r).map (k::·)
def OX:PV->Option (List YV)
 | .tup l=>JC l
 | _=>aB
noncomputable def kP:YV->PV
 | .inl i=>.int i
 | .inr x=>.str x
theorem L6{H:Hp}{a:PV}{k:YV}{v:V}{fp:List aN}(e:OW a=aA k)(h:Is K H a v fp):v=kV k/\fp=[]:=by
 cases a with
 | int i=>cases e;exact h.int_inv
 | str x=>cases e;exact h.str_inv
 | _=>cases e
theorem JD{H:Hp}:∀{l:List PV}{ks:List YV}{xs:List V}{fp:List aN},JC l=aA ks->Iss K H l xs fp->xs=ks.map kV/\fp=[]
 | [],ks,xs,fp,e,h=>by cases e;simpa only[dq,Iss] using h
 | a::r,ks,xs,fp,e,h=>by obtain⟨k,e1,e⟩:=Zd (show(OW a).bind (λk=>(JC r).map (k::·))=aA ks from e);obtain⟨kr,e2,rfl⟩:=map_some e;obtain⟨x,rr,f1,f2,rfl,h1,h2,rfl⟩:=h.inv;obtain⟨rfl,rfl⟩:=L6 e1 h1;obtain⟨rfl,rfl⟩:=JD e2 h2;exact⟨rfl,rfl⟩
theorem Fo{H:Hp}{a:PV}{k:List YV}{v:V}{fp:List aN}(e:OX a=aA k)(h:Is K H a v fp):∃b,v = .ref b/\H b=aA (.tup (k.map kV)):=by
 cases a with
 | tup l=>
  obtain⟨p,xs,rfl,hp,hi⟩:=h.tup_inv;obtain⟨rfl,_⟩:=JD (show JC l=aA k from e) hi;exact⟨p,rfl,hp⟩
 | _=>cases e
theorem Zgy{H:Hp}(k:YV):Is K H (kP k) (kV k) []:=by
 cases k with
 | inl i=>exact Is.int i
 | inr x=>exact Is.str x
theorem CD{H:Hp}:∀(ks:List YV),Iss K H (ks.map kP) (ks.map kV) []
 | []=>Iss.nil
 | k::r=>Iss.cons (f1:=[]) (Zgy k) (CD r)
section
variable {κ:Type} [DecidableEq κ]
noncomputable def VD(ks:List κ)(vs:List PV)(k:κ):Option PV:=((ks.zip vs).find? λz=>decide (z.1=k)).map (·.2)
noncomputable def Tq(ks:List κ)(k:κ):List κ:=if k∈ks then ks else ks++[k]
noncomputable def Tr(ks:List κ)(vs:List PV)(k:κ)(v:PV):List PV:=if k∈ks then(ks.zip vs).map λz=>if z.1=k then v else z.2 else vs++[v]
theorem OY{H:Hp}:∀{o4:List (κ×V)}{l:List PV}{fq:List aN}(k:κ),Iss K H l (o4.map (·.2)) fq->
  (VD (o4.map (·.1)) l k=aB/\Tg o4 k=aB)\/∃a x f,VD (o4.map (·.1)) l k=aA a/\Tg o4 k=aA x/\Is K H a x f/\∀p∈f,p∈fq
 | [],l,fq,k,h=>.inl ⟨by unfold VD;simp,rfl⟩
 | kv::r,[],fq,k,h=>by have:=h.len;simp at this
 | kv::r,a::l,fq,k,h=>by
  obtain⟨x,rr,f1,f2,e,h1,h2,rfl⟩:=h.inv;cases e;by_cases hk:kv.1=k
  ·refine .inr ⟨a,kv.2,f1,?_,RD hk,h1,λp hp=>au _ hp⟩;unfold VD;rw[a9,dS,cO];simp[hk]
  ·have e1:VD ((kv::r).map (·.1)) (a::l) k=VD (r.map (·.1)) l k:=by unfold VD;rw[a9,dS,cO];simp[hk]
   rw[e1,RE hk];rcases OY (l:=l) k h2 with z | ⟨b,y,f,z1,z2,z3,z4⟩
   ·exact .inl z
   ·exact .inr ⟨b,y,f,z1,z2,z3,λp hp=>ay _ (z4 p hp)⟩
theorem any_mem{o4:List (κ×V)}{k:κ}:(o4.any λkv=>decide (kv.1=k))=aD↔k∈o4.map (·.1):=by
 rw[eU,ah];constructor
 ·rintro⟨x,hx,e⟩;exact⟨x,hx,of_decide_eq_true e⟩
 ·rintro⟨x,hx,e⟩;exact⟨x,hx,decide_eq_true e⟩
theorem Fp{o4:List (κ×V)}{k:κ}{x:V}:(Ug o4 k x).map (·.1)=Tq (o4.map (·.1)) k:=by
 unfold Ug Tq;by_cases h:k∈o4.map (·.1)
 ·rw[oA (any_mem.mpr h),oA h,bV];apply ao;intro z _;show(if z.1=k then(z.1,x) else z).1=z.1;split<;>rfl
 ·rw[oB (λz=>h (any_mem.mp z)),oB h,bR];rfl
theorem Fq{H:Hp}{o4:List (κ×V)}{l:List PV}{k:κ}{a:PV}{x:V}(h:Iss K H l (o4.map (·.2)) [])(hp:ZD l=aD)(ha:Is K H a x [])(pa:ZH a=aD):Iss K H (Tr (o4.map (·.1)) l k a) ((Ug o4 k x).map (·.2)) []:=by
 unfold Ug Tr;by_cases hk:k∈o4.map (·.1)
 ·rw[oA (any_mem.mpr hk),oA hk];clear hk
  induction o4 generalizing l with
  | nil=>
   have:=h.len
   cases l with
   | nil=>exact Iss.nil
   | cons _ _=>simp at this
  | cons kv r ih=>
   cases l with
   | nil=>have:=h.len;simp at this
   | cons b l=>
    obtain⟨y,rr,f1,f2,e,h1,h2,e2⟩:=h.inv;cases e;simp only[ZD,ak] at hp;have z1:=Is.pure _ _ _ hp.1 h1;have z2:=Iss.pure _ _ _ hp.2 h2;subst z1 z2;have ih:=ih h2 hp.2;rw[a9,dS,a9,a9,a9];by_cases e:kv.1=k
    ·rw[oA e,oA e];exact Iss.cons (f1:=[]) ha ih
    ·rw[oB e,oB e];exact Iss.cons (f1:=[]) h1 ih
 ·rw[oB (λz=>hk (any_mem.mp z)),oB hk,bR];exact h.append (Iss.one ha)
end
def Vl:PV->PV->Option PV
 | .dK ks vs,k=>(OW k).bind λk=>VD ks vs k
 | .dT ks vs,k=>(OX k).bind λk=>VD ks vs k
 | _,_=>aB
def dIn:PV->PV->Option Bool
 | .dK ks vs,k=>(OW k).map λk=>(VD ks vs k).isSome
 | .dT ks vs,k=>(OX k).map λk=>(VD ks vs k).isSome
 | _,_=>aB
theorem Fs{H:Hp}{d k:PV}{x y:V}{fd fk:List aN}(hd:Is K H d x fd)(hk:Is K H k y fk){b:Bool}(e:dIn d k=aA b):∃a o,x = .ref a/\Ey H a y o/\o.isSome=b/\((Vl d k=aB/\o=aB)\/∃c v f,Vl d k=aA c/\o=aA v/\Is K H c v f/\∀p∈f,p∈fd):=by
 cases d with
 | dK ks vs=>
  obtain⟨kk,e1,rfl⟩:=map_some (show(OW k).map (λk=>(VD ks vs k).isSome)=aA b from e);obtain⟨p,o4,fq,rfl,hp,rfl,hi,rfl⟩:=hd.dK_inv;obtain⟨rfl,_⟩:=L6 e1 hk;refine⟨p,Tg o4 kk,rfl,.inl ⟨o4,kk,hp,rfl,rfl⟩,?_,?_⟩
  ·rcases OY kk hi with⟨z1,z2⟩ | ⟨a,v,f,z1,z2,_⟩<;>rw[z1,z2]<;>rfl
  ·show(Vl (.dK _ vs) k=aB/\_)\/_;have eg:Vl (.dK (o4.map (·.1)) vs) k=VD (o4.map (·.1)) vs kk:=by show(OW k).bind _=_;rw[e1];rfl
   rw[eg];rcases OY kk hi with z | ⟨a,v,f,z1,z2,z3,z4⟩
   ·exact .inl z
   ·exact .inr ⟨a,v,f,z1,z2,z3,λq hq=>aP _ (z4 q hq)⟩
 | dT ks vs=>
  obtain⟨kk,e1,rfl⟩:=map_some (show(OX k).map (λk=>(VD ks vs k).isSome)=aA b from e);obtain⟨p,o4,fq,rfl,hp,rfl,hi,rfl⟩:=hd.dT_inv;obtain⟨b,rfl,hb⟩:=Fo e1 hk;refine⟨p,Tg o4 kk,rfl,.inr ⟨o4,kk,b,hp,rfl,hb,rfl⟩,?_,?_⟩
  ·rcases OY kk hi with⟨z1,z2⟩ | ⟨a,v,f,z1,z2,_⟩<;>rw[z1,z2]<;>rfl
  ·have eg:Vl (.dT (o4.map (·.1)) vs) k=VD (o4.map (·.1)) vs kk:=by show(OX k).bind _=_;rw[e1];rfl
   rw[eg];rcases OY kk hi with z | ⟨a,v,f,z1,z2,z3,z4⟩
   ·exact .inl z
   ·exact .inr ⟨a,v,f,z1,z2,z3,λq hq=>aP _ (z4 q hq)⟩
 | _=>cases e
theorem Zam{d k c:PV}(h:Vl d k=aA c):dIn d k=aA aD:=by
 cases d with
 | dK ks vs=>
  obtain⟨kk,e1,e2⟩:=Zd (show(OW k).bind (λk=>VD ks vs k)=aA c from h);show(OW k).map _=_;rw[e1];show aA ((VD ks vs kk).isSome)=_;rw[e2];rfl
 | dT ks vs=>
  obtain⟨kk,e1,e2⟩:=Zd (show(OX k).bind (λk=>VD ks vs k)=aA c from h);show(OX k).map _=_;rw[e1];show aA ((VD ks vs kk).isSome)=_;rw[e2];rfl
 | _=>cases h
section
variable {X:Cx} {o i e f:bS} {fd fk fx:XE} {pos apos cpos:fZ}
theorem CF:∀σ H Q,tF K (Zg Vl fd fk) σ H Q->Zck (tF K fd) (tF K fk) σ H Q:=λσ H Q ⟨Rm,s,l,hd,env,e,k⟩=>by
 obtain⟨d,kk,e1,e2,e3⟩:=RI e;refine⟨Rm,s,d,hd,env,e1,λx H1 f1 s1 i1 n1=>⟨Rm,s,kk,λp hp=>Same.mut s1 (hd p hp),env.mono s1,e2,λy H2 f2 s2 i2 n2=>?_⟩⟩;obtain⟨a,ov,rfl,dg,_,alt⟩:=Fs (i1.mono s2) i2 (Zam e3);rcases alt with⟨z,_⟩ | ⟨c,v,fv,z1,rfl,z3,z4⟩
 ·rw[z] at e3;cases e3
 ·rw[z1] at e3;cases e3;exact⟨a,v,rfl,dg,k v H2 fv (s1.trans s2) z3 λp hp=>n1 p (z4 p hp)⟩
theorem L7(hu:X.A.units+1<fL)(ho:VE X o fd)(hi:VE X i fk)(hs:Zd4 i:=by exact λ_ _=>rfl):VE X (.Subscript o i pos) (Zg Vl fd fk):=PE.imp (A1 hu ho hi hs) CF
def Hu(neg:Bool)(fk fd:XE):XE:=λs=>(fk s).bind λk=>(fd s).bind λd=>(dIn d k).map λb=>.bl (if neg then !b else b)
theorem Hv:∀σ H Q,tF K (Hu aD fk fd) σ H Q->G5 (tF K fk) (tF K fd) σ H Q:=λσ H Q ⟨Rm,s,l,hd,env,e,k⟩=>by obtain⟨kk,e1,e⟩:=Zd e;obtain⟨d,e2,e⟩:=Zd e;obtain⟨b,e3,rfl⟩:=map_some e;refine⟨Rm,s,kk,hd,env,e1,λy H1 f1 s1 i1 n1=>⟨Rm,s,d,λp hp=>Same.mut s1 (hd p hp),env.mono s1,e2,λx H2 f2 s2 i2 n2=>?_⟩⟩;obtain⟨a,ov,rfl,dg,rfl,_⟩:=Fs i2 (i1.mono s2) e3;exact⟨a,ov,rfl,dg,k _ H2 [] (s1.trans s2) (Is.bl _) λp hp=>by simp at hp⟩
theorem ES(hu:X.A.units+1<fL)(hi:VE X i fk)(ho:VE X o fd)(hm:cq .NotIn o=aC:=by with_unfolding_all rfl):VT X (.Compare i [.NotIn] [o] pos) (xB (Hu aD fk fd)):=PT.imp (DX (EB hu hi ho) hm) λσ H Q h=>Fe Hv σ H Q (Zco σ H Q h)
end
def Zan(d k v:PV):Option PV:=match d with
 | .dT ks vs=>(gd (ZD vs&&ZH v&&decide (ks.length<=10000))).bind λ_=>(OX k).map λk=>.dT (Tq ks k) (Tr ks vs k v)
 | .dK ks vs=>(gd (ZD vs&&ZH v&&decide (ks.length<=10000))).bind λ_=>(OW k).map λk=>.dK (Tq ks k) (Tr ks vs k v)
 | _=>aB
def sDPut(i:Nat)(fk fv:XE):XS:=λs=>(fv s).bind λv=>(fk s).bind λk=>((s[i]?).join).bind λd=>(Zan d k v).map λd=>.nx (s.set i (aA d))
theorem P7{X:Cx}{O:List Nat}{i:Nat}{st:bx}{fk fv:XE}(h:PS X st (L2.sDPut (Sy i) (tF X.K fk) (tF X.K fv)))(hi:i∈O:=by decide):VS X O [i] st (sDPut i fk fv):=PS.imp h λD σ H ⟨H0,fps,s,out,r,e,k⟩=>by
 obtain⟨v,e1,e⟩:=Zd e;obtain⟨kk,e2,e⟩:=Zd e;obtain⟨d,em,e⟩:=Zd e;obtain⟨d',ed,rfl⟩:=map_some e;have em:=join_some em
 cases d with
 | dT ks vs=>
  obtain⟨_,eg,ed⟩:=Zd (show(gd (ZD vs&&ZH v&&decide (ks.length<=10000))).bind (λ_=>(OX kk).map λk=>PV.dT (Tq ks k) (Tr ks vs k v))=aA d' from ed);have hc:=UJ eg;simp only[ak,decide_eq_true_eq] at hc;obtain⟨⟨pm,pl⟩,hlen⟩:=hc;obtain⟨kt,e3,rfl⟩:=map_some ed;obtain⟨p,o4,fq,hv,hp,rfl,hm,ef⟩:=r.dT_at hi em;refine⟨λ_=>False,s,v,λ_ z=>z.elim,r.env,e1,λy H1 fy s1 i1 _=>⟨.ref p,hv,λ_=>False,s,kk,λ_ z=>z.elim,r.env.mono s1,e2,λz H2 fz s2 i2 _=>?_⟩⟩;have s12:=s1.trans s2;obtain⟨b,rfl,hb⟩:=Fo e3 i2;have z1:=Is.pure _ _ _ pl i1;subst z1;have hm':=(hm.mono s12).pureEq pm;have z2:=Iss.pure _ _ _ pm hm;subst z2;have r2:=r.grow s12;have hpf:p∈fps i:=by rw[ef];exact af
  have mu:=(r2.own i hi p hpf).2;refine⟨p,_,rfl,.inr ⟨o4,kt,b,s12 _ _ hp,rfl,hb,by rw[<-aK (·.1)];exact lt_size hlen,rfl⟩,?_⟩;refine k _ _ _ (r2.mutate (o:=.dT (Ug o4 kt y)) (l':=.dT (Tq (o4.map (·.1)) kt) (Tr (o4.map (·.1)) vs kt v)) (fp':=[p]) hi hpf hv (T8 em) (Is.dT upd_same Fp (Iss.tr (TK.upd' mu) _ _ _ (λq hq=>by simp at hq) (Fq hm' pm (i1.mono s2) pl))) (by simp) (λq hq=>?_) (λj hj q hq z=>r.dis i hi j hj q (by rw[ef];exact hq) z) bj) OV;rw[aR.mp hq];exact⟨(r.own i hi p hpf).1,by rw[upd_same];exact bj⟩
 | dK ks vs=>
  obtain⟨_,eg,ed⟩:=Zd (show(gd (ZD vs&&ZH v&&decide (ks.length<=10000))).bind (λ_=>(OW kk).map λk=>PV.dK (Tq ks k) (Tr ks vs k v))=aA d' from ed);have hc:=UJ eg;simp only[ak,decide_eq_true_eq] at hc;obtain⟨⟨pm,pl⟩,hlen⟩:=hc;obtain⟨kt,e3,rfl⟩:=map_some ed;obtain⟨p,o4,fq,hv,hp,rfl,hm,ef⟩:=r.dK_at hi em;refine⟨λ_=>False,s,v,λ_ z=>z.elim,r.env,e1,λy H1 fy s1 i1 _=>⟨.ref p,hv,λ_=>False,s,kk,λ_ z=>z.elim,r.env.mono s1,e2,λz H2 fz s2 i2 _=>?_⟩⟩;have s12:=s1.trans s2;obtain⟨rfl,_⟩:=L6 e3 i2;have z1:=Is.pure _ _ _ pl i1;subst z1;have hm':=(hm.mono s12).pureEq pm;have z2:=Iss.pure _ _ _ pm hm;subst z2;have r2:=r.grow s12;have hpf:p∈fps i:=by rw[ef];exact af
  have mu:=(r2.own i hi p hpf).2;refine⟨p,_,rfl,.inl ⟨o4,kt,s12 _ _ hp,rfl,by rw[<-aK (·.1)];exact lt_size hlen,rfl⟩,?_⟩;refine k _ _ _ (r2.mutate (o:=.dK (Ug o4 kt y)) (l':=.dK (Tq (o4.map (·.1)) kt) (Tr (o4.map (·.1)) vs kt v)) (fp':=[p]) hi hpf hv (T8 em) (Is.dK upd_same Fp (Iss.tr (TK.upd' mu) _ _ _ (λq hq=>by simp at hq) (Fq hm' pm (i1.mono s2) pl))) (by simp) (λq hq=>?_) (λj hj q hq z=>r.dis i hi j hj q (by rw[ef];exact hq) z) bj) OV;rw[aR.mp hq];exact⟨(r.own i hi p hpf).1,by rw[upd_same];exact bj⟩
 | _=>cases ed
end VL
namespace VL
open PySem PySem.Spec PyProof.Rows L2
variable {K:aJ}
section
variable {X:Cx} {a b c d:bS} {fa fb fc fd:XE} {pos:fZ}
theorem OZ(hu:X.A.units+64<fL)(ha:VE X a fa)(hb:VE X b fb):VE X (.Compare a [.Eq] [b] pos) (Zg (Xv aC) fa fb):=LQ (Cw hu) (L0 aC) ha hb (Sz _)
theorem Zgz(hu:X.A.units+64<fL)(ha:VE X a fa)(hb:VE X b fb):VE X (.Compare a [.NotEq] [b] pos) (Zg (Xv aD) fa fb):=LQ (Cy hu) (L0 aD) ha hb (Sz _)
theorem JE(hu:X.A.units+64<fL)(ha:VE X a fa)(hb:VE X b fb):VT X (.Compare a [.Eq] [b] pos) (xB (Zg (Xv aC) fa fb)):=Qz (Cw hu) (L0 aC) ha hb (Sz _)
theorem Ts(hu:X.A.units+64<fL)(ha:VE X a fa)(hb:VE X b fb):VT X (.Compare a [.NotEq] [b] pos) (xB (Zg (Xv aD) fa fb)):=Qz (Cy hu) (L0 aD) ha hb (Sz _)
theorem CG(hu:X.A.units+64<fL)(ha:VE X a fa)(hb:VE X b fb)(hm:cq .In b=aC:=by with_unfolding_all rfl):VE X (.Compare a [.In] [b] pos) (Zg (X4 aC) fa fb):=LQ (Cz hu) (Ho aC) ha hb hm
theorem JF(hu:X.A.units+64<fL)(ha:VE X a fa)(hb:VE X b fb)(hm:cq .In b=aC:=by with_unfolding_all rfl):VT X (.Compare a [.In] [b] pos) (xB (Zg (X4 aC) fa fb)):=Qz (Cz hu) (Ho aC) ha hb hm
theorem Ui(hu:X.A.units+64<fL)(ha:VE X a fa)(hb:VE X b fb)(hm:cq .NotIn b=aC:=by with_unfolding_all rfl):VT X (.Compare a [.NotIn] [b] pos) (xB (Zg (X4 aD) fa fb)):=Qz (EJ hu) (Ho aD) ha hb hm
def blO:PV->Option Bool
 | .bl c=>aA c
 | _=>aB
theorem CH{a:PV}{k:Bool}(h:blO a=aA k):a = .bl k:=by
 unfold blO at h;split at h
 ·cases h;rfl
 ·cases h
noncomputable def eCh(g h:PV->PV->Option PV)(a b c:XE):XE:=λs=>(a s).bind λx=>(b s).bind λy=>((g x y).bind blO).bind λk=>if k=aD then(c s).bind λz=>h y z else aA (.bl aC)
theorem CI{r r':R2}{g h:PV->PV->Option PV}(hr:RB K r g)(hr':RB K r' h):∀σ H Q,tF K (eCh g h fa fb fc) σ H Q->D5 r r' (tF K fa) (tF K fb) (tF K fc) σ H Q:=λσ H Q ⟨Rm,s,l,hd,env,e,k⟩=>by
 obtain⟨x',e1,e⟩:=Zd e;obtain⟨y',e2,e⟩:=Zd e;obtain⟨b,e3,e⟩:=Zd e;obtain⟨z',e3,eb⟩:=Zd e3;rw[CH eb] at e3;refine⟨Rm,s,x',hd,env,e1,λx H1 f1 s1 i1 n1=>⟨Rm,s,y',λp hp=>Same.mut s1 (hd p hp),env.mono s1,e2,λy H2 f2 s2 i2 n2=>?_⟩⟩;refine hr H2 x y x' y' _ f1 f2 (i1.mono s2) i2 e3 _ λv H3 fp s3 i3 n3=>⟨b,i3.bl_inv.1,?_⟩;have s123:=s1.trans (s2.trans s3)
 cases b with
 | false=>
  rw[oB aw] at e ⊢;cases e;exact k _ H3 [] s123 (Is.bl _) λp hp=>by simp at hp
 | true=>
  rw[oA rfl] at e ⊢;obtain⟨w',e4,e⟩:=Zd e;refine⟨Rm,s,w',λp hp=>Same.mut s123 (hd p hp),env.mono s123,e4,λw H4 f4 s4 i4 n4=>?_⟩;refine hr' H4 y w y' w' l f2 f4 (i2.mono (s3.trans s4)) i4 e Q λv H5 fp5 s5 i5 n5=>k v H5 fp5 (s123.trans (s4.trans s5)) i5 λp hp z=>?_;rcases n5 p hp with q | q | q
  ·exact n2 p q z
  ·exact n4 p q z
  ·exact Xz (Same.mut (s123.trans s4) (hd p z)) q
theorem CJ{op op':lu}{r r':R2}{g h:PV->PV->Option PV}(ho:Sr X (dc op) r)(ho':Sr X (dc op') r')(hr:RB X.K r g)(hr':RB X.K r' h)(ha:VE X a fa)(hb:VE X b fb)(hc:VE X c fc)
  (hm:lastMarks [op,op'] [b,c]=aC:=by with_unfolding_all rfl):VT X (.Compare a [op,op'] [b,c] pos) (xB (eCh g h fa fb fc)):=PT.imp (D6 ho ho' ha hb hc hm) λσ H Q q=>OI (CI hr hr') σ H Q (Jq σ H Q q)
end
section
variable {X:Cx} {a b:bS} {fa fb:XE} {pos:fZ}
noncomputable def gCat:PV->PV->Option PV
 | .lst m,.lst n=>if m.length+n.length<=10000 then aA (.lst (m++n)) else aB
 | _,_=>aB
noncomputable def CK:PV->PV->Option PV
 | .lst m,.lst n=>if m.length+n.length<=10000/\ZD m=aD/\ZD n=aD then aA (.lst (m++n)) else aB
 | _,_=>aB
theorem Zao(ha:VE X a fa)(hb:VE X b fb):VM X (.BinOp a .Add b pos) (Zg CK fa fb):=PE.imp (D4 Zd1 ha hb) λσ H Q ⟨s,l,env,e,k⟩=>by
 obtain⟨x',y',e1,e2,e⟩:=RI e;refine⟨λ_=>False,s,x',λ_ z=>z.elim,env,e1,λx H1 f1 s1 i1 _=>⟨λ_=>False,s,y',λ_ z=>z.elim,env.mono s1,e2,λy H2 f2 s2 i2 _=>?_⟩⟩
 cases x' with
 | lst m=>cases y' with
  | lst n=>
   have e:(if m.length+n.length<=10000/\ZD m=aD/\ZD n=aD then aA (PV.lst (m++n)) else aB)=aA l:=e;split at e
   case isFalse=>cases e
   rename_i hl;cases e;obtain⟨p,xs,fq,rfl,hp,hi,rfl⟩:=i1.lst_inv;obtain⟨p',ys,fq',rfl,hp',hi',rfl⟩:=i2.lst_inv;refine⟨p,p',xs,ys,rfl,rfl,s2 _ _ hp,hp',by rw[hi.len,hi'.len];exact cZ (lt_size hl.1),λq hq=>?_⟩;refine k _ _ [q] (s1.trans (s2.trans (Same.new hq _))) (Is.lst upd_same ((((hi.mono s2).pureEq hl.2.1).append (hi'.pureEq hl.2.2)).mono (Same.new hq _))) (by simp) λr hr=>?_;rw[aR.mp hr];exact⟨Same.off (s1.trans s2) hq,by rw[upd_same];exact bj⟩
  | _=>cases e
 | _=>cases e
noncomputable def L8:PV->PV->Option PV
 | .lst m,.int k=>if ZD m=aD/\-1000000<=k/\k<=1000000/\m.length*k.toNat<=10000 then aA (.lst (aG k.toNat m).flatten) else aB
 | _,_=>aB
theorem Iss.rep{H:Hp}{m:List PV}{xs:List V}(h:Iss K H m xs []):∀k:Nat,Iss K H (aG k m).flatten (aG k xs).flatten []
 | 0=>Iss.nil
 | k+1=>by rw[cL,cL,dZ,dZ];exact h.append (Iss.rep h k)
theorem CM(ha:VE X a fa)(hb:VE X b fb):VM X (.BinOp a .Mult b pos) (Zg L8 fa fb):=PE.imp (D4 Zd2 ha hb) λσ H Q ⟨s,l,env,e,k⟩=>by
 obtain⟨x',y',e1,e2,e⟩:=RI e;refine⟨λ_=>False,s,x',λ_ z=>z.elim,env,e1,λx H1 f1 s1 i1 _=>⟨λ_=>False,s,y',λ_ z=>z.elim,env.mono s1,e2,λy H2 f2 s2 i2 _=>?_⟩⟩
 cases x' with
 | lst m=>cases y' with
  | int n=>
   have e:(if ZD m=aD/\-1000000<=n/\n<=1000000/\m.length*n.toNat<=10000 then aA (PV.lst (aG n.toNat m).flatten) else aB)=aA l:=e;split at e
   case isFalse=>cases e
   rename_i hl;cases e;obtain⟨p,xs,fq,rfl,hp,hi,rfl⟩:=i1.lst_inv;refine⟨p,n,xs,rfl,i2.int_inv.1,s2 _ _ hp,by omega,by omega,by rw[hi.len];exact cZ (lt_size hl.2.2.2),λq hq=>?_⟩;refine k _ _ [q] (s1.trans (s2.trans (Same.new hq _))) (Is.lst upd_same ((Iss.rep ((hi.mono s2).pureEq hl.1) n.toNat).mono (Same.new hq _))) (by simp) λr hr=>?_;rw[aR.mp hr];exact⟨Same.off (s1.trans s2) hq,by rw[upd_same];exact bj⟩
  | _=>cases e
 | _=>cases e
end
theorem Iss.fps{H:Hp}:∀{ls:List PV}{vs:List V}{fp:List aN},Iss K H ls vs fp->∃fps:Nat->List aN,(∀(i:Nat) l,ls[i]?=aA l->∃v,vs[i]?=aA v/\Is K H l v (fps i))/\∀i,ls.length<=i->fps i=[]
 | [],vs,fp,h=>⟨λ_=>[],λi l e=>by simp at e,λ_ _=>rfl⟩
 | a::ls,vs,fp,h=>by
  obtain⟨x,r,f1,f2,rfl,h1,h2,rfl⟩:=h.inv;obtain⟨fps,p1,p2⟩:=h2.fps;refine⟨λi=>match i with | 0=>f1 | k+1=>fps k,λi l e=>?_,λi hi=>?_⟩
  ·cases i with
   | zero=>simp at e;subst e;exact⟨x,rfl,h1⟩
   | succ k=>
    obtain⟨v,a,b⟩:=p1 k l (by simpa using e);exact⟨v,by simpa using a,b⟩
  ·cases i with
   | zero=>simp at hi
   | succ k=>exact p2 k (by simpa using hi)
def Z2(m:Nat)(ls:List PV):ZL:=ls.map aA++aG (m-ls.length) aB
noncomputable def Xl:Out->Option PV
 | .rt v=>aA v
 | .nx _=>aA .non
 | _=>aB
def Ya(m:Nat)(f:XS):List PV->Option PV:=λls=>(f (Z2 m ls)).bind Xl
theorem P8{N:List bH}{n:Nat}{O W:List Nat}{f:XS}{vs:List V}{H:Hp}{Q:VK}{E:XK}(hO:∀i∈O,n<=i)(h:Xd K (Ya N.length f) n vs H Q E):Az K O W f { nx:=λ_ H'=>Q .non H',rt:=Q } (L2.start N vs) H:=by
 obtain⟨hl,ls,fp,l,hi,e,q⟩:=h;obtain⟨out,e1,e2⟩:=Zd e;obtain⟨fps,p1,p2⟩:=hi.fps;have hlen:=hi.len
 have hout:∀i:Nat,ls.length<=i->∀l,(Z2 N.length ls)[i]?≠aA (aA l):=λi hi l z=>by
  unfold Z2 at z;rw[bK (by simpa using hi),b7] at z;split at z<;>cases z
 have rel:Rel K O H fps (Z2 N.length ls) (L2.start N vs) H:=by
  refine⟨Same.refl H,?_,λi a z=>?_,λi hne=>?_,λi hi=>?_,λi hi p hp=>?_,λi hi j hj p hp=>?_⟩
  ·unfold Z2 L2.start;simp[hlen]
  ·by_cases hil:i<ls.length
   ·unfold Z2 at z;rw[az (by simpa using hil),aW] at z
    cases q:ls[i]? with
    | none=>rw[q] at z;cases z
    | some b=>
     rw[q] at z;cases z;obtain⟨v,a1,b1⟩:=p1 i a q;refine⟨v,?_,b1⟩;unfold L2.start;rw[az (by simpa [hlen] using hil),aW,a1];rfl
   ·exact absurd z (hout i (by omega) a)
  ·by_cases hil:i<ls.length
   ·exact absurd (by unfold Z2;rw[az (by simpa using hil),aW,aE hil];rfl) (hne ls[i])
   ·exact p2 i (by omega)
  ·rw[p2 i (by have:=hO i hi;omega)];exact cG
  ·rw[p2 i (by have:=hO i hi;omega)] at hp;simp at hp
  ·rw[p2 i (by have:=hO i hi;omega)] at hp;simp at hp
 refine⟨H,fps,Z2 N.length ls,out,rel,e1,?_⟩
 cases out with
 | nx s'=>
  cases e2;exact λo6 σ' H' r' _=>q .non H' [] r'.same Is.non cG λp hp=>by simp at hp
 | rt v=>
  cases e2;exact λv fp H' sm i d n=>q v H' fp sm i d n
 | bk s'=>cases e2
 | ct s'=>cases e2
section
variable {P:bQ} {w:bu} {mg:bH->Option aL} {base:ba}
theorem O0{x:bH}{st:bx}{N ps:List bH}{k n:Nat}{O W:List Nat}(m:Nat)(f:XS)(D:Def K mg x st)(S:Zp N ps (Zf st))
  (hb:∀(kV doc pm:aL)(an:Option aN)(cdv ct:aL)(us:List aL),us.length=ps.length->i6 (c0 x x (Y0 st) (Yf st) (Zf st) .none kV doc pm an cdv ct) ⟨us,[]⟩=pure (ps.zip us))
  (hn:ps.length=n) (hm:N.length=m) (hO:∀i∈O,n<=i)
  (hbody:∀(fa:aN)(cdv:aL)(A:bw)(outer:List lZ)(s:aQ)(H:Hp)(E:XK),Room k (A.deeper (iH x (Zf st) s.heap.objs.size fa cdv))->Fl (PH LJ P w K mg base N x (Zf st) fa cdv A outer s H E).nox O W (Yf st) f) :
  XW P w K mg base x ps (Xd K (Ya m f) n) (k+1):=by
 subst hm;refine D.cal S hb (λvs H Q E h=>by rw[hn];exact h.1) λfa cdv A outer s H vs Q E hr h=>⟨_,hbody fa cdv A outer s H E hr,P8 hO h⟩
end
end VL
namespace VL
open PySem PySem.Spec PyProof.Rows L2
variable {K:aJ}
theorem Inv.thaw{X:Cx}{nu:List (aN×df)}{σ:Pq}{H:Hp}{s:aQ}{d:aN}{o4:List (List YV×V)}{o:df}(I:L2.Inv X nu σ H s)(hd:H d=aA (.frz o (.dT o4)))(h0:∀o u,X.H₀ d≠aA (.frz o u)) :
  L2.Inv X nu σ (upd H d (.dT o4)) s:=by
 have ne:∀b u,H b=aA u->(∀o v,u≠.frz o v)->b≠d:=λb u q n z=>by rw[z,hd] at q;exact n _ _ (bG q).symm
 have nn:∀b,H b=aB->b≠d:=λb q z=>by rw[z,hd] at q;cases q
 have hok:HOk X.prog X.w (upd H d (.dT o4)) s.heap:=λb u q=>by
  have hown:∀c y,H c=aA (.own y)->upd H d (.dT o4) c=aA (.own y):=λc y z=>by rw[upd_ne (ne c _ z λ_ _ z=>nomatch z)];exact z
  have htup:∀c xs,H c=aA (.tup xs)->upd H d (.dT o4) c=aA (.tup xs):=λc y z=>by rw[upd_ne (ne c _ z λ_ _ z=>nomatch z)];exact z
  by_cases hb:b=d
  ·subst hb;rw[upd_same] at q;cases q;obtain⟨_,x⟩:=(show ObjOk X.prog X.w H s.heap b (.frz o (.dT o4)) from I.hok b _ hd);exact ObjOk.stay x (λ_ _ _ z=>z) (λc z=>hown c _ z) htup λc u z=>by rw[upd_ne (λy=>by rw[y,hd] at z;cases z)];exact z
  ·rw[upd_ne hb] at q;exact(I.hok b u q).stay (λ_ _ _ z=>z) (λc z=>hown c _ z) htup λc u z=>by rw[upd_ne (λy=>by rw[y,hd] at z;cases z)];exact z
 refine⟨I.ok,I.os,I.bare,⟨I.base.keep,I.base.slot,λb o q n hx=>?_,I.base.there,λb xs q=>?_,λb o u q=>?_,λb ps q=>?_⟩,I.loc,I.cell,?_,λx c e=>?_,λp hp=>?_,hok,I.len⟩
 ·have z:=I.base.free b o q n hx;rw[upd_ne (nn b z)];exact z
 ·have z:=I.base.tups b xs q;rw[upd_ne (ne b _ z λ_ _ z=>nomatch z)];exact z
 ·have z:=I.base.frzs b o u q;have hb:b≠d:=λe=>h0 o u (by rw[<-e];exact q);rw[upd_ne hb];exact z
 ·obtain⟨more,z⟩:=I.base.tbls b ps q;exact⟨more,by rw[upd_ne (ne b _ z λ_ _ z=>nomatch z)];exact z⟩
 ·rw[upd_ne (nn _ I.free)];exact I.free
 ·rw[upd_ne (nn _ (I.freeC x c e))];exact I.freeC x c e
 ·obtain⟨a,b,c⟩:=I.pin p hp;exact⟨a,by rw[upd_ne (nn _ b)];exact b,c⟩
def thaw(d:aN)(o4:List (List YV×V))(D:Ru):Ru where
 nx:=λσ H=>(∃o,H d=aA (.frz o (.dT o4)))/\D.nx σ (upd H d (.dT o4))
 bk:=λσ H=>(∃o,H d=aA (.frz o (.dT o4)))/\D.bk σ (upd H d (.dT o4))
 ct:=λσ H=>(∃o,H d=aA (.frz o (.dT o4)))/\D.ct σ (upd H d (.dT o4))
 rt:=λv H=>(∃o,H d=aA (.frz o (.dT o4)))/\D.rt v (upd H d (.dT o4))
def Zcs(i:Nat)(g:TG)(tb:TS):TS:=λD σ H=>∃d o4,σ[i]?=aA (aA (.ref d))/\
 ((H d=aA (.dT o4)/\∀o,Zec g tb (thaw d o4 D) σ (Itd d o o4) (upd H d (.frz o (.dT o4))))\/∃o,H d=aA (.frz o (.dT o4))/\Zec g tb D σ (Itd d o o4) H)
theorem Ft{X:Cx}{st:bx}{i:Nat}{g:TG}{tb:TS}(h:PS X st (AL (G6 (Sy i)) g tb)):PS X st (Zcs i g tb):=by
 intro nu s σ H D I hq;obtain⟨d,o4,hv,alt⟩:=hq;rcases alt with⟨hd,q⟩ | ⟨o,hd,q⟩
 ·have h0:∀o u,X.H₀ d≠aA (.frz o u):=λo u z=>by have:=I.base.frzs d o u z;rw[hd] at this;cases this
  have main:=h nu s σ H (thaw d o4 D) I ⟨.ref d,hv,d,o4,rfl,.inl ⟨hd,q⟩⟩;refine YN main λf s' hsp=>?_
  cases f with
  | next=>
   obtain⟨σ',H',I',⟨o,ho⟩,q'⟩:=hsp;exact⟨σ',_,Inv.thaw I' ho h0,q'⟩
  | brk=>
   obtain⟨σ',H',I',⟨o,ho⟩,q'⟩:=hsp;exact⟨σ',_,Inv.thaw I' ho h0,q'⟩
  | cont=>
   obtain⟨σ',H',I',⟨o,ho⟩,q'⟩:=hsp;exact⟨σ',_,Inv.thaw I' ho h0,q'⟩
  | ret u=>
   obtain⟨v,σ',H',I',r',⟨o,ho⟩,q'⟩:=hsp;exact⟨v,σ',_,Inv.thaw I' ho h0,r',q'⟩
 ·exact h nu s σ H D I ⟨.ref d,hv,d,o4,rfl,.inr ⟨o,hd,q⟩⟩
def Zap(k:List YV):PV:=.tup (k.map kP)
theorem JG{Rm:aN->Prop}{H1:Hp}{d:aN}{o:df}{o4:List (List YV×V)}(hd:H1 d=aA (.frz o (.dT o4)))(hn:¬Rm d):JIs K Rm H1 (Itd d o o4) ((o4.map (·.1)).map Zap):=by refine⟨λH' ab=>⟨ab d _ hd hn,by simp⟩,λH' i l ab hl=>⟨ab d _ hd hn,by have:=(aS.mp hl).1;simpa using this⟩,λH' i l x H'' ab hl y=>?_⟩;obtain⟨rfl,b,k,v,hk,rfl,hb⟩:=y;rw[aW,aW,hk] at hl;cases hl;exact⟨Same.refl _,[],Is.tup hb (CD k),λp hp=>by simp at hp⟩
def M8:PV->Option (List PV)
 | .dT ks _=>aA (ks.map Zap)
 | _=>aB
def O1(i:Nat)(T:Tgt)(fb:XS):XS:=λs=>((s[i]?).join.bind M8).bind λls=>Xe T fb ls s
theorem Rd.dT_inj{H:Hp}{p:aN}{xs ys:List (List YV×V)}(a:Rd H p (.dT xs))(b:Rd H p (.dT ys)):xs=ys:=by rcases a with a | ⟨o,a⟩<;>rcases b with b | ⟨o',b⟩<;>rw[a] at b<;>cases b<;>rfl
theorem RdK.swap{H H':Hp}{d:aN}{o4:List (List YV×V)}(h:Rd H d (.dT o4))(h':Rd H' d (.dT o4))(hs:∀b,b≠d->H' b=H b)(p:aN):RdK H H' p:=by
 by_cases hp:p=d
 ·subst hp;refine⟨λxs z=>?_,λk z=>?_,λk z=>?_⟩
  ·rcases h with h | ⟨o,h⟩<;>rw[h] at z<;>cases z
  ·rcases h with h | ⟨o,h⟩<;>rcases z with z | ⟨o',z⟩<;>rw[h] at z<;>cases z
  ·rw[<-Rd.dT_inj h z];exact h'
 ·exact RdK.of λo z=>by rw[hs p hp];exact z
theorem TK2.swap{H H':Hp}{d:aN}{o4:List (List YV×V)}(h:Rd H d (.dT o4))(hs:∀b,b≠d->H' b=H b):TK2 H H':=by
 have ne:∀b u,H b=aA u->(∀k,u≠.dT k)->(∀o k,u≠.frz o (.dT k))->b≠d:=λb u q n n' z=>by
  rw[z] at q;rcases h with h | ⟨o,h⟩<;>rw[h] at q<;>cases q
  ·exact n _ rfl
  ·exact n' _ _ rfl
 exact⟨λb xs z=>by rw[hs b (ne b _ z (λ_ z=>nomatch z) λ_ _ z=>nomatch z)];exact z,λb o xs z=>by rw[hs b (ne b _ z (λ_ z=>nomatch z) λo k z=>by cases z)];exact z,λb o xs z=>by rw[hs b (ne b _ z (λ_ z=>nomatch z) λo k z=>by cases z)];exact z⟩
section
variable {O W:List Nat} {T:Tgt} {fb:XS} {i:Nat}
theorem M9{O':List Nat}{H0 H:Hp}{fps:Nat->List aN}{s:ZL}{σ:Pq}{D:Ru}{out:Out}{ks:List (List YV)}{vs:List PV}(r:Rel K O H0 fps s σ H)(hO':∀j∈O',j∈O/\j≠i)(e:s[i]?=aA (aA (.dT ks vs)))
  (ef:Xe T fb (ks.map Zap) s=aA out) (hT:∀j∈T.slots,j∉O')
  (k:∀(F:Hp)(th:Hp->Hp),(∀b,H b≠aB->¬Ow O' fps b->F b≠aB)->Same H0 (th F)->(∀H',Same F H'->Same (th F) (th H')/\TK2 H' (th H')/\(∀p,RdK H' (th H') p)/\(∀p,F p=aB->th H' p=H' p)/\(∀p,p∈fps i->¬Ow O' fps p->H p=th H' p))->(∀p,F p=aB->H0 p=aB)->
   ∀out',out=out'->match out' with
    | .nx s'=>∀o6 σ' H',Rel K O' F o6 s' σ' H'->(∀j,j∉T.slots++W->σ'[j]?=σ[j]?/\Kep (o6 j) (fps j))->D.nx σ' (th H')
    | .rt l=>∀v fp H',Same F H'->Is K H' l v fp->fp.Nodup->(∀p∈fp,F p=aB/\Ue (H' p))->D.rt v (th H')
    | _=>True):Zcs i (gT K T) (Az K O' W fb) D σ H:=by
 obtain⟨v,hv,iv⟩:=r.is i _ e;obtain⟨d,o4,fq,rfl,hd,rfl,hi,efp⟩:=iv.dT_inv;have dO:¬Ow O' fps d:=λ⟨j,hj,hp⟩=>r.dis j (hO' j hj).1 i (bX (hO' j hj).2) d hp (by rw[efp];exact af);have owm:∀p,Ow O' fps p->H0 p=aB/\Ue (H p):=λp ⟨j,hj,hp⟩=>r.own j (hO' j hj).1 p hp
 -- the frame and the relation at the loop's start,in a heap that differs from H at d alone
 have start:∀H2:Hp,Rd H2 d (.dT o4)->(∀b,b≠d->H2 b=H b)->Rel K O' (WG H2 (Ow O' fps)) fps s σ H2:=λH2 h2 hs=>by
  refine⟨M1,r.len,λj l q=>?_,r.emp,λj hj=>r.nd j (hO' j hj).1,λj hj p hp=>⟨by unfold WG;rw[oA ⟨j,hj,hp⟩],?_⟩,λj hj=>r.dis j (hO' j hj).1⟩
  ·obtain⟨w,a,b⟩:=r.is j l q;exact⟨w,a,Is.tr (TK2.swap hd hs) _ _ _ (λp _=>RdK.swap hd h2 hs p) b⟩
  ·have pd:p≠d:=λz=>dO ⟨j,hj,z▸hp⟩;rw[hs p pd];exact(r.own j (hO' j hj).1 p hp).2
 have outk:∀(F:Hp)(th:Hp->Hp)(D':Ru),(∀σ' H',Same F H'->D.nx σ' (th H')->D'.nx σ' H')->(∀v H',Same F H'->D.rt v (th H')->D'.rt v H')->(∀b,H b≠aB->¬Ow O' fps b->F b≠aB)->Same H0 (th F)->(∀H',Same F H'->Same (th F) (th H')/\TK2 H' (th H')/\(∀p,RdK H' (th H') p)/\(∀p,F p=aB->th H' p=H' p)/\(∀p,p∈fps i->¬Ow O' fps p->H p=th H' p))->(∀p,F p=aB->H0 p=aB)->(∀s',out≠.bk s')->(∀s',out≠.ct s')->OutOk K O' (T.slots++W) F fps σ D' out:=λF th D' h1 h2 h3 h4 h5 h6 hb hc=>by
  have kk:=k F th h3 h4 h5 h6 out rfl
  cases out with
  | nx s'=>exact λo6 σ' H' r' q'=>h1 σ' H' r'.same (kk o6 σ' H' r' q')
  | rt l=>exact λv fp H' sm i d n=>h2 v H' sm (kk v fp H' sm i d n)
  | bk s'=>exact absurd rfl (hb s')
  | ct s'=>exact absurd rfl (hc s')
 have nobc:(∀s',out≠.bk s')/\(∀s',out≠.ct s'):=by
  have:∀(ls:List PV)(s:ZL)(o:Out),Xe T fb ls s=aA o->(∀s',o≠.bk s')/\(∀s',o≠.ct s'):=by
   intro ls
   induction ls with
   | nil=>intro s o h;cases h;exact⟨λ_ z=>(nomatch z),λ_ z=>(nomatch z)⟩
   | cons l rr ih=>
    intro s o h;unfold Xe at h;obtain⟨s1,_,h⟩:=Zd h;obtain⟨o1,_,h⟩:=Zd h
    cases o1 with
    | nx s2=>exact ih s2 o h
    | ct s2=>exact ih s2 o h
    | bk s2=>cases h;exact⟨λ_ z=>(nomatch z),λ_ z=>(nomatch z)⟩
    | rt v=>cases h;exact⟨λ_ z=>(nomatch z),λ_ z=>(nomatch z)⟩
  exact this _ _ _ ef
 rcases hd with hd | ⟨o,hd⟩
 ·refine⟨d,o4,hv,.inl ⟨hd,λo=>?_⟩⟩;have h2:upd H d (.frz o (.dT o4)) d=aA (.frz o (.dT o4)):=upd_same;have hs:∀b,b≠d->upd H d (.frz o (.dT o4)) b=H b:=λb hb=>upd_ne hb;have Fd:WG (upd H d (.frz o (.dT o4))) (Ow O' fps) d=aA (.frz o (.dT o4)):=by unfold WG;rw[oB dO];exact h2
  refine OT (K:=K) (start _ (.inr ⟨o,h2⟩) hs) (JG h2 dO) ef hT (outk _ (λHx=>upd Hx d (.dT o4)) (thaw d o4 D) (λσ' H' sm q=>⟨⟨o,sm d _ Fd⟩,q⟩) (λv H' sm q=>⟨⟨o,sm d _ Fd⟩,q⟩) (λb hb nb=>?_) (λb u h=>?_) (λH' sm=>⟨?_,?_,λp=>?_,λp hp=>?_,λp hp np=>?_⟩) (λp hp=>?_) nobc.1 nobc.2)
  ·unfold WG;rw[oB nb];by_cases e:b=d
   ·subst e;rw[h2];simp
   ·rw[hs b e];exact hb
  ·by_cases e:b=d
   ·subst e;have:=r.same b u h;rw[hd] at this;cases this;exact upd_same
   ·rw[upd_ne e];unfold WG;rw[oB (λz=>by rw[(owm b z).1] at h;cases h),hs b e];exact r.same b u h
  ·intro b u h;by_cases e:b=d
   ·subst e;rw[upd_same] at h ⊢;exact h
   ·rw[upd_ne e] at h ⊢;exact sm b u h
  ·exact TK2.swap (d:=d) (o4:=o4) (.inr ⟨o,sm d _ Fd⟩) λb hb=>upd_ne hb
  ·exact RdK.swap (d:=d) (o4:=o4) (.inr ⟨o,sm d _ Fd⟩) (.inl upd_same) (λb hb=>upd_ne hb) p
  ·exact upd_ne λe=>by rw[e,Fd] at hp;cases hp
  ·by_cases e:p=d
   ·subst e;rw[hd];exact upd_same.symm
   ·show H p=upd H' d (.dT o4) p;rw[upd_ne e];have hpn:=r.dom i p hp
    cases q:H p with
    | none=>exact absurd q hpn
    | some u=>exact(sm p u (by unfold WG;rw[oB np,hs p e];exact q)).symm
  ·cases q:H0 p with
   | none=>rfl
   | some u=>
    exfalso;have hpd:p≠d:=λe=>by rw[e,Fd] at hp;cases hp
    unfold WG at hp;rw[oB (λz=>by rw[(owm p z).1] at q;cases q),hs p hpd,r.same p u q] at hp;cases hp
 ·refine⟨d,o4,hv,.inr ⟨o,hd,?_⟩⟩;have Fd:WG H (Ow O' fps) d=aA (.frz o (.dT o4)):=by unfold WG;rw[oB dO];exact hd
  refine OT (K:=K) (start H (.inr ⟨o,hd⟩) λ_ _=>rfl) (JG hd dO) ef hT (outk _ (λHx=>Hx) D (λσ' H' sm q=>q) (λv H' sm q=>q) (λb hb nb=>by unfold WG;rw[oB nb];exact hb) (λb u h=>?_) (λH' sm=>⟨sm,Same.tk2 (Same.refl _),λp=>RdK.of λ_ z=>z,λp _=>rfl,λp hp np=>?_⟩) (λp hp=>?_) nobc.1 nobc.2)
  ·unfold WG;rw[oB (λz=>by rw[(owm b z).1] at h;cases h)];exact r.same b u h
  ·have hpn:=r.dom i p hp
   cases q:H p with
   | none=>exact absurd q hpn
   | some u=>exact(sm p u (by unfold WG;rw[oB np];exact q)).symm
  ·cases q:H0 p with
   | none=>rfl
   | some u=>
    exfalso;unfold WG at hp;rw[oB (λz=>by rw[(owm p z).1] at q;cases q),r.same p u q] at hp;cases hp
end
section
variable {X:Cx} {O O' W:List Nat} {T:Tgt} {fb:XS} {i:Nat} {st:bx}
theorem Fu(h:PS X st (AL (G6 (Sy i)) (gT X.K T) (Az X.K O W fb)))(hi:i∉O:=by decide)(hT:∀j∈T.slots,j∉O:=by decide):VS X O (T.slots++W) st (O1 i T fb):=PS.imp (Ft h) λD σ H ⟨H0,fps,s,out,r,e,k⟩=>by
 obtain⟨ls,e1,e⟩:=Zd e;obtain⟨d,e2,e3⟩:=Zd e1;have e2:=join_some e2
 cases d with
 | dT ks vs=>
  cases e3;refine M9 (O':=O) r (λj hj=>⟨hj,λz=>hi (z▸hj)⟩) e2 e hT λF th _ h4 h5 h6 out' eo=>?_;subst eo
  cases out with
  | nx s'=>
   intro o6 σ' H' r' q';obtain⟨t1,t2,t3,t4,_⟩:=h5 H' r'.same;refine k o6 σ' (th H') ⟨h4.trans t1,r'.len,λj l q=>?_,r'.emp,r'.nd,λj hj p hp=>⟨h6 p (r'.own j hj p hp).1,by rw[t4 p (r'.own j hj p hp).1];exact(r'.own j hj p hp).2⟩,r'.dis⟩ q';obtain⟨v,a,b⟩:=r'.is j l q;exact⟨v,a,Is.tr t2 _ _ _ (λp _=>t3 p) b⟩
  | rt l=>
   intro v fp H' sm is nd fr;obtain⟨t1,t2,t3,t4,_⟩:=h5 H' sm;exact k v fp (th H') (h4.trans t1) (Is.tr t2 _ _ _ (λp _=>t3 p) is) nd λp hp=>⟨h6 p (fr p hp).1,by rw[t4 p (fr p hp).1];exact(fr p hp).2⟩
  | bk s'=>trivial
  | ct s'=>trivial
 | _=>cases e3
noncomputable def XZ(O:List Nat):Nat->ZL->ZL
 | _,[]=>[]
 | k,o::r=>(if k∈O then o else match o with | some l=>if ZH l=aD then aA l else aB | none=>aB)::XZ O (k+1) r
theorem SF{O:List Nat}:∀{s:ZL}{k j:Nat}{l:PV},(XZ O k s)[j]?=aA (aA l)->s[j]?=aA (aA l)/\(k+j∈O\/ZH l=aD)
 | [],k,j,l,h=>by simp[XZ] at h
 | o::r,k,0,l,h=>by
  unfold XZ at h;simp only[kB,j9] at h;by_cases hk:k∈O
  ·rw[oA hk] at h;exact⟨by simp[h],.inl hk⟩
  ·rw[oB hk] at h
   cases o with
   | none=>cases h
   | some a=>
    simp only at h;split at h
    ·cases h;exact⟨rfl,.inr (by assumption)⟩
    ·cases h
 | o::r,k,j+1,l,h=>by unfold XZ at h;rw[iG] at h;obtain⟨a,b⟩:=SF h;exact⟨by simpa using a,by rw[show k+(j+1)=k+1+j by omega];exact b⟩
theorem O2{O:List Nat}:∀{s:ZL}{k:Nat},(XZ O k s).length=s.length
 | [],_=>rfl
 | o::r,k=>by unfold XZ;rw[bB,bB,O2]
def Hw(O:List Nat):Out->Out
 | .nx s=>.nx (XZ O 0 s)
 | o=>o
def SG(O:List Nat)(i:Nat)(T:Tgt)(fb:XS):XS:=λs=>((s[i]?).join.bind M8).bind λls=>(Xe T fb ls s).map (Hw O)
open Classical in
theorem CN(h:PS X st (AL (G6 (Sy i)) (gT X.K T) (Az X.K O' W fb)))(hi:i∈O:=by decide)(hO:∀j,j∈O'↔(j∈O/\j≠i))(hT:∀j∈T.slots,j∉O:=by decide)(hW:i∉T.slots++W:=by decide):VS X O (T.slots++W) st (SG O i T fb):=PS.imp (Ft h) λD σ H ⟨H0,fps,s,out,r,e,k⟩=>by
 obtain⟨ls,e1,e⟩:=Zd e;obtain⟨d,e2,e3⟩:=Zd e1;obtain⟨out0,e5,rfl⟩:=map_some e;have e2:=join_some e2
 cases d with
 | dT ks vs=>
  cases e3;refine M9 (O':=O') r (λj hj=>(hO j).mp hj) e2 e5 (λj hj z=>hT j hj ((hO j).mp z).1) λF th h3 h4 h5 h6 out' eo=>?_;subst eo
  cases out0 with
  | nx s'=>
   intro o6 σ' H' r' q';obtain⟨t1,t2,t3,t4,t5⟩:=h5 H' r'.same;have ki:=q' i hW;have fi:∀p∈fps i,¬Ow O' fps p:=λp hp ⟨j,hj,z⟩=>r.dis i hi j ((hO j).mp hj).2 p hp z;have Fi:∀p∈fps i,F p≠aB:=λp hp=>h3 p (r.dom i p hp) (fi p hp)
   have sub:∀p,p∈o6 i->p∈fps i:=λp hp=>by
    rcases ki.2 with z | z
    ·rw[<-z];exact hp
    ·rw[z] at hp;simp at hp
   have ow':∀j∈O',∀p∈o6 j,F p=aB:=λj hj p hp=>(r'.own j hj p hp).1;have inO:∀j∈O,j≠i->j∈O':=λj hj n=>(hO j).mpr ⟨hj,n⟩
   have get:∀j p,p∈(if(XZ O 0 s')[j]?=s'[j]? then o6 j else [])->p∈o6 j/\(XZ O 0 s')[j]?=s'[j]?:=λj p hp=>by
    split at hp
    ·exact⟨hp,by assumption⟩
    ·simp at hp
   refine k (λj=>if(XZ O 0 s')[j]?=s'[j]? then o6 j else []) σ' (th H') ⟨h4.trans t1,by rw[O2];exact r'.len,λj l q=>?_,λj hne=>?_,λj hj=>?_,λj hj p hp=>?_,λj hj m hm p hp z=>?_⟩ λj hj=>⟨(q' j hj).1,?_⟩
   ·obtain⟨q1,_⟩:=SF q;obtain⟨v,a,b⟩:=r'.is j l q1;rw[oA (q.trans q1.symm)];exact⟨v,a,Is.tr t2 _ _ _ (λp _=>t3 p) b⟩
   ·show(if(XZ O 0 s')[j]?=s'[j]? then o6 j else [])=[];split
    ·rename_i h;exact r'.emp j λl z=>hne l (by rw[h];exact z)
    ·rfl
   ·show(if(XZ O 0 s')[j]?=s'[j]? then o6 j else []).Nodup;split
    ·by_cases e:j=i
     ·subst e;rcases ki.2 with z | z
      ·rw[z];exact r.nd j hi
      ·rw[z];exact cG
     ·exact r'.nd j (inO j hj e)
    ·exact cG
   ·obtain⟨hp,_⟩:=get j p hp;by_cases e:j=i
    ·subst e;have hp:=sub p hp;exact⟨(r.own j hi p hp).1,by rw[<-t5 p hp (fi p hp)];exact(r.own j hi p hp).2⟩
    ·have o:=r'.own j (inO j hj e) p hp;exact⟨h6 p o.1,by rw[t4 p o.1];exact o.2⟩
   ·obtain⟨hp,_⟩:=get j p hp;obtain⟨zp,zc⟩:=get m p z;by_cases e:j=i
    ·subst e;have hpi:=sub p hp;by_cases hmO:m∈O'
     ·exact Fi p hpi (ow' m hmO p zp)
     ·obtain⟨l,v,ql,_,b⟩:=r'.at m zp;rw[ql] at zc;obtain⟨_,alt⟩:=SF zc;rcases alt with alt | alt
      ·rw[jK] at alt;exact hmO (inO m alt hm)
      ·rw[Is.pure _ _ _ alt b] at zp;simp at zp
    ·exact r'.dis j (inO j hj e) m hm p hp zp
   ·show Kep (if(XZ O 0 s')[j]?=s'[j]? then o6 j else []) (fps j);split
    ·exact(q' j hj).2
    ·exact .inr rfl
  | rt l=>
   intro v fp H' sm is nd fr;obtain⟨t1,t2,t3,t4,_⟩:=h5 H' sm;exact k v fp (th H') (h4.trans t1) (Is.tr t2 _ _ _ (λp _=>t3 p) is) nd λp hp=>⟨h6 p (fr p hp).1,by rw[t4 p (fr p hp).1];exact(fr p hp).2⟩
  | bk s'=>trivial
  | ct s'=>trivial
 | _=>cases e3
end
end VL
namespace VL
open PySem PySem.Spec PyProof.Rows L2
variable {K:aJ}
section
variable {X:Cx} {O:List Nat} {tg elt iter:bS} {ifs:List bS} {scope:gK} {pos:fZ} {fi:XL} {T:Tgt} {ft:XT} {fe:XE}
theorem L9(own fr:List bH)(ix:List Nat){i:Nat}{y:bH}{py spos:fZ}(hN:X.N.Nodup)(hy:X.N[i]?=aA y)(hloc:X.env.scope.names.lookup y=aA .local)(hcalm:X.calm=aD)(hi:VI X tg iter fi)(S:Uy X.N X.env.scope scope own fr ix=aD)
  (hg:∀cl C s H ex,PG (ZG X (own++fr) scope cl C s H ex) tg (gT X.K T)) (ht:∀cl C s H ex,VTs (ZG X (own++fr) scope cl C s H ex) ifs ft) (he:∀cl C s H ex,VM (ZG X (own++fr) scope cl C s H ex) elt fe)
  (hT:∀i∈T.slots,i<own.length:=by decide)
  (hsw:iC (.ListComp elt [⟨tg,iter,ifs,0⟩] scope pos) (aA (.Name y py)) spos.line X.env=pure aD:=by rfl)
  (hs:∀x,cE iter X.env x=pure x:=by intro _;rfl):VS X O [i] (.Assign [.Name y py] (.ListComp elt [⟨tg,iter,ifs,0⟩] scope pos) spos) (Zk i (Zr own.length ix fi T ft fe)):=
 PS.imp (Cm own fr ix hN hy hloc hcalm hi S hg (λcl C s H ex=>(show Cg (ZG X (own++fr) scope cl C s H ex) ifs (IP X.K ft) from ht cl C s H ex)) (λcl C s H ex=>(show PE (ZG X (own++fr) scope cl C s H ex) elt (tM X.K fe) from he cl C s H ex)) hsw hs) (Fm (Fh hT))
end
def Ka(i:Nat)(fk:XE):XS:=λs=>(Za i s).bind λa=>((fk s).bind ER).bind λk=>if k=0 then aA (.rt .non) else if k=1 then aA (.rt a) else aB
theorem ET{X:Cx}{O:List Nat}{e:bS}{i:Nat}{fk:XE}{pos:fZ}(he:PE X e (tOp (AX X.K) (Zgf (Rz (tC .non) (Rz (Sy i) Ew))) (tF X.K fk)))(hi:i∈O:=by decide):VS X O [] (.Return (aA e) pos) (Ka i fk):=PS.imp (LA he) λD σ H ⟨H0,fps,s,out,r,e,k⟩=>by
 obtain⟨a,e0,e⟩:=Zd e;obtain⟨n,e1,e⟩:=Zd e;obtain⟨l,e1,e2⟩:=Zd e1;rw[Tp e2] at e1;obtain⟨v,hv,iv⟩:=r.is i a (Qy e0);refine⟨v,hv,(by show 2<=sizeLine;decide),λp hp=>?_⟩;have sn:Same H (upd H p (.lst [V.non,v])):=Same.new hp _;refine⟨λ_=>False,s,_,λ_ z=>z.elim,r.env.mono sn,e1,λy H2 fy s2 i2 _=>?_⟩;have hp2:H2 p=aA (.lst [V.non,v]):=s2 _ _ upd_same;by_cases h0:n=0
 ·rw[oA h0] at e;cases e;exact⟨p,[V.non,v],n,V.non,rfl,i2.int_inv.1,SqL.of hp2,by rw[h0];rfl,k .non [] H2 (r.same.trans (sn.trans s2)) Is.non cG λp hp=>by simp at hp⟩
 ·rw[oB h0] at e;split at e
  ·rename_i h1;cases e;have s12:=sn.trans s2;exact⟨p,[V.non,v],n,v,rfl,i2.int_inv.1,SqL.of hp2,by rw[h1];rfl,k v (fps i) H2 (r.same.trans s12) (iv.mono s12) (r.nd i hi) λq hq=>⟨(r.own i hi q hq).1,Same.mut s12 (r.own i hi q hq).2⟩⟩
  ·cases e
section
variable {P:bQ} {w:bu} {mg:bH->Option aL} {base:ba}
theorem Zes{x:bH}{st:bx}{N ps:List bH}{k n:Nat}{O W:List Nat}{fa:aN}{fd:fX}(m:Nat)(f:XS)(F:Fun K x x st fa fd)(S:Zp N ps (Zf st))
  (hn:ps.length=n) (hm:N.length=m) (hO:∀i∈O,n<=i)
  (hbody:∀(fa:aN)(cdv:aL)(A:bw)(outer:List lZ)(s:aQ)(H:Hp)(E:XK),Room k (A.deeper (iH x (Zf st) s.heap.objs.size fa cdv))->Fl (PH LJ P w K mg base N x (Zf st) fa cdv A outer s H E).nox O W (Yf st) f) :
  Qq P w K mg base LJ (k+1) fa fd ps (Xd K (Ya m f) n):=by
 subst hm;refine F.ok S (λvs H Q E h=>by rw[hn];exact h.1) λcdv A outer s H vs Q E hr h=>⟨_,hbody fa cdv A outer s H E hr,?_⟩;exact P8 hO h
theorem CO{st:bx}{x:bH}{D:List PV->Option PV}{k:Nat}{fa:aN}(Df:Def K mg "law" st)(hfa:mg "law" = aA (.ref fa))
  (hb:∀(kV doc pm:aL)(an:Option aN)(cdv ct u:aL),i6 (c0 "law" "law" (Y0 st) (Yf st) (Zf st) .none kV doc pm an cdv ct) ⟨[u],[]⟩=pure [(x,u)])
  (H:∀(base:ba)(f:aN)(fd:fX),K.In base->base.Ns cJ mg->Fun K "law" "law" st f fd->Qq P w K mg base LJ k f fd [x] (Xd K D 1)) :
  ∃fd:fX,(∀(s:aQ)(u:aL),mC s fd ⟨[u],[]⟩ [(x,u)])/\∀base:ba,K.In base->base.Ns cJ mg->Qq P w K mg base LJ k fa fd [x] (Xd K D 1):=by
 obtain⟨f,fd,hm,F⟩:=Df.ex;have e:=hfa.symm.trans hm;cases e;refine⟨fd,?_,λbase h1 h2=>H base fa fd h1 h2 F⟩;obtain⟨oc,od,kV,doc,pm,an,cdv,ct,osl,rfl,lk,hcd⟩:=F.ex;exact λs u=>.of_eq (hb kV doc pm an cdv ct u)
end
end VL
namespace VL
open PySem L2
@[simp] theorem O3(i:Nat)(s:ZL):Za i s=(s[i]?).join:=rfl
@[simp] theorem eC_def(l:PV)(s:ZL):eC l s=aA l:=rfl
@[simp] theorem UK(g:PV->PV->Option PV)(a b:XE)(s:ZL):Zg g a b s=(a s).bind λx=>(b s).bind λy=>g x y:=rfl
@[simp] theorem eUn_def(g:PV->Option PV)(a:XE)(s:ZL):Ju g a s=(a s).bind g:=rfl
@[simp] theorem Vm(f:XE)(s:ZL):eP f s=(f s).bind λl=>if ZH l=aD then aA l else aB:=rfl
@[simp] theorem Kb(s:ZL):QC [] s=aA []:=rfl
@[simp] theorem Zw(f:XE)(fs:List XE)(s:ZL):QC (f::fs) s=(f s).bind λx=>(QC fs s).map (x::·):=rfl
@[simp] theorem Yb(D:List PV->Option PV)(fs:List XE)(s:ZL):Zc D fs s=(QC fs s).bind D:=rfl
@[simp] theorem JH(fs:List XE)(s:ZL):Yp fs s=(QC fs s).map .tup:=rfl
@[simp] theorem CP(fs:List XE)(s:ZL):Xc fs s=(QC fs s).map .lst:=rfl
@[simp] theorem Fv(g:PV->Option Int->Option Int->Option PV)(a:XE)(lo hi:XO)(s:ZL):P6 g a lo hi s=(a s).bind λx=>(lo s).bind λl=>(hi s).bind λu=>g x l u:=rfl
@[simp] theorem Fw(s:ZL):Mi s=aA aB:=rfl
@[simp] theorem gI_ii(g:Int->Int->Int)(i j:Int):gI g (.int i) (.int j)=aA (.int (g i j)):=rfl
@[simp] theorem gB_ii(g:Int->Int->Bool)(i j:Int):gB g (.int i) (.int j)=aA (.bl (g i j)):=rfl
@[simp] theorem Zet(C:Int->Int->Prop)[∀i j,Decidable (C i j)](g:Int->Int->Int)(i j:Int):Ay C g (.int i) (.int j)=if C i j then aA (.int (g i j)) else aB:=rfl
@[simp] theorem gIx_ti(l:List PV)(i:Int):ZC (.tup l) (.int i)=Td l i:=rfl
@[simp] theorem gIx_li(l:List PV)(i:Int):ZC (.lst l) (.int i)=Td l i:=rfl
@[simp] theorem gIx_ci(l:List PV)(i:Int):ZC (.cst l) (.int i)=Td l i:=rfl
@[simp] theorem O4(f:XE)(s:ZL):xB f s=(f s).bind blO:=by
 unfold xB
 cases f s with
 | none=>rfl
 | some a=>cases a<;>rfl
@[simp] theorem CQ(b:Bool):blO (.bl b)=aA b:=rfl
@[simp] theorem O5(a b:XT)(s:ZL):V5 a b s=(a s).bind λc=>if c=aD then b s else aA aC:=rfl
@[simp] theorem Zaq(a b:XT)(s:ZL):Cr a b s=(a s).bind λc=>if c=aD then aA aD else b s:=rfl
@[simp] theorem CS(a:XT)(s:ZL):Js a s=(a s).map not:=rfl
@[simp] theorem JI(a b:XE)(s:ZL):Mo a b s=(xB a s).bind λc=>if c=aD then b s else aA (.bl aC):=rfl
@[simp] theorem eOr_def(a b:XE)(s:ZL):eOr a b s=(xB a s).bind λc=>if c=aD then aA (.bl aD) else b s:=rfl
@[simp] theorem eNot_def(a:XE)(s:ZL):Zai a s=(xB a s).map λc=>.bl !c:=rfl
@[simp] theorem UL(c:XT)(a b:XE)(s:ZL):PM c a b s=(c s).bind λk=>if k=aD then a s else b s:=rfl
@[simp] theorem CT(neg:Bool)(a:XE)(s:ZL):OL neg a s=(a s).bind (Jt neg):=rfl
@[simp] theorem sNext_def(s:ZL):Yk s=aA (.nx s):=rfl
@[simp] theorem Y4(f g:XS)(s:ZL):Zj f g s=(f s).bind λo=>match o with | .nx s'=>g s' | r=>aA r:=rfl
@[simp] theorem UM(c:XT)(f g:XS)(s:ZL):Sn c f g s=(c s).bind λk=>if k=aD then f s else g s:=rfl
@[simp] theorem CU(f:XE)(s:ZL):ZN f s=(f s).map .rt:=rfl
@[simp] theorem ZE(i:Nat)(f:XE)(s:ZL):Zk i f s=(f s).map λl=>.nx (s.set i (aA l)):=rfl
@[simp] theorem retO_rt(v:PV):Xl (.rt v)=aA v:=rfl
@[simp] theorem EU(i:Int):ZH (.int i)=aD:=rfl
@[simp] theorem pureV_bl(i:Bool):ZH (.bl i)=aD:=rfl
@[simp] theorem pureV_str(i:bH):ZH (.str i)=aD:=rfl
@[simp] theorem pureV_non:ZH .non=aD:=rfl
@[simp] theorem EV(l:List PV):ZH (.tup l)=ZD l:=by rw[ZH]
@[simp] theorem pureL_nil:ZD []=aD:=rfl
@[simp] theorem pureL_cons(a:PV)(l:List PV):ZD (a::l)=(ZH a&&ZD l):=rfl
theorem La{α:Type}{l:List α}{f:α->PV}(h:∀a∈l,ZH (f a)=aD):ZD (l.map f)=aD:=by rw[W9,jJ,bO];exact h
@[simp] theorem pureL_iL(l:List Int):ZD (l.map PV.int)=aD:=Y7 l
abbrev pP(l:List Int):PV:=.tup (iL l)
abbrev wP(W:List (List Int)):PV:=.tup (W.map pP)
@[simp] theorem JJ(W:List (List Int)):ZD (W.map pP)=aD:=La λa _=>by simp
theorem CV{l:List PV}{k:Nat}{a:PV}(h:l[k]?=aA a):Td l (k:Int)=aA a:=VH h
theorem Kc{l:List Int}{k:Nat}(h:k<l.length):(iL l)[k]?=aA (.int (Zl l k)):=by rw[aW,aE h];simp[Zl,aI,aE h]
theorem YT{l:List Int}{k:Nat}(h:k<l.length):Td (iL l) (k:Int)=aA (.int (Zl l k)):=VH (Kc h)
theorem RO{W:List (List Int)}{k:Nat}(h:k<W.length):Td (W.map pP) (k:Int)=aA (pP (Zz W k)):=by refine VH ?_;rw[aW,OF h];rfl
@[simp] theorem CW(l:List Int):PQ [.tup (l.map PV.int)]=aA (.int l.sum):=by simp[PQ,PN,WC l]
@[simp] theorem Zeu(l:List Int):PQ [.lst (l.map PV.int)]=aA (.int l.sum):=by simp[PQ,PN,WC l]
@[simp] theorem Zev(l:List Bool):EI [.lst (l.map PV.bl)]=aA (.bl (l.all id)):=by simp[EI,PN,Sv l]
@[simp] theorem O6(l:List PV):ZR [.tup l]=aA (.int l.length):=rfl
@[simp] theorem CY(l:List PV):ZR [.lst l]=aA (.int l.length):=rfl
@[simp] theorem gLen_c(l:List PV):ZR [.cst l]=aA (.int l.length):=rfl
@[simp] theorem CZ(l:List PV):YD [.lst l]=aA (.tup l):=rfl
@[simp] theorem gTuple_t(l:List PV):YD [.tup l]=aA (.tup l):=rfl
@[simp] theorem JK(l:List PV):UC [.tup l]=if ZD l=aD then aA (.lst l) else aB:=rfl
@[simp] theorem C0(l:List PV):UC [.lst l]=if ZD l=aD then aA (.lst l) else aB:=rfl
@[simp] theorem gMin2_ii(i j:Int):Tj [.int i,.int j]=aA (.int (if j<i then j else i)):=rfl
@[simp] theorem gMax2_ii(i j:Int):MZ [.int i,.int j]=aA (.int (if j>i then j else i)):=rfl
@[simp] theorem gInt1_b(c:Bool):Sw [.bl c]=aA (.int (if c then 1 else 0)):=rfl
@[simp] theorem gInt1_i(c:Int):Sw [.int c]=aA (.int c):=rfl
@[simp] theorem gInst_ii(i:Int):RL [.int i,.ty "int"]=aA (.bl aD):=rfl
@[simp] theorem gInst_ib(i:Int):RL [.int i,.ty "bool"]=aA (.bl aC):=rfl
@[simp] theorem gInst_tt(l:List PV):RL [.tup l,.ty "tuple"]=aA (.bl aD):=rfl
@[simp] theorem gInst_ll(l:List PV):RL [.lst l,.ty "list"]=aA (.bl aD):=rfl
theorem Kd(n:Nat)(i j:Int):Wd (n+1) (.int i) (.int j)=aD:=rfl
theorem Tt{α β:Type}{f:α->PV}{g:β->PV}{p:PV->PV->Bool}(h:∀a b,p (f a) (g b)=aD):∀(l:List α)(m:List β),((l.map f).zip (m.map g)).all (λz=>p z.1 z.2)=aD
 | [],_=>by simp
 | _::_,[]=>by simp
 | a::l,b::m=>by rw[a9,a9,dS,iY,Tt h l m,h a b];rfl
theorem Fx(n:Nat)(l m:List Int):Wd (n+2) (pP l) (pP m)=aD:=Tt (λa b=>Kd n a b) l m
theorem Zar(n:Nat)(l m:List Int):Wd (n+2) (.lst (iL l)) (.lst (iL m))=aD:=Tt (λa b=>Kd n a b) l m
theorem C1{l m:List Int}:iL l=iL m↔l=m:=by
 constructor
 ·intro h;exact(List.map_inj_right (λa b e=>PV.int.inj e)).mp h
 ·intro h;rw[h]
theorem pP_inj{l m:List Int}:pP l=pP m↔l=m:=by rw[PV.tup.injEq];exact C1
@[simp] theorem Ke(neg:Bool)(i j:Int):Xv neg (.int i) (.int j)=aA (.bl (if neg then !decide (i=j) else decide (i=j))):=by
 unfold Xv;rw[oA (Kd 7 i j)];congr 2;cases neg<;>simp
@[simp] theorem Hy(neg:Bool)(l m:List Int):Xv neg (.tup (l.map PV.int)) (.tup (m.map PV.int))=aA (.bl (if neg then !decide (l=m) else decide (l=m))):=by unfold Xv;rw[oA (Fx 6 l m)];have:decide ((PV.tup (l.map PV.int)) = .tup (m.map PV.int))=decide (l=m):=decide_eq_decide.mpr pP_inj;rw[this]
@[simp] theorem Zew(neg:Bool)(l m:List Int):Xv neg (.lst (l.map PV.int)) (.lst (m.map PV.int))=aA (.bl (if neg then !decide (l=m) else decide (l=m))):=by unfold Xv;rw[oA (Zar 6 l m)];have:decide ((PV.lst (l.map PV.int)) = .lst (m.map PV.int))=decide (l=m):=decide_eq_decide.mpr (by rw[PV.lst.injEq];exact C1);rw[this]
theorem Lb{α:Type}{T:Tgt}{ft:XT}{fe:XE}{s0:ZL}{q g:α->PV}:∀{ls:List α},(∀a∈ls,∃s1,Vj T (q a) s0=aA s1/\ft s1=aA aD/\fe s1=aA (g a))->Vk T ft fe s0 (ls.map q)=aA (ls.map g)
 | [],_=>rfl
 | a::r,h=>by obtain⟨s1,h1,h2,h3⟩:=h a af;have ih:=Lb (ls:=r) λb hb=>h b (aP _ hb);rw[a9,a9];unfold Vk;rw[h1];simp only[aO,h2,if_true,h3,ih,bc]
theorem RP{α:Type}{T:Tgt}{ft:XT}{fe:XE}{s0:ZL}{q g:α->PV}{c:α->Bool}:∀{ls:List α},(∀a∈ls,∃s1,Vj T (q a) s0=aA s1/\ft s1=aA (c a)/\(c a=aD->fe s1=aA (g a)))->Vk T ft fe s0 (ls.map q)=aA ((ls.filter c).map g)
 | [],_=>rfl
 | a::r,h=>by
  obtain⟨s1,h1,h2,h3⟩:=h a af;have ih:=RP (ls:=r) λb hb=>h b (aP _ hb);rw[a9];unfold Vk;rw[h1];simp only[aO,h2]
  cases hc:c a with
  | true=>simp[h3 hc,ih,hc]
  | false=>simp[ih,hc]
theorem ZK{α:Type}{n:Nat}{ix:List Nat}{fi:XL}{T:Tgt}{ft:XT}{fe:XE}{s:ZL}(ls:List α)(q g:α->PV)(hfi:fi s=aA (ls.map q))(hl:ls.length<=10000)
  (h:∀a∈ls,∃s1,Vj T (q a) (compEnv n ix s)=aA s1/\ft s1=aA aD/\fe s1=aA (g a)):Zr n ix fi T ft fe s=aA (.lst (ls.map g)):=by
 unfold Zr;rw[hfi];simp only[aO,aK,oA hl,Lb h,bc]
theorem W5{α:Type}{n:Nat}{ix:List Nat}{fi:XL}{T:Tgt}{ft:XT}{fe:XE}{s:ZL}(ls:List α)(q g:α->PV)(c:α->Bool)(hfi:fi s=aA (ls.map q))(hl:ls.length<=10000)
  (h:∀a∈ls,∃s1,Vj T (q a) (compEnv n ix s)=aA s1/\ft s1=aA (c a)/\(c a=aD->fe s1=aA (g a))):Zr n ix fi T ft fe s=aA (.lst ((ls.filter c).map g)):=by
 unfold Zr;rw[hfi];simp only[aO,aK,oA hl,RP h,bc]
theorem ZY{T:Tgt}{fb:XS}:∀{ls:List PV}{s:ZL}(Jv:Nat->ZL->Prop),Jv 0 s->(∀(i:Nat) l st,ls[i]?=aA l->Jv i st->∃s1 s2,Vj T l st=aA s1/\fb s1=aA (.nx s2)/\Jv (i+1) s2)->
  ∃s',Xe T fb ls s=aA (.nx s')/\Jv ls.length s'
 | [],s,Jv,h0,_=>⟨s,rfl,h0⟩
 | l::r,s,Jv,h0,h=>by obtain⟨s1,s2,a,b,c⟩:=h 0 l s rfl h0;obtain⟨s',d,e⟩:=ZY (ls:=r) (s:=s2) (λi=>Jv (i+1)) c λi l' st hl hi=>h (i+1) l' st (by simpa using hl) hi;refine⟨s',?_,e⟩;unfold Xe;rw[a];simp only[aO,b];exact d
theorem Vn{n i:Nat}{l:PV}(h:(WD n)[i]?=aA l):i<n/\l = .int (i:Int):=by have hi:=(aS.mp h).1;unfold WD at hi h;rw[aK,cR] at hi;rw[aW,dC hi] at h;exact⟨hi,(bG h).symm⟩
theorem Tu{lo:Int}{n i:Nat}{l:PV}(h:(WE lo n)[i]?=aA l):i<n/\l = .int (lo+(i:Int)):=by have hi:=(aS.mp h).1;unfold WE at hi h;rw[aK,cR] at hi;rw[aW,dC hi] at h;exact⟨hi,(bG h).symm⟩
@[simp] theorem Vo(n:Nat):(WD n).length=n:=by unfold WD;simp
@[simp] theorem Tv(lo:Int)(n:Nat):(WE lo n).length=n:=by unfold WE;simp
@[simp] theorem bindT_one(i:Nat)(l:PV)(s:ZL):Vj (.one i) l s=aA (s.set i (aA l)):=rfl
theorem EW(i j:Nat)(a b:PV)(s:ZL):Vj (.many [i,j]) (.tup [a,b]) s=aA ((s.set i (aA a)).set j (aA b)):=rfl
theorem VY(m:List PV):Vi m=(aF m.length).map λ(i:Nat)=>.tup [.int (i:Int),m.getD i .non]:=by
 apply fM;intro i;rw[aW];by_cases h:i<m.length
 ·have:(Vi m)[i]?=aA (.tup [.int (i:Int),m[i]]):=by unfold Vi;rw[aW,kn,aE h];simp
  rw[this,dC h];simp[aI,aE h]
 ·rw[cK (by rw[T7];omega),cK (by simpa using h)];rfl
theorem UN(m n:List PV)(h:n.length=m.length):SD m n=(aF m.length).map λ(i:Nat)=>.tup [m.getD i .non,n.getD i .non]:=by
 apply fM;intro i;rw[aW];by_cases hi:i<m.length
 ·have:(SD m n)[i]?=aA (.tup [m[i],n[i]]):=by unfold SD;rw[aW,jZ (z:=(m[i],n[i])) |>.mpr ⟨aE hi,aE (by omega)⟩];rfl
  rw[this,dC hi];simp[aI,aE hi,aE (show i<n.length by omega)]
 ·rw[cK (by rw[Jz];omega),cK (by simpa using hi)];rfl
theorem VZ(l:List Int)(i:Nat)(h:i<l.length):(iL l).getD i .non = .int (Zl l i):=by rw[aI,Kc h];rfl
theorem C2(W:List (List Int))(i:Nat)(h:i<W.length):(W.map pP).getD i .non=pP (Zz W i):=by rw[aI,aW,OF h];rfl
@[simp] theorem Zas(f:XE)(s:ZL):ZQ [f] s=(f s).bind λa=>(ER a).bind λj=>if -1000000<=j/\j<=1000000 then aA (WD j.toNat) else aB:=by
 unfold ZQ
 cases h:f s with
 | none=>simp[h]
 | some a=>cases a<;>simp[h,ER]
@[simp] theorem Zat(f g:XE)(s:ZL):Xa [f,g] s=(f s).bind λa=>(g s).bind λb=>(ER a).bind λi=>(ER b).bind λj=>if -1000000<=i/\i<=1000000/\-1000000<=j/\j<=1000000 then aA (WE i (j-i).toNat) else aB:=by
 unfold Xa
 cases h:f s with
 | none=>simp[h]
 | some a=>cases h2:g s with
  | none=>simp[h,h2]
  | some b=>cases a<;>cases b<;>simp[h,h2,ER]
@[simp] theorem RQ(i:Int):ER (.int i)=aA i:=rfl
@[simp] theorem Fy(i:List PV):asL (.lst i)=aA i:=rfl
@[simp] theorem EX(b:Bool)(f:XE)(s:ZL):Y3 b [f] s=(f s).bind λl=>(seqB b l).map Vi:=by
 unfold Y3;cases h:f s<;>simp[h]
@[simp] theorem xZip_def(b1 b2:Bool)(f g:XE)(s:ZL):Sm b1 b2 [f,g] s=(f s).bind λl=>(g s).bind λr=>(seqB b1 l).bind λm=>(seqB b2 r).map λn=>SD m n:=by
 unfold Sm;cases h:f s<;>cases h2:g s<;>simp[h,h2]
@[simp] theorem Zex(l:List PV):seqB aC (.tup l)=aA l:=rfl
@[simp] theorem seqB_t(l:List PV):seqB aD (.lst l)=aA l:=rfl
@[simp] theorem seqB_c(l:List PV):seqB aD (.cst l)=aA l:=rfl
@[simp] theorem xLst_def(f:XE)(s:ZL):X5 f s=(f s).bind asS:=rfl
@[simp] theorem asS_l(l:List PV):asS (.lst l)=aA l:=rfl
@[simp] theorem asS_c(l:List PV):asS (.cst l)=aA l:=rfl
theorem JL{f:XE}{s:ZL}{l:List PV}(h:f s=aA (.tup l)):PR f s=aA l:=by unfold PR;rw[h]
@[simp] theorem Y5(O:List Nat)(fi:XL)(T:Tgt)(fb:XS)(s:ZL):YR O fi T fb s=(fi (Z5 O s)).bind λls=>Xe T fb ls s:=rfl
@[simp] theorem xTrue_def(s:ZL):ZF s=aA aD:=rfl
theorem YE{f:XE}{s:ZL}{n:Nat}(h:f s=aA (.int (n:Int)))(hn:n<=10000):ZQ [f] s=aA (WD n):=by rw[Zas,h];simp only[aO,RQ];rw[oA ⟨by omega,by omega⟩,cF]
theorem Va{f g:XE}{s:ZL}{i j:Int}(h:f s=aA (.int i))(h':g s=aA (.int j))(hi : -10000<=i/\i<=10000)(hj : -10000<=j/\j<=10000):Xa [f,g] s=aA (WE i (j-i).toNat):=by rw[Zat,h,h'];simp only[aO,RQ];rw[oA ⟨by omega,by omega,by omega,by omega⟩]
theorem Hz{i j:Int}(h0 : -10000<=i)(h:i<=10000):CMul i j:=by
 refine .inl ?_;have e:(2^64:Int)=18446744073709551616:=by decide
 rw[e];omega
theorem T9{c:Bool}(h:c=aD):gd c=aA ():=by unfold gd;rw[oA h]
theorem O7{i:Nat}{f:XE}{s:ZL}{m n:List PV}(h:f s=aA (.lst n))(hm:DS s i=aA m)(hl:m.length+n.length<=10000):W4 i f s=aA (.nx (s.set i (aA (.lst (m++n))))):=by unfold W4;rw[h];simp only[aO,Fy,hm,T9 (decide_eq_true hl)]
theorem Wg{i:Nat}{f:XE}{s:ZL}{m:List PV}{l:PV}(h:f s=aA l)(hm:DS s i=aA m)(hl:m.length<=10000):ZZ i f s=aA (.nx (s.set i (aA (.lst (m++[l]))))):=by unfold ZZ;rw[h];simp only[aO,hm,T9 (decide_eq_true hl)]
theorem O8{i:Nat}{fk f:XE}{s:ZL}{m:List PV}{l:PV}{k:Int}(hk:fk s=aA (.int k))(h:f s=aA l)(hm:DS s i=aA m)(hp:ZD m=aD)(hq:ZH l=aD)(h0:0<=k)(h1:k<=1000000)(hl:m.length<=10000) :
  VU i fk f s=aA (.nx (s.set i (aA (.lst (m.take k.toNat++l::m.drop k.toNat))))):=by
 unfold VU;rw[hk,h];have c:(ZD m&&ZH l&&decide (0<=k/\k<=1000000/\m.length<=10000))=aD:=by rw[hp,hq,decide_eq_true ⟨h0,h1,hl⟩];rfl
 simp only[aO,RQ,hm,T9 c]
theorem EY{i:Nat}{fk f:XE}{s:ZL}{m:List PV}{l:PV}{k:Int}{j:Nat}(h:f s=aA l)(hk:fk s=aA (.int k))(hm:DS s i=aA m)(hp:ZD m=aD)(hq:ZH l=aD)(hj:ML m.length k=aA j) :
  QE i fk f s=aA (.nx (s.set i (aA (.lst (m.set j l))))):=by
 unfold QE;rw[hk,h];have c:(ZD m&&ZH l)=aD:=by rw[hp,hq];rfl
 simp only[aO,RQ,hm,T9 c,hj,bc]
theorem O9{i:Nat}{fa fb f:XE}{s:ZL}{m n:List PV}{l:PV}{a b:Int}{j c:Nat}(h:f s=aA l)(ha:fa s=aA (.int a))(hb:fb s=aA (.int b))(hm:DS s i=aA m)(hj:ML m.length a=aA j)(hn:m[j]?=aA (.lst n))(hp:ZD n=aD)(hq:ZH l=aD)(hc:ML n.length b=aA c) :
  VV i fa fb f s=aA (.nx (s.set i (aA (.lst (m.set j (.lst (n.set c l))))))):=by
 unfold VV;rw[h,ha,hb];have cc:(ZD n&&ZH l)=aD:=by rw[hp,hq];rfl
 simp only[aO,RQ,Fy,hm,hj,hn,T9 cc,hc,bc]
theorem RS{n k:Nat}(h:k<n):ML n (k:Int)=aA k:=by unfold ML;rw[oA (by omega),oA (by omega)];rfl
theorem Tw{i j:Int}(h0:0<j)(h:j<=10000):Rx i j:=⟨h0,by omega⟩
end VL
namespace VL
open PySem PySem.Spec PyProof.Rows L2
variable {K:aJ}
def Zct(K:aJ):R2:=λx y H Q=>∃a b xs ys,x = .ref a/\y = .ref b/\SqT K H a xs/\SqT K H b ys/\xs.length+ys.length<=sizeLine/\
 (xs=[]->Q (.ref b) H)/\(ys=[]->Q (.ref a) H)/\∀p,H p=aB->Q (.ref p) (upd H p (.tup (xs++ys)))
theorem UO{X:Cx}:Sr X (fK .Add) (Zct X.K):=by
 intro nu s σ H x y v u Q I rx ry h;obtain⟨a,b,xs,ys,rfl,rfl,ha,hb,hz,q0,q1,q2⟩:=h;by_cases hx:xs=[]
 ·cases rx;cases ry;obtain⟨o9,r1,p1,_⟩:=I.tuple ha;obtain⟨its2,r2,p2,_⟩:=I.tuple hb;obtain⟨⟨cls,dd,data,sl⟩,ho,hc,n,hd⟩:=id p1;obtain⟨⟨cls2,dd2,data2,sl2⟩,ho2,hc2,n2,hd2⟩:=id p2;simp only at hc hd hc2 hd2;subst hc hd hc2 hd2
  exact mD ⟨_,ho,rfl⟩ ⟨_,ho2,rfl⟩ kA l3 iI iD (gj _ _)
   (tuple_addW0 a b o9.toArray its2.toArray n n2 dd dd2 sl sl2 (by simp[r1.nil_iff.mpr hx])) ⟨ho,ho2,.ref b,H,I,rfl,q0 hx⟩
 ·exact AW _ _ _ _ _ _ _ _ _ I rx ry ⟨a,b,xs,ys,rfl,rfl,ha,hb,hx,hz,q1,λ_=>q2⟩
noncomputable def Xs:PV->PV->Option PV
 | .tup m,.tup n=>if m.length+n.length<=10000 then aA (.tup (m++n)) else aB
 | _,_=>aB
theorem UP:RB K (Zct K) Xs:=λH x y a b l fa fb ha hb e Q k=>by
 cases a with
 | tup m=>cases b with
  | tup n=>
   have e:(if m.length+n.length<=10000 then aA (PV.tup (m++n)) else aB)=aA l:=e;split at e
   case isFalse=>cases e
   rename_i hl;cases e;obtain⟨p,xs,rfl,hp,hi⟩:=ha.tup_inv;obtain⟨p',ys,rfl,hp',hi'⟩:=hb.tup_inv;refine⟨p,p',xs,ys,rfl,rfl,SqT.of hp,SqT.of hp',by rw[hi.len,hi'.len];exact cZ (lt_size hl),λz=>?_,λz=>?_,λq hq=>?_⟩
   ·have:m=[]:=b8.mp (by rw[<-hi.len,z];rfl);subst this;exact k _ _ fb (Same.refl _) hb λr hr=>.inr (.inl hr)
   ·have:n=[]:=b8.mp (by rw[<-hi'.len,z];rfl);subst this;rw[di] at k;exact k _ _ fa (Same.refl _) ha λr hr=>.inl hr
   ·exact k _ _ (fa++fb) (Same.new hq _) (Is.tup upd_same ((hi.append hi').mono (Same.new hq _))) λr hr=>(aq.mp hr).elim .inl λz=>.inr (.inl z)
  | _=>cases e
 | _=>cases e
end VL
namespace VL
open PySem
open PySem.Sem (wp)
open PySem.Builtin
theorem QF:fillsNumberSlot (.type "tuple") "mul" = pure aC:=
 fillsNumberSlot_seq (id:="tuple.__mul__") (r:=aA (.builtin "tuple.__rmul__")) F.slot_tuple_mul.lookup (by decide +kernel) F.slot_tuple_rmul.lookup (by decide +kernel)
theorem Kf:seqRepeat? (.type "tuple")=pure (aA (.builtin "tuple.__mul__")):=by unfold seqRepeat?;rw[seqSlot_of (T:="tuple") (name:="__mul__") (id:="tuple.__mul__") F.slot_tuple_mul.lookup (by decide +kernel),seqSlot_of (T:="tuple") (name:="__rmul__") (id:="tuple.__rmul__") F.slot_tuple_rmul.lookup (by decide +kernel)];rfl
theorem Na(a:Int)(t:nt)(l:aN)(items:Array aL)(n:Nat)(dd:Option aN)(sl:Array (Option aL)) :
  Meets (iX.«int.__rmul__» ⟨[.int a t,.ref l],[]⟩) (λ_ R s=>s.heap.get? l=aA { cls:=.type "tuple",dict:=dd,data:=.seq items n,slots:=sl }/\R (.ok (.ret aL.notImplemented)) s):=
 .of_wp λprog w A R s h=>by obtain⟨hp,g,d,tk,os⟩:=s;obtain⟨hl,h⟩:=h;wp_walk;exact⟨_,rfl,h⟩
theorem Nc(l:aN)(items:Array aL)(n:Nat)(dd:Option aN)(sl:Array (Option aL))(x:Int)(u:nt)(h1:1<x)(h2:x<2^63)(he:items.isEmpty=aC)(hz:items.size*x.toNat<=sizeLine)
  (ys:Array aL) (hf:jR (λx1 x2=>x1++x2) #[] (aG x.toNat items)=ys) (hy:ys.size<=sizeLine) :
  Meets (iX.«tuple.__mul__» ⟨[.ref l,.int x u],[]⟩) (λ_ R s=>s.heap.get? l=aA { cls:=.type "tuple",dict:=dd,data:=.seq items n,slots:=sl }/\R (.ok (.ret (bP s.heap.objs.size))) { s with heap:=s.heap.push { cls:=kH "tuple",data:=Data.seq ys },toks:=s.toks }):=
 .of_wp λprog w A R s h=>by
  obtain⟨hp,g,d,tk,os⟩:=s;obtain⟨hl,h⟩:=h;have hlen:items.size*x.toNat<=2^40:=by rw[dh] at hz;omega
  have hx:(items.size:Int)*x=((items.size*x.toNat:Nat):Int):=by rw[Int.natCast_mul,Int.toNat_of_nonneg (by omega)]
  wp_walk
  refine gx (by simp;omega) ?_
  wp_walk
  refine gx (by simp[he];omega) ?_
  wp_walk
  refine gx (by simp[he];omega) ?_
  wp_walk
  refine gx (decide_eq_false (by rw[hx];omega)) ?_
  wp_walk
  refine gx (decide_eq_false (by rw[hx];unfold Tuple.tupleTooMany;simp only[decide_eq_true_eq];omega)) ?_
  wp_walk
  rw[hf];exact⟨_,rfl,h⟩
theorem Mq(l:aN)(items:Array aL)(n:Nat)(dd:Option aN)(sl:Array (Option aL))(u:nt) :
  Meets (iX.«tuple.__mul__» ⟨[.ref l,.int 1 u],[]⟩) (λ_ R s=>s.heap.get? l=aA { cls:=.type "tuple",dict:=dd,data:=.seq items n,slots:=sl }/\R (.ok (.ret (bP l))) s):=
 .of_wp λprog w A R s h=>by
  obtain⟨hp,g,d,tk,os⟩:=s;obtain⟨hl,h⟩:=h
  wp_walk
  exact⟨_,rfl,h⟩
end VL
namespace VL
open PySem PySem.Spec PyProof.Rows L2
def Zcu(K:aJ):R2:=λx y H Q=>∃a k xs,x = .ref a/\y = .int k/\SqT K H a xs/\xs≠[]/\1<=k/\k<2^62/\xs.length*k.toNat<=sizeLine/\
 (k=1->Q (.ref a) H)/\∀p,H p=aB->Q (.ref p) (upd H p (.tup (aG k.toNat xs).flatten))
theorem Fz{X:Cx}:Sr X (fK .Mult) (Zcu X.K):=by
 intro nu s σ H x y v u Q I rx ry h;obtain⟨a,k,xs,rfl,rfl,ha,hx,h1,h2,hz,q1,q2⟩:=h;cases rx;obtain⟨t,rfl⟩:=ry;obtain⟨o9,r1,p1,_⟩:=I.tuple ha;obtain⟨⟨cls,dd,data,sl⟩,ho,hc,n,hd⟩:=id p1;simp only at hc hd;subst hc hd;have hl:xs.length=o9.length:=r1.length
 refine jX (T:="tuple") (U:="int") (by decide) ⟨_,ho,rfl⟩ (λs'=>kS s' k t) QF F.fills_int_mul F.slot_int_rmul Kf F.slot_int_index.lookup
  (hV F.slot_int_rmul (kS s k t) F.entry_int_rmul (F.args_int_rmul_2 _ _) (Na k t a o9.toArray n dd sl) ⟨ho,rfl,⟨_,ho,rfl⟩,?_⟩)
 by_cases hk:k=1
 ·subst hk;exact hV F.slot_tuple_mul ⟨_,ho,rfl⟩ F.entry_tuple_mul (F.args_tuple_mul_2 _ _) (Mq a o9.toArray n dd sl t) ⟨ho,.ref a,H,I,rfl,q1 rfl⟩
 ·have hne:o9.toArray.isEmpty=aC:=by
   cases o9 with
   | nil=>exact absurd (r1.nil_iff.mp rfl) hx
   | cons _ _=>rfl
  have hf:jR (λx1 x2=>x1++x2) #[] (aG k.toNat o9.toArray)=(aG k.toNat o9).flatten.toArray:=by have:=Qs o9 k.toNat [];rw[k3] at this;exact this
  have hw:(aG k.toNat o9).flatten.length<=sizeLine:=by rw[LH,mF,<-hl];exact hz
  refine hV F.slot_tuple_mul ⟨_,ho,rfl⟩ F.entry_tuple_mul (F.args_tuple_mul_2 _ _) (Nc a o9.toArray n dd sl k t (by omega) (by omega) hne (by rw[aU,<-hl];exact hz) _ hf (by rw[aU];exact hw)) ⟨ho,?_⟩;refine⟨.ref s.heap.objs.size,_,I.laid (t':=s.toks) (o:=.tup (aG k.toNat xs).flatten) (λb ob q=>aM _ q) (aT _) ?_,rfl,q2 _ (I.hok.fresh (aT _))⟩;exact⟨⟨by rw[LH,mF];exact hz,λo e=>Ou e⟩,_,r1.rep k.toNat,mT _ _⟩
noncomputable def Lc:PV->PV->Option PV
 | .tup m,.int k=>if ZD m=aD/\m≠[]/\1<=k/\k<=1000000/\m.length*k.toNat<=10000 then aA (.tup (aG k.toNat m).flatten) else aB
 | _,_=>aB
theorem FA{K:aJ}:RB K (Zcu K) Lc:=λH x y a b l fa fb ha hb e Q k=>by
 cases a with
 | tup m=>cases b with
  | int n=>
   unfold Lc at e;simp only at e;split at e
   case isFalse=>cases e
   rename_i hl;cases e;obtain⟨p,xs,rfl,hp,hi⟩:=ha.tup_inv;refine⟨p,n,xs,rfl,hb.int_inv.1,SqT.of hp,λz=>hl.2.1 (b8.mp (by rw[<-hi.len,z];rfl)),hl.2.2.1,by omega,by rw[hi.len];exact cZ (lt_size hl.2.2.2.2),λz=>?_,λq hq=>?_⟩
   ·subst z;have e1:(aG (lT 1) m).flatten=m:=by simp
    rw[e1] at k;exact k _ _ fa (Same.refl _) ha λr hr=>.inl hr
   ·exact k _ _ [] (Same.new hq _) (Is.tup upd_same ((Iss.rep (hi.pureEq hl.1) n.toNat).mono (Same.new hq _))) λr hr=>by simp at hr
  | _=>cases e
 | _=>cases e
end VL
namespace PW
open PySem L2 VL
def Ld:XS:=(ZN (eP (Zc PQ [Zg ZC (Za 0) (Za 1)])))
def Uj:List PV->Option PV:=Ya 2 Ld
def QG:XS:=(Zj (Zk 1 (Xc []))
  (Zj (YR [1] (Y3 aC [Za 0]) (.many [2,3]) (YR [1] (Xa [Zg Yi (Za 2) (eC (.int 1)),Zc ZR [Za 0]]) (.one 4) (W4 1 (Zr 1 [2,4] (ZQ [Zg ZC (Za 3) (Za 4)]) (.one 0) ZF (eP (Yp [Za 1,Za 2,Za 0]))))))
  (ZN (Za 1))))
def Vb:List PV->Option PV:=Ya 5 QG
def C3:XS:=(ZN (eP (Zc PQ [Zr 2 [1,2] (Y3 aC [Zg ZC (Za 0) (Za 2)]) (.many [0,1]) ZF (Zg Jp (Za 1) (Zg X3 (Zg ZC (Za 2) (Za 0)) (Zg ZC (Za 2) (Za 3))))])))
def Nd:List PV->Option PV:=Ya 3 C3
def Zcv:XS:=(ZN (eP (Zc YD [Zr 2 [0,2] (Y3 aC [Za 1]) (.many [0,1]) ZF (Zg Yi (Za 1) (Zc Nd [Za 2,Za 3,Za 0]))])))
def Sx:List PV->Option PV:=Ya 3 Zcv
def C4:XS:=(ZN (eP (Zc YD [Zr 2 [] (Sm aC aC [Za 0,Za 1]) (.many [0,1]) ZF (Zg Yi (Za 0) (Za 1))])))
def V6:List PV->Option PV:=Ya 2 C4
def FC:XS:=(ZN (eP (Zc YD [Zr 2 [] (Sm aC aC [Za 0,Za 1]) (.many [0,1]) ZF (Zg X3 (Za 0) (Za 1))])))
def UQ:List PV->Option PV:=Ya 2 FC
def JM:XS:=(ZN (eP (Zg ZC (Zg CK (P6 Zen (Za 0) (QD (Za 1)) (QD (Zg Yi (Za 1) (eC (.int 1))))) (Xc [eC (.int 0)])) (eC (.int 0)))))
def YH:List PV->Option PV:=Ya 2 JM
def Lf:XS:=(ZN (eP (Mo (Zc RL [Za 0,eC (.ty "int")]) (Zai (Zc RL [Za 0,eC (.ty "bool")])))))
def Uk:List PV->Option PV:=Ya 1 Lf
def Tx:XS:=(Zj (Zk 3 (Xc []))
  (Zj (YR [3,5] (ZQ [Za 2]) (.one 4) (Zj (VU 3 (Zg Wa (Za 1) (Zg Yi (Za 4) (eC (.int 1)))) (Za 4))
  (Zk 1 (eP (Zg WA (Za 1) (Zg Yi (Za 4) (eC (.int 1))))))))
  (Zj (Zk 5 (eC (.dT [] [])))
  (Zj (O1 0 (.many [6,7]) (Zj (Zk 8 (eP (Yp [Zc Tj [Zg ZC (Za 3) (Za 6),Zg ZC (Za 3) (Za 7)],Zc MZ [Zg ZC (Za 3) (Za 6),Zg ZC (Za 3) (Za 7)]])))
  (sDPut 5 (Za 8) (Zg Vl (Za 0) (Yp [Za 6,Za 7])))))
  (ZN (Za 5))))))
def Tz:List PV->Option PV:=Ya 9 Tx
def Vp:XS:=(Zj (Zk 4 (eC (.dT [] [])))
  (Zj (Zk 5 (Xc [eP (eC (.int 0))]))
  (Zj (YR [4,5] (ZQ [Za 1]) (.one 6) (YR [4,5] (Xa [Zg Yi (Za 6) (eC (.int 1)),Za 1]) (.one 7) (Zj (Zk 8 (eP (Zc Tj [Zg Jp (Zg Wa (Za 0) (eC (.int 2))) (Zg Yi (eC (.int 1)) (Zg Wa (Zg WA (Za 0) (eC (.int 2))) (Za 3))),Za 2])))
  (Zj (Zk 0 (eP (Zg ZC (Xc [Zg WA (Za 0) (eC (.int 2)),Zg WA (Zg WA (Za 0) (eC (.int 2))) (Za 3)]) (Zg Wa (Za 0) (eC (.int 2))))))
  (Sn (xB (Zg MV (Za 8) (eC (.int 0)))) (Zj (sDPut 4 (Yp [Za 6,Za 7]) (Za 8))
  (Zk 2 (eP (Zg X3 (Za 2) (Za 8))))) Yk)))))
  (Zj (YR [4,5] (ZQ [Za 1]) (.one 9) (SG [4,5] 4 (.many [6,7]) (Zj (Sn (V5 (xB (Zg (X4 aC) (Za 6) (Za 5))) (xB (Zg (X4 aD) (Za 7) (Za 5)))) (ZZ 5 (eP (Za 7))) Yk)
  (Sn (V5 (xB (Zg (X4 aC) (Za 7) (Za 5))) (xB (Zg (X4 aD) (Za 6) (Za 5)))) (ZZ 5 (eP (Za 6))) Yk))))
  (Ka 4 (Zc Sw [Zg (Xv aC) (Zc ZR [Za 5]) (Za 1)]))))))
def Yq:List PV->Option PV:=Ya 10 Vp
def SH:XS:=(Zj (Zk 2 (Zr 1 [1] (ZQ [Za 1]) (.one 0) ZF (Zg L8 (Xc [eC (.int 0)]) (Za 1))))
  (Zj (O1 0 (.many [3,4]) (Zj (VV 2 (Za 3) (Za 4) (Zg Vl (Za 0) (Yp [Za 3,Za 4])))
  (VV 2 (Za 4) (Za 3) (Zg Vl (Za 0) (Yp [Za 3,Za 4])))))
  (ZN (eP (Zc YD [Zr 1 [] (X5 (Za 2)) (.one 0) ZF (Zc YD [Za 0])])))))
def SI:List PV->Option PV:=Ya 5 SH
def Lg:XS:=(ZN (eP (Mo (Zc RL [Za 0,eC (.ty "tuple")]) (Mo (Zg (Xv aC) (Zc ZR [Za 0]) (Za 1)) (Zc EI [Zr 1 [] (PR (Za 0)) (.one 0) ZF (Zc Uk [Za 0])])))))
def Wh:List PV->Option PV:=Ya 2 Lg
end PW
namespace VL
open PySem PySem.Spec PyProof.Rows L2
def Wi:List Int->Int
 | []=>0
 | [x]=>x
 | x::y::r=>if Wi (y::r)<x then Wi (y::r) else x
def Mr:List Int->Int
 | []=>0
 | [x]=>x
 | x::y::r=>if Mr (y::r)>x then Mr (y::r) else x
theorem QH:∀{l:List Int},l≠[]->Wi l∈l/\∀x∈l,Wi l<=x
 | [],h=>absurd rfl h
 | [x],_=>by simp[Wi]
 | x::y::r,_=>by
  obtain⟨a,b⟩:=QH (l:=y::r) (by simp);unfold Wi;split
  ·rename_i h;refine⟨aP _ a,λz hz=>?_⟩;rcases aa.mp hz with rfl | hz
   ·omega
   ·exact b z hz
  ·rename_i h;refine⟨by simp,λz hz=>?_⟩;rcases aa.mp hz with rfl | hz
   ·omega
   ·have:=b z hz;omega
theorem Lh:∀{l:List Int},l≠[]->Mr l∈l/\∀x∈l,x<=Mr l
 | [],h=>absurd rfl h
 | [x],_=>by simp[Mr]
 | x::y::r,_=>by
  obtain⟨a,b⟩:=Lh (l:=y::r) (by simp);unfold Mr;split
  ·rename_i h;refine⟨aP _ a,λz hz=>?_⟩;rcases aa.mp hz with rfl | hz
   ·omega
   ·exact b z hz
  ·rename_i h;refine⟨by simp,λz hz=>?_⟩;rcases aa.mp hz with rfl | hz
   ·omega
   ·have:=b z hz;omega
theorem FD{l:List Int}{m:Int}(h:m∈l)(g:∀x∈l,m<=x):Wi l=m:=by obtain⟨a,b⟩:=QH (l:=l) (by intro z;subst z;simp at h);have:=b m h;have:=g _ a;omega
theorem Nf(val:Nat->Int):∀k,argBest (λi j=>decide (val i<val j)) k<=k/\∀j,j<=k->val (argBest (λi j=>decide (val i<val j)) k)<=val j
 | 0=>⟨aT _,λj hj=>by rw[Nat.le_zero.mp hj];exact bq _⟩
 | k+1=>by
  obtain⟨a,b⟩:=Nf val k;unfold argBest;split
  ·rename_i h;have h:=of_decide_eq_true h;refine⟨aT _,λj hj=>?_⟩;by_cases e:j=k+1
   ·subst e;exact bq _
   ·have:=b j (by omega);omega
  ·rename_i h;have h:¬_:=λz=>h (decide_eq_true z);refine⟨by omega,λj hj=>?_⟩;by_cases e:j=k+1
   ·subst e;omega
   ·exact b j (by omega)
def C5(f:List Int->Int)(K:aJ):List V->Hp->VK->Prop:=λxs H Q=>∃(b:Bool) (p:aN) (ns:List Int),xs=[.ref p]/\ns≠[]/\Mg b K H p (ns.map V.int)/\Q (.int (f ns)) H
section
variable {X:Cx}
theorem EZ(hc:X.calm=aD):XU X (.builtin "min") (C5 Wi X.K):=by
 intro nu s σ H xs us Q I r h;obtain⟨b,p,ns,rfl,hne,hq,q⟩:=h;obtain⟨u,rfl,rx⟩:=Ry r;cases rx;obtain⟨o9,rv,hseq,hz⟩:=I.seqB hq;have hp:p<s.heap.objs.size:=let⟨_,e⟩:=hseq.has;aZ e;have hl:=rv.length;rw[aK] at hl;have hpos:0<ns.length:=eK.mpr hne
 have hval:∀(i:Nat)(v:aL),o9.toArray[i]?=aA v->∃t,v=gU (ns.getD i 0) t:=λ(i:Nat) (v:aL) hv=>by
  have hv:o9[i]?=aA v:=by simpa using hv
  have hi:i<ns.length:=by rw[hl];exact(aS.mp hv).1
  obtain⟨u,hu,ru⟩:=rv.get (i:=i) (x:=.int ns[i]) (by rw[aW,aE hi];rfl);rw[hv] at hu;cases hu;obtain⟨t,rfl⟩:=ru;refine⟨t,?_⟩;show gU ns[i] t=gU (ns.getD i 0) t;rw[aI,aE hi];rfl
 refine call_min_walk (YW hseq ?_);refine⟨_,_,_,_,_,_,λi j=>decide (ns.getD i 0<ns.getD j 0),rfl,Walks.seqB (A:=X.A.in1) b (I.ok.hd hc) s.heap.objs.size p (bU hp) o9.toArray,⟨IterB.new (aj _ rfl),hseq.at λo e=>aM _ e⟩,λc hcm=>?_,by rw[aU,<-hl];exact hpos,CmpOf.ints_lt (λi=>ns.getD i 0) hval,λv h' tk hv hk=>?_⟩
 ·show c<(s.heap.push _).objs.size;rw[dJ];rcases aa.mp hcm with rfl | hcm
  ·exact iT _
  ·rw[aR.mp hcm];exact iJ hp
 ·obtain⟨t,rfl⟩:=hval _ _ hv;obtain⟨g1,g2⟩:=Nf (λi=>ns.getD i 0) (o9.toArray.size-1);rw[aU,<-hl] at g1 g2
  have e:Wi ns=ns.getD (argBest (λi j=>decide (ns.getD i 0<ns.getD j 0)) (o9.toArray.size-1)) 0:=by
   rw[aU,<-hl];refine FD ?_ λx hx=>?_
   ·rw[aI,aE (by omega)];exact cD _
   ·obtain⟨j,hj,ej⟩:=cX hx;have:=g2 j (by omega);rw[aI (i:=j),aE hj,ej] at this;exact this
  refine⟨.int (Wi ns),H,I.kept (λc o hco=>hk c o ?_ (aM _ hco)),⟨t,by rw[e]⟩,q⟩;intro hm;rw[aR.mp hm] at hco;exact absurd (aZ hco) (dI _)
end
def FE(f:List Int->Int):List PV->Option PV
 | [l]=>(PN l).bind λm=>(Vh m).bind λns=>if ns=[] then aB else aA (.int (f ns))
 | _=>aB
abbrev Zcw:List PV->Option PV:=FE Wi
theorem Zau{K:aJ}(f:List Int->Int):RC K (C5 f K) (FE f):=λH vs ls l fp h e Q k=>by
 unfold FE at e;split at e
 ·obtain⟨m,e1,e2⟩:=Zd e;obtain⟨ns,e3,e4⟩:=Zd e2;split at e4
  ·cases e4
  ·rename_i hne;cases e4;obtain⟨v,rfl,i⟩:=h.one_inv;obtain⟨p,xs,fq,rfl,hp,hi,hs⟩:=UB (K:=K) i e1;have em:=VP e3;subst em;obtain⟨rfl,rfl⟩:=hi.iL;obtain⟨b,hb⟩:=Hm hp;exact⟨b,p,ns,rfl,hne,hb,k _ H [] (Same.refl H) (Is.int _) λp hp=>by simp at hp⟩
 ·cases e
theorem Zav{K:aJ}:RC K (C5 Wi K) Zcw:=Zau Wi
theorem Zaw(f:List Int->Int){l:List Int}(h:l≠[]):FE f [pP l]=aA (.int (f l)):=by show(Vh (iL l)).bind _=_;rw[WC];simp only[aO];rw[oB h]
def Pr(l:List Int):List Int:=l.mergeSort λa b=>decide (a<=b)
theorem SJ(l:List Int):(Pr l).Perm l:=lW l _
theorem RT(l:List Int):(Pr l).Pairwise (·<=·):=by have:=kC (le:=λa b:Int=>decide (a<=b)) (λa b c h1 h2=>by simp only[decide_eq_true_eq] at *;omega) (λa b=>by simp only[gy,decide_eq_true_eq];omega) l;exact this.imp λh=>of_decide_eq_true h
theorem C6{l m:List Int}(hp:m.Perm l)(hs:m.Pairwise (·<=·)):m=Pr l:=
 jo (le:=(·<=·)) (λa b _ _ h1 h2=>Int.le_antisymm h1 h2) hs (RT l) (hp.trans (SJ l).symm)
def Kg:XS:=λ_=>aB
theorem Ng{X:Cx}{O W:List Nat}{st:bx}:VS X O W st Kg:=by intro nu s σ H D I h;unfold Az at h;simp only[Kg] at h;obtain⟨_,_,_,_,_,q,_⟩:=h;cases q
theorem Nh:∀(us:List aL)(k:Nat),(∀(i:Nat)(v:aL),us[i]?=aA v->∃t,v=gU ((k+i:Nat):Int) t)->Vals ((aF us.length).map λi=>V.int ((k+i:Nat):Int)) us
 | [],k,_=>.nil
 | u::us,k,h=>by
  obtain⟨t,rfl⟩:=h 0 u rfl;rw[bB,kW,a9,bV];refine .cons ⟨t,rfl⟩ ?_;have:=Nh us (k+1) λi v hv=>by obtain⟨t,e⟩:=h (i+1) v (by simpa using hv);exact⟨t,by rw[e];congr 2;omega⟩
  refine Eq.mp (congrArg (λl=>Vals l us) (ao λi _=>?_)) this;show V.int _=V.int _;congr 2;omega
def tLR(ta:TA):TE:=λσ H Q=>ta σ H λvs H1=>∃j:Nat,vs=[.int (j:Int)]/\j<=10000/\∀l,H1 l=aB->Q (.ref l) (upd H1 l (.lst ((aF j).map λ(i:Nat)=>V.int (i:Int))))
section
variable {X:Cx} {a:bS} {ta:TA} {p p2 pos pos2:fZ}
theorem Kh(hc:X.calm=aD)(hgl:Gl X "list")(hml:X.mg "list" = aB)(hgr:Gl X "range")(hmr:X.mg "range" = aB)(ha:PA X [a] ta)(hs:aV [a] X.env=[(aC,eval a X.env)]:=by rfl)
  (he:aV [.Call (.Name "range" p2) [a] [] pos2] X.env=(aC,eval (.Call (.Name "range" p2) [a] [] pos2) X.env)::aV [] X.env:=by rfl) (hpl:(eI pos (aV [] X.env)).any (·.1)=aC:=by rfl) :
  PE X (.Call (.Name "list" p) [.Call (.Name "range" p2) [a] [] pos2] [] pos) (tLR ta):=by
 intro nu s σ H Q I h;refine e7 (Uv I hgl hml (u:=.type "list") (by decide +kernel) ?_);refine cI (T:="list") ?_ he hpl;rw[he];show bA _ _ (spliced ((aC,eval (.Call (.Name "range" p2) [a] [] pos2) X.env)::[])) _ _ s;refine l9 ?_;refine Call_ (Uv I hgr hmr nA (cI (YN (ha pos2 nu s σ H _ I h) λus s1 ⟨vs,H1,I1,r1,q1⟩=>?_) hs rfl));obtain⟨j,e,hj,q⟩:=q1;subst e
 cases r1 with
 | cons r rr=>
  cases rr;obtain⟨t,rfl⟩:=r;refine call_range_1 (mB ?_);have sz:sizeLine=2^24:=rfl;refine call_list_range (n:=j) (I.ok.hd hc) (n9 ..) (small_one (by omega) (by omega) (by omega) (by omega)) (by rw[rangeSize_one];split<;>omega) (by omega) λh' tk acc' c' hk hS hacc=>?_;have I2:=I1.kept (t':=s1.toks+1+1) (h':=s1.heap.push { cls:=.type "range",data:=.fields #[.int 0 s1.toks,.int (j:Int) t,.int 1 (s1.toks+1)] }) λb o e=>aM _ e;refine⟨.ref _,_,I2.laid (t':=tk) hk (aT _) (show ObjOk X.prog X.w _ _ _ (.lst ((aF j).map λ(i:Nat)=>V.int (i:Int))) from⟨by simp;omega,acc'.toList,c',?_,?_⟩),rfl,q _ (I2.hok.fresh (aT _))⟩
  ·have:=Nh acc'.toList 0 λi v hv=>by obtain⟨t',e⟩:=hacc.2 i v (by simpa using hv);exact⟨t',by rw[e];congr 1;omega⟩
   rw[cA,hacc.1] at this;refine Eq.mp (congrArg (λl=>Vals l acc'.toList) (ao λi _=>?_)) this;show V.int _=V.int _;congr 2;omega
  ·rw[Array.toArray_toList];exact hS
end
noncomputable def QI:PV->Option PV
 | .int k=>if 0<=k/\k<=10000 then aA (.lst (iL ((aF k.toNat).map λ(i:Nat)=>(i:Int)))) else aB
 | _=>aB
theorem Ki{X:Cx}{a:bS}{fa:XE}{p p2 pos pos2:fZ}(hc:X.calm=aD)(hgl:Gl X "list")(hml:X.mg "list" = aB)(hgr:Gl X "range")(hmr:X.mg "range" = aB)(ha:VE X a fa)(hs:aV [a] X.env=[(aC,eval a X.env)]:=by rfl)
  (he:aV [.Call (.Name "range" p2) [a] [] pos2] X.env=(aC,eval (.Call (.Name "range" p2) [a] [] pos2) X.env)::aV [] X.env:=by rfl) (hpl:(eI pos (aV [] X.env)).any (·.1)=aC:=by rfl) :
  VM X (.Call (.Name "list" p) [.Call (.Name "range" p2) [a] [] pos2] [] pos) (Ju QI fa):=
 PE.imp (Kh hc hgl hml hgr hmr (VN ha LW hs) hs he hpl) λσ H Q ⟨s,l,env,e,k⟩=>by
  obtain⟨x,e1,e2⟩:=Zd e;refine⟨λ_=>False,s,[x],λ_ z=>z.elim,env,by show(fa s).bind _=_;rw[e1];rfl,λvs H1 fp s1 i1 _=>?_⟩;obtain⟨w,rfl,iw⟩:=i1.one_inv
  cases x with
  | int kk=>
   unfold QI at e2;simp only at e2;split at e2
   case isFalse=>cases e2
   rename_i hk;cases e2;refine⟨kk.toNat,by rw[iw.int_inv.1];congr 2;omega,by omega,λq hq=>?_⟩;have hm:(aF kk.toNat).map (λ(i:Nat)=>V.int (i:Int))=((aF kk.toNat).map λ(i:Nat)=>(i:Int)).map V.int:=by rw[bV];rfl
   rw[hm];refine k _ _ [q] (s1.trans (Same.new hq _)) (Is.lst upd_same (Iss.ofInts _)) (by simp) λr hr=>?_;rw[aR.mp hr];exact⟨Same.off s1 hq,by rw[upd_same];exact bj⟩
  | _=>cases e2
variable {K:aJ}
def CMulW(i j:Int):Prop:=i.natAbs.log2<67108863/\j.natAbs.log2<67108863
def Ni(i j:Int):Prop:=j≠0/\j.natAbs.log2<9000
instance (i j:Int):Decidable (CMulW i j):=by unfold CMulW;infer_instance
instance (i j:Int):Decidable (Ni i j):=by unfold Ni;infer_instance
theorem FF(i:Int):gh i<=i.natAbs.log2+1:=by
 unfold gh;split
 ·exact cj _
 ·exact aT _
theorem CMulW.ok{i j:Int}(h:CMulW i j):IntMulOk i j:=by
 unfold IntMulOk iX.Int.intTooBig;have h1:=FF i;have h2:=FF j;have h3:=h.1;have h4:=h.2
 have:decide (((gh i:Int)+(gh j:Int))>(bitsLine:Int))=aC:=decide_eq_false (by
  have e:(bitsLine:Int)=134217728:=rfl;rw[e];omega)
 rw[this];simp
section
variable {X:Cx} {a b:bS} {fa fb:XE} {pos:fZ}
theorem Zax:Sr X (fK .Mult) (rI CMulW λi j=>.int (i*j)):=opI λ_ _ _ _ _ _ _ hc q=>mul_int q hc.ok
theorem C7:Sr X (fK .FloorDiv) (rI Ni λi j=>.int (i.fdiv j)):=opI λ_ _ _ _ _ _ _ hc q=>floordiv_int hc.1 q (.inl (PyProof.noPylong_of_log2 hc.2))
abbrev JN:=Ay CMulW (· * ·)
abbrev JO:=Ay Ni nh
theorem FG(ha:VE X a fa)(hb:VE X b fb):VE X (.BinOp a .Mult b pos) (Zg JN fa fb):=WX Zax (Jo _ _) ha hb
theorem JP(ha:VE X a fa)(hb:VE X b fb):VE X (.BinOp a .FloorDiv b pos) (Zg JO fa fb):=WX C7 (Jo _ _) ha hb
end
theorem Nj:∀{ns:List Int}{n:Int},n∈ns->n.natAbs.log2<=kD (ns.map .int)
 | m::r,n,h=>by
  rw[a9];simp only[kD,PySem.W.WData.weight];rcases aa.mp h with rfl | h
  ·by_cases h0:n=0
   ·subst h0;have:Nat.log2 (Int.natAbs 0)=0:=by decide +kernel
    omega
   ·rw[oB (by simpa using h0)];omega
  ·have:=Nj h;omega
end VL
namespace VL
open PySem PySem.Spec PyProof.Rows L2
noncomputable def C8(i:Nat)(f0:XE):XS:=λs=>(f0 s).bind λl0=>match s[i]? with
 | some (aA l)=>if ZH l0=aD then aA (.rt (.tup [l0,l])) else aB
 | _=>aB
theorem C9{X:Cx}{O:List Nat}{e:bS}{i:Nat}{f0:XE}{pos:fZ}(he:PE X e (Zge (Rz (tF X.K f0) (Rz (Sy i) Ew))))(hi:i∈O:=by decide):VS X O [] (.Return (aA e) pos) (C8 i f0):=PS.imp (LA he) λD σ H ⟨H0,fps,s,out,r,e,k⟩=>by
 obtain⟨l0,e0,e⟩:=Zd e;split at e
 case h_2=>cases e
 rename_i l em;split at e
 case isFalse=>cases e
 rename_i pu;cases e;obtain⟨v,hv,iv⟩:=r.is i _ em;refine⟨λ_=>False,s,l0,λ_ z=>z.elim,r.env,e0,λv0 H1 f1 s1 i1 _=>?_⟩;have:=Is.pure _ _ _ pu i1;subst this;refine⟨v,hv,(by show 2<=sizeLine;decide),λq hq=>?_⟩;have sn:Same H1 (upd H1 q (.tup [v0,v])):=Same.new hq _;have r3:=r.grow s1;refine k _ (fps i) _ (r3.same.trans sn) (Is.tup upd_same ?_) (r.nd i hi) λz hz=>?_
 ·have h1:=Iss.cons (i1.mono sn) (Iss.one ((iv.mono s1).mono sn));simpa using h1
 ·have:=r3.own i hi z hz;exact⟨this.1,Same.mut sn this.2⟩
end VL
namespace PW
open PySem L2 VL
def QJ:XS:=(ZN (eP (Zc PQ [Zr 1 [0,1] (X5 (Za 2)) (.one 0) ZF (Zg ZC (Zg ZC (Za 1) (Za 2)) (Za 0))])))
def Sa:List PV->Option PV:=Ya 3 QJ
def WN:XS:=(Zj (YR [] (Y3 aC [Za 1]) (.many [3,4]) (Sn (V5 (xB (Zg (X4 aD) (Za 3) (Za 2))) (xB (Zg oLt (Za 4) (Zc Sa [Za 0,Za 3,Za 2])))) (ZN (eP (Za 3))) Yk))
  (ZN (eP (eC .non))))
def Z4:List PV->Option PV:=Ya 5 WN
def Kj:XS:=(Zj (Zk 3 (Xc [eP (Za 2)]))
  (Zj (Zk 4 (Zc Z4 [Za 0,Za 1,Za 3]))
  (Zj (UI (xB (OL aD (Za 4))) (Zj (ZZ 3 (eP (Za 4)))
  (Zk 4 (Zc Z4 [Za 0,Za 1,Za 3]))))
  (ZN (Za 3)))))
def W6:List PV->Option PV:=Ya 5 Kj
def QK:XS:=(ZN (Zr 2 [1] (Y3 aC [Za 0]) (.many [0,1]) (V5 (xB (Zg (Xv aD) (Za 0) (Za 2))) (xB (Zg oLt (Za 1) (eC (.int 0))))) (eP (Za 0))))
def Yo:List PV->Option PV:=Ya 2 QK
def QL:XS:=(ZN (eP (Zc YD [Zr 2 [3,1,2,0] (Sm aC aC [Za 0,Za 1]) (.many [0,1]) ZF (Zg JO (Zg X3 (Zg JN (Zg ZC (Za 3) (Za 4)) (Za 0)) (Zg JN (Zg ZC (Za 5) (Za 4)) (Za 1))) (Za 2))])))
def Wj:List PV->Option PV:=Ya 4 QL
def Nk:XS:=(Zj (Zk 1 (Zc UC [Za 0]))
  (Zj (Zk 2 (eP (eC (.int 1))))
  (Zj (YR [1] (ZQ [Zc ZR [Za 0]]) (.one 3) (Zj (Zk 4 (eP (Zg ZC (Za 1) (Za 3))))
  (Zj (Zk 1 (Zr 2 [3,4,2] (Y3 aD [Za 1]) (.many [0,1]) ZF (eP (PM (xB (Zg (Xv aC) (Za 0) (Za 2))) (Za 1) (Zc Wj [Za 1,Za 3,Za 2,Za 4])))))
  (Zk 2 (eP (Zg ZC (Za 4) (Za 3)))))))
  (C8 1 (Za 2)))))
def WH:List PV->Option PV:=Ya 5 Nk
def Vq:XS:=(Zj (Zk 2 (Zc WH [Zr 2 [] (Sm aC aC [Za 0,Za 1]) (.many [0,1]) ZF (Zg Xs (Za 0) (Yp [Za 1]))]))
  (ZN (Zr 1 [2] (X5 (Zg ZC (Za 2) (eC (.int 1)))) (.one 0) ZF (eP (Zg JO (Zg ZC (Za 0) (Ju QB (eC (.int 1)))) (Zg ZC (Za 1) (eC (.int 0))))))))
def Xf:List PV->Option PV:=Ya 3 Vq
def Nl:XS:=(ZN (eP (Zc YD [Zr 1 [1,0] (X5 (Za 2)) (.one 0) ZF (PM (xB (Zg (Xv aC) (Za 0) (Za 1))) (Zc Uj [Za 2,Za 1]) (Ju QB (Zg ZC (Zg ZC (Za 2) (Za 1)) (Za 0))))])))
def RU:List PV->Option PV:=Ya 3 Nl
def Wk:XS:=(Zj (Zk 2 (Zr 1 [1] (ZQ [Zc ZR [Za 0]]) (.one 0) (xB (Zg (Xv aD) (Za 0) (Za 1))) (eP (Za 0))))
  (ZN (eP (Zc YD [Zr 1 [0,2] (X5 (Za 2)) (.one 0) ZF (Zc RU [Za 1,Za 0,Za 2])]))))
def Yc:List PV->Option PV:=Ya 3 Wk
def QM:XS:=(Zj (Zk 3 (eP (Zg Xs (P6 XD (Za 1) Mi (QD (Za 2))) (P6 XD (Za 1) (QD (Zg Yi (Za 2) (eC (.int 1)))) Mi))))
  (Zj (Zk 4 (Zc Xf [Zc Yc [Za 0,Za 2],Za 3]))
  (Zj (VU 4 (Za 2) (eC (.int 0)))
  (ZN (eP (Zc YD [Za 4]))))))
def Vc:List PV->Option PV:=Ya 5 QM
def TB:XS:=(ZN (eP (Zc YD [Zr 1 [1] (ZQ [Zc ZR [Za 0]]) (.one 0) ZF (PM (xB (Zg (X4 aC) (Za 0) (Za 1))) (Ju QB (eC (.int 1))) (eC (.int 0)))])))
def XJ:List PV->Option PV:=Ya 2 TB
def FH:XS:=(Zj (Zk 1 (eP (Zc Zcw [Za 0])))
  (ZN (eP (Zc YD [Zr 1 [1] (PR (Za 0)) (.one 0) ZF (Zg X3 (Za 0) (Za 1))]))))
def UR:List PV->Option PV:=Ya 2 FH
def Nm:XS:=(Zj (Zk 3 (Zc Vc [Za 0,Za 1,Za 2]))
  (Zj (Zk 4 (Zc Sx [Za 0,Za 1,Za 3]))
  (Zj (Zk 5 (Zc Yo [Za 4,Za 2]))
  (Zj (UI (xB (Zg MV (Zc ZR [Za 5]) (eC (.int 0)))) (Zj (Zk 6 (Zc XJ [Za 0,Za 5]))
  (Zj (Zk 3 (Zc V6 [Za 3,Za 6]))
  (Zj (Zk 4 (Zc Sx [Za 0,Za 4,Za 6]))
  (Zk 5 (Zc Yo [Za 4,Za 2]))))))
  (ZN (Yp [Zc UR [Za 3],eP (Za 4),Zc W6 [Za 0,Za 4,Za 2]]))))))
def Xw:List PV->Option PV:=Ya 7 Nm
def Kk:XS:=(Zj (Zk 3 (Zc Xw [Za 0,Za 1,eC (.int 0)]))
  (Zj (Zk 4 (Zc Xw [Za 0,Za 2,eC (.int 0)]))
  (Zj (Sn (xB (Zg (Xv aD) (Zg ZC (Za 3) (eC (.int 1))) (Zg ZC (Za 4) (eC (.int 1))))) (ZN (eP (eC .non))) Yk)
  (ZN (Zc UR [Zc UQ [Zg ZC (Za 3) (eC (.int 0)),Zg ZC (Za 4) (eC (.int 0))]])))))
def Kl:List PV->Option PV:=Ya 5 Kk
end PW
namespace L2
open PySem PySem.Spec PyProof.Rows
abbrev WJ:=aN->df->List (List YV×V)->It
end L2
namespace VL
open PySem PySem.W PyProof.Rows
def VF(r:Nat->Int)(n:Nat){α:Type}:KasT α->(α->Prop)->Prop
 | .ret a,Q=>Q a
 | .ask i j k,Q=>i<n/\j<n/\VF r n (k (decide (r i<r j))) Q
theorem Vd{r:Nat->Int}{n:Nat}{α β:Type}{g:α->KasT β}{Q:β->Prop}:∀{t:KasT α},VF r n t (λa=>VF r n (g a) Q)->VF r n (t.bind g) Q
 | .ret a,h=>h
 | .ask i j k,h=>⟨h.1,h.2.1,Vd h.2.2⟩
theorem XM{r:Nat->Int}{n:Nat}{α:Type}{Q Q':α->Prop}(hq:∀a,Q a->Q' a):∀{t:KasT α},VF r n t Q->VF r n t Q'
 | .ret a,h=>hq a h
 | .ask i j k,h=>⟨h.1,h.2.1,XM hq h.2.2⟩
theorem FI{r:Nat->Int}{n:Nat}{α:Type}{cmp:Nat->Nat->(Bool->aQ->Prop)->aQ->Prop}{Q:α->Prop}{Q':α->aQ->Prop}{s:aQ}
  (hc:∀i j,i<n->j<n->∀C:Bool->aQ->Prop,C (decide (r i<r j)) s->cmp i j C s) (hq:∀a,Q a->Q' a s):∀{t:KasT α},VF r n t Q->t.kasWp cmp Q' s
 | .ret a,h=>hq a h
 | .ask i j k,h=>hc i j h.1 h.2.1 _ (FI hc hq h.2.2)
section
variable {r:Nat->Int} {n:Nat}
def Yh(p:Array Nat)(i:Nat):Nat:=p.getD i 0
structure Pm(n:Nat)(p:Array Nat):Prop where
 sz:p.size=n
 lt:∀i,i<n->Yh p i<n
 inj:∀i j,i<n->j<n->Yh p i=Yh p j->i=j
def Up(r:Nat->Int)(p:Array Nat)(m:Nat):Prop:=∀i j,i<j->j<m->r (Yh p i)<r (Yh p j)
def Dn(r:Nat->Int)(p:Array Nat)(m:Nat):Prop:=∀i j,i<j->j<m->r (Yh p j)<r (Yh p i)
theorem Xm(p:Array Nat)(i:Nat):Yh p i=(p[i]?).getD 0:=by unfold Yh;exact Array.getD_eq_getD_getElem?
theorem Pm.ne{p:Array Nat}(h:Pm n p)(hr:∀i j,i<n->j<n->r i=r j->i=j){i j:Nat}(hi:i<n)(hj:j<n)(hij:i≠j):r (Yh p i)≠r (Yh p j):=λz=>hij (h.inj i j hi hj (hr _ _ (h.lt i hi) (h.lt j hj) z))
theorem Up.snoc{p:Array Nat}{m:Nat}(h:Up r p m)(h1:1<=m)(hl:r (Yh p (m-1))<r (Yh p m)):Up r p (m+1):=λi j hij hj=>by
 by_cases q:j<m
 ·exact h i j hij q
 ·have:j=m:=by omega
  subst this;by_cases z:i=j-1
  ·subst z;exact hl
  ·have:=h i (j-1) (by omega) (by omega);omega
theorem Dn.snoc{p:Array Nat}{m:Nat}(h:Dn r p m)(h1:1<=m)(hl:r (Yh p m)<r (Yh p (m-1))):Dn r p (m+1):=λi j hij hj=>by
 by_cases q:j<m
 ·exact h i j hij q
 ·have:j=m:=by omega
  subst this;by_cases z:i=j-1
  ·subst z;exact hl
  ·have:=h i (j-1) (by omega) (by omega);omega
theorem Km{p:Array Nat}(hp:Pm n p)(hr:∀i j,i<n->j<n->r i=r j->i=j):∀(f m:Nat),1<=m->m+f=n->Up r p m->VF r n (kas_asc p f m) λm'=>m<=m'/\m'<=n/\Up r p m'/\(m'=n\/r (Yh p m')<r (Yh p (m'-1)))
 | 0,m,h1,hm,hu=>⟨aT _,by omega,hu,.inl (by omega)⟩
 | f+1,m,h1,hm,hu=>by
  refine⟨hp.lt m (by omega),hp.lt (m-1) (by omega),?_⟩;show VF r n (if decide (r (Yh p m)<r (Yh p (m-1)))=aD then nj m else kas_asc p f (m+1)) _;by_cases q:r (Yh p m)<r (Yh p (m-1))
  ·rw[oA (decide_eq_true q)];exact⟨aT _,by omega,hu,.inr q⟩
  ·rw[oB (by rw[decide_eq_false q];exact aw)];have ne:=hp.ne hr (show m<n by omega) (show m-1<n by omega) (by omega);exact XM (λm' h=>⟨by omega,h.2⟩) (Km hp hr f (m+1) (by omega) (by omega) (hu.snoc h1 (by omega)))
theorem JQ{p:Array Nat}(hp:Pm n p)(hr:∀i j,i<n->j<n->r i=r j->i=j):∀(f m:Nat),1<=m->m+f=n->Dn r p m->VF r n (kas_desc f p m 0) λx=>x.1=p/\x.2.2=0/\m<=x.2.1/\x.2.1<=n/\Dn r p x.2.1
 | 0,m,h1,hm,hu=>⟨rfl,rfl,aT _,by show m<=n;omega,hu⟩
 | f+1,m,h1,hm,hu=>by
  refine⟨hp.lt m (by omega),hp.lt (m-1) (by omega),?_⟩;have ne:=hp.ne hr (show m<n by omega) (show m-1<n by omega) (by omega);by_cases q:r (Yh p m)<r (Yh p (m-1))
  ·show VF r n (if decide (r (Yh p m)<r (Yh p (m-1)))=aD then(if 0>0 then _ else kas_desc f p (m+1) 0) else _) _;rw[oA (decide_eq_true q),oB (by omega)];exact XM (λx h=>⟨h.1,h.2.1,by omega,h.2.2.2⟩) (JQ hp hr f (m+1) (by omega) (by omega) (hu.snoc h1 q))
  ·have q':r (Yh p (m-1))<r (Yh p m):=by omega
   show VF r n (if decide (r (Yh p m)<r (Yh p (m-1)))=aD then _ else KasT.ask (p.getD (m-1) 0) (p.getD m 0) λd=>if d=aD then .ret (p,m,0) else kas_desc f p (m+1) (0+1)) _;rw[oB (by rw[decide_eq_false q];exact aw)];refine⟨hp.lt (m-1) (by omega),hp.lt m (by omega),?_⟩;show VF r n (if decide (r (Yh p (m-1))<r (Yh p m))=aD then nj (p,m,0) else _) _;rw[oA (decide_eq_true q')];exact⟨rfl,rfl,aT _,by show m<=n;omega,hu⟩
theorem FJ{p:Array Nat}{m:Nat}(hm:m<=p.size)(i:Nat):Yh (kas_rev p 0 m) i=if i<m then Yh p (m-1-i) else Yh p i:=by
 rw[Xm];unfold kas_rev;rw[getElem?_mirror_all hm];by_cases q:i<m
 ·rw[oA ⟨cj _,q⟩,oA q,Xm,jK]
 ·rw[oB (by omega),oB q,Xm]
theorem Pm.rev{p:Array Nat}(h:Pm n p){m:Nat}(hm:m<=n):Pm n (kas_rev p 0 m):=by
 have e:=λi=>FJ (p:=p) (m:=m) (by rw[h.sz];exact hm) i;refine⟨by rw[kas_rev_size];exact h.sz,λi hi=>?_,λi j hi hj hij=>?_⟩
 ·rw[e];split
  ·exact h.lt _ (by omega)
  ·exact h.lt _ hi
 ·rw[e,e] at hij;split at hij
  ·split at hij
   ·have:=h.inj _ _ (by omega) (by omega) hij;omega
   ·have:=h.inj _ _ (by omega) (by omega) hij;omega
  ·split at hij
   ·have:=h.inj _ _ (by omega) (by omega) hij;omega
   ·exact h.inj _ _ hi hj hij
theorem Dn.rev{p:Array Nat}(h:Pm n p){m:Nat}(hm:m<=n)(hd:Dn r p m):Up r (kas_rev p 0 m) m:=λi j hij hj=>by have e:=λi=>FJ (p:=p) (m:=m) (by rw[h.sz];exact hm) i;rw[e,e,oA hj,oA (by omega)];exact hd _ _ (by omega) (by omega)
def Zey(r:Nat->Int)(n:Nat)(x:Nat×Array Nat):Prop:=1<=x.1/\x.1<=n/\Pm n x.2/\Up r x.2 x.1
theorem E1{p:Array Nat}(hp:Pm n p)(hr:∀i j,i<n->j<n->r i=r j->i=j){m:Nat}(h1:1<=m)(hm:m<=n)(hd:Dn r p m):VF r n (kas_tail3 m n p) (Zey r n):=by unfold kas_tail3;refine Vd (XM (λm' h=>?_) (Km (hp.rev hm) hr (n-m) m h1 (by omega) (Dn.rev hp hm hd)));exact⟨by show 1<=m';omega,h.2.1,hp.rev hm,h.2.2.1⟩
theorem Kn{p:Array Nat}(hp:Pm n p)(hr:∀i j,i<n->j<n->r i=r j->i=j)(h2:2<=n)(hd:r (Yh p 1)<r (Yh p 0)):VF r n (kas_descPart 1 n p) (Zey r n):=by
 unfold kas_descPart
 have d2:Dn r p 2:=λi j hij hj=>by
  have:i=0:=by omega
  have:j=1:=by omega
  subst i j;exact hd
 refine Vd (XM (λx h=>?_) (JQ hp hr (n-(1+1)) (1+1) (by omega) (by omega) d2));obtain⟨rfl,hq,hm,hn,hdn⟩:=h;rw[hq];show VF r n (if 0>0 then _ else kas_tail3 x.2.1 n x.1) _;rw[oB (by omega)];exact E1 hp hr (by omega) hn hdn
theorem E2{p:Array Nat}(hp:Pm n p)(hr:∀i j,i<n->j<n->r i=r j->i=j)(h1:1<=n):VF r n (kas_count n p) (Zey r n):=by
 unfold kas_count;refine Vd (XM (λm h=>?_) (Km hp hr (n-1) 1 (by omega) (by omega) λi j hij hj=>by omega));obtain⟨hm,hn,hu,alt⟩:=h;by_cases q:m=n
 ·rw[oA (by simp[q])];exact⟨hm,hn,hp,hu⟩
 ·rw[oB (by simp[q])];have hlt:r (Yh p m)<r (Yh p (m-1)):=by exact alt.resolve_left q
  by_cases g:m>1
  ·rw[oA g];refine⟨hp.lt 0 (by omega),hp.lt (m-1) (by omega),?_⟩;show VF r n (if decide (r (Yh p 0)<r (Yh p (m-1)))=aD then nj (m,p) else _) _;rw[oA (decide_eq_true (hu 0 (m-1) (by omega) (by omega)))];exact⟨hm,hn,hp,hu⟩
  ·rw[oB g];have:m=1:=by omega
   subst this;exact Kn hp hr (by omega) hlt
theorem QN{p:Array Nat}(hp:Pm n p)(hr:∀i j,i<n->j<n->r i=r j->i=j){k:Nat}(hk:k<n)(hu:Up r p k):∀(f a b:Nat),a<=b->b<=k->b-a<=f->(∀i,i<a->r (Yh p i)<r (Yh p k))->(∀i,b<=i->i<k->r (Yh p k)<r (Yh p i))->
   VF r n (mY p k f a b) λl=>l<=k/\(∀i,i<l->r (Yh p i)<r (Yh p k))/\∀i,l<=i->i<k->r (Yh p k)<r (Yh p i)
 | 0,a,b,hab,hb,hf,lo,hi=>⟨by omega,lo,λi h=>hi i (by omega)⟩
 | f+1,a,b,hab,hb,hf,lo,hi=>by
  unfold mY;by_cases q:a ≥ b
  ·rw[oA q];exact⟨by omega,lo,λi h=>hi i (by omega)⟩
  ·rw[oB q];have hmid:(a+b)/2<k:=by omega
   refine⟨hp.lt k hk,hp.lt _ (by omega),?_⟩;show VF r n (if decide (r (Yh p k)<r (Yh p ((a+b)/2)))=aD then mY p k f a ((a+b)/2) else mY p k f ((a+b)/2+1) b) _;generalize hmd:(a+b)/2=m at hmid;by_cases c:r (Yh p k)<r (Yh p m)
   ·rw[oA (decide_eq_true c)];refine QN hp hr hk hu f a m (by omega) (by omega) (by omega) lo λi h1 h2=>?_;by_cases z:i=m
    ·subst z;exact c
    ·have:=hu m i (by omega) h2;omega
   ·rw[oB (by rw[decide_eq_false c];exact aw)];have ne:=hp.ne hr hk (show m<n by omega) (by omega);refine QN hp hr hk hu f (m+1) b (by omega) hb (by omega) (λi h1=>?_) hi;by_cases z:i=m
    ·subst z;omega
    ·have:=hu i m (by omega) hmid;omega
theorem HA{p:Array Nat}{k l:Nat}(hk:k<p.size)(hl:l<=k)(i:Nat):Yh (bubble p k (k-l)) i=if i=l then Yh p k else if l<i/\i<=k then Yh p (i-1) else Yh p i:=by
 rw[Xm,getElem?_bubble hk (k-l) (by omega)];have e:k-(k-l)=l:=by omega
 rw[e];by_cases q:i=l
 ·rw[oA q,oA q,Xm]
 ·rw[oB q,oB q];by_cases z:l<i/\i<=k
  ·rw[oA z,oA z,Xm]
  ·rw[oB z,oB z,Xm]
theorem FK(hr:∀i j,i<n->j<n->r i=r j->i=j):∀(f:Nat)(p:Array Nat)(k:Nat),Pm n p->k+f=n->Up r p k->VF r n (kas_bin f p k) λp'=>Pm n p'/\Up r p' n
 | 0,p,k,hp,hk,hu=>by
  have e:k=n:=by omega
  subst e;exact⟨hp,hu⟩
 | f+1,p,k,hp,hk,hu=>by
  unfold kas_bin;have hkn:k<n:=by omega
  refine Vd (XM (λl h=>?_) (QN hp hr hkn hu k 0 k (by omega) (by omega) (by omega) (λi h=>by omega) λi h1 h2=>by omega));obtain⟨hl,lo,hi⟩:=h;have e:=λi=>HA (p:=p) (k:=k) (l:=l) (by rw[hp.sz];exact hkn) hl i;refine FK hr f _ (k+1) ⟨by rw[bubble_size];exact hp.sz,λi hi'=>?_,λi j hi' hj hij=>?_⟩ (by omega) λi j hij hj=>?_
  ·rw[e];split
   ·exact hp.lt _ hkn
   ·split
    ·exact hp.lt _ (by omega)
    ·exact hp.lt _ hi'
  ·rw[e,e] at hij;split at hij
   ·split at hij
    ·omega
    ·split at hij
     ·have:=hp.inj _ _ (by omega) (by omega) hij;omega
     ·have:=hp.inj _ _ (by omega) (by omega) hij;omega
   ·split at hij
    ·split at hij
     ·have:=hp.inj _ _ (by omega) (by omega) hij;omega
     ·split at hij
      ·have:=hp.inj _ _ (by omega) (by omega) hij;omega
      ·have:=hp.inj _ _ (by omega) (by omega) hij;omega
    ·split at hij
     ·have:=hp.inj _ _ (by omega) (by omega) hij;omega
     ·split at hij
      ·have:=hp.inj _ _ (by omega) (by omega) hij;omega
      ·exact hp.inj _ _ hi' hj hij
  ·rw[e,e];by_cases q1:i=l
   ·rw[oA q1,oB (by omega),oA (by omega)];exact hi _ (by omega) (by omega)
   ·rw[oB q1];by_cases q2:j=l
    ·rw[oA q2,oB (by omega)];exact lo _ (by omega)
    ·rw[oB q2];by_cases q3:l<i/\i<=k
     ·rw[oA q3,oA (by omega)];exact hu _ _ (by omega) (by omega)
     ·rw[oB q3];by_cases q4:l<j/\j<=k
      ·rw[oA q4];exact hu _ _ (by omega) (by omega)
      ·rw[oB q4];exact hu _ _ hij (by omega)
theorem JR(n:Nat):Pm n (fj (aF n)):=by
 have e:∀i,i<n->Yh (fj (aF n)) i=i:=λi hi=>by rw[Xm];simp[hi]
 refine⟨by simp,λi hi=>by rw[e i hi];exact hi,λi j hi hj h=>?_⟩;rw[e i hi,e j hj] at h;exact h
theorem Ba(hr:∀i j,i<n->j<n->r i=r j->i=j)(h1:1<=n):VF r n (kas_sort n) λp=>Pm n p/\Up r p n:=by
 unfold kas_sort;refine Vd (XM (λx h=>?_) (E2 (JR n) hr h1));obtain⟨a1,a2,a3,a4⟩:=h;have em:max x.1 1=x.1:=by omega
 by_cases q:x.1<n
 ·rw[oA q,em];exact FK hr (n-x.1) x.2 x.1 a3 (by omega) a4
 ·rw[oB q];have:x.1=n:=by omega
  rw[this] at a4;exact⟨a3,a4⟩
end
section
variable {prog:bQ} {w:bu} {A:bw} {E:aL->aQ->Prop} {s:aQ}
theorem JS{l:aN}{vs:List aL}{Q:List aL->aQ->Prop}(hl:mx s.heap l vs.toArray)
  (h:Q vs { s with heap:=(s.heap.push (dU "list" #[] 0)).update s.heap.objs.size (cY (·++vs.toArray)) }) (hsz:vs.length<=sizeLine:=by size_fits) :
  bA (model prog w) A (collect (.ref l)) Q E s:=by
 obtain⟨o,ho,hc,n,hd⟩:=id hl;unfold collect;refine aH (wpAny_runValue (codeAny_builtin entry_proto_collect' ?_));show bA _ _ (do again (.builtin "list.__iadd__" ⟨[<-newList [],.ref l],[]⟩)) _ _ s;refine aH (jq (aX ⟨Code.quiet_builtin _ (by decide +kernel),codeAny_builtin entry_list_iadd' ?_⟩));show bA _ _ (jL (.ref s.heap.objs.size) (.ref l) (.ref s.heap.objs.size)) _ _ { s with heap:=s.heap.push (dU "list" #[] 0) };unfold jL;have ho':(s.heap.push (dU "list" #[] 0)).get? l=aA o:=aM _ ho;refine aH (wpAny_typeOf (T:="tuple") ⟨o,ho',hc⟩ ?_);have ht:(kH "tuple"==kH "tuple")=aD:=by rfl
 rw[oA (by rw[ht];simp)];refine aH (mL ho' hd ?_);refine aH (mL (xs:=#[]) (n:=0) (aj _ rfl) rfl ?_);rw[oB (by simp)];refine aH (jr (xs:=#[]) (n:=0) (aj _ rfl) rfl ?_ (cj _) (by show(#[]++vs.toArray).size<=sizeLine+1;simp only[Array.size_append,aU,fG];omega));refine aX ?_
 show bA (model prog w) A (do
   let o <-load s.heap.objs.size
   match o.data with
   | .seq xs _=>pure xs.toList
   | _=>unsupported "internal:collect") Q E { s with heap:=(s.heap.push (dU "list" #[] 0)).update s.heap.objs.size (cY (·++vs.toArray)) }
 refine aH (wpAny_load (get?_update_seq (aj _ rfl) _) ?_);show bA _ _ (pure ((#[]:Array aL)++vs.toArray).toList) Q E _;rw[show((#[]:Array aL)++vs.toArray).toList=vs by simp];exact aX h
theorem sorted_intsT{l:aN}{vs:List aL}{ns:List Int}{Q:aL->aQ->Prop}(hl:mx s.heap l vs.toArray)(hI:jH vs ns)(h64:vs.length<64)
  (h:∀(out:Array aL)(ns':List Int),jH out.toList ns'->ns'.Perm ns->ns'.Pairwise (·<=·)->Q (.ref (s.heap.objs.size+1)) { s with heap:=sortedAll s.heap vs out }) :
  bA (model prog w) A (call (.builtin "sorted") [.ref l]) Q E s:=by
 refine j3 kind_sorted plain_sorted entry_sorted (args_sorted1 _) ?_;unfold iX.«sorted»;refine aH (m:=checkCount "sorted" 1 1 _) (aX ?_);refine aH (JS hl ?_ (by rw[dh];omega));refine aH (jq ?_ (by rw[dh];omega));have hsz:((s.heap.push (dU "list" #[] 0)).update s.heap.objs.size (cY (·++vs.toArray))).objs.size=s.heap.objs.size+1:=by rw[kE,nO]
 have hoL:(((s.heap.push (dU "list" #[] 0)).update s.heap.objs.size (cY (·++vs.toArray))).push (dU "list" vs.toArray 0)).get? (s.heap.objs.size+1)=aA (dU "list" vs.toArray 0):=by rw[<-hsz];exact aj _ rfl
 show bA _ _ _ _ _ { s with heap:=((s.heap.push (dU "list" #[] 0)).update s.heap.objs.size (cY (·++vs.toArray))).push (dU "list" vs.toArray 0) };rw[hsz];refine aH (eQ (cU slot_list_sort ⟨_,hoL,rfl⟩ entry_list_sort (list_sort_tree hoL hI h64 λout ns' a1 a2 a3=>⟨_,rfl,?_⟩) (args_list_sort _)));exact aX ⟨_,rfl,h out ns' a1 a2 a3⟩
theorem Ms{a:aN}{vs:List aL}{n:Nat}{r:Nat->Int}{κ:SortKind}{P:PySem.Fin->aQ->Prop}(ho:s.heap.get? a=aA (dU "list" vs.toArray n))(h64:vs.length<64)
  (hr:∀i j,i<vs.length->j<vs.length->r i=r j->i=j)
  (hk:2<=vs.length->∀h':ba,(∀b o,b≠a->s.heap.get? b=aA o->h'.get? b=aA o)->∀Q:SortKind->aQ->Prop,Q κ { s with heap:=h' }->bA (model prog w) A (keyKind' vs.toArray) Q (λ_ _=>False) { s with heap:=h' })
  (hc:∀h':ba,(∀b o,b≠a->s.heap.get? b=aA o->h'.get? b=aA o)->∀i j,i<vs.length->j<vs.length->∀C:Bool->aQ->Prop,C (decide (r i<r j)) { s with heap:=h' }->kas_ask prog w A κ vs i j C { s with heap:=h' })
  (h:∀p:Array Nat,Pm vs.length p->Up r p vs.length->P (.done (.ret .none)) { s with heap:=sortedHeap s.heap a vs (fj (p.toList.map λi=>vs.getD i cP)) }) :
  bA (model prog w) A (iX.«list.sort» ⟨[.ref a],[]⟩) P E s:=by
 have ha:a<s.heap.objs.size:=aZ ho;rw[list_sort_plain];refine aH (mL ho rfl ?_);refine aH (jr ho rfl ?_ (by rw[aU,dh];omega) (cj _));obtain⟨e1,ho1⟩:∃e1,(s.heap.update a (cY λ_=>#[])).get? a=aA (dU "list" #[] e1):=⟨_,get?_update_seq ho (λ_=>#[])⟩;refine aH (ma ho1 rfl ?_);refine aH (wpAny_newTuple ?_ (by show vs.length<=_;rw[dh];omega));refine aH (jq ?_ (cj _));refine eQ ?_;have ho6:(((s.heap.update a (cY λ_=>#[])).push (dU "tuple" vs.toArray 0)).push (dU "list" #[] 0)).get? a=aA (dU "list" #[] e1):=by rw[mM _ _ _ (by rw[nO,kE];exact bU (iJ ha)),mM _ _ _ (by rw[kE];exact bU ha)];exact ho1
 have keep:∀b o,b≠a->s.heap.get? b=aA o->(((s.heap.update a (cY λ_=>#[])).push (dU "tuple" vs.toArray 0)).push (dU "list" #[] 0)).get? b=aA o:=λb o hb q=>
  aM _ (aM _ (by rw[ba.get?_update_ne _ _ _ _ hb];exact q))
 show bA (model prog w) A _ P E { s with heap:=((s.heap.update a (cY λ_=>#[])).push (dU "tuple" vs.toArray 0)).push (dU "list" #[] 0) }
 dsimp only
 by_cases h2:vs.toArray.size<2
 ·rw[oA h2,oA h2];refine aH (aX ?_);rw[StateT.run_pure];refine aH (aX ?_)
  dsimp only
  refine aH (ma ho6 rfl ?_);refine aH (jr ho6 rfl ?_ (hsz2:=by rw[Array.size_map];show(pairsOf vs).size<=_;rw[pairsOf_size,dh];omega));simp only[bne_self_eq_false,dR,if_false];have hp:=h (fj (aF vs.length)) (JR _) λi j hij hj=>by rw[aU] at h2;omega
  have e:((vs.toArray.zip vs.toArray).map (·.2))=fj ((fj (aF vs.length)).toList.map λi=>vs.getD i cP):=by
   apply mS.mp;apply iW
   ·simp
   ·intro i h1 h2;have hi:i<vs.length:=by simpa using h1
    simp[hi]
  refine aX ?_;show P _ { s with heap:=(((s.heap.update a (cY λ_=>#[])).push (dU "tuple" vs.toArray 0)).push (dU "list" #[] 0)).update a (cY λ_=>(vs.toArray.zip vs.toArray).map (·.2)) };rw[e];exact hp
 ·rw[oB h2,oB h2];have h2':2<=vs.length:=by rw[aU] at h2;omega
  refine aH (cQ (hk h2' _ keep (λκ' s'=>κ'=κ/\s'={ s with heap:=((s.heap.update a (cY λ_=>#[])).push (dU "tuple" vs.toArray 0)).push (dU "list" #[] 0) }) ⟨rfl,rfl⟩) ?_ λ_ _ x=>x.elim);rintro κ' s' ⟨rfl,rfl⟩
  refine aH (cQ (kat_run (κ:=κ') (Q:=λst' s'=>∃p:Array Nat,arrOf st'=p.map (kas_item (vs.toArray.zip vs.toArray))/\failedOf st'=aB/\s'={ s with heap:=((s.heap.update a (cY λ_=>#[])).push (dU "tuple" vs.toArray 0)).push (dU "list" #[] 0) }/\Pm vs.length p/\Up r p vs.length)
   (G:=λp s'=>s'={ s with heap:=((s.heap.update a (cY λ_=>#[])).push (dU "tuple" vs.toArray 0)).push (dU "list" #[] 0) }/\Pm vs.length p/\Up r p vs.length)
   rfl h2' h64 (λp' st' s' a1 a2 a3 a4=>⟨p',a2,a3,a4⟩) (FI (hc _ keep) (λp hp=>⟨rfl,hp⟩) (Ba hr (by omega)))) ?_ λ_ _ e=>e)
  rintro⟨⟨⟩,st'⟩ s' ⟨p,har,hf,rfl,hp,hup⟩
  dsimp only
  have hout:=kat_snds rfl har;rw[hout];refine aH (ma ho6 rfl ?_);refine aH (jr ho6 rfl ?_ (cj _) (by rw[aU,aK,cA,hp.sz,dh];omega));rw[hf];simp only[bne_self_eq_false,dR,if_false];exact aX (h p hp hup)
end
end VL
namespace VL
open PySem PySem.W PyProof.Rows L2
theorem Bc{α:Type}(f:α->aL)(l:List α)(d:α){i:Nat}(hi:i<l.length):(l.map f).getD i cP=f (l.getD i d):=by simp[hi]
theorem TC:∀{l m:List Nat},l.Nodup->(∀x∈l,x∈m)->m.length<=l.length->l.Perm m
 | [],m,_,_,hl=>by have:m=[]:=b8.mp (by simpa using hl);subst this;exact .nil
 | x::l,m,nd,sub,hl=>by
  have nd':=ar.mp nd;have hx:=sub x (by simp);have p1:=kq hx;refine List.Perm.trans ?_ p1.symm;refine .cons x (TC nd'.2 (λy hy=>?_) ?_)
  ·have ne:y≠x:=λz=>nd'.1 (z▸hy);exact(gQ ne).mpr (sub y (by simp[hy]))
  ·rw[gk hx];simp only[bB] at hl;omega
theorem Zcx{n:Nat}{p:Array Nat}(hp:Pm n p):∀j∈p.toList,j<n:=λj hj=>by
 obtain⟨i,hi,e⟩:=cX hj;rw[cA,hp.sz] at hi;have:=hp.lt i hi;rw[Xm] at this;have e2:p[i]?=aA j:=by rw[<-Array.getElem?_toList,<-e];simp[hp.sz,hi]
 rw[e2] at this;exact this
theorem HB{α:Type}{l:List α}{d:α}{p:Array Nat}(hp:Pm l.length p):(p.toList.map λi=>l.getD i d).Perm l:=by
 have nd:p.toList.Nodup:=by
  refine j4.mpr λi j hi hj hij e=>?_;rw[cA,hp.sz] at hi hj
  have:=hp.inj i j hi hj (by
   rw[Xm,Xm];simp only[ku] at e;simp[hp.sz,hi,hj,e])
  omega
 have sub:p.toList.Perm (aF l.length):=TC nd (λx hx=>aY.mpr (Zcx hp x hx)) (by simp[hp.sz])
 have e:(aF l.length).map (λi=>l.getD i d)=l:=by
  apply iW
  ·simp
  ·intro i h1 h2;simp[h2]
 have:=sub.map λi=>l.getD i d
 rwa [e] at this
theorem Li:∀cs:List aN,Vals (cs.map V.ref) (cs.map bP)
 | []=>.nil
 | c::cs=>.cons rfl (Li cs)
end VL
namespace VL
open PySem PySem.Spec PyProof.Rows L2
variable {K:aJ}
instance (x:bH) (n:Int):Decidable (MulOk x n):=by unfold MulOk;infer_instance
end VL
namespace VL
open PySem PySem.Spec PyProof.Rows L2
variable {K:aJ}
structure JT(K:aJ)(mg:bH->Option aL)(x:bH)(st:bx)(dv:Int):Prop where
 ex:∃(f T:aN) (t:nt) (o:df) (n:Nat) (oc:aL) (od:Option aN) (kV doc pm:aL) (an:Option aN) (cdv ct:aL) (osl:Array (Option aL)),mg x=aA (.ref f)/\
  K.lookup f=aA ⟨oc,od,.func (c0 x x (Y0 st) (Yf st) (Zf st) (.ref T) kV doc pm an cdv ct),osl⟩/\cg K cdv x=aD/\eZ K (.ref f)=aD/\K.lookup T=aA o/\o.data = .seq #[.int dv t] n
theorem defD_mk{h:ba}{mg:bH->Option aL}{x:bH}{st:bx}{dv:Int}{t:nt}{f T:aN}{o:df}{n:Nat}{oc:aL}{od an:Option aN}{osl:Array (Option aL)}{kV doc pm cdv ct:aL}(X:K.In h)(G:h.Ns cJ mg)
  (a:jI K cJ x=aA (aA (.ref f))) (l:K.lookup f=aA ⟨oc,od,.func (c0 x x (Y0 st) (Yf st) (Zf st) (.ref T) kV doc pm an cdv ct),osl⟩)
  (c:cg K cdv x=aD) (k:eZ K (.ref f)=aD) (lt:K.lookup T=aA o) (d:o.data = .seq #[.int dv t] n):JT K mg x st dv:=
 ⟨f,T,t,o,n,oc,od,kV,doc,pm,an,cdv,ct,osl,nW X G a,l,c,k,lt,d⟩
structure Bd(P:bQ)(w:bu)(K:aJ)(mg:bH->Option aL)(base:ba)(x:bH)(ps:List bH)(sp:Sp)(k:Nat)(dv:Int):Prop where
 ex:∃f fd t,mg x=aA (.ref f)/\eZ K (.ref f)=aD/\Binds K fd ps [.int dv t]/\Qq P w K mg base LJ k f fd ps sp
section
variable {P:bQ} {w:bu} {mg:bH->Option aL} {base:ba}
theorem FL{x:bH}{st:bx}{N ps:List bH}{k n:Nat}{O W:List Nat}{dv:Int}(m:Nat)(f:XS)(D:JT K mg x st dv)(S:Zp N ps (Zf st))
  (hb:∀(T:aN)(t:nt)(kV doc pm:aL)(an:Option aN)(cdv ct:aL)(us:List aL),us.length+1=ps.length->∃q:Option (Array aL)->Sem (List (bH×aL)),
   i6 (c0 x x (Y0 st) (Yf st) (Zf st) (.ref T) kV doc pm an cdv ct) ⟨us,[]⟩=mW (.ref T) >>= q/\q (aA #[.int dv t])=pure (ps.zip (us++[.int dv t])))
  (hn:ps.length=n) (hm:N.length=m) (hO:∀i∈O,n<=i)
  (hbody:∀(fa:aN)(cdv:aL)(A:bw)(outer:List lZ)(s:aQ)(H:Hp)(E:XK),Room k (A.deeper (iH x (Zf st) s.heap.objs.size fa cdv))->Fl (PH LJ P w K mg base N x (Zf st) fa cdv A outer s H E).nox O W (Yf st) f) :
  Bd P w K mg base x ps (Xd K (Ya m f) n) (k+1) dv:=by
 subst hm;obtain⟨fa,T,t,o,n',oc,od,kV,doc,pm,an,cdv,ct,osl,hmg,lk,hcd,kp,lt,hd⟩:=D.ex;refine⟨fa,_,t,hmg,kp,λs us X hl=>?_,WW lk hcd S (λvs H Q E h=>by rw[hn];exact h.1) λA outer s H vs Q E hr hsp=>⟨_,(hbody fa cdv A outer s H E hr).nox,P8 hO hsp⟩⟩;obtain⟨q,h1,h2⟩:=hb T t kV doc pm an cdv ct us (by simpa using hl);exact mj X rfl lt hd h1 h2
end
section
variable {X:Cx} {x:bH} {ps:List bH} {k:Nat} {e:bS} {es:List bS} {fs:List XE} {p pos:fZ} {dv:Int}
theorem Be{D:List PV->Option PV}{n:Nat}(C:Bd X.prog X.w X.K X.mg X.base x ps (Xd X.K D n) k dv)(hr:Room k X.A)(hg:Gl X x)(ha:VA X (e::es) fs)(hn:fs.length+1=n:=by rfl)
  (hdb:(x==("__debug__" : bH))=aC:=by decide) (he:aV (e::es) X.env=(aC,eval e X.env)::aV es X.env:=by rfl) (hpl:(eI pos (aV es X.env)).any (·.1)=aC:=by rfl) :
  VM X (.Call (.Name x p) (e::es) [] pos) (Zc (λls=>D (ls++[.int dv])) fs):=by
 obtain⟨f,fd,t,a,b,c,d⟩:=C.ex;refine PE.imp (GS d hr hg a b c (dvs:=[.int dv]) (.cons ⟨t,rfl⟩ .nil) Zcl ha hdb he hpl) λσ H Q ⟨s,l,env,e,q⟩=>?_;obtain⟨ls,e1,e2⟩:=Zd e;refine⟨λ_=>False,s,ls,λ_ z=>z.elim,env,e1,λvs H1 fp s1 i1 n1=>?_⟩;show Xd X.K D n (vs++[.int dv]) H1 Q E0;exact⟨by rw[ag,i1.len,VJ e1,<-hn];rfl,ls++[.int dv],fp++[],l,i1.append (Iss.one (Is.int _)),e2,λv H2 fq s2 i2 d2 n2=>q v H2 fq (s1.trans s2) i2 d2 λa ha=>⟨Same.off s1 (n2 a ha).1,(n2 a ha).2⟩⟩
end
end VL
set_option maxHeartbeats 1000000
set_option maxHeartbeats 3200000
namespace VX
open PySem PySem.Spec PyProof.Rows L2 VL
abbrev XR:=ZL->Option bH
def tFX(K:aJ)(O:List Nat)(fx:XR)(E:XK):TS:=λ_ σ H=>∃H0 fps s n,Rel K O H0 fps s σ H/\fx s=aA n/\∀C H',jI K cJ n=aA (aA (.ref C))->Same H0 H'->E (.ref C) aB H'
def VX(X:Cx)(O:List Nat)(E:XK)(st:bx)(fx:XR):Prop:=PS X st (tFX X.K O fx E)
abbrev XF:=ZL->Option (bH×PV)
def sEx(f:XE):XS:=λs=>(f s).map λ_=>.nx s
theorem Bf{X:Cx}{O:List Nat}{e:bS}{f:XE}{pos:fZ}(he:VE X e f)(hs:iC e aB pos.line X.env=pure aC:=by rfl):VS X O [] (.Expr e pos) (sEx f):=PS.imp (Xy he hs) λD σ H ⟨H0,fps,s,out,r,e,k⟩=>by obtain⟨l,e1,rfl⟩:=map_some e;exact⟨λ_=>False,s,l,λ_ z=>z.elim,r.env,e1,λv H' fp sm is _=>k fps σ H' (r.grow sm) λj _=>⟨rfl,Kep.refl _⟩⟩
section
variable {K:aJ} {P:bQ} {w:bu} {mg:bH->Option aL} {base:ba} {x:bH} {st:bx} {N ps:List bH} {k n:Nat} {O W:List Nat} {dv:Int}
theorem def_okF(m:Nat)(f:XS)(D:JT K mg x st dv)(S:Zp N ps (Zf st))
  (hb:∀(T:aN)(t:nt)(kV doc pm:aL)(an:Option aN)(cdv ct:aL)(us:List aL),us.length=ps.length->∃q:Option (Array aL)->Sem (List (bH×aL)),
   i6 (c0 x x (Y0 st) (Yf st) (Zf st) (.ref T) kV doc pm an cdv ct) ⟨us,[]⟩=mW (.ref T) >>= q/\q (aA #[.int dv t])=pure (ps.zip us))
  (hn:ps.length=n) (hm:N.length=m) (hO:∀i∈O,n<=i)
  (hbody:∀(fa:aN)(cdv:aL)(A:bw)(outer:List lZ)(s:aQ)(H:Hp)(E:XK),Room k (A.deeper (iH x (Zf st) s.heap.objs.size fa cdv))->Fl (PH LJ P w K mg base N x (Zf st) fa cdv A outer s H E).nox O W (Yf st) f) :
  XW P w K mg base x ps (Xd K (Ya m f) n) (k+1):=by
 subst hm;obtain⟨fa,T,t,o,n',oc,od,kV,doc,pm,an,cdv,ct,osl,hmg,lk,hcd,kp,lt,hd⟩:=D.ex;refine⟨fa,_,hmg,kp,λs us X hl=>?_,WW lk hcd S (λvs H Q E h=>by rw[hn];exact h.1) λA outer s H vs Q E hr hsp=>⟨_,(hbody fa cdv A outer s H E hr).nox,P8 hO hsp⟩⟩;rw[di] at hl ⊢;obtain⟨q,h1,h2⟩:=hb T t kV doc pm an cdv ct us hl;exact mj X rfl lt hd h1 h2
end
end VX
namespace PW
open PySem L2 VL VX
def TF:XS:=(Zj (Zk 3 (Ju QI (Zc ZR [Za 0])))
  (Zj (YR [3] (PR (Za 2)) (.one 4) (Zj (Zk 5 (eP (Zg ZC (Za 1) (Za 4))))
  (Zj (Zk 6 (eP (Zg ZC (Za 3) (Zg ZC (Za 5) (eC (.int 0))))))
  (Zj (Zk 7 (eP (Zg ZC (Za 3) (Zg ZC (Za 5) (eC (.int 1))))))
  (Zk 3 (Zr 1 [6,7] (X5 (Za 3)) (.one 0) ZF (eP (PM (xB (Zg (Xv aC) (Za 0) (Za 2))) (Za 1) (Za 0)))))))))
  (ZN (Za 3))))
def V0:List PV->Option PV:=Ya 8 TF
end PW
namespace VL
open PySem PySem.W PySem.Spec PyProof.Rows L2
def Sb(ns:List Int):Int:=ns.foldl (λa x=>a*100+x) 0
def TH(m:Nat)(ns:List Int):Bool:=decide (ns.length=m)&&ns.all λx=>decide (0<=x)&&decide (x<100)
theorem TJ{m:Nat}{x:Int}{ns:List Int}(h:TH (m+1) (x::ns)=aD):0<=x/\x<100/\TH m ns=aD:=by unfold TH at *;simp only[ak,decide_eq_true_eq,bB,iY] at *;exact⟨h.2.1.1,h.2.1.2,by omega,h.2.2⟩
def FN(a:Int)(ns:List Int):Int:=ns.foldl (λa x=>a*100+x) a
theorem Sd:∀(ns:List Int)(a:Int),∃p:Int,0<p/\∀b,FN b ns-FN a ns=(b-a)*p/\(p:Int)=100^ns.length
 | [],a=>⟨1,by decide,λb=>⟨by show b-a=(b-a)*1;omega,rfl⟩⟩
 | x::ns,a=>by obtain⟨p,hp,h⟩:=Sd ns (a*100+x);refine⟨100*p,by omega,λb=>?_⟩;obtain⟨h1,h2⟩:=h (b*100+x);refine⟨?_,by rw[bB,Int.pow_succ,h2];omega⟩;show FN (b*100+x) ns-FN (a*100+x) ns=_;rw[h1,show b*100+x-(a*100+x)=(b-a)*100 by omega,dX]
theorem Bg{m:Nat}:∀{ns:List Int},TH m ns=aD->0<=FN 0 ns/\FN 0 ns<100^ns.length:=by
 induction m with
 | zero=>
  intro ns h;have:ns=[]:=by unfold TH at h;simp only[ak,decide_eq_true_eq] at h;exact b8.mp h.1
  subst this;exact⟨by decide,by decide⟩
 | succ m ih=>
  intro ns h
  cases ns with
  | nil=>unfold TH at h;simp at h
  | cons x ns=>
   obtain⟨h0,h1,h2⟩:=TJ h;obtain⟨i0,i1⟩:=ih h2;obtain⟨p,hp,hs⟩:=Sd ns 0;obtain⟨s1,s2⟩:=hs x;have e:FN 0 (x::ns)=FN (0*100+x) ns:=rfl;rw[e,show(0:Int)*100+x=x by omega,bB,Int.pow_succ];have e2:(x-0)*p=x*p:=by rw[Int.sub_zero]
   rw[e2] at s1;rw[<-s2] at i1 ⊢;have m1:0<=x*p:=du h0 (by omega);have m2:x*p<=99*p:=dk (by omega) (by omega);omega
theorem P9{m:Nat}{x y:Int}{ns ms:List Int}(hx:TH m ns=aD)(hy:TH m ms=aD):(x<y->Sb (x::ns)<Sb (y::ms))/\(x=y->Sb (x::ns)-Sb (y::ms)=Sb ns-Sb ms):=by
 obtain⟨p,hp,hs⟩:=Sd ns 0;obtain⟨q,hq,ht⟩:=Sd ms 0;have l1:ns.length=m:=by unfold TH at hx;simp only[ak,decide_eq_true_eq] at hx;exact hx.1
 have l2:ms.length=m:=by unfold TH at hy;simp only[ak,decide_eq_true_eq] at hy;exact hy.1
 obtain⟨a0,a1⟩:=Bg hx;obtain⟨b0,b1⟩:=Bg hy;obtain⟨s1,s2⟩:=hs x;obtain⟨t1,t2⟩:=ht y;have epq:q=p:=by rw[t2,s2,l1,l2]
 subst epq;rw[<-s2] at a1;rw[<-t2] at b1;have ex:Sb (x::ns)=FN x ns:=by show FN (0*100+x) ns=_;rw[show(0:Int)*100+x=x by omega]
 have ey:Sb (y::ms)=FN y ms:=by show FN (0*100+y) ms=_;rw[show(0:Int)*100+y=y by omega]
 have zx:Sb ns=FN 0 ns:=rfl;have zy:Sb ms=FN 0 ms:=rfl;rw[ex,ey,zx,zy];rw[Int.sub_zero] at s1 t1;refine⟨λh=>?_,λh=>by subst h;omega⟩;have:x*q+q<=y*q:=by have:=dk (show x+1<=y by omega) (show 0<=q by omega);rw[km] at this;omega
 omega
theorem Ko:∀{m:Nat}{ns ms:List Int},TH m ns=aD->TH m ms=aD->Sb ns=Sb ms->ns=ms
 | 0,ns,ms,h1,h2,_=>by unfold TH at h1 h2;simp only[ak,decide_eq_true_eq] at h1 h2;rw[b8.mp h1.1,b8.mp h2.1]
 | m+1,[],_,h1,_,_=>by unfold TH at h1;simp at h1
 | m+1,_::_,[],_,h2,_=>by unfold TH at h2;simp at h2
 | m+1,x::ns,y::ms,h1,h2,e=>by
  obtain⟨x0,x1,hx⟩:=TJ h1;obtain⟨y0,y1,hy⟩:=TJ h2;obtain⟨r1,r2⟩:=P9 (x:=x) (y:=y) hx hy;obtain⟨r3,_⟩:=P9 (x:=y) (y:=x) hy hx
  have exy:x=y:=by
   rcases mN x y with h | h | h
   ·have:=r1 h;omega
   ·exact h
   ·have:=r3 h;omega
  have:=r2 exy;rw[exy,Ko hx hy (by omega)]
noncomputable def WY(l:List (List Int)):List (List Int):=l.mergeSort λa b=>decide (Sb a<=Sb b)
theorem US(l:List (List Int)):(WY l).Perm l:=lW l _
theorem Kp(l:List (List Int)):(WY l).Pairwise λa b=>Sb a<=Sb b:=by have:=kC (le:=λa b:List Int=>decide (Sb a<=Sb b)) (λa b c h1 h2=>by simp only[decide_eq_true_eq] at *;omega) (λa b=>by simp only[gy,decide_eq_true_eq];omega) l;exact this.imp λh=>of_decide_eq_true h
theorem Bh{n:Nat}{l m:List (List Int)}(ok:∀p∈l,TH n p=aD)(hp:m.Perm l)(hs:m.Pairwise λa b=>Sb a<=Sb b):m=WY l:=
 jo (le:=λa b=>Sb a<=Sb b) (λa b ha hb h1 h2=>Ko (ok a (hp.mem_iff.mp ha)) (ok b ((US l).mem_iff.mp hb)) (by omega)) hs (Kp l) (hp.trans (US l).symm)
def TtAt(h:ba)(b:aN)(ns:List Int):Prop:=∃o9:List aL,jH o9 ns/\mx h b o9.toArray
theorem TtAt.keep{h h':ba}{b:aN}{p:List Int}(x:TtAt h b p)(k:∀o,h.get? b=aA o->h'.get? b=aA o):TtAt h' b p:=by obtain⟨t,u,o,e,c⟩:=x;exact⟨t,u,o,k o e,c⟩
section
variable {prog:bQ} {w:bu} {A:bw} {E:aL->aQ->Prop} {s:aQ}
theorem JU{Q:Bool->aQ->Prop}:∀{m i:Nat}{vs ws:List aL}{ns ms:List Int},jH vs ns->jH ws ms->TH m ns=aD->TH m ms=aD->Q (decide (Sb ns<Sb ms)) s->KatLex prog w A aD aC Q (vs.zip ws) i s
 | 0,i,vs,ws,ns,ms,hv,hw,h1,h2,h=>by
  have e1:ns=[]:=by unfold TH at h1;simp only[ak,decide_eq_true_eq] at h1;exact b8.mp h1.1
  have e2:ms=[]:=by unfold TH at h2;simp only[ak,decide_eq_true_eq] at h2;exact b8.mp h2.1
  subst e1 e2;cases hv;cases hw;exact kat_nil h
 | m+1,i,_,_,_,_,.nil,_,h1,_,_=>by unfold TH at h1;simp at h1
 | m+1,i,_,_,_,_,.cons _ _ _,.nil,_,h2,_=>by unfold TH at h2;simp at h2
 | m+1,i,_,_,_,_,.cons (ns:=ns) x t hv,.cons (ns:=ms) y u hw,h1,h2,h=>by
  obtain⟨x0,x1,hx⟩:=TJ h1;obtain⟨y0,y1,hy⟩:=TJ h2;obtain⟨r1,r2⟩:=P9 (x:=x) (y:=y) hx hy;obtain⟨r3,_⟩:=P9 (x:=y) (y:=x) hy hx;rw[dS];refine kat_cons (wpAny_eqBool_int (kat_go (λe1=>kat_yes (JU hv hw hx hy ?_)) λe1=>kat_no ?_))
  ·have e1:x=y:=by simpa using e1
   have:=r2 e1;rw[show decide (Sb ns<Sb ms)=decide (Sb (x::ns)<Sb (y::ms)) from decide_eq_decide.mpr (by omega)];exact h
  ·have e1:x≠y:=by simpa using e1
   have:decide (Sb (x::ns)<Sb (y::ms))=decide (x<y):=decide_eq_decide.mpr ⟨λz=>by
    rcases mN x y with q | q | q
    ·exact q
    ·exact absurd q e1
    ·have:=r3 q;omega,r1⟩
   rw[this] at h
   cases i with
   | zero=>exact oneLt_int h
   | succ i=>exact kat_one _ _ (lt_int h)
theorem Zay{m:Nat}{x y:aN}{p q:List Int}{Q:Bool->aQ->Prop}(hx:TtAt s.heap x p)(hy:TtAt s.heap y q)(op:TH m p=aD)(oq:TH m q=aD)(h:Q (decide (Sb p<Sb q)) s) :
  bA (model prog w) A (keyLt' (tuples' aD) (.ref x) (.ref y)) Q E s:=by
 obtain⟨t,it,ox,ex,cx,nx,dx⟩:=hx;obtain⟨t',it',oy,ey,cy,ny,dy⟩:=hy;have l1:=it.length;have l2:=it'.length;have o1:p.length=m:=by unfold TH at op;simp only[ak,decide_eq_true_eq] at op;exact op.1
 have o2:q.length=m:=by unfold TH at oq;simp only[ak,decide_eq_true_eq] at oq;exact oq.1
 refine kat_lt ex dx ey dy ?_;have e:decide (t.toArray.size<t'.toArray.size)=aC:=decide_eq_false (by rw[aU,aU];omega);rw[e];exact JU it it' op oq h
theorem Lj{m:Nat}:∀{bs:List aN}{ps:List (List Int)},(∀(i:Nat)(b:aN)(p:List Int),bs[i]?=aA b->ps[i]?=aA p->TtAt s.heap b p)->(∀p∈ps,TH (m+1) p=aD)->bs.length=ps.length->∃fs:List aL,KatTups s.heap (bs.map bP) fs/\fs.length=bs.length/\∀v∈fs,∃n t,v = .int n t
 | [],[],_,_,_=>⟨[],KatTups.nil,rfl,by simp⟩
 | b::bs,p::ps,h,ho,hl=>by
  obtain⟨fs,h1,h2,h3⟩:=Lj (bs:=bs) (ps:=ps) (λi b' p' e1 e2=>h (i+1) b' p' (by simpa using e1) (by simpa using e2)) (λq hq=>ho q (by simp[hq])) (by simpa using hl);obtain⟨o9,it,o,e,c,n,d⟩:=h 0 b p rfl rfl
  cases it with
  | nil=>have:=ho [] (by simp);unfold TH at this;simp at this
  | cons x t it=>
   refine⟨.int x t::fs,KatTups.cons e c d rfl h1,by simp[h2],λv hv=>?_⟩;rcases aa.mp hv with rfl | hv
   ·exact⟨_,_,rfl⟩
   ·exact h3 v hv
theorem JV{m:Nat}{d:aN}{o:df}{ep:Nat}{bs:List aN}{ps:List (List Int)}{Q:aL->aQ->Prop}(ho:s.heap.get? d=aA o)(hc:o.cls = .type "list")(hd:o.data = .seq (bs.map bP).toArray ep)
  (hl:bs.length=ps.length) (h64:ps.length<64) (ht:∀(i:Nat)(b:aN)(p:List Int),bs[i]?=aA b->ps[i]?=aA p->TtAt s.heap b p) (hok:∀p∈ps,TH (m+1) p=aD) (hnd:ps.Nodup)
  (h:∀(D:aN)(h1 h':ba)(p:Array Nat)(e:Nat),(∀b o,s.heap.get? b=aA o->h1.get? b=aA o)->h1.objs.size<=D->(∀b o,h1.get? b=aA o->h'.get? b=aA o)->h'.get? D=aA (dU "list" (fj (p.toList.map λi=>(bs.map bP).getD i cP)) e)->
   Pm ps.length p->Up (λi=>Sb (ps.getD i [])) p ps.length->Q (.ref D) { s with heap:=h' }) :
  bA (model prog w) A (call (.builtin "sorted") [.ref d]) Q E s:=by
 refine j3 kind_sorted plain_sorted entry_sorted (args_sorted1 _) ?_;unfold iX.«sorted»;refine aH (m:=checkCount "sorted" 1 1 _) (aX ?_);refine aH (wpAny_collect_seq d (.inl rfl) ho hc hd (λh1 hk=>?_) (by rw[aU,aK,hl,dh];omega));rw[show(bs.map bP).toArray.toList=bs.map bP by simp];refine aH (jq ?_ (by rw[aK,hl,dh];omega));have hoL:(h1.push (dU "list" (bs.map bP).toArray 0)).get? h1.objs.size=aA (dU "list" (bs.map bP).toArray 0):=aj _ rfl
 have tps:∀h':ba,(∀b o,b≠h1.objs.size->(h1.push (dU "list" (bs.map bP).toArray 0)).get? b=aA o->h'.get? b=aA o)->∀(i:Nat)(b:aN)(p:List Int),bs[i]?=aA b->ps[i]?=aA p->TtAt h' b p:=λh' k i b p e1 e2=>
  (ht i b p e1 e2).keep λo e=>k b o (bU (aZ (hk b o e))) (aM _ (hk b o e))
 have lens:(bs.map bP).length=ps.length:=by rw[aK,hl]
 have getp:∀i,i<ps.length->ps[i]?=aA (ps.getD i []):=λi hi=>by simp[hi]
 have getb:∀i,i<ps.length->∃b,bs[i]?=aA b/\(bs.map bP).getD i cP = .ref b:=λi hi=>⟨bs[i]'(by omega),by simp[show i<bs.length by omega],by simp[show i<bs.length by omega]⟩;show bA _ _ _ _ _ { s with heap:=h1.push (dU "list" (bs.map bP).toArray 0) };refine aH (eQ (cU slot_list_sort ⟨_,hoL,rfl⟩ entry_list_sort ?body (args_list_sort _)))
 case body=>
  refine Ms (r:=λi=>Sb (ps.getD i [])) (κ:=tuples' aD) hoL (by rw[lens];exact h64) (λi j hi hj e=>?_) (λh2 h' k Q hq=>?_) (λh' k i j hi hj C hC=>?_) λp hp hu=>⟨_,rfl,?_⟩
  ·rw[lens] at hi hj;have e1:=getp i hi;have e2:=getp j hj;have:=Ko (hok _ (av e1)) (hok _ (av e2)) e;rw[this] at e1;obtain⟨h1',e1'⟩:=aS.mp e1;obtain⟨h2',e2'⟩:=aS.mp e2;exact(jz hnd).mp (e1'.trans e2'.symm)
  ·obtain⟨fs,f1,f2,f3⟩:=Lj (s:={ s with heap:=h' }) (tps h' k) hok hl;exact kat_kind (T:=.type "int") f1 (by rw[aK] at h2;omega) (λv hv=>by obtain⟨n,t,rfl⟩:=f3 v hv;exact .now) rfl hq
  ·rw[lens] at hi hj;obtain⟨b1,e1,g1⟩:=getb i hi;obtain⟨b2,e2,g2⟩:=getb j hj;unfold kas_ask;rw[g1,g2];exact Zay (tps h' k i b1 _ e1 (getp i hi)) (tps h' k j b2 _ e2 (getp j hj)) (hok _ (av (getp i hi))) (hok _ (av (getp j hj))) hC
  ·rw[lens] at hp hu;obtain⟨e,he⟩:=sortedHeap_at (out:=fj (p.toList.map λi=>(bs.map bP).getD i cP)) hoL;refine aX ⟨_,rfl,h h1.objs.size h1 _ p e hk (aT _) (λb o q=>?_) he hp hu⟩;rw[sortedHeap_old (bU (aZ q)) (by rw[nO];exact iJ (aZ q))];exact aM _ q
end
structure RfT(H:Hp)(bs:List aN)(ps:List (List Int)):Prop where
 len:bs.length=ps.length
 at':∀(i:Nat)(b:aN)(p:List Int),bs[i]?=aA b->ps[i]?=aA p->H b=aA (.tup (p.map V.int))
def JW(K:aJ):List V->Hp->VK->Prop:=λxs H Q=>∃(d:aN) (bs:List aN) (ps:List (List Int)) (m:Nat),xs=[.ref d]/\SqL K H d (bs.map V.ref)/\RfT H bs ps/\(∀p∈ps,TH (m+1) p=aD)/\ps.length<64/\ps.Nodup/\
 ∀(l:aN)(cs:List aN),H l=aB->RfT H cs (WY ps)->Q (.ref l) (upd H l (.lst (cs.map V.ref)))
theorem Zg1{P:bQ}{w:bu}{H:Hp}{h:ba}{b:aN}{p:List Int}(ok:HOk P w H h)(e:H b=aA (.tup (p.map V.int))):TtAt h b p:=by obtain⟨_,o9,r,q⟩:=(show ObjOk P w H h b (.tup (p.map V.int)) from ok b _ e);exact⟨o9,He r,q⟩
theorem Lk:∀{bs:List aN}{us:List aL},Vals (bs.map V.ref) us->us=bs.map bP
 | [],_,.nil=>rfl
 | b::bs,_,.cons h t=>by rw[Lk t];cases h;rfl
theorem Kq{X:Cx}:XU X (.builtin "sorted") (JW X.K):=by
 intro nu s σ H xs us Q I r h;obtain⟨d,bs,ps,m,rfl,hd,rf,okp,hl,nd,q⟩:=h;obtain⟨u,rfl,rx⟩:=Ry r;cases rx;obtain⟨o9,r',pl,hz⟩:=I.list hd;obtain⟨o,h1,h2,n,h3⟩:=pl.isList;have:=Lk r';subst this;refine JV (bs:=bs) (ps:=ps) h1 h2 h3 rf.len hl (λi b p e1 e2=>Zg1 I.hok (rf.at' i b p e1 e2)) okp nd λD hp1 hp2 p e f1 f2 f3 f4 hp hu=>?_;have I1:Inv X nu σ H { s with heap:=hp1 }:=I.kept (t':=s.toks) f1;let cs:List aN:=p.toList.map λi=>bs.getD i 0;let qs:List (List Int):=p.toList.map λi=>ps.getD i [];have inr:∀j∈p.toList,j<ps.length:=Zcx hp;have lx:=rf.len
 have eqs:qs=WY ps:=Bh okp (HB hp) (by
  rw[j4];intro i j hi hj hij;simp only[qs,aK,cA,hp.sz] at hi hj;have:=hu i j hij hj;simp only[qs,mZ,ku];rw[Xm,Xm] at this;simp only[hp.sz,hi,hj,jY,Option.getD_some] at this;exact kX this)
 have rf2:RfT H cs (WY ps):=by
  rw[<-eqs];refine⟨by simp[cs,qs],λi b q e1 e2=>?_⟩;simp only[cs,qs,aW] at e1 e2
  cases e3:p.toList[i]? with
  | none=>rw[e3] at e1;cases e1
  | some j=>
   rw[e3] at e1 e2;simp only[bc,j9] at e1 e2;have hj:=inr j (av e3);refine rf.at' j b q ?_ ?_
   ·rw[<-e1];simp[show j<bs.length by omega]
   ·rw[<-e2];simp[hj]
 have ev:(p.toList.map λi=>(bs.map bP).getD i cP)=cs.map bP:=by show _=(p.toList.map λi=>bs.getD i 0).map bP;rw[bV (l:=p.toList)];refine ao λj hj=>?_;have:=inr j hj;show _=bP (bs.getD j 0);rw[Bc bP bs 0 (by omega)]
 refine⟨.ref D,upd H D (.lst (cs.map V.ref)),I1.laid (t':=s.toks) f3 f2 (show ObjOk X.prog X.w _ _ _ (.lst (cs.map V.ref)) from⟨?_,cs.map bP,e,Li cs,?_⟩),rfl,q D cs (I1.hok.fresh f2) rf2⟩
 ·simp only[cs,aK,cA,hp.sz];rw[dh];omega
 ·rw[<-ev];exact f4
def Nn:List PV->Option (List (List Int))
 | []=>aA []
 | .tup l::r=>(Vh l).bind λns=>(Nn r).map (ns::·)
 | _=>aB
theorem Pu:∀{l:List PV}{ps:List (List Int)},Nn l=aA ps->l=ps.map λp=>.tup (iL p)
 | [],ps,h=>by cases h;rfl
 | .tup l::r,ps,h=>by obtain⟨ns,e1,e2⟩:=Zd (show(Vh l).bind _=_ from h);obtain⟨qs,e3,e4⟩:=map_some e2;subst e4;rw[a9,<-Pu e3,VP e1]
theorem Np:∀ps:List (List Int),Nn (ps.map λp=>.tup (iL p))=aA ps
 | []=>rfl
 | p::ps=>by rw[a9];show(Vh (iL p)).bind _=_;rw[WC,aO,Np ps];rfl
def HC:List PV->Option PV
 | [.lst l]=>(Nn l).bind λps=>if ps.length<64/\ps.Nodup/\1<=(ps.headD []).length/\ps.all (TH (ps.headD []).length)=aD then aA (.lst ((WY ps).map λp=>.tup (iL p))) else if ps=[] then aA (.lst []) else aB
 | _=>aB
theorem HD{K:aJ}{H:Hp}:∀{cs:List aN}{qs:List (List Int)},RfT H cs qs->Iss K H (qs.map λp=>.tup (iL p)) (cs.map V.ref) []
 | [],[],_=>by simp[Iss]
 | [],_::_,h=>by have:=h.len;simp at this
 | _::_,[],h=>by have:=h.len;simp at this
 | c::cs,q::qs,h=>by have h1:=h.at' 0 c q rfl rfl;have h2:RfT H cs qs:=⟨by have:=h.len;simpa using this,λi b p e1 e2=>h.at' (i+1) b p (by simpa using e1) (by simpa using e2)⟩;rw[a9,a9];unfold Iss;refine⟨_,_,[],[],rfl,?_,HD h2,rfl⟩;unfold Is;exact⟨c,_,rfl,h1,Iss.ofInts _⟩
theorem Bi{K:aJ}{H:Hp}:∀{qs:List (List Int)}{xs:List V}{fp:List aN},Iss K H (qs.map λp=>.tup (iL p)) xs fp->∃cs:List aN,xs=cs.map V.ref/\RfT H cs qs
 | [],xs,fp,h=>by simp only[dq,Iss] at h;exact⟨[],h.1,rfl,λi b p e=>by simp at e⟩
 | q::qs,xs,fp,h=>by
  rw[a9] at h;unfold Iss at h;obtain⟨x,r,f1,f2,rfl,i1,i2,_⟩:=h;obtain⟨cs,rfl,rf⟩:=Bi i2;obtain⟨p,ys,rfl,hp,hi⟩:=i1.tup_inv;obtain⟨rfl,rfl⟩:=hi.iL;refine⟨p::cs,rfl,by simp[rf.len],λi b z e1 e2=>?_⟩
  match i,e1,e2 with
  | 0,e1,e2=>
   simp at e1 e2;subst e1 e2;exact hp
  | i+1,e1,e2=>exact rf.at' i b z (by simpa using e1) (by simpa using e2)
theorem RfT.upd{H:Hp}{cs:List aN}{qs:List (List Int)}(h:RfT H cs qs){l:aN}(hl:H l=aB)(o:HO):RfT (upd H l o) cs qs:=
 ⟨h.len,λi b p e1 e2=>by
  have:=h.at' i b p e1 e2;rw[upd_ne (Zm this hl)];exact this⟩
theorem Zg2{H:Hp}{cs:List aN}(rf:RfT H cs (WY [])):RfT H cs []:=by
 have e0:WY []=[]:=by simp[WY]
 rw[e0] at rf;exact rf
theorem JX{K:aJ}:RCM K (JW K) HC:=λH vs ls l fp h e Q k=>by
 unfold HC at e;split at e
 ·rename_i m;obtain⟨ps,e1,e2⟩:=Zd e;have em:=Pu e1;subst em;obtain⟨v,rfl,i⟩:=h.one_inv;obtain⟨p,xs,fq,rfl,hp,hi,_⟩:=i.lst_inv;obtain⟨bs,rfl,rf⟩:=Bi hi;split at e2
  ·rename_i hc;cases e2;refine⟨p,bs,ps,(ps.headD []).length-1,rfl,.inl (.inl hp),rf,λq hq=>?_,hc.1,hc.2.1,λq cs hq rf=>k _ _ [q] (Same.new hq _) (Is.lst upd_same (HD (rf.upd hq _))) (by simp) λr hr=>?_⟩
   ·rw[show(ps.headD []).length-1+1=(ps.headD []).length by have:=hc.2.2.1;omega];exact bO.mp hc.2.2.2 q hq
   ·rw[aR.mp hr];exact⟨hq,by rw[upd_same];exact bj⟩
  ·split at e2
   ·rename_i hn;cases e2;subst hn;refine⟨p,bs,[],0,rfl,.inl (.inl hp),rf,λq hq=>by simp at hq,by simp,by simp,λq cs hq rf=>k _ _ [q] (Same.new hq _) (Is.lst upd_same (HD (qs:=[]) ((Zg2 rf).upd hq _))) (by simp) λr hr=>?_⟩;rw[aR.mp hr];exact⟨hq,by rw[upd_same];exact bj⟩
   ·cases e2
 ·cases e
def Zcy(K:aJ)(n:Nat)(t:Ax):TG:=λv σ H Q=>∃a xs,v = .ref a/\SqL K H a xs/\xs.length=n/\t xs σ H Q
theorem Zaz{X:Cx}{pos:fZ}{es:List bS}{k:Nat}{t:Ax}{n:Nat}(hc:X.calm=aD)(h:PGs X es t)
  (hn:(gL es X.env).length=n:=by rfl) (hst:(gL es X.env).findIdx? (·.1)=aB:=by rfl):PG X (.Tuple es k pos) (Zcy X.K n t):=by
 intro nu s σ H v u Q I r hw;obtain⟨a,xs,e1,hq,hl,hw⟩:=hw;subst e1;cases r;obtain⟨o9,rv,ht,hz⟩:=I.list hq;rw[assign_Tuple];refine aH (jh ?_);unfold unpack;rw[hst,show(gL es X.env).length=o9.toArray.size by simp[hn,<-hl,rv.length]];refine aH (eQ (kun_itemsOf (I.ok.hd hc) ht.isList λh' hx=>?_));have I1:Inv X nu σ H { s with heap:=h' }:=I.kept (t':=s.toks) λb o e=>hx b o (bU (aZ e)) e;exact h nu _ σ H xs _ Q I1 (by simpa using rv) hw
noncomputable def Kr(is:List Nat)(f:XE):XS:=λs=>(f s).bind λl=>match l with
 | .lst ls=>if ZD ls=aD/\ls.length=is.length then aA (.nx (setAll is ls s)) else aB
 | _=>aB
theorem Bj{X:Cx}{O:List Nat}{st:bx}{f:XE}{is:List Nat}(h:PS X st (K9 (tF X.K f) (Zcy X.K is.length (L5 is))))(hT:∀i∈is,i∉O:=by decide):VS X O is st (Kr is f):=PS.imp h λD σ H ⟨H0,fps,s,out,r,e,k⟩=>by
 obtain⟨l,e1,e⟩:=Zd e
 cases l with
 | lst ls=>
  have e:(if ZD ls=aD/\ls.length=is.length then aA (Out.nx (setAll is ls s)) else aB)=aA out:=e;split at e
  case isFalse=>cases e
  rename_i pl;cases e;refine⟨λ_=>False,s,.lst ls,λ_ z=>z.elim,r.env,e1,λv H1 fp s1 i1 _=>?_⟩;obtain⟨p,xs,fq,rfl,hp,hi,rfl⟩:=i1.lst_inv;have hi:=hi.pureEq pl.1;obtain⟨o6,r2,q2⟩:=Rel.setAll (is:=is) (r.grow s1) hi pl.2 hT λj hj p hp z=>by simp at z
  exact⟨p,xs,rfl,.inl (.inl hp),by rw[hi.len];exact pl.2,SE (by rw[hi.len];exact pl.2) (k o6 _ H1 r2 q2)⟩
 | _=>cases e
end VL
namespace L2
open PySem PySem.Spec PyProof.Rows
theorem Nq{x y:bH}{a c:aN}(h:([(x,a)]:List (bH×aN)).lookup y=aA c):c=a:=by
 simp only[bZ,ml] at h;split at h
 ·exact(bG h).symm
 ·cases h
theorem Pw{x y:bH}{a c:aN}(h:([(x,a)]:List (bH×aN)).lookup y=aA c):y=x:=by
 simp only[bZ,ml] at h;split at h
 ·rename_i e;simpa using e
 ·cases h
end L2
namespace VL
open PySem PySem.Spec PyProof.Rows L2
variable {K:aJ}
def Nr(H:Hp)(e:aN):Hp:=λb=>if b=e then aB else H b
theorem Ks{H:Hp}{e:aN}:Nr H e e=aB:=by unfold Nr;rw[oA rfl]
theorem X6{H:Hp}{e b:aN}(h:b≠e):Nr H e b=H b:=by unfold Nr;rw[oB h]
theorem Se{H:Hp}{e b:aN}(h:H b=aB):Nr H e b=aB:=by
 unfold Nr;split
 ·rfl
 ·exact h
theorem Za0{H:Hp}{e b:aN}{o:HO}(h:Nr H e b=aA o):b≠e/\H b=aA o:=by
 unfold Nr at h;split at h
 ·cases h
 ·rename_i n;exact⟨n,h⟩
theorem Vr{H:Hp}{e b:aN}{o u:HO}(he:H e=aA o)(hb:H b=aA u)(d:u≠o):b≠e:=λz=>by rw[z,he] at hb;exact d (bG hb).symm
section
variable {P:bQ} {w:bu} {H H':Hp} {h h':ba} {e:aN} {eo:df} {fs:List aN}
theorem Bk(x:HOk P w H h)(he:H e=aA (.frz eo (.own 1))):HOk P w (Nr H e) h:=λa o ha=>by
 obtain⟨ne,ha⟩:=Za0 ha
 exact(x a o ha).stay (λ_ _ _ q=>q) (λb q=>by rw[X6 (Vr he q (by nofun))];exact q) (λb xs q=>by rw[X6 (Vr he q (by nofun))];exact q)
  λb u q=>by rw[X6 (Vr he q (by intro z;cases z))];exact q
theorem FO(x:HOk P w H h)(he:H e=aB)(ho:h.get? e=aA eo):HOk P w (upd H e (.frz eo (.own 1))) h:=λb u q=>by
 by_cases z:b=e
 ·subst z;rw[upd_same] at q;cases q;exact⟨ho,_,ho⟩
 ·rw[upd_ne z] at q;exact(x b u q).stay (λ_ _ _ r=>r) (λc r=>by rw[upd_ne (Zm r he)];exact r) (λc xs r=>by rw[upd_ne (Zm r he)];exact r) λc v r=>by rw[upd_ne (Zm r he)];exact r
theorem TabsH.rm{mg:bH->Option aL}{base:ba}(t:TabsH K mg base H)(he:H e=aA (.frz eo (.own 1))):TabsH K mg base (Nr H e):=λq c hq hc=>by obtain⟨Pt,ps,tk,e1,e2,e3,e4⟩:=t q c hq hc;exact⟨Pt,ps,tk,e1,by rw[X6 (Vr he e2 (by nofun))];exact e2,e3,e4⟩
theorem TabsH.add{mg:bH->Option aL}{base:ba}(t:TabsH K mg base H)(he:H e=aB):TabsH K mg base (upd H e (.frz eo (.own 1))):=λq c hq hc=>by obtain⟨Pt,ps,tk,e1,e2,e3,e4⟩:=t q c hq hc;exact⟨Pt,ps,tk,e1,by rw[upd_ne (Zm e2 he)];exact e2,e3,e4⟩
theorem Za1(u:Un fs [] (Nr H e) H' h h')(he:H e=aA (.frz eo (.own 1)))(hn:H' e=aB):Un fs [] H (upd H' e (.frz eo (.own 1))) h h' where
 keep b o q n hf hx:=u.keep b o q (Se n) hf hx
 slot b o q n hf hx:=u.slot b o q (Se n) hf hx
 free b o q n hx:=by rw[upd_ne (λz=>by rw[z,he] at n;cases n)];exact u.free b o q (Se n) hx
 there:=u.there
 tups b xs q:=by have ne:=Vr he q (by nofun);rw[upd_ne ne];exact u.tups b xs (by rw[X6 ne];exact q)
 frzs b o v q:=by
  by_cases z:b=e
  ·subst z;rw[he] at q;cases q;exact upd_same
  ·rw[upd_ne z];exact u.frzs b o v (by rw[X6 z];exact q)
 tbls b ps q:=by have ne:=Vr he q (by nofun);obtain⟨more,z⟩:=u.tbls b ps (by rw[X6 ne];exact q);exact⟨more,by rw[upd_ne ne];exact z⟩
theorem Zez(u:Un fs [] (upd H e (.frz eo (.own 1))) H' h h')(he:H e=aB)(ho:h.get? e=aA eo)(hf:e∉fs)(hok:HOk P w H' h'):Un fs [] H (Nr H' e) h h':=by
 have h1:H' e=aA (.frz eo (.own 1)):=u.frzs e eo _ upd_same;have h2:h'.get? e=aA eo:=(hok e _ h1).1;refine⟨λb o q n hb hx=>?_,λb o q n hb hx=>?_,λb o q n hx=>?_,u.there,λb xs q=>?_,λb o v q=>?_,λb ps q=>?_⟩
 ·by_cases z:b=e
  ·subst z;rw[ho] at q;cases q;exact h2
  ·exact u.keep b o q (by rw[upd_ne z];exact n) hb hx
 ·have z:b≠e:=λz=>hf (z▸hb);exact u.slot b o q (by rw[upd_ne z];exact n) hb hx
 ·by_cases z:b=e
  ·subst z;exact Ks
  ·exact Se (u.free b o q (by rw[upd_ne z];exact n) hx)
 ·have z:=Zm q he;rw[X6 z];exact u.tups b xs (by rw[upd_ne z];exact q)
 ·have z:=Zm q he;rw[X6 z];exact u.frzs b o v (by rw[upd_ne z];exact q)
 ·have z:=Zm q he;obtain⟨more,y⟩:=u.tbls b ps (by rw[upd_ne z];exact q);exact⟨more,by rw[X6 z];exact y⟩
end
mutual
def Y1:PV->Bool
 | .non=>aD
 | .bl _=>aD
 | .int _=>aD
 | .str _=>aD
 | .ty _=>aD
 | .exc _=>aC
 | .exf _ _=>aC
 | .clo _ _=>aC
 | .tup l=>XG l
 | .lst l=>XG l
 | .cst l=>XG l
 | .dK _ l=>XG l
 | .dT _ l=>XG l
def XG:List PV->Bool
 | []=>aD
 | x::r=>Y1 x&&XG r
end
theorem Rd.rm{H:Hp}{e:aN}{eo:df}(he:H e=aA (.frz eo (.own 1))){p:aN}{u:HO}(hu:u≠.own 1)(hf:∀o v,u≠.frz o v)(r:Rd H p u):Rd (Nr H e) p u:=by
 rcases r with r | ⟨o,r⟩
 ·exact .inl (by rw[X6 (Vr he r (hf _ _))];exact r)
 ·exact .inr ⟨o,by rw[X6 (Vr he r (by intro z;cases z;exact hu rfl))];exact r⟩
mutual
theorem Is.rm{H:Hp}{e:aN}{eo:df}(he:H e=aA (.frz eo (.own 1))):∀(l:PV)(v:V)(fp:List aN),Y1 l=aD->Is K H l v fp->Is K (Nr H e) l v fp
 | .non,_,_,_,h=>by simpa only[Is] using h
 | .bl _,_,_,_,h=>by simpa only[Is] using h
 | .int _,_,_,_,h=>by simpa only[Is] using h
 | .str _,_,_,_,h=>by simpa only[Is] using h
 | .ty _,_,_,_,h=>by simpa only[Is] using h
 | .exc _,_,_,hp,_=>by simp[Y1] at hp
 | .exf _ _,_,_,hp,_=>by simp[Y1] at hp
 | .clo _ _,_,_,hp,_=>by simp[Y1] at hp
 | .tup l,v,fp,hp,h=>by simp only[Is] at h ⊢;obtain⟨p,xs,e1,h1,hi⟩:=h;exact⟨p,xs,e1,by rw[X6 (Vr he h1 (by nofun))];exact h1,Iss.rm he l xs fp (by simpa only[Y1] using hp) hi⟩
 | .lst l,v,fp,hp,h=>by simp only[Is] at h ⊢;obtain⟨p,xs,fq,e1,h1,hi,e2⟩:=h;exact⟨p,xs,fq,e1,by rw[X6 (Vr he h1 (by nofun))];exact h1,Iss.rm he l xs fq (by simpa only[Y1] using hp) hi,e2⟩
 | .cst l,v,fp,hp,h=>by
  simp only[Is] at h ⊢;obtain⟨p,xs,e1,h1,hi⟩:=h;refine⟨p,xs,e1,?_,Iss.rm he l xs fp (by simpa only[Y1] using hp) hi⟩;rcases h1 with⟨o,h1⟩ | h1
  ·exact .inl ⟨o,by rw[X6 (Vr he h1 (by intro z;cases z))];exact h1⟩
  ·exact .inr h1
 | .dK ks l,v,fp,hp,h=>by simp only[Is] at h ⊢;obtain⟨p,o4,fq,e1,h1,hk,hi,e2⟩:=h;exact⟨p,o4,fq,e1,Rd.rm he (λz=>HO.noConfusion z) (λ_ _ z=>HO.noConfusion z) h1,hk,Iss.rm he l _ fq (by simpa only[Y1] using hp) hi,e2⟩
 | .dT ks l,v,fp,hp,h=>by simp only[Is] at h ⊢;obtain⟨p,o4,fq,e1,h1,hk,hi,e2⟩:=h;exact⟨p,o4,fq,e1,Rd.rm he (λz=>HO.noConfusion z) (λ_ _ z=>HO.noConfusion z) h1,hk,Iss.rm he l _ fq (by simpa only[Y1] using hp) hi,e2⟩
theorem Iss.rm{H:Hp}{e:aN}{eo:df}(he:H e=aA (.frz eo (.own 1))):∀(l:List PV)(xs:List V)(fp:List aN),XG l=aD->Iss K H l xs fp->Iss K (Nr H e) l xs fp
 | [],_,_,_,h=>by simpa only[Iss] using h
 | l::ls,xs,fp,hp,h=>by simp only[XG,ak] at hp;obtain⟨x,r,f1,f2,e1,h1,h2,e2⟩:=h.inv;subst e1 e2;exact Iss.cons (Is.rm he l x f1 hp.1 h1) (Iss.rm he ls r f2 hp.2 h2)
end
structure Nt(N ps:List bH)(L:Mh):Prop where
 kind:L.scope.kind = .function
 co:L.scope.isCoroutine=aC
 gen:L.scope.isGenerator=aC
 nocell:∀y∈L.scope.names,y.2≠.cell
 nd:N.Nodup
 eq:N=ps++[L.free]
 par:∀x∈ps,L.scope.names.lookup x=aA .local
 fre:L.scope.names.lookup L.free=aA .free
 one:∀y∈L.scope.names,y.2 = .free->y.1=L.free
 qn:PF L.qual=aC
noncomputable def Bm(P:bQ)(w:bu)(K:aJ)(mg:bH->Option aL)(base:ba)(N:List bH)(L:Mh)(f c e:aN)(A:bw)(outer:List lZ)(s:aQ)(H:Hp):Cx where
 prog:=P
 w:=w
 K:=K
 mg:=mg
 base:=base
 A:=A.deeper (jM L.qual L.scope s.heap.objs.size f (.ref c) [(L.free,e)])
 N:=N
 s₀:=s
 H₀:=H
 env:=jM L.qual L.scope s.heap.objs.size f (.ref c) [(L.free,e)]
 outer:=outer
 stack:=jM L.qual L.scope s.heap.objs.size f (.ref c) [(L.free,e)]::outer
 ex:=[]
 calm:=aD
 fn:=λ_=>aC
 pn:=[]
 xe:=λ_ _=>False
theorem Bn:∀{ps:List bH}{us:List aL}{i:Nat}{x:bH}{u:aL},ps.Nodup->ps[i]?=aA x->us[i]?=aA u->(ps.zip us).reverse.lookup x=aA u:=by
 intro ps
 induction ps with
 | nil=>intro us i x u _ h _;simp at h
 | cons p r ih=>
  intro us i x u nd hx hu
  cases us with
  | nil=>simp at hu
  | cons v us=>
   rw[dS,List.reverse_cons,List.lookup_append]
   cases i with
   | zero=>
    have e1:p=x:=by simpa using hx
    have e2:v=u:=by simpa using hu
    subst e1 e2
    have nm:(r.zip us).reverse.lookup p=aB:=by
     rw[List.lookup_eq_none_iff];intro q hq;have:=(gq (List.mem_reverse.mp hq)).1;simp only[beq_eq_false_iff_ne,ne_eq,m3,bne_iff_ne]
     first
      | (intro z;rw[<-z] at this;exact(ar.mp nd).1 this)
      | (simp;intro z;rw[<-z] at this;exact(ar.mp nd).1 this)
    rw[nm];simp[bZ]
   | succ i=>
    rw[ih (ar.mp nd).2 (by simpa using hx) (by simpa using hu)];rfl
end VL
namespace VL
open PySem PySem.Spec PyProof.Rows L2
variable {K:aJ}
section
variable {P:bQ} {w:bu} {mg:bH->Option aL} {base:ba}
theorem Za2{N ps:List bH}{L:Mh}{f c e:aN}{A:bw}{outer:List lZ}{s:aQ}{H:Hp}{us:List aL}{vs:List V}{x:V}{u:aL}{h₁:ba}{tk:Nat}
  (S:Nt N ps L) (hd:A.handled=aB) (e0:Env0 P w K mg base A outer s H) (hl:vs.length=ps.length) (r:Vals vs us) (he:H e=aB) (hc:s.heap.IsCell e (aA u)) (rx:RelV x u)
  (hns:h₁.Ns s.heap.objs.size (λy=>(ps.zip us).reverse.lookup y)) (old:∀b o,s.heap.get? b=aA o->h₁.get? b=aA o) :
  Inv (Bm P w K mg base N L f c e A outer s H) [] (vs.map aA++[aA x]) H { s with heap:=h₁,toks:=tk }:=by
 have noA:∀b:aN,b∉(Bm P w K mg base N L f c e A outer s H).ex:=λb z=>absurd (show b∈([]:List aN) from z) (by simp);have ndP:ps.Nodup:=by have:=S.nd;rw[S.eq] at this;exact(dG.mp this).1
 have hcl:h₁.IsCell e (aA u):=hc.keeps old
 refine⟨⟨e0.mod,S.kind,rfl,rfl,aT _,λy z a h1 h2=>(Pw h1).trans (Pw h2).symm,λy hy=>?_,λy a z=>(by cases z),λ_=>hd,ke e0.frames,.inr ⟨rfl,rfl⟩,λb z=>absurd z (noA b),e0.bs,e0.bsz,λb _ _=>noA b,λb z=>absurd z (noA b),e0.funs,e0.frf,e0.tab,λq _ hq hn=>?_⟩,
  rfl,e0.bare,Un.kept old,⟨_,hns,λi y v h1 h2 h3=>?_⟩,λy a h=>?_,e0.hok.fresh (aT _),λy a h=>?_,λp hp=>absurd (show p∈([]:List (aN×df)) from hp) (by simp),e0.hok.kept old,?_⟩
 ·have hy:L.scope.names.lookup y=aA .cell\/L.scope.names.lookup y=aA .free:=hy;rcases hy with hy | hy
  ·exact absurd rfl (S.nocell _ (cz hy))
  ·have ey:y=L.free:=S.one _ (cz hy) rfl;refine⟨e,?_⟩;show([(L.free,e)]:List (bH×aN)).lookup y=_;rw[ey];simp[bZ]
 ·have:q=L.qual:=(GU (show L.qual++_=q++_ from hq)).symm;rw[this,S.qn] at hn;cases hn
 ·have h1:N[i]?=aA y:=h1;rw[S.eq] at h1;by_cases hi:i<vs.length
  ·rw[az (by simpa using hi),aW] at h2;rw[az (by omega)] at h1
   cases q:vs[i]? with
   | none=>rw[q] at h2;cases h2
   | some a=>
    rw[q] at h2;cases h2;obtain⟨z,hz,rv⟩:=r.get q;exact⟨z,rv,.inl ⟨S.par y (av h1),Bn ndP h1 hz⟩⟩
  ·rw[bK (by simpa using hi),aK] at h2;rw[bK (by omega)] at h1
   have e1:i-vs.length=0:=by
    cases q:i-vs.length with
    | zero=>rfl
    | succ n=>rw[q] at h2;simp at h2
   have e2:i-ps.length=0:=by omega
   rw[e1] at h2;rw[e2] at h1;have e3:x=v:=by simpa using h2
   have e4:L.free=y:=by simpa using h1
   subst e3 e4;refine⟨u,rx,.inr ⟨.inr S.fre,e,?_,hcl⟩⟩;show([(L.free,e)]:List (bH×aN)).lookup L.free=_;simp[bZ]
 ·have h:([(L.free,e)]:List (bH×aN)).lookup y=aA a:=h;rw[Nq h];exact⟨_,hcl⟩
 ·have h:([(L.free,e)]:List (bH×aN)).lookup y=aA a:=h;rw[Nq h];exact he
 ·show _=N.length;rw[S.eq];simp[hl]
def spL(K:aJ)(L:Mh)(f:aN)(D:PV->List PV->Option PV)(n:Nat):Sp:=λvs H Q _=>vs.length=n/\∃l ls u x fp fps r,CloAt H L (.ref f) u/\RelV x u/\Is K H l x fp/\Y1 l=aD/\Iss K H ls vs fps/\XG ls=aD/\D l ls=aA r/\ZH r=aD/\
 ∀v H',Same H H'->Is K H' r v []->Q v H'
def FP(P:bQ)(w:bu)(K:aJ)(mg:bH->Option aL)(base:ba)(k:Nat)(L:Mh)(D:PV->List PV->Option PV)(n:Nat):Prop:=
 ∀(A:bw)(outer:List lZ)(s:aQ)(H:Hp)(f:aN)(us:List aL)(vs:List V)(Q:VK)(E:XK),Room k A->Env0 P w K mg base A outer s H->Vals vs us->spL K L f D n vs H Q E->
  kM (model P w) A (.call (.ref f) ⟨us,[]⟩) (CR LJ outer P w H s Q E) s
theorem Env0.rm{A:bw}{outer:List lZ}{s:aQ}{H:Hp}{e:aN}{eo:df}(e0:Env0 P w K mg base A outer s H)(he:H e=aA (.frz eo (.own 1))):Env0 P w K mg base A outer s (Nr H e):=
 ⟨e0.frames,e0.mod,λb o q=>⟨(e0.bs b o q).1,Se (e0.bs b o q).2⟩,e0.bsz,e0.funs,λb hb=>Se (e0.frf b hb),TabsH.rm e0.tab he,Bk e0.hok he,e0.bare⟩
theorem Ze0{N ps:List bH}{L:Mh}{k n:Nat}(f:XE)(S:Nt N ps L)
  (hb:∀(cl:List (bH×aN))(pm cdv ct:aL)(us:List aL),us.length=ps.length->i6 (gO "<lambda>" L.qual L.params L.body L.scope cl pm cdv ct) ⟨us,[]⟩=pure (ps.zip us)) (hn:ps.length=n)
  (hbody:∀(fa c e:aN)(A:bw)(outer:List lZ)(s:aQ)(H:Hp),Room k (A.deeper (jM L.qual L.scope s.heap.objs.size fa (.ref c) [(L.free,e)]))->VE (Bm P w K mg base N L fa c e A outer s H) L.body f) :
  FP P w K mg base (k+1) L (λl ls=>f (ls.map aA++[aA l])) n:=by
 intro A outer s H fa us vs Q E hr e0 rv hsp;obtain⟨hl,l,ls,u,x,fp,fps,r,⟨fa',fo,c,oc,e,eo,pm,ct,hv,hf,hfo,hc,hco,he,heo⟩,rx,il,pl,is,pls,hD,pr,q⟩:=hsp;cases hv;have ho:s.heap.get? fa=aA fo:=(e0.hok fa _ hf).1;have hoc:s.heap.get? c=aA oc:=(e0.hok c _ hc).1;have hoe:s.heap.get? e=aA eo:=(e0.hok e _ he).1;obtain⟨cvs,ctk,hcd,hcq⟩:=hco;have hle:vs.length=ps.length:=by rw[hl,hn]
 have lim:s.heap.NoLimit:=e0.mod.nolimit.keeps λb o e=>(e0.bs b o e).1;refine PySem.W.kla_callFunE hr.depth ho hfo S.co S.gen rfl ⟨c,oc,cvs,ctk,rfl,hoc,hcd,hcq⟩ ?_;rw[hb _ _ _ _ us (by rw[<-rv.length];exact hle)];refine aX (kg S.nocell (λy hy=>S.par y.1 (gq hy).1) (λh₁ hns hsb=>?_) S.kind);have old:∀b o,s.heap.get? b=aA o->h₁.get? b=aA o:=λb o q=>hsb.extBut b o (bU (aZ q)) (aM _ q);refine⟨lim.keeps old,?_⟩;show kM _ _ (.expr L.body (jM L.qual L.scope s.heap.objs.size fa (.ref c) [(L.free,e)])) _ _;refine PySem.W.kla_codeExpr ?_;have e1:=Env0.rm e0 he;have I:=Za2 (f:=fa) (c:=c) (tk:=s.toks+(ps.zip us).length) S hr.hd e1 hle rv Ks ⟨eo,hoe,heo⟩ rx hns old
 have env:EnvIs K (λ_=>False) (Nr H e) (ls.map aA++[aA l]) (vs.map aA++[aA x]):=⟨λi a hi=>by
  have hlv:=is.len;by_cases hlt:i<ls.length
  ·rw[az (by simpa using hlt),aW] at hi
   cases z:ls[i]? with
   | none=>rw[z] at hi;cases hi
   | some b=>
    rw[z] at hi;cases hi;obtain⟨v,f1,h1,h2,_⟩:=is.get z;refine⟨v,f1,?_,Is.rm he _ _ _ ?_ h2,λ_ _ z=>z⟩
    ·rw[az (by rw[aK];omega),aW,h1];rfl
    ·have all:∀(m:List PV),XG m=aD->∀y∈m,Y1 y=aD:=by
      intro m
      induction m with
      | nil=>intro _ y hy;simp at hy
      | cons a r ih=>
       intro hm y hy;simp only[XG,ak] at hm;rcases aa.mp hy with rfl | hy
       ·exact hm.1
       ·exact ih hm.2 y hy
     exact all ls pls _ (av z)
  ·rw[bK (by simpa using hlt),aK] at hi
   have z:i-ls.length=0:=by
    cases q:i-ls.length with
    | zero=>rfl
    | succ n=>rw[q] at hi;simp at hi
   rw[z] at hi;have e3:l=a:=by simpa using hi
   subst e3;refine⟨x,fp,?_,Is.rm he _ _ _ pl il,λ_ _ z=>z⟩;rw[bK (by rw[aK];omega),aK,show i-vs.length=0 by omega];rfl⟩
 refine cQ (hbody fa c e A outer s (Nr H e) (hr.deeper _) [] _ _ _ (λv H'=>Same (Nr H e) H'/\∃fq,Is K H' r v fq) I ⟨λ_=>False,_,r,λ_ z=>z.elim,env,hD,λv H' fq sm i _=>⟨sm,fq,i⟩⟩) (λy s' hs=>?_) λ_ _ hs=>hs.elim;obtain⟨v,H',J,ry,sm,fq,i⟩:=hs;have hn':H' e=aB:=J.freeC L.free e (by show([(L.free,e)]:List (bH×aN)).lookup L.free=_;simp[bZ]);have hb':Un (Lz outer) [] (Nr H e) H' s.heap s'.heap:=J.base;have enf:e∉Lz outer:=λz=>by rw[e0.frf e z] at he;cases he
 have he':s'.heap.get? e=aA eo:=hb'.keep e eo hoe Ks enf (by simp);have i2:=Is.pure _ _ _ pr i;subst i2
 have sm2:Same H (upd H' e (.frz eo (.own 1))):=λb o hb=>by
  by_cases z:b=e
  ·subst z;rw[he] at hb;cases hb;exact upd_same
  ·rw[upd_ne z];exact sm b o (by rw[X6 z];exact hb)
 show CE outer P w H s Q y s';exact⟨v,_,J.os,J.bare,Za1 hb' he hn',FO J.hok hn' he',ry,q v _ sm2 (i.mono (Same.new hn' _))⟩
end
def JY(T:Mh->PV->List PV->Option PV)(i:Nat)(fs:List XE):XE:=λs=>match s[i]? with
 | some (aA (.clo L l))=>(QC fs s).bind λls=>if(Y1 l&&XG ls)=aD then(T L l ls).bind (λr=>if ZH r=aD then aA r else aB) else aB
 | _=>aB
section
variable {X:Cx} {x:bH} {k:Nat} {e:bS} {es:List bS} {fs:List XE} {p pos:fZ}
theorem Ze1(i:Nat){T:Mh->PV->List PV->Option PV}{n:Nat}(hN:X.N[i]?=aA x)(hv:Vis X.env.scope x)(hT:∀L,(∃l ls r,T L l ls=aA r)->FP X.prog X.w X.K X.mg X.base k L (T L) n)(hr:Room k X.A)(ha:VA X (e::es) fs)(hn:fs.length=n:=by rfl)
  (hdb:(x==("__debug__" : bH))=aC:=by decide) (hcd:(x==("__classdict__" : bH))=aC:=by decide) (he:aV (e::es) X.env=(aC,eval e X.env)::aV es X.env:=by rfl) (hpl:(eI pos (aV es X.env)).any (·.1)=aC:=by rfl) :
  VM X (.Call (.Name x p) (e::es) [] pos) (JY T i fs):=by
 intro nu s σ H Q I ⟨st,r,env,ev,q⟩;unfold JY at ev;split at ev
 ·rename_i L l hs;obtain⟨ls,e1,e2⟩:=Zd ev;split at e2
  ·rename_i hp;simp only[ak] at hp;obtain⟨r',e3,e4⟩:=Zd e2;split at e4
   ·rename_i hpr;cases e4;obtain⟨v,fp,hv1,hi,_⟩:=env.is i _ hs;have hi':=hi;simp only[Is] at hi';obtain⟨u,y,hclo,ry,il⟩:=hi';obtain⟨f,fo,c,oc,ce,eo,pm,ct,ev1,hf,hfo,_⟩:=id hclo;subst ev1;have fnat:∀{s1:aQ}{H1:Hp},Inv X nu σ H1 s1->H1 f=aA (.frz fo (.own 0))->PySem.W.FnAt f s1.heap:=λ{s1 H1} I1 h1=>by have:=(I1.hok f _ h1).1;obtain⟨oc',od',dat,sl'⟩:=fo;cases (show dat=_ from hfo);exact⟨_,_,_,_,this⟩
    refine e7 (YN (DU (pos:=p) hN hv hdb hcd nu s σ H (λv1 H1=>v1 = .ref f/\H1=H) I ⟨_,hv1,rfl,rfl⟩) λuf s1 ⟨v1,H1,I1,r1,ef,eH⟩=>?_);subst ef eH;obtain rfl:uf=bP f:=r1;refine PySem.W.callWith_F (fnat I1 hf) (YN (ha pos nu s1 σ H1 (λvs H2=>Same H1 H2/\∃fps,Iss X.K H2 ls vs fps) I1 ⟨λ_=>False,st,ls,λ_ z=>z.elim,env,e1,λvs H2 fps sm i2 _=>⟨sm,fps,i2⟩⟩) λus s2 ⟨vs,H2,I2,rv,sm,fps,i2⟩=>⟨fnat I2 (sm f _ hf),?_⟩) he hpl;refine nE (jG (hT L ⟨l,ls,r,e3⟩ X.A X.stack s2 H2 f us vs Q E0 hr I2.env0 rv ⟨by rw[i2.len,VJ e1,hn],l,ls,u,y,fp,fps,r,hclo.tr (Same.tk2 sm),ry,il.mono sm,hp.1,i2,hp.2,e3,hpr,λv H' sm' i'=>q v H' [] (sm.trans sm') i' cG λp hp=>by simp at hp⟩) λrr s' hq=>?_)
    cases rr with
    | error er=>exact(show False from hq).elim
    | ok fl=>
     cases fl with
     | ret u'=>exact I2.after hq
     | next=>exact dN hq
     | brk=>exact dN hq
     | cont=>exact dN hq
   ·cases e4
  ·cases e2
 ·cases ev
end
end VL
namespace VL
open PySem PySem.Spec PyProof.Rows L2
variable {K:aJ}
theorem HE{pos pos':fZ}{c v:aL}{a b:Int}(l:List aL)(h:TriplesOk l)(hv:jO pos (l++[gD a,gD b,c])=aA v):jO pos l=aA v\/v=c:=by
 fun_induction TriplesOk l with
 | case1=>
  simp only[k3,jO,gD] at hv;split at hv
  ·exact .inr (bG hv).symm
  ·cases hv
 | case2 a' t b' u x Zu ih=>
  simp only[iV,jO] at hv ⊢;split at hv
  ·rename_i hc;rw[oA hc];exact .inl hv
  ·rename_i hc;rw[oB hc];exact ih h hv
 | case3 l h1 h2=>exact h.elim
def Zik(X:Cx)(L:Mh):TE:=λ_ H Q=>∀f fo c oc e pm ct H1,Same H H1->H1 f=aA (.frz fo (.own 0))->fo.data = .func (gO "<lambda>" L.qual L.params L.body L.scope [(L.free,e)] pm (.ref c) ct)->
 H1 c=aA (.frz oc (.own 0))->IS oc L.qual->X.env.cells.lookup L.free=aA e->Q (.ref f) H1
section
variable {X:Cx}
theorem Ze2{q:bH}{L:Mh}{lpos:fZ}(hfn:X.env.func≠aB)(hq:X.env.qual=q++".<locals>.")(hlm:PF q=aD)(hL:L.qual=Ot q)(hdef:nP L.params X.env=([],[]))
  (hcl:∃e,X.env.cells.lookup L.free=aA e/\kT L.scope X.env=pure [(L.free,e)]):PE X (.Lambda L.params L.body L.scope lpos) (Zik X L):=by
 intro nu s σ H Q I h;obtain⟨e,hce,hcl⟩:=hcl;have hcod:=I.ok.cod q hfn hq hlm
 obtain⟨c₀,hcode⟩:∃c₀,X.env.code = .ref c₀:=by
  cases z:X.env.code with
  | ref c=>exact⟨c,rfl⟩
  | _=>rw[z] at hcod;simp[cg] at hcod
 rw[hcode] at hcod;obtain⟨Pt,ps,tk,hC,hP,hq0,hB⟩:=(TabsH.un I.ok.tab I.base) q c₀ hlm hcod;obtain⟨q',tk',ps',eq,hg,ht1,ht2⟩:=(show ObjOk X.prog X.w H s.heap Pt (.tbl ps) from I.hok Pt _ hP);rw[hq0] at eq;cases eq;have hns:s.heap.Ns cJ X.mg:=I.mod.glob.keeps I.bk;have hgP:cJ≠Pt:=λz=>by obtain⟨o,es,ep,e1,hd,_⟩:=hns;rw[z,hg] at e1;cases e1;cases hd
 have hB':s.heap.BuiltinsAt X.mg Pt:=by obtain⟨bm,ob,b1,b2,b3,b4,b5,b6⟩:=hB;exact⟨bm,ob,b1,b2,b3,b4,I.bk _ _ b5,b6⟩
 have hqual:X.env.qual++"<lambda>" = L.qual:=by rw[hq,hL];rfl
 have fresh:∀b,s.heap.objs.size<=b->H b=aB:=λb hb=>I.hok.fresh hb;refine PySem.W.kla_eval hdef ?_;rw[hqual]
 cases hf:jO lpos ps'.toList with
 | none=>
  refine PySem.W.kla_makeFunction (mg:=X.mg) hcl I.ok.glob hns hcode (hC.keeps I.bk) hg ht1 hf hgP hB' λc' ctv h' tk2 hx hge hlt hrec htb=>?_;obtain⟨c2,oc,vs,t,e2,hoc,hd,hv⟩:=hrec;cases e2;generalize hfo:PySem.W.kla_obj "<lambda>" L.qual L.params L.body L.scope [(L.free,e)] ((X.mg "__name__").getD .none) c' ctv=fo;have hfd:fo.data = .func (gO "<lambda>" L.qual L.params L.body L.scope [(L.free,e)] ((X.mg "__name__").getD .none) (.ref c') ctv):=by rw[<-hfo]
  have hfne:h'.objs.size≠c':=gV hlt;have hsz:s.heap.objs.size<=h'.objs.size:=bg hge (cZ hlt);have nc:H c'=aB:=fresh _ hge;have nf:H h'.objs.size=aB:=fresh _ hsz;have hP1:Pt<s.heap.objs.size:=aZ hg;have up:∀b o,H b=aA o->upd (upd H c' (.frz oc (.own 0))) h'.objs.size (.frz fo (.own 0)) b=aA o:=λb o hb=>by rw[upd_ne (Zm hb nf),upd_ne (Zm hb nc)];exact hb
  have kk:∀b o,b≠Pt->s.heap.get? b=aA o->(h'.push fo).get? b=aA o:=λb o hb hbo=>aM _ (hx b o hb hbo);have gP:(h'.push fo).get? Pt=aA (gR (ps'++#[gD lpos.line,gD lpos.col,.ref c'])):=aM _ htb
  have un:Un X.fs [] H (upd (upd H c' (.frz oc (.own 0))) h'.objs.size (.frz fo (.own 0))) s.heap (h'.push fo):=by
   refine⟨λb o hb n _ _=>kk b o (λz=>by rw[z,hP] at n;cases n) hb,λb o hb n _ _=>⟨o.slots,kk b o (λz=>by rw[z,hP] at n;cases n) hb⟩,λb o hb n _=>?_,λb o hb _=>?_,λb xs hb=>up b _ hb,λb o u hb=>up b _ hb,λb ps hb=>⟨#[],by rw[up b _ hb];simp⟩⟩
   ·have hlb:=aZ hb;rw[upd_ne (bU (bM hlb hsz)),upd_ne (bU (bM hlb hge))];exact n
   ·by_cases z:b=Pt
    ·rw[z];exact⟨_,gP⟩
    ·exact⟨o,kk b o z hb⟩
  have gc:(h'.push fo).get? c'=aA oc:=aM _ hoc;have gf:(h'.push fo).get? h'.objs.size=aA fo:=aj _ (by rw[<-hfo];rfl);have upc:upd (upd H c' (.frz oc (.own 0))) h'.objs.size (.frz fo (.own 0)) c'=aA (.frz oc (.own 0)):=by rw[upd_ne (bX hfne),upd_same]
  have hok:HOk X.prog X.w (upd (upd H c' (.frz oc (.own 0))) h'.objs.size (.frz fo (.own 0))) (h'.push fo):=λb u hb=>by
   by_cases z1:b=h'.objs.size
   ·subst z1;rw[upd_same] at hb;cases hb;exact⟨gf,_,gf⟩
   ·rw[upd_ne z1] at hb;by_cases z2:b=c'
    ·subst z2;rw[upd_same] at hb;cases hb;exact⟨gc,_,gc⟩
    ·rw[upd_ne z2] at hb;by_cases z3:b=Pt
     ·subst z3;rw[hP] at hb;cases hb;refine⟨_,tk,_,hq0,gP,?_,λpos v hv'=>?_⟩
      ·rw[g7];exact TriplesOk_snoc _ _ _ _ ht1
      ·rw[g7] at hv';rcases HE (pos':=pos) _ ht1 hv' with hv' | hv'
       ·obtain⟨c3,o3,e1,e2,e3⟩:=ht2 pos v hv';exact⟨c3,o3,e1,up _ _ e2,e3⟩
       ·exact⟨c',oc,hv',upc,vs,t,hd,by rw[<-hL];exact hv⟩
     ·exact(I.hok b u hb).stay (λb' o hb' q=>kk b' o (by
       rcases hb' with z | z
       ·rw[z];exact z3
       ·exact λz'=>by rw[z',hP] at z;cases z) q) (λb' q=>up _ _ q) (λb' xs q=>up _ _ q) λb' u' q=>up _ _ q
  have I1:=I.un (t':=tk2) un hok;exact⟨.ref h'.objs.size,_,I1,rfl,h _ fo c' oc e _ ctv _ up upd_same hfd upc ⟨vs,t,hd,hv⟩ hce⟩
 | some cv=>
  obtain⟨c',oc,e1,hc1,hc2⟩:=ht2 lpos cv hf;subst e1;refine PySem.W.kla_makeFunctionHit (mg:=X.mg) hcl I.ok.glob hns hcode (hC.keeps I.bk) hg ht1 hf hB' λctv h' tk2 hk hsz=>?_;generalize hfo:({ cls:=.type "function",data:=.func (gO "<lambda>" L.qual L.params L.body L.scope [(L.free,e)] ((X.mg "__name__").getD .none) (.ref c') ctv) }:df)=fo;have hfd:fo.data = .func (gO "<lambda>" L.qual L.params L.body L.scope [(L.free,e)] ((X.mg "__name__").getD .none) (.ref c') ctv):=by rw[<-hfo]
  have nf:H h'.objs.size=aB:=fresh _ hsz;have up:∀b o,H b=aA o->upd H h'.objs.size (.frz fo (.own 0)) b=aA o:=λb o hb=>by rw[upd_ne (Zm hb nf)];exact hb
  have kk:∀b o,s.heap.get? b=aA o->(h'.push fo).get? b=aA o:=λb o hbo=>aM _ (hk b o hbo);have gf:(h'.push fo).get? h'.objs.size=aA fo:=aj _ (by rw[<-hfo];rfl);have un:Un X.fs [] H (upd H h'.objs.size (.frz fo (.own 0))) s.heap (h'.push fo):=Un.laid kk hsz nf;have hok:HOk X.prog X.w (upd H h'.objs.size (.frz fo (.own 0))) (h'.push fo):=I.hok.laid kk hsz ⟨gf,_,gf⟩;have I1:=I.un (t':=tk2) un hok;exact⟨.ref h'.objs.size,_,I1,rfl,h _ fo c' oc e _ ctv _ up upd_same hfd (up _ _ hc1) (by rw[hL];exact hc2) hce⟩
end
section
variable {X:Cx} {x:bH} {ps:List bH} {sp:Sp} {k:Nat} {e:bS} {es:List bS} {t:TA} {p pos:fZ}
def Ze3(X:Cx)(i:Nat)(y:bH)(sp:Sp)(t:TA):TE:=λσ H Q=>t σ H λvs H1=>∀ce eo u v,X.env.cells.lookup y=aA ce->H1 ce=aB->σ[i]?=aA (aA v)->RelV v u->eo.data = .cell (aA u)->
 ∃Q':VK,sp vs (upd H1 ce (.frz eo (.own 1))) Q' E0/\∀z H',H' ce=aA (.frz eo (.own 1))->Q' z H'->Q z (Nr H' ce)
theorem Bo(C:XW X.prog X.w X.K X.mg X.base x ps sp k)(hr:Room k X.A)(hg:Gl X x)(i:Nat){y:bH}(hN:X.N[i]?=aA y)(hk:X.env.scope.names.lookup y=aA .cell)(hfn:X.fn y=aD)(hσ:∀σ H Q,t σ H Q->∃v,σ[i]?=aA (aA v))(ha:PA X (e::es) t)
  (hdb:(x==("__debug__" : bH))=aC:=by decide) (he:aV (e::es) X.env=(aC,eval e X.env)::aV es X.env:=by rfl) (hpl:(eI pos (aV es X.env)).any (·.1)=aC:=by rfl) :
  PE X (.Call (.Name x p) (e::es) [] pos) (Ze3 X i y sp t):=by
 obtain⟨f,fd,hm,hkp,hb,F⟩:=C.ex;intro nu s σ H Q I h;obtain⟨v,hv⟩:=hσ σ H _ h;refine e7 (GP I hg hm ?_ hdb);refine lh (h₀:=X.base) I.ok.mod.kin hkp (YN (ha pos nu s σ H _ I h) λus s1 ⟨vs,H1,I1,r,q⟩=>⟨I1.kIn,?_⟩) he hpl;obtain⟨m,hns,hl⟩:=I1.loc;obtain⟨u,ru,lk⟩:=hl i y v hN hv (.inr (.inl hk));rcases lk with⟨z,_⟩ | ⟨_,ce,hce,eo,heo,hd⟩
 ·have z:X.env.scope.names.lookup y=aA .local:=z;rw[hk] at z;cases z
 have hn1:H1 ce=aB:=I1.freeC y ce hce;obtain⟨Q',hsp,hQ'⟩:=q ce eo u v hce hn1 hv ru hd;have hab:X.s₀.heap.objs.size<=ce:=I1.ok.cab y ce hfn hce
 have nfs:ce∉Lz X.stack:=λz=>by
  rcases aa.mp (I1.stkSub ce z) with z | z
  ·exact I1.cne y ce hce z
  ·obtain⟨_,o,ho,_⟩:=I1.ok.funs.mem z;exact absurd (bM (aZ ho) hab) (dI _)
 have e0:=I1.env0
 have e1:Env0 X.prog X.w X.K X.mg X.base X.A X.stack s1 (upd H1 ce (.frz eo (.own 1))):=by
  refine⟨e0.frames,e0.mod,λb o hb=>⟨(e0.bs b o hb).1,?_⟩,e0.bsz,e0.funs,λb hb=>?_,TabsH.add e0.tab hn1,FO e0.hok hn1 heo,e0.bare⟩
  ·have:b≠ce:=λz=>by have:=aZ hb;have h2:=I1.ok.bsz;rw[z] at this;exact absurd (bM this (bg h2 hab)) (dI _)
   rw[upd_ne this];exact(e0.bs b o hb).2
  ·have nb:b≠ce:=λz=>by rw[z] at hb;exact nfs hb
   rw[upd_ne nb];exact e0.frf b hb
 have hle:us.length=ps.length:=by rw[<-r.length];exact F.len _ _ _ _ hsp
 have hbd:=hb s1 us I1.kIn (by simpa using hle);rw[di] at hbd;refine nE (jG (F.run X.A X.stack s1 _ ⟨us,[]⟩ us vs Q' E0 hr e1 hbd r hsp) λrr s' hq=>?_)
 cases rr with
 | error er=>exact(show False from hq).elim
 | ok fl=>
  cases fl with
  | ret u'=>
   obtain⟨v',H',os,bare,un,hok,rv,qq⟩:=(show CE X.stack X.prog X.w _ s1 Q' u' s' from hq);have h1:H' ce=aA (.frz eo (.own 1)):=un.frzs ce eo _ upd_same;exact I1.after ⟨v',Nr H' ce,os,bare,Zez un hn1 heo nfs hok,Bk hok h1,rv,hQ' v' H' h1 qq⟩
  | next=>exact dN hq
  | brk=>exact dN hq
  | cont=>exact dN hq
end
end VL
namespace VL
open PySem PySem.Spec PyProof.Rows L2
variable {K:aJ}
noncomputable def QO(D:List PV->Option PV)(f1 f2:XE)(L:Mh)(i:Nat):XE:=λs=>(f1 s).bind λl1=>(f2 s).bind λl2=>match s[i]? with
 | some (aA l)=>(D [l1,l2,.clo L l]).bind λr=>if Y1 r=aD then aA r else aB
 | _=>aB
section
variable {X:Cx} {x:bH} {ps:List bH} {k:Nat} {a b:bS} {f1 f2:XE} {p pos lpos:fZ}
theorem Bp{q:bH}{L:Mh}{D:List PV->Option PV}(C:XW X.prog X.w X.K X.mg X.base x ps (Xd X.K D 3) k)(hr:Room k X.A)(hg:Gl X x)(i:Nat)(hN:X.N[i]?=aA L.free)(hk:X.env.scope.names.lookup L.free=aA .cell)(hfn:X.fn L.free=aD)
  (h1:VE X a f1) (h2:VE X b f2) (hfu:X.env.func≠aB) (hq:X.env.qual=q++".<locals>.") (hlm:PF q=aD) (hL:L.qual=Ot q) (hdef:nP L.params X.env=([],[]))
  (hcl:∃e,X.env.cells.lookup L.free=aA e/\kT L.scope X.env=pure [(L.free,e)])
  (hs1:aV (a::b::[.Lambda L.params L.body L.scope lpos]) X.env=(aC,eval a X.env)::aV (b::[.Lambda L.params L.body L.scope lpos]) X.env) (hs2:aV (b::[.Lambda L.params L.body L.scope lpos]) X.env=(aC,eval b X.env)::aV [.Lambda L.params L.body L.scope lpos] X.env)
  (hs3:aV [.Lambda L.params L.body L.scope lpos] X.env=(aC,eval (.Lambda L.params L.body L.scope lpos) X.env)::aV [] X.env) (hpl:(eI pos (aV (b::[.Lambda L.params L.body L.scope lpos]) X.env)).any (·.1)=aC)
  (hdb:(x==("__debug__" : bH))=aC:=by decide):VM X (.Call (.Name x p) (a::b::[.Lambda L.params L.body L.scope lpos]) [] pos) (QO D f1 f2 L i):=by
 have pa:=Z7 h1 (Z7 h2 (Z7 (Ze2 (lpos:=lpos) hfu hq hlm hL hdef hcl) Xu hs3) hs2) hs1;have pa2:=PA.imp pa (t':=λσ H Q=>(∃v,σ[i]?=aA (aA v))/\_) λσ H Q z=>z.2;refine PE.imp (Bo (t:=_) C hr hg i hN hk hfn (λσ H Q z=>z.1) pa2 hdb hs1 hpl) λσ H Q ⟨s,r,env,e,qq⟩=>?_;unfold QO at e;obtain⟨l1,e1,e⟩:=Zd e;obtain⟨l2,e2,e⟩:=Zd e;split at e
 ·rename_i lc hs;obtain⟨r',hD,e⟩:=Zd e;split at e
  ·rename_i hpr;cases e;obtain⟨v,fpc,hv,ic,_⟩:=env.is i _ hs;refine⟨⟨v,hv⟩,λ_=>False,s,l1,λ_ z=>z.elim,env,e1,λv1 H1 fp1 s1 i1 _=>⟨λ_=>False,s,l2,λ_ z=>z.elim,env.mono s1,e2,λv2 H2 fp2 s2 i2 _=>?_⟩⟩;intro f fo c oc ce' pm ct H3 s3 hf hfd hc hco hce' ce eo u v' hce hn hv' ru hd;have hce2:ce'=ce:=bG (hce'.symm.trans hce);subst hce2;rw[hv] at hv';cases hv';have s4:Same H3 (upd H3 ce' (.frz eo (.own 1))):=Same.new hn _;have icl:Is X.K (upd H3 ce' (.frz eo (.own 1))) (.clo L lc) (.ref f) fpc:=by simp only[Is];exact⟨u,v,⟨f,fo,c,oc,ce',eo,pm,ct,rfl,s4 _ _ hf,hfd,s4 _ _ hc,hco,upd_same,hd⟩,ru,ic.mono (((s1.trans s2).trans s3).trans s4)⟩
   refine⟨λz H'=>∃fq,Same (upd H3 ce' (.frz eo (.own 1))) H'/\Is X.K H' r z fq/\fq.Nodup/\∀p∈fq,upd H3 ce' (.frz eo (.own 1)) p=aB/\Ue (H' p),?_,λz H' hz ⟨fq,sm,ir,nd,nw⟩=>?_⟩
   ·exact⟨rfl,[l1,l2,.clo L lc],_,r,Iss.cons (i1.mono ((s2.trans s3).trans s4)) (Iss.cons (i2.mono (s3.trans s4)) (Iss.one icl)),hD,λz H' fq sm ir nd nw=>⟨fq,sm,ir,nd,nw⟩⟩
   ·have s5:Same H (Nr H' ce'):=λy o hy=>by have h3:H3 y=aA o:=((s1.trans s2).trans s3) y o hy;rw[X6 (Zm h3 hn)];exact sm y o (s4 y o h3)
    refine qq z _ fq s5 (Is.rm hz _ _ _ hpr ir) nd λy hy=>?_;obtain⟨n1,n2⟩:=nw y hy;have ne:y≠ce':=λz=>by rw[z,upd_same] at n1;cases n1
    rw[upd_ne ne] at n1;exact⟨Same.off ((s1.trans s2).trans s3) n1,by rw[X6 ne];exact n2⟩
  ·cases e
 ·cases e
theorem Bq{q:bH}{L:Mh}{pa:lJ}{bo:bS}{sc:gK}{i:Nat}{D:List PV->Option PV}(hLa:L.params=pa)(hLb:L.body=bo)(hLs:L.scope=sc)(C:XW X.prog X.w X.K X.mg X.base x ps (Xd X.K D 3) k)(hr:Room k X.A)(hg:Gl X x)(hN:X.N[i]?=aA L.free)(hk:X.env.scope.names.lookup L.free=aA .cell)(hfn:X.fn L.free=aD)
  (h1:VE X a f1) (h2:VE X b f2) (hfu:X.env.func≠aB) (hq:X.env.qual=q++".<locals>.") (hlm:PF q=aD) (hL:L.qual=Ot q) (hdef:nP pa X.env=([],[]))
  (hcl:∃e,X.env.cells.lookup L.free=aA e/\kT sc X.env=pure [(L.free,e)])
  (hs1:aV (a::b::[.Lambda pa bo sc lpos]) X.env=(aC,eval a X.env)::aV (b::[.Lambda pa bo sc lpos]) X.env) (hs2:aV (b::[.Lambda pa bo sc lpos]) X.env=(aC,eval b X.env)::aV [.Lambda pa bo sc lpos] X.env)
  (hs3:aV [.Lambda pa bo sc lpos] X.env=(aC,eval (.Lambda pa bo sc lpos) X.env)::aV [] X.env) (hpl:(eI pos (aV (b::[.Lambda pa bo sc lpos]) X.env)).any (·.1)=aC)
  (hdb:(x==("__debug__" : bH))=aC:=by decide):VM X (.Call (.Name x p) (a::b::[.Lambda pa bo sc lpos]) [] pos) (QO D f1 f2 L i):=by
 subst hLa hLb hLs;exact Bp C hr hg i hN hk hfn h1 h2 hfu hq hlm hL hdef hcl hs1 hs2 hs3 hpl hdb
end
end VL
namespace VL
open PySem PySem.Spec PyProof.Rows L2
variable {K:aJ}
noncomputable def Px(K:aJ):List (bH×aN×aN):=(["tree_of","still_by","made_of"]:List bH).filterMap λx=>(iZ K x).map λcp=>(x,cp)
def RV(K:aJ)(q:bQ):Bool:=
 nQ K&&decide ((Px K).map (·.2.2)).Nodup&&(Px K).all (λr=>((recsOf q).find? (λe=>e.name==r.1)).isSome)&&
 K.all λp=>match p.2.data with
  | .fields vs=>(match vs.toList with
   | _::.str n _::_=>!(PF n) || (match iZ K n with
    | some (c,_)=>c==p.1
    | none=>aC)
   | _=>aD)
  | _=>aD
theorem E3{x:bH}{c Pt:aN}(h:(x,c,Pt)∈Px K):iZ K x=aA (c,Pt)/\PF x=aD:=by
 unfold Px at h;obtain⟨y,hy,e⟩:=hU.mp h
 cases z:iZ K y with
 | none=>rw[z] at e;cases e
 | some cp=>
  rw[z] at e;have e:(y,cp)=(x,c,Pt):=bG e;cases e;refine⟨z,?_⟩;simp only[aa,dj,or_false] at hy;rcases hy with rfl | rfl | rfl<;>decide
theorem Br{x:bH}{c Pt:aN}(h:iZ K x=aA (c,Pt))(hl:PF x=aD):(x,c,Pt)∈Px K:=by
 unfold Px;refine hU.mpr ⟨x,?_,by rw[h];rfl⟩;unfold PF at hl;simp only[gy,beq_iff_eq] at hl;simp only[aa,dj,or_false];rcases hl with(h | h) | h
 ·exact .inl h
 ·exact .inr (.inl h)
 ·exact .inr (.inr h)
theorem HF{q:bQ}(g:RV K q=aD){x:bH}{c:aN}(hl:PF x=aD)(hc:cg K (.ref c) x=aD):∃Pt,(x,c,Pt)∈Px K:=by
 unfold RV at g;simp only[ak] at g;have hall:=g.2
 have hc:(match K.lookup c with
   | some ⟨_,_,.fields vs,_⟩=>(match vs.toList with | _::.str n _::_=>n==x | _=>aC)
   | _=>aC)=aD:=hc
 split at hc
 ·rename_i oc od vs sl hlk;split at hc
  ·rename_i y n t r hvs;have hn:n=x:=beq_iff_eq.mp hc;subst hn;have h1:=bO.mp hall (c,_) (kY hlk);simp only[hvs,hl,Bool.not_true,nV] at h1;split at h1
   ·rename_i c2 P2 h2;have:c2=c:=beq_iff_eq.mp h1;subst this;exact⟨P2,Br h2 hl⟩
   ·cases h1
  ·cases hc
 ·cases hc
theorem JZ:∀{l:List (bH×aN×aN)}{x:bH}{c Pt:aN},(l.map (·.2.2)).Nodup->(x,c,Pt)∈l->l.find? (λr=>r.2.2==Pt)=aA (x,c,Pt)
 | [],_,_,_,_,h=>by simp at h
 | r::l,x,c,Pt,nd,h=>by
  rw[a9] at nd;rw[cO];rcases aa.mp h with e | h
  ·subst e;simp
  ·have:r.2.2≠Pt:=λz=>(ar.mp nd).1 (ah.mpr ⟨_,h,z.symm⟩);have e2:(r.2.2==Pt)=aC:=by simpa using this
   rw[e2];exact JZ (ar.mp nd).2 h
noncomputable def HG(l:List (bH×aN×aN))(H:Hp):Hp:=λb=>match l.find? (λr=>r.2.2==b) with
 | some r=>aA (.tbl #[.str (Ot r.1) 0])
 | none=>H b
theorem E4{l:List (bH×aN×aN)}{H:Hp}{b:aN}(h:∀r∈l,r.2.2≠b):HG l H b=H b:=by unfold HG;rw[fg.mpr λr hr=>by simpa using h r hr]
theorem SK(l:List (bH×aN×aN))(H:Hp)(b:aN):(∃r∈l,r.2.2=b/\HG l H b=aA (.tbl #[.str (Ot r.1) 0]))\/((∀r∈l,r.2.2≠b)/\HG l H b=H b):=by
 unfold HG
 cases z:l.find? (λr=>r.2.2==b) with
 | some r=>exact .inl ⟨r,gZ z,by simpa using k7 z,rfl⟩
 | none=>exact .inr ⟨λr hr=>by simpa using fg.mp z r hr,rfl⟩
theorem E5{P:bQ}{w:bu}{mg mb:bH->Option aL}{k:Nat}{fa a:aN}{fd:fX}{x:bH}{D:List PV->Option PV}{s₁:aQ}{vs:List aL}{ns:List Int}{l:List (bH×aN×aN)}
  (KX:K.In s₁.heap) (hns:s₁.heap.Ns cJ mg) (hb:s₁.heap.Ns kJ mb) (hbb:∀x:bH,x≠"__name__"->mb x=cw x) (hlim:s₁.heap.NoLimit) (hg:s₁.gens = #[])
  (hbm:∃bm ob,mg "__builtins__" = aA (.ref bm)/\bm≠kJ/\s₁.heap.get? bm=aA ob/\ob.cls = .type "module"/\ob.dict=aA kJ/\ob.data = .plain)
  (hT:∀r∈l,kc s₁.heap r.2.1 r.2.2/\s₁.heap.get? r.2.2=aA (gR #[])) (hK:nQ K=aD) (hcov:∀(q:bH)(c:aN),PF q=aD->cg K (.ref c) q=aD->∃Pt,(q,c,Pt)∈l) (hnd:(l.map (·.2.2)).Nodup)
  (ha:s₁.heap.get? a=aA { cls:=.type "list",data:=.seq vs.toArray }) (hi:jH vs ns) (hl:ns.length<=sizeLine) (hr:Room k mO)
  (F:∀base:ba,K.In base->base.Ns cJ mg->Qq P w K mg base LJ k fa fd [x] (Xd K D 1)) (hbind:∀(s:aQ)(u:aL),mC s fd ⟨[u],[]⟩ [(x,u)])
  (hD:D [.cst (iL ns)]=aA (.bl aD)) :
  kM (model P w) mO (.call (.ref fa) ⟨[.ref a],[]⟩) (λr s'=>r = .ok (.ret (.bool aD))/\OldK s₁.heap s'.heap/\s'.os=s₁.os/\kK s'.gens) s₁:=by
 have rv:=MO hi;have lenV:=hi.length
 have core:∀H0:Hp,CsK K H0 a (ns.map V.int)->(H0 a=aB\/(K.lookup a=aB/\∃xs,H0 a=aA (.frz { cls:=.type "list",data:=.seq vs.toArray } (.lst xs))/\ObjOk P w H0 s₁.heap a (.frz { cls:=.type "list",data:=.seq vs.toArray } (.lst xs))))->(∀b,b≠a->H0 b=aB)->
   kM (model P w) mO (.call (.ref fa) ⟨[.ref a],[]⟩) (λr s'=>r = .ok (.ret (.bool aD))/\OldK s₁.heap s'.heap/\s'.os=s₁.os/\kK s'.gens) s₁:=by
  intro H0 hS hA hO;have na:∀r∈l,r.2.2≠a:=λr hr z=>by have e:=(hT r hr).2;rw[z,ha] at e;cases e
  generalize hH:HG l H0=H;have tb:∀r∈l,H r.2.2=aA (.tbl #[.str (Ot r.1) 0]):=λr hr=>by rw[<-hH];unfold HG;rw[JZ (x:=r.1) (c:=r.2.1) (Pt:=r.2.2) hnd hr]
  have Ha:H a=H0 a:=by rw[<-hH];exact E4 na
  have free:∀{b:aN}{o:df},s₁.heap.get? b=aA o->o≠gR #[]->b≠a->H b=aB:=λ{b o} e no nb=>by
   rw[<-hH];rcases SK l H0 b with⟨r,hr,e2,_⟩ | ⟨_,e2⟩
   ·have e3:=(hT r hr).2;rw[e2,e] at e3;exact absurd (bG e3) no
   ·rw[e2];exact hO b nb
  have base_of:∀{b:aN}{o:df},s₁.heap.get? b=aA o->H b=aB->(Mj s₁.heap H).get? b=aA o:=λe n=>DT e n;have nsK:∀{b:aN}{m:bH->Option aL},s₁.heap.Ns b m->(Mj s₁.heap H).Ns b m:=λ{b m} ⟨o,es,ep,e,d,r⟩=>⟨o,es,ep,base_of e (free e (λz=>by rw[z] at d;cases d) λz=>by rw[z,ha] at e;cases e;cases d),d,r⟩
  have hKb:K.In (Mj s₁.heap H):=λb o e=>base_of (KX b o e) (by
   by_cases z:b=a
   ·subst z;rw[Ha];rcases hA with h | ⟨h,_⟩
    ·exact h
    ·rw[e] at h;cases h
   ·refine free (KX b o e) (λz2=>?_) z;have h2:=bO.mp hK (b,o) (kY e);subst z2;exact absurd (show aC=aD from h2) aw)
  have hM:Mod K mg (Mj s₁.heap H):=⟨hKb,nsK hns,⟨mb,nsK hb,hbb⟩,let⟨mc,h1,h2⟩:=hlim;⟨mc,nsK h1,h2⟩⟩
  have hok:HOk P w H s₁.heap:=λb u e=>by
   rw[<-hH] at e;rcases SK l H0 b with⟨r,hr,e2,e3⟩ | ⟨hn,e3⟩
   ·rw[e3] at e;cases e;refine⟨Ot r.1,0,#[],rfl,?_,trivial,λpos v hv=>?_⟩
    ·rw[<-e2];exact(hT r hr).2
    ·simp[jO] at hv
   ·rw[e3] at e;by_cases z:b=a
    ·subst z;rcases hA with h | ⟨_,xs,h,ok⟩
     ·rw[h] at e;cases e
     ·rw[h] at e;cases e;obtain⟨o1,o2⟩:=ok;exact⟨o1,o2⟩
    ·rw[hO b z] at e;cases e
  have tab:TabsH K mg (Mj s₁.heap H) H:=λq c h1 h2=>by
   obtain⟨Pt,hm⟩:=hcov q c h1 h2;obtain⟨⟨o,us,file,tf,flags,tg,inF,text,tt,f1,f2,f3,f4,f5,f6,f7,f8,f9,f10⟩,hP⟩:=hT _ hm;obtain⟨bm,ob,b1,b2,b3,b4,b5,b6⟩:=hbm;refine⟨Pt,_,0,⟨o,us,file,tf,flags,tg,inF,text,tt,base_of f1 (free f1 (λz=>by rw[z] at f2;cases f2) λz=>?_),f2,f3,f4,f5,f6,f7,f8,f9,f10⟩,tb _ hm,rfl,bm,ob,b1,b2,λz=>?_,λz=>?_,base_of b3 (free b3 (λz=>by rw[z] at b4;cases b4) λz=>?_),b4,b5,b6⟩
   ·rw[z,ha] at f1;cases f1;injection f2 with f2;exact absurd f2 (by decide)
   ·obtain⟨o',es,ep,e',hd',_⟩:=hns;rw[z,e'] at b3;cases b3;rw[hd'] at b6;cases b6
   ·rw[z,hP] at b3;cases b3;cases b4
   ·rw[z,ha] at b3;cases b3;injection b4 with b4;exact absurd b4 (by decide)
  have e0:Env0 P w K mg (Mj s₁.heap H) mO [] s₁ H:=⟨rfl,hM,λb o e=>AB e,Nat.le_of_eq (El _ _),trivial,λb hb=>absurd (show b∈([]:List aN) from hb) (by simp),tab,hok,.of_eq hg⟩
  have hS':CsK K H a (ns.map V.int):=by
   rcases hS with⟨o,h⟩ | h
   ·exact .inl ⟨o,by rw[Ha];exact h⟩
   ·exact .inr h
  refine jG ((F _ hKb (nsK hns)).run mO [] s₁ H ⟨[.ref a],[]⟩ [.ref a] [.ref a] (λv _=>v = .bl aD) E0 hr e0 (hbind s₁ (.ref a)) (.cons rfl .nil)
   ⟨rfl,[.cst (iL ns)],[],.bl aD,Iss.one (Is.cst hS' (Iss.ofInts ns)),hD,λv H' fq _ i _ _=>i.bl_inv.1⟩) λr s' h=>?_
  cases r with
  | error e=>exact(show False from h).elim
  | ok fl=>
   cases fl with
   | next=>exact dN h
   | brk=>exact dN h
   | cont=>exact dN h
   | ret u=>
    obtain⟨v,H',os,bare,un,hok',r',q⟩:=h;have q':v = .bl aD:=q;subst q';obtain rfl:u=mw aD:=r'
    have key:∀b o,s₁.heap.get? b=aA o->s'.heap.get? b=aA o\/(isCodeTable s₁.heap b/\o=gR #[]/\∃ps,s'.heap.get? b=aA (gR ps)):=λb o e=>by
     cases z:H b with
     | none=>exact .inl (un.keep b o e z (by intro z;exact absurd (show b∈([]:List aN) from z) (by simp)) (by simp))
     | some u=>
      have z':=z;rw[<-hH] at z';rcases SK l H0 b with⟨r,hr,e2,e3⟩ | ⟨hn,e3⟩
      ·rw[e3] at z';cases z';obtain⟨more,z4⟩:=un.tbls b _ z;obtain⟨_,_,ps',_,e4,_⟩:=(show ObjOk P w H' s'.heap b (.tbl _) from hok' b _ z4);have h5:=(hT r hr);rw[e2] at h5;refine .inr ⟨(h5.1.tab h5.2).isCodeTable,?_,ps',e4⟩;rw[e] at h5;exact bG h5.2
      ·rw[e3] at z';by_cases y:b=a
       ·subst y;rcases hA with h | ⟨_,xs,h,_⟩
        ·rw[h] at z';cases z'
        ·rw[h] at z';cases z';have z2:=un.frzs b _ _ z;have e1:=(hok b _ z).1;have e2:=(hok' b _ z2).1;rw[e] at e1;cases e1;exact .inl e2
       ·rw[hO b y] at z';cases z'
    refine⟨rfl,⟨λb o e=>?_,λb o e=>?_⟩,os,bare⟩
    ·rcases key b o e with h | ⟨h1,h2,ps,h3⟩
     ·exact .inl h
     ·subst h2;exact .inr (.inl ⟨h1,rfl,#[],ps,rfl,by rw[Array.empty_append];exact h3⟩)
    ·rcases key b o e with h | ⟨h1,h2,ps,h3⟩
     ·exact⟨_,h⟩
     ·exact⟨_,h3⟩
 cases hk:K.lookup a with
 | some o=>
  have e:=KX a o hk;rw[ha] at e;cases e;exact core (λ_=>aB) (.inr ⟨_,vs.toArray,_,hk,rfl,rfl,rfl,by rw[aU,lenV];exact hl,by simpa using rv⟩) (.inl rfl) λ_ _=>rfl
 | none=>
  refine core (λb=>if b=a then aA (.frz { cls:=.type "list",data:=.seq vs.toArray } (.lst (ns.map V.int))) else aB) (.inl ⟨{ cls:=.type "list",data:=.seq vs.toArray },oA rfl⟩) (.inr ⟨hk,_,oA rfl,ha,?_⟩) λb hb=>oB hb;exact⟨by rw[aK];exact hl,vs,_,rv,ha⟩
open PySem.W PySem.Calls in
theorem law_walkT{l:PySem.W.OpenLaw}{q:bQ}{loose:List bH}{XP:(bH->Option aL)->ba->Prop}{YP:bu->ba->Prop}{d:DefRec}{KK:Params->aJ}{x:bH}{D:List PV->Option PV}(k:Nat)(hn:l.most=aA 63)(hdf:d.params.defaults=[])
  (hr:Room k mO) (htab:∀w:bu,RV (KK w.params) q=aD) (hD:∀ns:List Int,ns.length<=63->(∀n∈ns,n.natAbs.log2<=1048576)->D [.cst (iL ns)]=aA (.bl aD))
  (hY:∀(w:bu)(h:ba),YP w h->(KK w.params).In h)
  (F:∀(w:bu)(mg:bH->Option aL)(fa:aN)(h:ba),(KK w.params).In h->h.Ns cJ mg->mg d.name=aA (.ref fa)->
   ∃fd:fX,(∀(s:aQ)(u:aL),mC s fd ⟨[u],[]⟩ [(x,u)])/\∀base:ba,(KK w.params).In base->base.Ns cJ mg->Qq l.prog w (KK w.params) mg base LJ k fa fd [x] (Xd (KK w.params) D 1)) :
  PySem.W.WalkO q loose XP YP l.row.toRowW d [] (λf vs=>PySem.call f vs):=by
 intro w s₀ s₁ mg mb gr yy fa o pm cd doc dv kv ho hd hcd hdd hmg hgen args vals as hpre hlay hrd hwl hlo;obtain rfl:dv = .none:=Dflts.none hdd hdf;obtain rfl:kv = .none:=Dflts.noKw hdd;obtain⟨a,vs,ns,rfl,rfl,hobj,hints,hlen⟩:=Att.script_of hn hpre hwl
 have hw:∀n∈ns,n.natAbs.log2<=1048576:=λn h=>by
  have h1:(WData.list (ns.map mV)).layable=aD:=bO.mp hlay _ (aR.mpr rfl);unfold WData.layable at h1;have h2:=of_decide_eq_true (Bool.and_eq_true_iff.mp h1).2;have h3:WData.weightAll (ns.map mV)<=1048576:=by simpa [WData.weight] using h2
  exact bg (Nj h) h3
 have kx:=hY w _ yy;obtain⟨fd,hb,hF⟩:=F w mg fa _ kx gr.T.g hmg;have g:=htab w;have g':=g;unfold RV at g';simp only[ak] at g';obtain⟨⟨⟨g1,g2⟩,g3⟩,_⟩:=g';have hT:∀r∈Px (KK w.params),kc s₁.heap r.2.1 r.2.2/\s₁.heap.get? r.2.2=aA (gR #[]):=λr hm=>by obtain⟨d',hd'⟩:=cT.mp (bO.mp g3 r hm);exact PySem.W.tab_of gr.T kx hd' (E3 (x:=r.1) (c:=r.2.1) (Pt:=r.2.2) hm).1
 have hbm:=gr.T.bmain;refine enter_call (jG (E5 kx gr.T.g gr.T.b gr.T.builtins gr.T.nolimit hgen (let⟨bm,ob,b1,b2,b3,b4,b5,b6⟩:=hbm;⟨bm,ob,b1,b2,b3,b4,b5,b6⟩) hT g1 (λq c h1 h2=>HF g h1 h2) (of_decide_eq_true g2) hobj hints (bg hlen (by decide)) hr hF hb (hD ns hlen hw)) λr s' hq=>?_);obtain⟨rfl,h2,h3,h4⟩:=hq;exact⟨.inl ⟨.bool aD,.bool aD,[],rfl,λ_=>rfl,.bool aD,Att.post_true l _,λ_=>⟨List.Pairwise.nil,λ_ hm=>(nomatch hm)⟩⟩,h2,h3,h4⟩
end VL
namespace VL
open PySem L2
noncomputable def Zg3:bx->Option (lJ×bS×gK)
 | .Return (aA (.Call _ [_,_,.Lambda a b sc _] _ _)) _=>aA (a,b,sc)
 | .Assign _ (.Call _ [_,_,.Lambda a b sc _] _ _) _=>aA (a,b,sc)
 | _=>aB
def Zg4(st:bx)(i:Nat)(q free:bH):Mh:=match (Yf st)[i]? with
 | some s=>(match Zg3 s with
  | some (a,b,sc)=>⟨Ot q,a,b,sc,free⟩
  | none=>⟨Ot q,Y0 st,.Name free ⟨0,0,0,0⟩,Zf st,free⟩)
 | none=>⟨Ot q,Y0 st,.Name free ⟨0,0,0,0⟩,Zf st,free⟩
end VL
namespace PW
open PySem L2 VL VX
def Ve(i:Nat):bx:=jD.main.body.getD i (.Pass ⟨0,0,0,0⟩)
def Yr:Mh:=Zg4 (Ve 41) 1 "still_by" "tree"
def UT:XE:=(Zg (X4 aC) (Za 0) (Za 3))
open Classical in
def SM(L:Mh)(l:PV)(ls:List PV):Option PV:=if L=Yr then UT (ls.map aA++[aA l]) else aB
def Vs:XS:=(Zj (Sn (xB (Zg (Xv aC) (Zg Wa (Zg WA (Za 0) (eC (.int 4))) (eC (.int 4))) (eC (.int 3)))) (ZN (eP (Zg Yi (eC (.int 5)) (Zg Wa (Zg WA (Za 0) (eC (.int 16))) (eC (.int 3)))))) Yk)
  (ZN (eP (Zg Yi (eC (.int 1)) (Zg Wa (Za 0) (eC (.int 4)))))))
def SN:List PV->Option PV:=Ya 1 Vs
def Wl:XS:=(Zj (YR [] (Y3 aD [Za 0]) (.many [3,4]) (Sn (V5 (xB (Zg (X4 aD) (Za 3) (Za 1))) (xB (Zg (Xv aD) (Zg (X4 aC) (Zg ZC (Za 4) (eC (.int 0))) (Za 2)) (Zg (X4 aC) (Zg ZC (Za 4) (eC (.int 1))) (Za 2))))) (ZN (eP (Za 3))) Yk))
  (ZN (eP (eC .non))))
def Yd:List PV->Option PV:=Ya 5 Wl
def Nu:XS:=(Zj (Zk 3 (Zc Vb [Za 0]))
  (Zj (Zk 4 (Xc [eP (Za 1)]))
  (Zj (Zk 5 (Xc []))
  (Zj (Zk 6 (Xc []))
  (Zj (Zk 7 (Zc Yd [Za 3,Za 5,Za 4]))
  (Zj (UI (xB (OL aD (Za 7))) (Zj (ZZ 5 (eP (Za 7)))
  (Zj (Zk 8 (eP (PM (xB (Zg (X4 aC) (Zg ZC (Zg ZC (Za 3) (Za 7)) (eC (.int 0))) (Za 4))) (Zg ZC (Zg ZC (Za 3) (Za 7)) (eC (.int 1))) (Zg ZC (Zg ZC (Za 3) (Za 7)) (eC (.int 0))))))
  (Zj (Zk 9 (eP (Zc ZR [Zr 1 [8,3] (X5 (Za 5)) (.one 0) (xB (Zg (X4 aC) (Za 1) (P6 XD (Zg ZC (Za 2) (Za 0)) Mi (QD (eC (.int 2)))))) (Za 0)])))
  (Zj (Sn (xV (JY SM 2 [Za 7,Za 8,Za 9])) (Zj (ZZ 4 (eP (Za 8)))
  (ZZ 6 (eP (Yp [Za 7,Za 8,Za 9])))) Yk)
  (Zk 7 (Zc Yd [Za 3,Za 5,Za 4])))))))
  (ZN (Za 6))))))))
def Ul:List PV->Option PV:=Ya 10 Nu
def SO:XS:=(Zj (Zk 3 (Zg L8 (Xc [eC (.int 0)]) (Zc ZR [Za 0])))
  (Zj (Zk 4 (QO Ul (Za 0) (Za 1) Yr 2))
  (Zj (YR [3] (X5 (Za 4)) (.many [5,6,7]) (QE 3 (Za 6) (Zg X3 (Za 7) (eC (.int 1)))))
  (ZN (eP (Zc YD [Za 3]))))))
def SQ:List PV->Option PV:=Ya 8 SO
def V7:XS:=(ZN (eP (Zg ZC (Zc WH [Za 0]) (eC (.int 0)))))
def V8:List PV->Option PV:=Ya 1 V7
def TM:XS:=(ZN (Zc Yc [Za 0,eC (.int 0)]))
def V1:List PV->Option PV:=Ya 1 TM
def UU:XS:=(ZN (Zc V8 [Zc V1 [Za 0]]))
def UW:List PV->Option PV:=Ya 1 UU
def UX:XS:=(ZN (eP (Zg (Xv aD) (Zg ZC (Za 0) (Zg ZC (Za 1) (eC (.int 0)))) (Zg ZC (Za 0) (Zg ZC (Za 1) (eC (.int 1)))))))
def UY:List PV->Option PV:=Ya 2 UX
def Kt:XS:=(Zj (Zk 3 (Xc []))
  (Zj (YR [3] (X5 (Za 2)) (.one 4) (Zj (Zk 5 (Zc V0 [Za 0,Za 1,Za 4]))
  (Zj (Zk 6 (eP (PM (xB (Zg MV (Zc ZR [Za 4]) (eC (.int 0)))) (Zg Yi (Zg ZC (Za 4) (Ju QB (eC (.int 1)))) (eC (.int 1))) (eC (.int 0)))))
  (W4 3 (Zr 1 [4,5,1] (Xa [Za 6,Zc ZR [Za 1]]) (.one 0) (xB (Zc UY [Za 2,Zg ZC (Za 3) (Za 0)])) (eP (Zg Xs (Za 1) (Yp [Za 0]))))))))
  (ZN (Za 3))))
def Oa:List PV->Option PV:=Ya 7 Kt
def RW:XS:=(Zj (Sn (xB (Zg MV (Zc UW [Za 0]) (Za 1))) Kg Yk)
  (Zj (Zk 2 (Zc Vb [Za 0]))
  (Zj (Zk 3 (Xc [eP (Yp [])]))
  (Zj (YR [3] (Xa [eC (.int 1),Zc ZR [Za 0]]) (.one 4) (Zk 3 (Zc Oa [Za 0,Za 2,Za 3])))
  (ZN (Za 3))))))
def RX:List PV->Option PV:=Ya 5 RW
def RY:XS:=(ZN (Zc HC [Zr 1 [0,1] (X5 (Zc RX [Za 0,Za 2])) (.one 0) ZF (Zc SQ [Za 1,Za 2,Za 0])]))
def TN:List PV->Option PV:=Ya 3 RY
def UZ:XS:=(ZN (eP (Mo (Zg (Xv aC) (Zc ZR [Zc Yo [Za 1,Za 2]]) (eC (.int 0))) (Zg (Xv aC) (Zc ZR [Zc W6 [Za 0,Za 1,Za 2]]) (Zc ZR [Za 0])))))
def U0:List PV->Option PV:=Ya 3 UZ
def Wm:XS:=(Sn (Cr (xB (Zg (Xv aD) (Zg ZC (Za 2) (Za 1)) (eC (.int 0)))) (Js (xB (Zc U0 [Za 0,Za 2,Za 1])))) Kg Yk)
def YU:List PV->Option PV:=Ya 3 Wm
def QP:XS:=(Zj (Zk 3 (eP (Zg ZC (Zc Xw [Za 0,Za 2,Za 1]) (eC (.int 1)))))
  (ZN (eP (Zg Xs (Zg Xs (P6 XD (Za 3) Mi (QD (Za 1))) (Yp [eC (.int 0)])) (P6 XD (Za 3) (QD (Zg Yi (Za 1) (eC (.int 1)))) Mi)))))
def Sf:List PV->Option PV:=Ya 4 QP
def Nv:XS:=(Zj (sEx (Zc YU [Za 0,Za 1,Za 2]))
  (Zj (sEx (Zc YU [Za 0,Za 1,Za 3]))
  (ZN (Zc Sf [Za 0,Za 1,Zc V6 [Za 2,Za 3]]))))
def Xg:List PV->Option PV:=Ya 4 Nv
def HH:XS:=(Zj (sEx (Zc YU [Za 0,Za 1,Za 2]))
  (ZN (Zc Sf [Za 0,Za 1,Zc UQ [Zg Lc (Yp [eC (.int 0)]) (Zc ZR [Za 0]),Za 2]])))
def QQ:List PV->Option PV:=Ya 3 HH
def HI:XS:=(Zj (Zk 3 (Zc YH [Za 0,Za 1]))
  (Zj (Zk 4 (eP (Zg ZC (Xc [eC (.int 8),Zg Yi (Za 2) (eC (.int 1))]) (Zc Sw [Zg MV (Za 2) (eC (.int 4))]))))
  (Zj (Sn (V5 (xB (Zg (Xv aC) (Zg Wa (Za 3) (eC (.int 2))) (eC (.int 1)))) (xB (OL aD (Zc Yq [Zg WA (Za 3) (eC (.int 2)),Za 2,Za 4,eC (.int 9)])))) (ZN (Zc Yq [Zg WA (Za 3) (eC (.int 2)),Za 2,Za 4,eC (.int 9)])) Yk)
  (Zj (Zk 5 (eC (.dT [] [])))
  (Zj (YR [5] (Xa [eC (.int 1),Za 2]) (.one 6) (Zj (Zk 7 (Zc YH [Za 0,Zg Yi (Za 1) (Za 6)]))
  (Zj (Zk 8 (eP (Zc Tj [Zg ZC (Xc [eC (.int 1),eC (.int 1),eC (.int 1),eC (.int 2),eC (.int 3)]) (Zg Wa (Zg WA (Za 7) (Za 6)) (eC (.int 5))),Zg X3 (Za 4) (Zg X3 (Zg X3 (Za 2) (eC (.int 1))) (Za 6))])))
  (Zj (sDPut 5 (Yp [Zg Wa (Za 7) (Za 6),Za 6]) (Za 8))
  (Zk 4 (eP (Zg X3 (Za 4) (Za 8))))))))
  (Zj (Zk 9 (eP (Zg Yi (Za 1) (Zg ZC (Xc [eC (.int 5),eC (.int 27)]) (Zc Sw [Zg MV (Za 2) (eC (.int 4))])))))
  (Zj (YR [5] (ZQ [Za 2]) (.one 10) (YR [5] (Xa [Zg Yi (Za 10) (eC (.int 1)),Za 2]) (.one 11) (Zj (Zk 8 (eP (Zg ZC (Xc [eC (.int 0),eC (.int 1),eC (.int 0),eC (.int 1),eC (.int 2)]) (Zg Wa (Zc YH [Za 0,Za 9]) (eC (.int 5))))))
  (Zj (Zk 9 (eP (Zg Yi (Za 9) (eC (.int 1)))))
  (Sn (V5 (xB (Hu aD (Yp [Za 10,Za 11]) (Za 5))) (xB (eCh oLt oLe (eC (.int 0)) (Za 8) (Za 4)))) (Zj (sDPut 5 (Yp [Za 10,Za 11]) (Za 8))
  (Zk 4 (eP (Zg X3 (Za 4) (Za 8))))) Yk)))))
  (ZN (Zc Tz [Za 5,Zg WA (Zc YH [Za 0,Za 1]) (eC (.int 7)),Za 2])))))))))
def SR:List PV->Option PV:=Ya 12 HI
def Nw:XS:=(Zj (Zk 3 (Xc []))
  (Zj (YR [3] (ZQ [Zc ZR [Za 0]]) (.one 4) (Zj (Zk 5 (eP (Zg ZC (Za 1) (Za 4))))
  (Zj (YR [3] (ZQ [Zc ZR [Za 0]]) (.one 6) (Zj (Zk 7 (eP (Zg X3 (Zg ZC (Za 2) (Za 6)) (Zg ZC (Za 2) (Za 4)))))
  (Zk 5 (eP (Zg Yi (Za 5) (Zg Jp (Zg ZC (Zg ZC (Za 0) (Za 4)) (Za 6)) (Za 7)))))))
  (ZZ 3 (eP (Za 5))))))
  (ZN (eP (Zc YD [Za 3])))))
def Nx:List PV->Option PV:=Ya 8 Nw
def Ob:XS:=(Zj (Zk 5 (Zc V6 [Za 2,Za 3]))
  (Zj (Sn (xB (Zg (Xv aD) (Zc UC [Za 5]) (Zr 1 [2,3] (ZQ [Zc ZR [Za 0]]) (.one 0) ZF (Zg Yi (Zg ZC (Za 1) (Za 0)) (Zg ZC (Za 2) (Za 0)))))) (ZN (eP (eC (.bl aC)))) Yk)
  (Zj (Zk 6 (eP (Zg X3 (Zc PQ [Za 5]) (Zc PQ [Za 4]))))
  (Zj (Zk 7 (eP (Zg Xs (Zg Xs (P6 XD (Za 4) Mi (QD (Za 1))) (Yp [Za 6])) (P6 XD (Za 4) (QD (Zg Yi (Za 1) (eC (.int 1)))) Mi))))
  (Zj (Zk 8 (Zc Kl [Za 0,Za 5,Za 7]))
  (ZN (eP (Mo (Zc Wh [Za 8,Zc ZR [Za 0]]) (Zg (Xv aC) (Zc Nx [Za 0,Za 5,Za 8]) (Za 7))))))))))
def Ku:List PV->Option PV:=Ya 9 Ob
def FQ:XS:=(Zj (Zk 1 (Zc SN [Zc YH [Za 0,eC (.int 0)]]))
  (Zj (Zk 2 (Zc SI [Zc SR [Za 0,eC (.int 1),Za 1],Za 1]))
  (Zj (Zk 3 (eP (Zg Wa (Zc YH [Za 0,eC (.int 12)]) (Za 1))))
  (Zj (Zk 4 (Zc (λls=>TN (ls++[.int 300])) [Za 2,Za 3]))
  (Zj (Kr [5,6,7] (Zr 1 [4,0] (ZQ [eC (.int 3)]) (.one 0) ZF (Zg ZC (Za 1) (Zg Wa (Zc YH [Za 2,Zg Yi (eC (.int 13)) (Za 0)]) (Zc ZR [Za 1])))))
  (Zj (Zk 8 (Zc Xg [Za 2,Za 3,Za 5,Za 6]))
  (Zj (Sn (Cr (Js (xB (Zc Wh [Za 8,Za 1]))) (Cr (xB (Zg (X4 aD) (Za 8) (Za 4))) (Js (xB (Zc Ku [Za 2,Za 3,Za 5,Za 6,Za 8]))))) (ZN (eP (eC (.bl aC)))) Yk)
  (Zj (Sn (xB (Zg (Xv aD) (Zc Xg [Za 2,Za 3,Za 6,Za 5]) (Za 8))) (ZN (eP (eC (.bl aC)))) Yk)
  (Zj (Sn (xB (Zg (Xv aD) (Zc Xg [Za 2,Za 3,Za 8,Za 7]) (Zc Xg [Za 2,Za 3,Za 5,Zc Xg [Za 2,Za 3,Za 6,Za 7]]))) (ZN (eP (eC (.bl aC)))) Yk)
  (Zj (Zk 9 (eP (Zg Lc (Yp [eC (.int 0)]) (Za 1))))
  (Zj (Sn (Cr (xB (Zg (Xv aD) (Zc Xg [Za 2,Za 3,Za 5,Za 9]) (Za 5))) (xB (Zg (Xv aD) (Zc Xg [Za 2,Za 3,Za 9,Za 6]) (Za 6)))) (ZN (eP (eC (.bl aC)))) Yk)
  (Zj (Zk 10 (Zc QQ [Za 2,Za 3,Za 5]))
  (Zj (Sn (Cr (Js (xB (Zc Wh [Za 10,Za 1]))) (Cr (xB (Zg (X4 aD) (Za 10) (Za 4))) (xB (Zg (Xv aD) (Zc Xg [Za 2,Za 3,Za 5,Za 10]) (Za 9))))) (ZN (eP (eC (.bl aC)))) Yk)
  (ZN (eP (Mo (Zg (Xv aC) (Zc QQ [Za 2,Za 3,Za 10]) (Za 5)) (Zg (Xv aC) (Zc QQ [Za 2,Za 3,Za 9]) (Za 9))))))))))))))))))
def D_law:List PV->Option PV:=Ya 11 FQ
end PW
namespace VL
open PySem PySem.Spec PyProof.Rows L2
theorem Vt{N P:List bH}{sc:gK}(a:sc.kind = .function:=by rfl)(b:sc.isCoroutine=aC:=by rfl)(c:sc.isGenerator=aC:=by rfl)(d:N.Nodup:=by decide +kernel)(e:N.take P.length=P:=by rfl)
  (f:∀x∈P,sc.names.lookup x=aA .local\/sc.names.lookup x=aA .cell:=by decide +kernel) (g:∀y∈sc.names,y.2≠.free:=by decide +kernel):Zp N P sc:=⟨a,b,c,d,e,f,g⟩
section
variable {X:Cx} {e e1 e2 e3 e4 e5:bS} {f f1 f2 f3 f4 f5:XE} {es:List bS} {fs:List XE} {x:bH} {p pos pos':fZ} {k k' n:Nat} {O W:List Nat}
theorem vo(i:Nat)(hN:X.N[i]?=aA x:=by rfl)(hv:Vis X.env.scope x:=by first | exact dQ rfl | exact kf (dQ rfl) | exact kf (kf rfl))(hd:(x==("__debug__" : bH))=aC:=by decide)
  (hcd:(x==("__classdict__" : bH))=aC:=by decide):VE X (.Name x pos) (Za i):=Co (pv i hN hv hd hcd)
theorem X2(a:VE X e1 f1)(hs:aV [e1] X.env=(aC,eval e1 X.env)::aV [] X.env:=by rfl):VA X [e1] [f1]:=VN a LW hs
theorem WO(a:VE X e1 f1)(b:VE X e2 f2)(hs:aV [e1,e2] X.env=(aC,eval e1 X.env)::aV [e2] X.env:=by rfl)(h2:aV [e2] X.env=(aC,eval e2 X.env)::aV [] X.env:=by rfl):VA X [e1,e2] [f1,f2]:=VN a (X2 b h2) hs
theorem Te(a:VE X e1 f1)(b:VE X e2 f2)(c:VE X e3 f3)(hs:aV [e1,e2,e3] X.env=(aC,eval e1 X.env)::aV [e2,e3] X.env:=by rfl)(h2:aV [e2,e3] X.env=(aC,eval e2 X.env)::aV [e3] X.env:=by rfl)(h3:aV [e3] X.env=(aC,eval e3 X.env)::aV [] X.env:=by rfl):VA X [e1,e2,e3] [f1,f2,f3]:=VN a (WO b c h2 h3) hs
theorem FR(a:VE X e1 f1)(b:VE X e2 f2)(c:VE X e3 f3)(d:VE X e4 f4)(hs:aV [e1,e2,e3,e4] X.env=(aC,eval e1 X.env)::aV [e2,e3,e4] X.env:=by rfl)(h2:aV [e2,e3,e4] X.env=(aC,eval e2 X.env)::aV [e3,e4] X.env:=by rfl)(h3:aV [e3,e4] X.env=(aC,eval e3 X.env)::aV [e4] X.env:=by rfl)(h4:aV [e4] X.env=(aC,eval e4 X.env)::aV [] X.env:=by rfl):VA X [e1,e2,e3,e4] [f1,f2,f3,f4]:=VN a (Te b c d h2 h3 h4) hs
theorem U9{ps:List bH}{D:List PV->Option PV}(C:XW X.prog X.w X.K X.mg X.base x ps (Xd X.K D n) k)(hr:Room k' X.A)(ha:VA X (e::es) fs)(h:k<=k':=by decide)(hg:Gl X x:=by rfl)(hn:fs.length=n:=by rfl)
  (hdb:(x==("__debug__" : bH))=aC:=by decide) (he:aV (e::es) X.env=(aC,eval e X.env)::aV es X.env:=by rfl) (hpl:(eI pos (aV es X.env)).any (·.1)=aC:=by rfl) :
  VM X (.Call (.Name x p) (e::es) [] pos) (Zc D fs):=Ff C (hr.mono h) hg ha hn hdb he hpl
theorem VG{ps:List bH}{D:List PV->Option PV}(C:XW X.prog X.w X.K X.mg X.base x ps (Xd X.K D n) k)(hr:Room k' X.A)(ha:VA X (e::es) fs)(h:k<=k':=by decide)(hg:Gl X x:=by rfl)(hn:fs.length=n:=by rfl)
  (hdb:(x==("__debug__" : bH))=aC:=by decide) (he:aV (e::es) X.env=(aC,eval e X.env)::aV es X.env:=by rfl) (hpl:(eI pos (aV es X.env)).any (·.1)=aC:=by rfl) :
  VE X (.Call (.Name x p) (e::es) [] pos) (Zc D fs):=VM.ve (Ff C (hr.mono h) hg ha hn hdb he hpl)
theorem vb{id:String}{r:List V->Hp->VK->Prop}{g:List PV->Option PV}(hc:XU X (.builtin id) r)(hr:RC X.K r g)(hm:X.mg x=aB)(ha:VA X (e::es) fs)(hg:Gl X x:=by rfl)(hv:cw x=aA (.builtin id):=by decide +kernel)(hn:x≠"__name__":=by decide)(hdb:(x==("__debug__" : bH))=aC:=by decide)
  (he:aV (e::es) X.env=(aC,eval e X.env)::aV es X.env:=by rfl) (hpl:(eI pos (aV es X.env)).any (·.1)=aC:=by rfl):VE X (.Call (.Name x p) (e::es) [] pos) (Zc g fs):=Jw hc hr hg hm hv ha hn hdb he hpl
theorem vmb{id:String}{r:List V->Hp->VK->Prop}{g:List PV->Option PV}(hc:XU X (.builtin id) r)(hr:RCM X.K r g)(hm:X.mg x=aB)(ha:VA X (e::es) fs)(hg:Gl X x:=by rfl)(hv:cw x=aA (.builtin id):=by decide +kernel)(hn:x≠"__name__":=by decide)(hdb:(x==("__debug__" : bH))=aC:=by decide)
  (he:aV (e::es) X.env=(aC,eval e X.env)::aV es X.env:=by rfl) (hpl:(eI pos (aV es X.env)).any (·.1)=aC:=by rfl):VM X (.Call (.Name x p) (e::es) [] pos) (Zc g fs):=Cu hc hr hg hm hv ha hn hdb he hpl
theorem Ny(hm:X.mg "len" = aB)(ha:VE X e f)(hg:Gl X "len":=by rfl)(he:aV [e] X.env=(aC,eval e X.env)::aV [] X.env:=by rfl)(hpl:(eI pos (aV [] X.env)).any (·.1)=aC:=by rfl):VE X (.Call (.Name "len" p) [e] [] pos) (Zc ZR [f]):=
 Jw D9 Zei hg hm (by decide +kernel) (X2 ha he) (by decide) (by decide) he hpl
theorem YX{fe:XE}(i:Nat)(hN:X.N.Nodup)(he:VM X e fe)(hi:X.N[i]?=aA x:=by rfl)(hx:AE X.env.scope x:=by first | exact dQ rfl | exact kf rfl)(hs:iC e (aA (.Name x pos')) pos.line X.env=pure aC:=by rfl)(hf:X.fn x=aD\/X.env.scope.names.lookup x=aA .local:=by first | exact .inl rfl | exact .inr rfl | assumption) :
  VS X O [i] (.Assign [.Name x pos'] e pos) (Zk i fe):=Zeo hN hi hx he hs hf
theorem So(i:Nat)(hN:X.N.Nodup)(hi:X.N[i]?=aA x:=by rfl)(hx:AE X.env.scope x:=by first | exact dQ rfl | exact kf rfl)(hf:X.fn x=aD\/X.env.scope.names.lookup x=aA .local:=by first | exact .inl rfl | exact .inr rfl | assumption):PG X (.Name x pos) (Rv i):=ZV hN hi hx hf
end
section
variable {X:Cx} {tg iter elt e1 e2:bS} {fi:XL} {T:Tgt} {ft:XT} {fe f1 f2:XE} {p pos pos':fZ} {O W:List Nat} {body:List bx} {fb:XS} {scope:gK}
theorem Kv(hi:VI X tg iter fi)(hg:PG X tg (gT X.K T))(hb:Fl X O W body fb)(hp:lI (model X.prog X.w) X.A X.env X.xe:=by exact fI)(hc:X.calm=aD:=by rfl)(hT:∀i∈T.slots,i∉O:=by decide)
  (hs:∀x,cE iter X.env x=pure x:=by intro _;rfl):VS X O (T.slots++W) (.For tg iter body [] pos) (YR O fi T fb):=Zep hp hc hi hg hb hT hs
theorem E6(hm:X.mg "range" = aB)(ha:VE X e1 f1)(hg:Gl X "range":=by rfl)(hs:aV [e1] X.env=[(aC,eval e1 X.env)]:=by rfl):VI X tg (.Call (.Name "range" p) [e1] [] pos) (ZQ [f1]):=EL hg hm (X2 ha (by rw[hs];rfl)) hs
theorem vr2(hm:X.mg "range" = aB)(ha:VE X e1 f1)(hb:VE X e2 f2)(hg:Gl X "range":=by rfl)(hs:aV [e1,e2] X.env=[(aC,eval e1 X.env),(aC,eval e2 X.env)]:=by rfl)(hs2:aV [e2] X.env=[(aC,eval e2 X.env)]:=by rfl):VI X tg (.Call (.Name "range" p) [e1,e2] [] pos) (Xa [f1,f2]):=EM hg hm (WO ha hb (by rw[hs,hs2]) (by rw[hs2];rfl)) hs hs2
theorem AA(o:bH)(fr:List bH)(ix:List Nat)(hi:VI X (.Name o pos') iter fi)(he:∀{cl C s H ex},VE (ZG X ([o]++fr) scope cl C s H ex) elt fe)(S:Uy X.N X.env.scope scope [o] fr ix=aD:=by kernel_rfl)
  (nd:([o]++fr).Nodup:=by decide +kernel) (h2:∀cl C s H ex,AE (ZG X ([o]++fr) scope cl C s H ex).env.scope o:=by intro _ _ _ _ _;exact dQ rfl) (h3:∀cl C s H ex,(ZG X ([o]++fr) scope cl C s H ex).env.scope.names.lookup o=aA .local:=by intro _ _ _ _ _;rfl) (hc:X.calm=aD:=by rfl) (hs:∀x,cE iter X.env x=pure x:=by intro _;rfl) :
  VE X (.ListComp elt [⟨.Name o pos',iter,[],0⟩] scope pos) (Zr 1 ix fi (.one 0) ZF fe):=VQ [o] fr ix hc hi S (λ_ _ _ _ _=>ZV (i:=0) nd rfl (h2 _ _ _ _ _) (.inr (h3 _ _ _ _ _))) (λ_ _ _ _ _=>XB) (λ_ _ _ _ _=>he) (λi hi=>by cases hi with | head=>exact mn | tail _ h=>cases h) hs
theorem vcq{ifs:List bS}(o:bH)(fr:List bH)(ix:List Nat)(hi:VI X (.Name o pos') iter fi)(ht:∀{cl C s H ex},VTs (ZG X ([o]++fr) scope cl C s H ex) ifs ft)(he:∀{cl C s H ex},VE (ZG X ([o]++fr) scope cl C s H ex) elt fe)(S:Uy X.N X.env.scope scope [o] fr ix=aD:=by kernel_rfl)
  (nd:([o]++fr).Nodup:=by decide +kernel) (h2:∀cl C s H ex,AE (ZG X ([o]++fr) scope cl C s H ex).env.scope o:=by intro _ _ _ _ _;exact dQ rfl) (h3:∀cl C s H ex,(ZG X ([o]++fr) scope cl C s H ex).env.scope.names.lookup o=aA .local:=by intro _ _ _ _ _;rfl) (hc:X.calm=aD:=by rfl) (hs:∀x,cE iter X.env x=pure x:=by intro _;rfl) :
  VE X (.ListComp elt [⟨.Name o pos',iter,ifs,0⟩] scope pos) (Zr 1 ix fi (.one 0) ft fe):=VQ [o] fr ix hc hi S (λ_ _ _ _ _=>ZV (i:=0) nd rfl (h2 _ _ _ _ _) (.inr (h3 _ _ _ _ _))) (λ_ _ _ _ _=>ht) (λ_ _ _ _ _=>he) (λi hi=>by cases hi with | head=>exact mn | tail _ h=>cases h) hs
end
section
variable {K:aJ} {P:bQ} {w:bu} {mg:bH->Option aL} {base:ba} {x a b c d e:bH} {st:bx} {N:List bH} {k m:Nat} {O W:List Nat} {f:XS}
abbrev BdA(x:bH)(st:bx)(us:List aL)(r:List (bH×aL)):Prop:=∀(kV doc pm:aL)(an:Option aN)(cdv ct:aL),i6 (c0 x x (Y0 st) (Yf st) (Zf st) .none kV doc pm an cdv ct) ⟨us,[]⟩=pure r
abbrev Za3(P:bQ)(w:bu)(K:aJ)(mg:bH->Option aL)(base:ba)(N:List bH)(x:bH)(st:bx)(k:Nat)(O W:List Nat)(f:XS):Prop:=∀{fa:aN}{cdv:aL}{A:bw}{outer:List lZ}{s:aQ}{H:Hp}{E:XK},Room k (A.deeper (iH x (Zf st) s.heap.objs.size fa cdv))->Fl (PH LJ P w K mg base N x (Zf st) fa cdv A outer s H E).nox O W (Yf st) f
theorem dk1(O:List Nat)(D:Def K mg x st)(S:Zp N [a] (Zf st))(q:Za3 P w K mg base N x st k O W f)(hb:∀t,BdA x st [t] [(a,t)]:=by intro _ _ _ _ _ _ _;rfl)(hm:N.length=m:=by rfl)(hO:∀i∈O,1<=i:=by decide):XW P w K mg base x [a] (Xd K (Ya m f) 1) (k+1):=
 O0 m f D S (λ_ _ _ _ _ _ us hl=>match us,hl with | [t],_=>hb t _ _ _ _ _ _) rfl hm hO λ_ _ _ _ _ _ _ hr=>q hr
theorem Bt(O:List Nat)(D:Def K mg x st)(S:Zp N [a,b] (Zf st))(q:Za3 P w K mg base N x st k O W f)(hb:∀t u,BdA x st [t,u] [(a,t),(b,u)]:=by intro _ _ _ _ _ _ _ _;rfl)(hm:N.length=m:=by rfl)(hO:∀i∈O,2<=i:=by decide):XW P w K mg base x [a,b] (Xd K (Ya m f) 2) (k+1):=
 O0 m f D S (λ_ _ _ _ _ _ us hl=>match us,hl with | [t,u],_=>hb t u _ _ _ _ _ _) rfl hm hO λ_ _ _ _ _ _ _ hr=>q hr
theorem Mu(O:List Nat)(D:Def K mg x st)(S:Zp N [a,b,c] (Zf st))(q:Za3 P w K mg base N x st k O W f)(hb:∀t u v,BdA x st [t,u,v] [(a,t),(b,u),(c,v)]:=by intro _ _ _ _ _ _ _ _ _;rfl)(hm:N.length=m:=by rfl)(hO:∀i∈O,3<=i:=by decide):XW P w K mg base x [a,b,c] (Xd K (Ya m f) 3) (k+1):=
 O0 m f D S (λ_ _ _ _ _ _ us hl=>match us,hl with | [t,u,v],_=>hb t u v _ _ _ _ _ _) rfl hm hO λ_ _ _ _ _ _ _ hr=>q hr
theorem dk4(O:List Nat)(D:Def K mg x st)(S:Zp N [a,b,c,d] (Zf st))(q:Za3 P w K mg base N x st k O W f)(hb:∀t u v y,BdA x st [t,u,v,y] [(a,t),(b,u),(c,v),(d,y)]:=by intro _ _ _ _ _ _ _ _ _ _;rfl)(hm:N.length=m:=by rfl)(hO:∀i∈O,4<=i:=by decide):XW P w K mg base x [a,b,c,d] (Xd K (Ya m f) 4) (k+1):=
 O0 m f D S (λ_ _ _ _ _ _ us hl=>match us,hl with | [t,u,v,y],_=>hb t u v y _ _ _ _ _ _) rfl hm hO λ_ _ _ _ _ _ _ hr=>q hr
end
end VL
namespace PW
open PySem L2 VL VX
section
variable (P:bQ) (w:bu) (K:aJ) (mg:bH->Option aL) (base:ba)
abbrev SS:Prop:=XW P w K mg base "_law_houses" ["_law_cell_here"] (Xd K SN 1) 1
abbrev SU:Prop:=XW P w K mg base "_law_square" ["_law_times_here","_law_many"] (Xd K SI 2) 1
abbrev Um:Prop:=XW P w K mg base "ties_of" ["web"] (Xd K Vb 1) 1
abbrev Wn:Prop:=XW P w K mg base "tie_to_look_at" ["ties","looked","fire"] (Xd K Yd 3) 1
abbrev Nz:Prop:=XW P w K mg base "walked" ["web","base","burns"] (Xd K Ul 3) 2
abbrev SV:Prop:=XW P w K mg base "still_by" ["web","base","tree"] (Xd K SQ 3) 3
abbrev QR:Prop:=XW P w K mg base "reduced" ["row","by","place","divisor"] (Xd K Wj 4) 1
abbrev RZ:Prop:=XW P w K mg base "evened" ["rows"] (Xd K WH 1) 2
abbrev V9:Prop:=XW P w K mg base "determinant" ["square"] (Xd K V8 1) 3
abbrev QS:Prop:=XW P w K mg base "ties_at" ["web","house"] (Xd K Uj 2) 1
abbrev NA:Prop:=XW P w K mg base "row_of" ["web","house","others"] (Xd K RU 3) 2
abbrev Xn:Prop:=XW P w K mg base "square_without" ["web","base"] (Xd K Yc 2) 3
abbrev TQ:Prop:=XW P w K mg base "square_of" ["web"] (Xd K V1 1) 4
abbrev W7:Prop:=XW P w K mg base "tree_count" ["web"] (Xd K UW 1) 5
abbrev TR:Prop:=XW P w K mg base "pieces_of" ["web","ties","grove"] (Xd K V0 3) 1
abbrev U1:Prop:=XW P w K mg base "is_between" ["pieces","ends"] (Xd K UY 2) 1
abbrev Oc:Prop:=XW P w K mg base "grown" ["web","ties","groves"] (Xd K Oa 3) 2
abbrev FT:Prop:=XW P w K mg base "trees" ["web","most"] (Xd K RX 2) 6
abbrev Sg:Prop:=XW P w K mg base "in_debt" ["purse","base"] (Xd K Yo 2) 1
abbrev QT:Prop:=XW P w K mg base "ties_to" ["web","house","others"] (Xd K Sa 3) 1
abbrev WQ:Prop:=XW P w K mg base "house_to_burn" ["web","purse","fire"] (Xd K Z4 3) 2
abbrev Od:Prop:=XW P w K mg base "burnt" ["web","purse","base"] (Xd K W6 3) 3
abbrev U2:Prop:=XW P w K mg base "is_settled" ["web","purse","base"] (Xd K U0 3) 4
abbrev Xo:Prop:=XW P w K mg base "refuse_unstill" ["web","base","purse"] (Xd K YU 3) 5
abbrev Vu:Prop:=XW P w K mg base "solved_below" ["square","column"] (Xd K Xf 2) 3
abbrev QU:Prop:=XW P w K mg base "nearing" ["web","purse","base"] (Xd K Vc 3) 4
abbrev HJ:Prop:=XW P w K mg base "gain" ["web","script","house"] (Xd K Nd 3) 1
abbrev Bv:Prop:=XW P w K mg base "run" ["web","purse","script"] (Xd K Sx 3) 2
abbrev TU:Prop:=XW P w K mg base "borrowing" ["web","houses"] (Xd K XJ 2) 1
abbrev NB:Prop:=XW P w K mg base "plus" ["one","other"] (Xd K V6 2) 1
abbrev Oe:Prop:=XW P w K mg base "least" ["script"] (Xd K UR 1) 1
abbrev R0:Prop:=XW P w K mg base "settle" ["web","purse","base"] (Xd K Xw 3) 5
abbrev Sh:Prop:=XW P w K mg base "stilled" ["web","base","purse"] (Xd K Sf 3) 6
abbrev NC:Prop:=XW P w K mg base "joined" ["web","base","one","other"] (Xd K Xg 4) 7
abbrev Of:Prop:=XW P w K mg base "minus" ["one","other"] (Xd K UQ 2) 1
abbrev HK:Prop:=XW P w K mg base "back" ["web","base","one"] (Xd K QQ 3) 7
abbrev R1:Prop:=XW P w K mg base "_law_cell" ["_law_script","_law_k"] (Xd K YH 2) 1
abbrev TV:Prop:=XW P w K mg base "_law_renamed" ["_law_found","_law_cell_here","_law_many"] (Xd K Tz 3) 1
abbrev Vv:Prop:=XW P w K mg base "_law_read_times" ["_law_rest","_law_many","_law_room","_law_most"] (Xd K Yq 4) 1
abbrev SW:Prop:=XW P w K mg base "_law_times" ["_law_script","_law_at","_law_many"] (Xd K SR 3) 2
abbrev QV:Prop:=XW P w K mg base "_law_whole" ["_law_thing"] (Xd K Uk 1) 1
abbrev Si:Prop:=XW P w K mg base "_law_tuple" ["_law_found","_law_many"] (Xd K Wh 2) 2
abbrev Kw:Prop:=XW P w K mg base "alike" ["web","one","other"] (Xd K Kl 3) 6
abbrev ND:Prop:=XW P w K mg base "_law_gone" ["_law_web","_law_purse","_law_often"] (Xd K Nx 3) 1
abbrev Kx:Prop:=XW P w K mg base "_law_led" ["_law_web","_law_base","_law_one","_law_other","_law_found"] (Xd K Ku 5) 7
end
section
variable {P:bQ} {w:bu} {K:aJ} {mg:bH->Option aL} {base:ba}
theorem J0:Nt (["tie","house","seen","tree"]:List bH) (["tie","house","seen"]:List bH) Yr:=⟨rfl,rfl,rfl,by decide +kernel,by decide +kernel,rfl,by decide +kernel,rfl,by decide +kernel,by decide +kernel⟩
theorem J1(B:WM mg):FP P w K mg base 1 Yr (λl ls=>UT (ls.map aA++[aA l])) 3:=
 Ze0 (k:=0) UT J0 (λ_ _ _ _ us hl=>match us,hl with | [_,_,_],_=>rfl) rfl (λfa c e A outer s H hr=>(CG hr.units (Co (pv 0)) (Co (pv 3))))
theorem Za4(B:WM mg):∀L,(∃l ls r,SM L l ls=aA r)->FP P w K mg base 1 L (SM L) 3:=by
 intro L ⟨l,ls,r,h⟩;by_cases e_still_by:L=Yr
 ·have q:SM L=λl ls=>UT (ls.map aA++[aA l]):=by funext l ls;unfold SM;rw[oA e_still_by]
  rw[q,e_still_by];exact J1 B
 unfold SM at h;rw[oB e_still_by] at h;cases h
abbrev SX:bx:=Ve 54
theorem J2:Zp ["_law_cell_here"] ["_law_cell_here"] (Zf SX):=Vt
theorem J3(Df:Def K mg "_law_houses" SX)(B:WM mg):SS P w K mg base:=
 dk1 [] Df J2 λhr=>
  (Ze (XY (JE hr.units (Wc (XX (vo 0) Zi) Zi) Zi) (Zh (Zy (VE.pure (YC Zi (Wc (XX (vo 0) Zi) Zi))))) Ym)
  (Zh (Zy (VE.pure (YC Zi (Wc (vo 0) Zi))))))
abbrev SY:bx:=Ve 56
theorem sc_l_square:Zp ["_law_times_here","_law_many","_law_rows","_law_one","_law_other"] ["_law_times_here","_law_many"] (Zf SY):=Vt
theorem J4(Df:Def K mg "_law_square" SY)(B:WM mg):SU P w K mg base:=
 Bt [2] Df sc_l_square λhr=>
  (Ze (L9 (["_law_house"]:List bH) (["_law_many"]:List bH) [1] (i:=2) sc_l_square.nd rfl rfl rfl (E6 B.range (vo 1)) (by kernel_rfl) (λ_ _ _ _ _=>(ZV (i:=0) (show((["_law_house"]:List bH)++(["_law_many"]:List bH)).Nodup by decide +kernel) rfl (dQ rfl) (.inr rfl))) (λ_ _ _ _ _=>XB) (λ_ _ _ _ _=>(CM (Ti (X2 Zi)) (vo 1))))
  (Ze (Fu (LC fI rfl (LN (pv 0)) (XC (n:=2) rfl (Zv (So 3 sc_l_square.nd) (Zv (So 4 sc_l_square.nd) YO))) (Ze (M7 (LB (L7 (Pp hr) (vo 0) (Y8 (WO (vo 3) (vo 4)))) (IT (GX ix_list (pv 2) (vo 3) (λ_ _=>rfl)) (vo 4) Oz)))
  (Zh (M7 (LB (L7 (Pp hr) (vo 0) (Y8 (WO (vo 3) (vo 4)))) (IT (GX ix_list (pv 2) (vo 4) (λ_ _=>rfl)) (vo 3) Oz)))))))
  (Zh (Zy (VE.pure (Z3 ZJ YQ rfl B.tuple (by decide +kernel) (X2 (AA "_law_row" [] [] (Wx (vo 2)) (Z3 ZJ YQ rfl B.tuple (by decide +kernel) (X2 (vo 0)))))))))))
abbrev QW:bx:=Ve 12
theorem sc_ties_of:Zp ["web","ties","a","row","b"] ["web"] (Zf QW):=Vt
theorem HL(Df:Def K mg "ties_of" QW)(B:WM mg):Um P w K mg base:=
 dk1 [1] Df sc_ties_of λhr=>
  (Ze (YX 1 sc_ties_of.nd (Vg XA))
  (Ze (Kv (UD aC rfl B.enumerate (X2 (vo 0))) (XC (n:=2) rfl (Zv (So 2 sc_ties_of.nd) (Zv (So 3 sc_ties_of.nd) YO))) (Zh (Kv (vr2 B.range (YC (vo 2) Zi) (Ny B.len (vo 0))) (So 4 sc_ties_of.nd) (Zh (M5 (Xy (Tf b9 js jt MM (pv 1) (Z7 (RN (["nth"]:List bH) (["a","b"]:List bH) [2,4] rfl (E6 B.range (Zn (vo 3) (vo 4))) (by kernel_rfl) (λ_ _ _ _ _=>(ZV (i:=0) (show((["nth"]:List bH)++(["a","b"]:List bH)).Nodup by decide +kernel) rfl (dQ rfl) (.inr rfl))) (λ_ _ _ _ _=>XB) (λ_ _ _ _ _=>(VE.pure (Y8 (Te (vo 1) (vo 2) (vo 0)))))) Xu))))))))
  (Zh (VR (pv 1)))))
abbrev Wo:bx:=Ve 40
theorem sc_tie_to_look_at:Zp ["ties","looked","fire","tie","ends"] ["ties","looked","fire"] (Zf Wo):=Vt
theorem R3(Df:Def K mg "tie_to_look_at" Wo)(B:WM mg):Wn P w K mg base:=
 Mu [] Df sc_tie_to_look_at λhr=>
  (Ze (Kv (UD aD rfl B.enumerate (X2 (vo 0))) (XC (n:=2) rfl (Zv (So 3 sc_tie_to_look_at.nd) (Zv (So 4 sc_tie_to_look_at.nd) YO))) (Zh (XY (VW.vt (SA (Ui hr.units (vo 3) (vo 1)) (UA (Ts hr.units (CG hr.units (Zn (vo 4) Zi) (vo 2)) (CG hr.units (Zn (vo 4) Zi) (vo 2)))))) (Zh (Zy (VE.pure (vo 3)))) Ym)))
  (Zh (Zy (VE.pure Hi))))
abbrev NF:bx:=Ve 39
theorem sc_walked:Zp ["web","base","burns","ties","fire","looked","burning","tie","house","seen"] ["web","base","burns"] (Zf NF):=Vt
theorem E7(Df:Def K mg "walked" NF)(B:WM mg)(C_ties_of:Um P w K mg base)(C_tie_to_look_at:Wn P w K mg base):Nz P w K mg base:=
 Mu [4,5,6] Df sc_walked λhr=>
  (Ze (YX 3 sc_walked.nd (U9 C_ties_of hr (X2 (vo 0))))
  (Ze (YX 4 sc_walked.nd (Vg (WB (VE.pure (vo 1)) XA)))
  (Ze (YX 5 sc_walked.nd (Vg XA))
  (Ze (YX 6 sc_walked.nd (Vg XA))
  (Ze (YX 7 sc_walked.nd (U9 C_tie_to_look_at hr (Te (vo 3) (vo 5) (vo 4))))
  (Ze (OU fI (LU (vo 7)) (Ze (Wf (Xy (Tf b9 cV cW X9 (pv 5) (Z7 (VE.pure (vo 7)) Xu))))
  (Ze (YX 8 sc_walked.nd (VE.pure (MX (JF hr.units (Zn (Zn (vo 3) (vo 7)) Zi) (vo 4)) (Zn (Zn (vo 3) (vo 7)) Zi) (Zn (Zn (vo 3) (vo 7)) Zi))))
  (Ze (YX 9 sc_walked.nd (VE.pure (Ny B.len (vcq "other" ["house","ties"] [8,3] (Wx (vo 5)) (P5 (JF hr.units (vo 1) (We (Zn (vo 2) (vo 0)) UH (W3 Zi)))) (vo 0)))))
  (Ze (XY (Cs (VM.ve (Ze1 2 rfl (dQ rfl) (Za4 B) (hr.mono (by decide)) (Te (vo 7) (vo 8) (vo 9))))) (Ze (Wf (Xy (Tf b9 cV cW X9 (pv 4) (Z7 (VE.pure (vo 8)) Xu))))
  (Zh (Wf (Xy (Tf b9 cV cW X9 (pv 6) (Z7 (VE.pure (Y8 (Te (vo 7) (vo 8) (vo 9)))) Xu)))))) Ym)
  (Zh (YX 7 sc_walked.nd (U9 C_tie_to_look_at hr (Te (vo 3) (vo 5) (vo 4))))))))))
  (Zh (VR (pv 6)))))))))
abbrev S1:bx:=Ve 41
theorem sc_still_by:Zp ["web","base","tree","coins","burning","number","end","looked_at"] ["web","base","tree"] (Zf S1):=Vt
theorem J5(Df:Def K mg "still_by" S1)(B:WM mg)(C_walked:Nz P w K mg base):SV P w K mg base:=
 Mu [3] Df sc_still_by λhr=>
  (Ze (YX 3 sc_still_by.nd (CM (Ti (X2 Zi)) (Ny B.len (vo 0))))
  (Ze (YX 4 sc_still_by.nd (Bq (q:="still_by") (L:=Yr) (i:=2) rfl rfl rfl C_walked (hr.mono (by decide)) rfl rfl rfl rfl (vo 0) (vo 1) (Option.some_ne_none _) rfl (by decide) rfl rfl ⟨_,rfl,rfl⟩ rfl rfl rfl rfl))
  (Ze (Kv (Wx (vo 4)) (XC (n:=3) rfl (Zv (So 5 sc_still_by.nd) (Zv (So 6 sc_still_by.nd) (Zv (So 7 sc_still_by.nd) YO)))) (Zh (CC (LB (Wb (vo 7) Zi) (IT (pv 3) (vo 6) Oz)))))
  (Zh (Zy (VE.pure (Z3 ZJ YQ rfl B.tuple (by decide +kernel) (X2 (vo 3)))))))))
abbrev QX:bx:=Ve 23
theorem HM:Zp ["row","by","place","divisor"] ["row","by","place","divisor"] (Zf QX):=Vt
theorem HN(Df:Def K mg "reduced" QX)(B:WM mg):QR P w K mg base:=
 dk4 [] Df HM λhr=>
  (Zh (Zy (VE.pure (Z3 ZJ YQ rfl B.tuple (by decide +kernel) (X2 (VQ (["number","other"]:List bH) (["divisor","by","place","row"]:List bH) [3,1,2,0] rfl (L4 aC aC rfl B.zip (WO (vo 0) (vo 1))) (by kernel_rfl) (λ_ _ _ _ _=>(XC (n:=2) rfl (Zv (ZV (i:=0) (show((["number","other"]:List bH)++(["divisor","by","place","row"]:List bH)).Nodup by decide +kernel) rfl (dQ rfl) (.inr rfl)) (Zv (ZV (i:=1) (show((["number","other"]:List bH)++(["divisor","by","place","row"]:List bH)).Nodup by decide +kernel) rfl (dQ rfl) (.inr rfl)) YO)))) (λ_ _ _ _ _=>XB) (λ_ _ _ _ _=>(JP (Wb (FG (Zn (vo 3) (vo 4)) (vo 0)) (FG (Zn (vo 5) (vo 4)) (vo 1))) (vo 2)))))))))
abbrev NG:bx:=Ve 22
theorem sc_evened:Zp ["rows","left","divisor","place","by"] ["rows"] (Zf NG):=Vt
theorem E8(Df:Def K mg "evened" NG)(B:WM mg)(C_reduced:QR P w K mg base):RZ P w K mg base:=
 dk1 [1] Df sc_evened λhr=>
  (Ze (YX 1 sc_evened.nd (MY RA Jx rfl B.list (by decide +kernel) (X2 (vo 0))))
  (Ze (YX 2 sc_evened.nd (VE.pure Zi))
  (Ze (Kv (E6 B.range (Ny B.len (vo 0))) (So 3 sc_evened.nd) (Ze (YX 4 sc_evened.nd (VE.pure (Zn (vo 1) (vo 3))))
  (Ze (L9 (["at","row"]:List bH) (["place","by","divisor"]:List bH) [3,4,2] (i:=1) sc_evened.nd rfl rfl rfl (UD aD rfl B.enumerate (X2 (vo 1))) (by kernel_rfl) (λ_ _ _ _ _=>(XC (n:=2) rfl (Zv (ZV (i:=0) (show((["at","row"]:List bH)++(["place","by","divisor"]:List bH)).Nodup by decide +kernel) rfl (dQ rfl) (.inr rfl)) (Zv (ZV (i:=1) (show((["at","row"]:List bH)++(["place","by","divisor"]:List bH)).Nodup by decide +kernel) rfl (dQ rfl) (.inr rfl)) YO)))) (λ_ _ _ _ _=>XB) (λ_ _ _ _ _=>(VE.pure (MX (JE hr.units (vo 0) (vo 2)) (vo 1) (VG C_reduced hr (FR (vo 1) (vo 3) (vo 2) (vo 4)))))))
  (Zh (YX 2 sc_evened.nd (VE.pure (Zn (vo 4) (vo 3))))))))
  (Zh (C9 (IX (Z7 (vo 2) (Z7 (pv 1) Xu))))))))
abbrev Ua:bx:=Ve 21
theorem NH:Zp ["square"] ["square"] (Zf Ua):=Vt
theorem NI(Df:Def K mg "determinant" Ua)(B:WM mg)(C_evened:RZ P w K mg base):V9 P w K mg base:=
 dk1 [] Df NH λhr=>
  (Zh (Zy (VE.pure (Zn (VG C_evened hr (X2 (vo 0))) Zi))))
abbrev QY:bx:=Ve 11
theorem HP:Zp ["web","house"] ["web","house"] (Zf QY):=Vt
theorem HQ(Df:Def K mg "ties_at" QY)(B:WM mg):QS P w K mg base:=
 Bt [] Df HP λhr=>
  (Zh (Zy (VE.pure (vb (Uh rfl) OO B.sum (X2 (Zn (vo 0) (vo 1)))))))
abbrev NJ:bx:=Ve 27
theorem E9:Zp ["web","house","others"] ["web","house","others"] (Zf NJ):=Vt
theorem Dc(Df:Def K mg "row_of" NJ)(B:WM mg)(C_ties_at:QS P w K mg base):NA P w K mg base:=
 Mu [] Df E9 λhr=>
  (Zh (Zy (VE.pure (Z3 ZJ YQ rfl B.tuple (by decide +kernel) (X2 (AA "other" ["house","web"] [1,0] (Wx (vo 2)) (MX (JE hr.units (vo 0) (vo 1)) (VG C_ties_at hr (WO (vo 2) (vo 1))) (LV (Zn (Zn (vo 2) (vo 1)) (vo 0))))))))))
abbrev Wq:bx:=Ve 26
theorem sc_square_without:Zp ["web","base","others"] ["web","base"] (Zf Wq):=Vt
theorem R4(Df:Def K mg "square_without" Wq)(B:WM mg)(C_row_of:NA P w K mg base):Xn P w K mg base:=
 Bt [] Df sc_square_without λhr=>
  (Ze (YX 2 sc_square_without.nd (RN (["house"]:List bH) (["base"]:List bH) [1] rfl (E6 B.range (Ny B.len (vo 0))) (by kernel_rfl) (λ_ _ _ _ _=>(ZV (i:=0) (show((["house"]:List bH)++(["base"]:List bH)).Nodup by decide +kernel) rfl (dQ rfl) (.inr rfl))) (λ_ _ _ _ _=>(P5 (Ts hr.units (vo 0) (vo 1)))) (λ_ _ _ _ _=>(VE.pure (vo 0)))))
  (Zh (Zy (VE.pure (Z3 ZJ YQ rfl B.tuple (by decide +kernel) (X2 (AA "house" ["web","others"] [0,2] (Wx (vo 2)) (VG C_row_of hr (Te (vo 1) (vo 0) (vo 2))))))))))
abbrev TX:bx:=Ve 25
theorem Ky:Zp ["web"] ["web"] (Zf TX):=Vt
theorem Kz(Df:Def K mg "square_of" TX)(B:WM mg)(C_square_without:Xn P w K mg base):TQ P w K mg base:=
 dk1 [] Df Ky λhr=>
  (Zh (Zy (U9 C_square_without hr (WO (vo 0) Zi))))
abbrev U3:bx:=Ve 33
theorem Mv:Zp ["web"] ["web"] (Zf U3):=Vt
theorem Mw(Df:Def K mg "tree_count" U3)(B:WM mg)(C_determinant:V9 P w K mg base)(C_square_of:TQ P w K mg base):W7 P w K mg base:=
 dk1 [] Df Mv λhr=>
  (Zh (Zy (U9 C_determinant hr (X2 (VG C_square_of hr (X2 (vo 0)))))))
abbrev TY:bx:=Ve 36
theorem sc_pieces_of:Zp ["web","ties","grove","pieces","tie","ends","kept","gone"] ["web","ties","grove"] (Zf TY):=Vt
theorem KA(Df:Def K mg "pieces_of" TY)(B:WM mg):TR P w K mg base:=
 Mu [3] Df sc_pieces_of λhr=>
  (Ze (YX 3 sc_pieces_of.nd (Ki rfl rfl B.list rfl B.range (Ny B.len (vo 0))))
  (Ze (Kv (Hq (vo 2)) (So 4 sc_pieces_of.nd) (Ze (YX 5 sc_pieces_of.nd (VE.pure (Zn (vo 1) (vo 4))))
  (Ze (YX 6 sc_pieces_of.nd (VE.pure (Zn (vo 3) (Zn (vo 5) Zi))))
  (Ze (YX 7 sc_pieces_of.nd (VE.pure (Zn (vo 3) (Zn (vo 5) Zi))))
  (Zh (L9 (["piece"]:List bH) (["kept","gone"]:List bH) [6,7] (i:=3) sc_pieces_of.nd rfl rfl rfl (Wx (vo 3)) (by kernel_rfl) (λ_ _ _ _ _=>(ZV (i:=0) (show((["piece"]:List bH)++(["kept","gone"]:List bH)).Nodup by decide +kernel) rfl (dQ rfl) (.inr rfl))) (λ_ _ _ _ _=>XB) (λ_ _ _ _ _=>(VE.pure (MX (JE hr.units (vo 0) (vo 2)) (vo 1) (vo 0))))))))))
  (Zh (VR (pv 3)))))
abbrev U4:bx:=Ve 37
theorem Mx:Zp ["pieces","ends"] ["pieces","ends"] (Zf U4):=Vt
theorem My(Df:Def K mg "is_between" U4)(B:WM mg):U1 P w K mg base:=
 Bt [] Df Mx λhr=>
  (Zh (Zy (VE.pure (Zgz hr.units (Zn (vo 0) (Zn (vo 1) Zi)) (Zn (vo 0) (Zn (vo 1) Zi))))))
abbrev KC:bx:=Ve 35
theorem sc_grown:Zp ["web","ties","groves","found","grove","pieces","behind"] ["web","ties","groves"] (Zf KC):=Vt
theorem Bw(Df:Def K mg "grown" KC)(B:WM mg)(C_pieces_of:TR P w K mg base)(C_is_between:U1 P w K mg base):Oc P w K mg base:=
 Mu [3] Df sc_grown λhr=>
  (Ze (YX 3 sc_grown.nd (Vg XA))
  (Ze (Kv (Wx (vo 2)) (So 4 sc_grown.nd) (Ze (YX 5 sc_grown.nd (U9 C_pieces_of hr (Te (vo 0) (vo 1) (vo 4))))
  (Ze (YX 6 sc_grown.nd (VE.pure (MX (Jr (Ny B.len (vo 4)) Zi) (YC (Zn (vo 4) (LV Zi)) Zi) Zi)))
  (Zh (M5 (Xy (Tf b9 js jt MM (pv 3) (Z7 (RN (["tie"]:List bH) (["grove","pieces","ties"]:List bH) [4,5,1] rfl (vr2 B.range (vo 6) (Ny B.len (vo 1))) (by kernel_rfl) (λ_ _ _ _ _=>(ZV (i:=0) (show((["tie"]:List bH)++(["grove","pieces","ties"]:List bH)).Nodup by decide +kernel) rfl (dQ rfl) (.inr rfl))) (λ_ _ _ _ _=>(P5 (OH (VG C_is_between hr (WO (vo 2) (Zn (vo 3) (vo 0))))))) (λ_ _ _ _ _=>(VE.pure (WX UO UP (vo 1) (Y8 (X2 (vo 0))))))) Xu))))))))
  (Zh (VR (pv 3)))))
abbrev Og:bx:=Ve 34
theorem sc_trees:Zp ["web","most","ties","groves","size"] ["web","most"] (Zf Og):=Vt
theorem Bx(Df:JT K mg "trees" Og 300)(B:WM mg)(C_tree_count:W7 P w K mg base)(C_ties_of:Um P w K mg base)(C_grown:Oc P w K mg base):Bd P w K mg base "trees" (["web","most"]:List bH) (Xd K RX 2) 6 300:=
 FL (O:=[3]) (k:=5) 5 RW Df sc_trees (λ_ _ _ _ _ _ _ _ us hl=>match us,hl with | [_],_=>⟨_,rfl,rfl⟩) rfl rfl (by decide) (λfa cdv A outer s H E hr=>
  (Ze (XY (Jr (VG C_tree_count hr (X2 (vo 0))) (vo 1)) (Zh (Ng (W:=[]))) Ym)
  (Ze (YX 2 sc_trees.nd (U9 C_ties_of hr (X2 (vo 0))))
  (Ze (YX 3 sc_trees.nd (Vg (WB (VE.pure (Y8 LW)) XA)))
  (Ze (Kv (vr2 B.range Zi (Ny B.len (vo 0))) (So 4 sc_trees.nd) (Zh (YX 3 sc_trees.nd (U9 C_grown hr (Te (vo 0) (vo 2) (vo 3))))))
  (Zh (VR (pv 3))))))))
theorem Dd(Df:JT K mg "trees" Og 300)(B:WM mg)(C_tree_count:W7 P w K mg base)(C_ties_of:Um P w K mg base)(C_grown:Oc P w K mg base):FT P w K mg base:=
 VX.def_okF (O:=[3]) (k:=5) 5 RW Df sc_trees (λ_ _ _ _ _ _ _ _ us hl=>match us,hl with | [_,_],_=>⟨_,rfl,rfl⟩) rfl rfl (by decide) (λfa cdv A outer s H E hr=>
  (Ze (XY (Jr (VG C_tree_count hr (X2 (vo 0))) (vo 1)) (Zh (Ng (W:=[]))) Ym)
  (Ze (YX 2 sc_trees.nd (U9 C_ties_of hr (X2 (vo 0))))
  (Ze (YX 3 sc_trees.nd (Vg (WB (VE.pure (Y8 LW)) XA)))
  (Ze (Kv (vr2 B.range Zi (Ny B.len (vo 0))) (So 4 sc_trees.nd) (Zh (YX 3 sc_trees.nd (U9 C_grown hr (Te (vo 0) (vo 2) (vo 3))))))
  (Zh (VR (pv 3))))))))
abbrev NK:bx:=Ve 42
theorem De:Zp ["web","base","most"] ["web","base","most"] (Zf NK):=Vt
theorem Dg(Df:JT K mg "stills" NK 300)(B:WM mg)(C_still_by:SV P w K mg base)(CF_trees:FT P w K mg base):Bd P w K mg base "stills" (["web","base","most"]:List bH) (Xd K TN 3) 7 300:=
 FL (O:=[]) (k:=6) 3 RY Df De (λ_ _ _ _ _ _ _ _ us hl=>match us,hl with | [_,_],_=>⟨_,rfl,rfl⟩) rfl rfl (by decide) (λfa cdv A outer s H E hr=>
  (Zh (Zy (vmb Kq JX B.sorted (X2 (AA "tree" ["web","base"] [0,1] (Wx (VG CF_trees hr (WO (vo 0) (vo 2)))) (VG C_still_by hr (Te (vo 1) (vo 2) (vo 0)))))))))
abbrev QZ:bx:=Ve 9
theorem HR:Zp ["purse","base"] ["purse","base"] (Zf QZ):=Vt
theorem HS(Df:Def K mg "in_debt" QZ)(B:WM mg):Sg P w K mg base:=
 Bt [] Df HR λhr=>
  (Zh (Zy (RN (["house","coins"]:List bH) (["base"]:List bH) [1] rfl (UD aC rfl B.enumerate (X2 (vo 0))) (by kernel_rfl) (λ_ _ _ _ _=>(XC (n:=2) rfl (Zv (ZV (i:=0) (show((["house","coins"]:List bH)++(["base"]:List bH)).Nodup by decide +kernel) rfl (dQ rfl) (.inr rfl)) (Zv (ZV (i:=1) (show((["house","coins"]:List bH)++(["base"]:List bH)).Nodup by decide +kernel) rfl (dQ rfl) (.inr rfl)) YO)))) (λ_ _ _ _ _=>(P5 (VW.vt (SA (Ts hr.units (vo 0) (vo 2)) (UA (Zcn (vo 1) Zi)))))) (λ_ _ _ _ _=>(VE.pure (vo 0))))))
abbrev Q0:bx:=Ve 7
theorem HU:Zp ["web","house","others"] ["web","house","others"] (Zf Q0):=Vt
theorem HV(Df:Def K mg "ties_to" Q0)(B:WM mg):QT P w K mg base:=
 Mu [] Df HU λhr=>
  (Zh (Zy (VE.pure (vb (Uh rfl) OO B.sum (X2 (AA "other" ["web","house"] [0,1] (Wx (vo 2)) (Zn (Zn (vo 1) (vo 2)) (vo 0))))))))
abbrev WR:bx:=Ve 6
theorem sc_house_to_burn:Zp ["web","purse","fire","house","coins"] ["web","purse","fire"] (Zf WR):=Vt
theorem Q1(Df:Def K mg "house_to_burn" WR)(B:WM mg)(C_ties_to:QT P w K mg base):WQ P w K mg base:=
 Mu [] Df sc_house_to_burn λhr=>
  (Ze (Kv (UD aC rfl B.enumerate (X2 (vo 1))) (XC (n:=2) rfl (Zv (So 3 sc_house_to_burn.nd) (Zv (So 4 sc_house_to_burn.nd) YO))) (Zh (XY (VW.vt (SA (Ui hr.units (vo 3) (vo 2)) (UA (Zcn (vo 4) (VG C_ties_to hr (Te (vo 0) (vo 3) (vo 2))))))) (Zh (Zy (VE.pure (vo 3)))) Ym)))
  (Zh (Zy (VE.pure Hi))))
abbrev KD:bx:=Ve 5
theorem sc_burnt:Zp ["web","purse","base","fire","house"] ["web","purse","base"] (Zf KD):=Vt
theorem By(Df:Def K mg "burnt" KD)(B:WM mg)(C_house_to_burn:WQ P w K mg base):Od P w K mg base:=
 Mu [3] Df sc_burnt λhr=>
  (Ze (YX 3 sc_burnt.nd (Vg (WB (VE.pure (vo 2)) XA)))
  (Ze (YX 4 sc_burnt.nd (U9 C_house_to_burn hr (Te (vo 0) (vo 1) (vo 3))))
  (Ze (OU fI (LU (vo 4)) (Ze (Wf (Xy (Tf b9 cV cW X9 (pv 3) (Z7 (VE.pure (vo 4)) Xu))))
  (Zh (YX 4 sc_burnt.nd (U9 C_house_to_burn hr (Te (vo 0) (vo 1) (vo 3)))))))
  (Zh (VR (pv 3))))))
abbrev U5:bx:=Ve 8
theorem Mz:Zp ["web","purse","base"] ["web","purse","base"] (Zf U5):=Vt
theorem MA(Df:Def K mg "is_settled" U5)(B:WM mg)(C_burnt:Od P w K mg base)(C_in_debt:Sg P w K mg base):U2 P w K mg base:=
 Mu [] Df Mz λhr=>
  (Zh (Zy (VE.pure (QA (OZ hr.units (Ny B.len (VG C_in_debt hr (WO (vo 1) (vo 2)))) Zi) (OJ (OZ hr.units (Ny B.len (VG C_burnt hr (Te (vo 0) (vo 1) (vo 2)))) (Ny B.len (vo 0))))))))
abbrev Wr:bx:=Ve 45
theorem R5:Zp ["web","base","purse"] ["web","base","purse"] (Zf Wr):=Vt
theorem R6(Df:Def K mg "refuse_unstill" Wr)(B:WM mg)(C_is_settled:U2 P w K mg base):Xo P w K mg base:=
 Mu [] Df R5 λhr=>
  (Zh (XY (VW.vt (MW (Ts hr.units (Zn (vo 2) (vo 1)) Zi) (LR (LS (OH (VG C_is_settled hr (Te (vo 0) (vo 2) (vo 1)))))))) (Zh (Ng (W:=[]))) Ym))
abbrev Vw:bx:=Ve 20
theorem sc_solved_below:Zp ["square","column","told"] ["square","column"] (Zf Vw):=Vt
theorem PX(Df:Def K mg "solved_below" Vw)(B:WM mg)(C_evened:RZ P w K mg base):Vu P w K mg base:=
 Bt [] Df sc_solved_below λhr=>
  (Ze (YX 2 sc_solved_below.nd (U9 C_evened hr (X2 (VQ (["row","number"]:List bH) ([]:List bH) [] rfl (L4 aC aC rfl B.zip (WO (vo 0) (vo 1))) (by kernel_rfl) (λ_ _ _ _ _=>(XC (n:=2) rfl (Zv (ZV (i:=0) (show((["row","number"]:List bH)++([]:List bH)).Nodup by decide +kernel) rfl (dQ rfl) (.inr rfl)) (Zv (ZV (i:=1) (show((["row","number"]:List bH)++([]:List bH)).Nodup by decide +kernel) rfl (dQ rfl) (.inr rfl)) YO)))) (λ_ _ _ _ _=>XB) (λ_ _ _ _ _=>(WX UO UP (vo 0) (Y8 (X2 (vo 1)))))))))
  (Zh (Zy (RN (["row"]:List bH) (["told"]:List bH) [2] rfl (Wx (Zn (vo 2) Zi)) (by kernel_rfl) (λ_ _ _ _ _=>(ZV (i:=0) (show((["row"]:List bH)++(["told"]:List bH)).Nodup by decide +kernel) rfl (dQ rfl) (.inr rfl))) (λ_ _ _ _ _=>XB) (λ_ _ _ _ _=>(VE.pure (JP (Zn (vo 0) (LV Zi)) (Zn (vo 1) Zi))))))))
abbrev Q2:bx:=Ve 30
theorem sc_nearing:Zp ["web","purse","base","column","script"] ["web","purse","base"] (Zf Q2):=Vt
theorem HW(Df:Def K mg "nearing" Q2)(B:WM mg)(C_solved_below:Vu P w K mg base)(C_square_without:Xn P w K mg base):QU P w K mg base:=
 Mu [4] Df sc_nearing λhr=>
  (Ze (YX 3 sc_nearing.nd (VE.pure (WX UO UP (We (vo 1) UH (W3 (vo 2))) (We (vo 1) (W3 (YC (vo 2) Zi)) UH))))
  (Ze (YX 4 sc_nearing.nd (U9 C_solved_below hr (WO (VG C_square_without hr (WO (vo 0) (vo 2))) (vo 3))))
  (Ze (M6 (Xy (Tf b9 ju jv MR (pv 4) (Z7 (vo 2) (Z7 Zi Xu)))))
  (Zh (Zy (VE.pure (Z3 ZJ YQ rfl B.tuple (by decide +kernel) (X2 (vo 4)))))))))
abbrev HX:bx:=Ve 15
theorem Za5:Zp ["web","script","house"] ["web","script","house"] (Zf HX):=Vt
theorem Za6(Df:Def K mg "gain" HX)(B:WM mg):HJ P w K mg base:=
 Mu [] Df Za5 λhr=>
  (Zh (Zy (VE.pure (vb (Uh rfl) OO B.sum (X2 (VQ (["other","times"]:List bH) (["script","house"]:List bH) [1,2] rfl (UD aC rfl B.enumerate (X2 (Zn (vo 0) (vo 2)))) (by kernel_rfl) (λ_ _ _ _ _=>(XC (n:=2) rfl (Zv (ZV (i:=0) (show((["other","times"]:List bH)++(["script","house"]:List bH)).Nodup by decide +kernel) rfl (dQ rfl) (.inr rfl)) (Zv (ZV (i:=1) (show((["other","times"]:List bH)++(["script","house"]:List bH)).Nodup by decide +kernel) rfl (dQ rfl) (.inr rfl)) YO)))) (λ_ _ _ _ _=>XB) (λ_ _ _ _ _=>(Hj (vo 1) (Wb (Zn (vo 2) (vo 0)) (Zn (vo 2) (vo 3)))))))))))
abbrev Bz:bx:=Ve 14
theorem Ze5:Zp ["web","purse","script"] ["web","purse","script"] (Zf Bz):=Vt
theorem Ze6(Df:Def K mg "run" Bz)(B:WM mg)(C_gain:HJ P w K mg base):Bv P w K mg base:=
 Mu [] Df Ze5 λhr=>
  (Zh (Zy (VE.pure (Z3 ZJ YQ rfl B.tuple (by decide +kernel) (X2 (VQ (["house","coins"]:List bH) (["web","script"]:List bH) [0,2] rfl (UD aC rfl B.enumerate (X2 (vo 1))) (by kernel_rfl) (λ_ _ _ _ _=>(XC (n:=2) rfl (Zv (ZV (i:=0) (show((["house","coins"]:List bH)++(["web","script"]:List bH)).Nodup by decide +kernel) rfl (dQ rfl) (.inr rfl)) (Zv (ZV (i:=1) (show((["house","coins"]:List bH)++(["web","script"]:List bH)).Nodup by decide +kernel) rfl (dQ rfl) (.inr rfl)) YO)))) (λ_ _ _ _ _=>XB) (λ_ _ _ _ _=>(YC (vo 1) (VG C_gain hr (Te (vo 2) (vo 3) (vo 0)))))))))))
abbrev TZ:bx:=Ve 31
theorem KG:Zp ["web","houses"] ["web","houses"] (Zf TZ):=Vt
theorem KH(Df:Def K mg "borrowing" TZ)(B:WM mg):TU P w K mg base:=
 Bt [] Df KG λhr=>
  (Zh (Zy (VE.pure (Z3 ZJ YQ rfl B.tuple (by decide +kernel) (X2 (AA "house" ["houses"] [1] (E6 B.range (Ny B.len (vo 0))) (MX (JF hr.units (vo 0) (vo 1)) (LV Zi) Zi)))))))
abbrev HY:bx:=Ve 17
theorem Za7:Zp ["one","other"] ["one","other"] (Zf HY):=Vt
theorem Za8(Df:Def K mg "plus" HY)(B:WM mg):NB P w K mg base:=
 Bt [] Df Za7 λhr=>
  (Zh (Zy (VE.pure (Z3 ZJ YQ rfl B.tuple (by decide +kernel) (X2 (VQ (["first","second"]:List bH) ([]:List bH) [] rfl (L4 aC aC rfl B.zip (WO (vo 0) (vo 1))) (by kernel_rfl) (λ_ _ _ _ _=>(XC (n:=2) rfl (Zv (ZV (i:=0) (show((["first","second"]:List bH)++([]:List bH)).Nodup by decide +kernel) rfl (dQ rfl) (.inr rfl)) (Zv (ZV (i:=1) (show((["first","second"]:List bH)++([]:List bH)).Nodup by decide +kernel) rfl (dQ rfl) (.inr rfl)) YO)))) (λ_ _ _ _ _=>XB) (λ_ _ _ _ _=>(YC (vo 0) (vo 1)))))))))
abbrev KI:bx:=Ve 16
theorem sc_least:Zp ["script","lowest"] ["script"] (Zf KI):=Vt
theorem BA(Df:Def K mg "least" KI)(B:WM mg):Oe P w K mg base:=
 dk1 [] Df sc_least λhr=>
  (Ze (YX 1 sc_least.nd (VE.pure (vb (EZ rfl) Zav B.min (X2 (vo 0)))))
  (Zh (Zy (VE.pure (Z3 ZJ YQ rfl B.tuple (by decide +kernel) (X2 (AA "often" ["lowest"] [1] (Hq (vo 0)) (Wb (vo 0) (vo 1)))))))))
abbrev NL:bx:=Ve 29
theorem sc_settle:Zp ["web","purse","base","script","near","indebted","step"] ["web","purse","base"] (Zf NL):=Vt
theorem Dh(Df:Def K mg "settle" NL)(B:WM mg)(C_nearing:QU P w K mg base)(C_run:Bv P w K mg base)(C_in_debt:Sg P w K mg base)(C_borrowing:TU P w K mg base)(C_plus:NB P w K mg base)(C_burnt:Od P w K mg base)(C_least:Oe P w K mg base):R0 P w K mg base:=
 Mu [] Df sc_settle λhr=>
  (Ze (YX 3 sc_settle.nd (U9 C_nearing hr (Te (vo 0) (vo 1) (vo 2))))
  (Ze (YX 4 sc_settle.nd (U9 C_run hr (Te (vo 0) (vo 1) (vo 3))))
  (Ze (YX 5 sc_settle.nd (U9 C_in_debt hr (WO (vo 4) (vo 2))))
  (Ze (OU fI (Jr (Ny B.len (vo 5)) Zi) (Ze (YX 6 sc_settle.nd (U9 C_borrowing hr (WO (vo 0) (vo 5))))
  (Ze (YX 3 sc_settle.nd (U9 C_plus hr (WO (vo 3) (vo 6))))
  (Ze (YX 4 sc_settle.nd (U9 C_run hr (Te (vo 0) (vo 4) (vo 6))))
  (Zh (YX 5 sc_settle.nd (U9 C_in_debt hr (WO (vo 4) (vo 2)))))))))
  (Zh (Zy (Zeh (WB (U9 C_least hr (X2 (vo 3))) (WB (VE.pure (vo 4)) (WB (U9 C_burnt hr (Te (vo 0) (vo 4) (vo 2))) XA))))))))))
abbrev Q3:bx:=Ve 46
theorem sc_stilled:Zp ["web","base","purse","settled"] ["web","base","purse"] (Zf Q3):=Vt
theorem HZ(Df:Def K mg "stilled" Q3)(B:WM mg)(C_settle:R0 P w K mg base):Sh P w K mg base:=
 Mu [] Df sc_stilled λhr=>
  (Ze (YX 3 sc_stilled.nd (VE.pure (Zn (VG C_settle hr (Te (vo 0) (vo 2) (vo 1))) Zi)))
  (Zh (Zy (VE.pure (WX UO UP (WX UO UP (We (vo 3) UH (W3 (vo 1))) (Y8 (X2 Zi))) (We (vo 3) (W3 (YC (vo 1) Zi)) UH))))))
abbrev NM:bx:=Ve 43
theorem Di:Zp ["web","base","one","other"] ["web","base","one","other"] (Zf NM):=Vt
theorem Dj(Df:Def K mg "joined" NM)(B:WM mg)(C_refuse_unstill:Xo P w K mg base)(C_stilled:Sh P w K mg base)(C_plus:NB P w K mg base):NC P w K mg base:=
 dk4 [] Df Di λhr=>
  (Ze (Bf (VG C_refuse_unstill hr (Te (vo 0) (vo 1) (vo 2))))
  (Ze (Bf (VG C_refuse_unstill hr (Te (vo 0) (vo 1) (vo 3))))
  (Zh (Zy (U9 C_stilled hr (Te (vo 0) (vo 1) (VG C_plus hr (WO (vo 2) (vo 3)))))))))
abbrev KJ:bx:=Ve 18
theorem BB:Zp ["one","other"] ["one","other"] (Zf KJ):=Vt
theorem BC(Df:Def K mg "minus" KJ)(B:WM mg):Of P w K mg base:=
 Bt [] Df BB λhr=>
  (Zh (Zy (VE.pure (Z3 ZJ YQ rfl B.tuple (by decide +kernel) (X2 (VQ (["first","second"]:List bH) ([]:List bH) [] rfl (L4 aC aC rfl B.zip (WO (vo 0) (vo 1))) (by kernel_rfl) (λ_ _ _ _ _=>(XC (n:=2) rfl (Zv (ZV (i:=0) (show((["first","second"]:List bH)++([]:List bH)).Nodup by decide +kernel) rfl (dQ rfl) (.inr rfl)) (Zv (ZV (i:=1) (show((["first","second"]:List bH)++([]:List bH)).Nodup by decide +kernel) rfl (dQ rfl) (.inr rfl)) YO)))) (λ_ _ _ _ _=>XB) (λ_ _ _ _ _=>(Wb (vo 0) (vo 1)))))))))
abbrev H9:bx:=Ve 44
theorem Za9:Zp ["web","base","one"] ["web","base","one"] (Zf H9):=Vt
theorem Zba(Df:Def K mg "back" H9)(B:WM mg)(C_refuse_unstill:Xo P w K mg base)(C_stilled:Sh P w K mg base)(C_minus:Of P w K mg base):HK P w K mg base:=
 Mu [] Df Za9 λhr=>
  (Ze (Bf (VG C_refuse_unstill hr (Te (vo 0) (vo 1) (vo 2))))
  (Zh (Zy (U9 C_stilled hr (Te (vo 0) (vo 1) (VG C_minus hr (WO (WX Fz FA (Y8 (X2 Zi)) (Ny B.len (vo 0))) (vo 2))))))))
abbrev NN:bx:=Ve 50
theorem Dk:Zp ["_law_script","_law_k"] ["_law_script","_law_k"] (Zf NN):=Vt
theorem Dl(Df:Def K mg "_law_cell" NN)(B:WM mg):R1 P w K mg base:=
 Bt [] Df Dk λhr=>
  (Zh (Zy (VE.pure (Zn (VM.ve (Zao (EO (vo 0) (W3 (vo 1)) (W3 (YC (vo 1) Zi))) (Ti (X2 Zi)))) Zi))))
abbrev T1:bx:=Ve 52
theorem sc_l_renamed:Zp ["_law_found","_law_cell_here","_law_many","_law_names","_law_house","_law_told","_law_one","_law_other","_law_pair"] ["_law_found","_law_cell_here","_law_many"] (Zf T1):=Vt
theorem KN(Df:Def K mg "_law_renamed" T1)(B:WM mg):TV P w K mg base:=
 Mu [3,5] Df sc_l_renamed λhr=>
  (Ze (YX 3 sc_l_renamed.nd (Vg XA))
  (Ze (Kv (E6 B.range (vo 2)) (So 4 sc_l_renamed.nd) (Ze (M6 (Xy (Tf b9 ju jv MR (pv 3) (Z7 (Wc (vo 1) (YC (vo 4) Zi)) (Z7 (vo 4) Xu)))))
  (Zh (YX 1 sc_l_renamed.nd (VE.pure (XX (vo 1) (YC (vo 4) Zi)))))))
  (Ze (YX 5 sc_l_renamed.nd ON)
  (Ze (Fu (LC fI rfl (LN (pv 0)) (XC (n:=2) rfl (Zv (So 6 sc_l_renamed.nd) (Zv (So 7 sc_l_renamed.nd) YO))) (Ze (YX 8 sc_l_renamed.nd (VE.pure (Y8 (WO (vb (Qo rfl) LX B.min (WO (Zn (vo 3) (vo 6)) (Zn (vo 3) (vo 7)))) (vb (Es rfl) Zaj B.max (WO (Zn (vo 3) (vo 6)) (Zn (vo 3) (vo 7))))))))
  (Zh (P7 (P0 (Pp hr) (pv 5) (vo 8) (L7 (Pp hr) (vo 0) (Y8 (WO (vo 6) (vo 7)))) rfl))))))
  (Zh (VR (pv 5)))))))
abbrev Vx:bx:=Ve 53
theorem sc_l_read_times:Zp ["_law_rest","_law_many","_law_room","_law_most","_law_found","_law_met","_law_one","_law_other","_law_deep","_law_turn"] ["_law_rest","_law_many","_law_room","_law_most"] (Zf Vx):=Vt
theorem PY(Df:Def K mg "_law_read_times" Vx)(B:WM mg):Vv P w K mg base:=
 dk4 [4,5] Df sc_l_read_times λhr=>
  (Ze (YX 4 sc_l_read_times.nd ON)
  (Ze (YX 5 sc_l_read_times.nd (Vg (WB (VE.pure Zi) XA)))
  (Ze (Kv (E6 B.range (vo 1)) (So 6 sc_l_read_times.nd) (Zh (Kv (vr2 B.range (YC (vo 6) Zi) (vo 1)) (So 7 sc_l_read_times.nd) (Ze (YX 8 sc_l_read_times.nd (VE.pure (vb (Qo rfl) LX B.min (WO (Hj (Wc (vo 0) Zi) (YC Zi (Wc (XX (vo 0) Zi) (vo 3)))) (vo 2)))))
  (Ze (YX 0 sc_l_read_times.nd (VE.pure (Zn (Ti (WO (XX (vo 0) Zi) (XX (XX (vo 0) Zi) (vo 3)))) (Wc (vo 0) Zi))))
  (Zh (XY (Jr (vo 8) Zi) (Ze (P7 (P0 (Pp hr) (pv 4) (Y8 (WO (vo 6) (vo 7))) (vo 8) rfl))
  (Zh (YX 2 sc_l_read_times.nd (VE.pure (Wb (vo 2) (vo 8)))))) Ym)))))))
  (Ze (Kv (E6 B.range (vo 1)) (So 9 sc_l_read_times.nd) (Zh (CN (O':=[5]) (LC fI rfl (LN (pv 4)) (XC (n:=2) rfl (Zv (So 6 sc_l_read_times.nd) (Zv (So 7 sc_l_read_times.nd) YO))) (Ze (XY (VW.vt (SA (JF hr.units (vo 6) (vo 5)) (UA (Ui hr.units (vo 7) (vo 5))))) (Zh (Wf (Xy (Tf b9 cV cW X9 (pv 5) (Z7 (VE.pure (vo 7)) Xu))))) Ym)
  (Zh (XY (VW.vt (SA (JF hr.units (vo 7) (vo 5)) (UA (Ui hr.units (vo 6) (vo 5))))) (Zh (Wf (Xy (Tf b9 cV cW X9 (pv 5) (Z7 (VE.pure (vo 6)) Xu))))) Ym)))) (by decide) (by intro j;simp;try omega))))
  (Zh (ET (GX ix_list (IY (Z7 DV (Z7 (pv 4) Xu))) (Z3 Qp LY rfl B.int (by decide +kernel) (X2 (OZ hr.units (Ny B.len (vo 5)) (vo 1)))) (λ_ _=>rfl))))))))
abbrev S5:bx:=Ve 55
theorem sc_l_timesL:Zp ["_law_script","_law_at","_law_many","_law_first","_law_room","_law_found","_law_house","_law_cell_here","_law_deep","_law_k","_law_one","_law_other"] ["_law_script","_law_at","_law_many"] (Zf S5):=Vt
theorem J6(Df:Def K mg "_law_times" S5)(B:WM mg)(C_l_cell:R1 P w K mg base)(C_l_read_times:Vv P w K mg base)(C_l_renamed:TV P w K mg base):SW P w K mg base:=
 Mu [5] Df sc_l_timesL λhr=>
  (Ze (YX 3 sc_l_timesL.nd (U9 C_l_cell hr (WO (vo 0) (vo 1))))
  (Ze (YX 4 sc_l_timesL.nd (VE.pure (Zn (Ti (WO Zi (YC (vo 2) Zi))) (Z3 Qp LY rfl B.int (by decide +kernel) (X2 (Zcm (vo 2) Zi))))))
  (Ze (XY (VW.vt (SA (JE hr.units (Wc (vo 3) Zi) Zi) (UA (LU (VG C_l_read_times hr (FR (XX (vo 3) Zi) (vo 2) (vo 4) Zi)))))) (Zh (Zy (U9 C_l_read_times hr (FR (XX (vo 3) Zi) (vo 2) (vo 4) Zi)))) Ym)
  (Ze (YX 5 sc_l_timesL.nd ON)
  (Ze (Kv (vr2 B.range Zi (vo 2)) (So 6 sc_l_timesL.nd) (Ze (YX 7 sc_l_timesL.nd (U9 C_l_cell hr (WO (vo 0) (YC (vo 1) (vo 6)))))
  (Ze (YX 8 sc_l_timesL.nd (VE.pure (vb (Qo rfl) LX B.min (WO (Zn (Ti (VN Zi (FR Zi Zi Zi Zi))) (Wc (XX (vo 7) (vo 6)) Zi)) (Wb (vo 4) (Wb (Wb (vo 2) Zi) (vo 6)))))))
  (Ze (P7 (P0 (Pp hr) (pv 5) (Y8 (WO (Wc (vo 7) (vo 6)) (vo 6))) (vo 8) rfl))
  (Zh (YX 4 sc_l_timesL.nd (VE.pure (Wb (vo 4) (vo 8)))))))))
  (Ze (YX 9 sc_l_timesL.nd (VE.pure (YC (vo 1) (Zn (Ti (WO Zi Zi)) (Z3 Qp LY rfl B.int (by decide +kernel) (X2 (Zcm (vo 2) Zi)))))))
  (Ze (Kv (E6 B.range (vo 2)) (So 10 sc_l_timesL.nd) (Zh (Kv (vr2 B.range (YC (vo 10) Zi) (vo 2)) (So 11 sc_l_timesL.nd) (Ze (YX 8 sc_l_timesL.nd (VE.pure (Zn (Ti (VN Zi (FR Zi Zi Zi Zi))) (Wc (VG C_l_cell hr (WO (vo 0) (vo 9))) Zi))))
  (Ze (YX 9 sc_l_timesL.nd (VE.pure (YC (vo 9) Zi)))
  (Zh (XY (VW.vt (SA (ES (Pp hr) (Y8 (WO (vo 10) (vo 11))) (vo 5)) (UA (CJ Zcf Zgb (Cq _) (Cq _) Zi (vo 8) (vo 4))))) (Ze (P7 (P0 (Pp hr) (pv 5) (Y8 (WO (vo 10) (vo 11))) (vo 8) rfl))
  (Zh (YX 4 sc_l_timesL.nd (VE.pure (Wb (vo 4) (vo 8)))))) Ym)))))))
  (Zh (Zy (U9 C_l_renamed hr (Te (vo 5) (XX (VG C_l_cell hr (WO (vo 0) (vo 1))) Zi) (vo 2))))))))))))
abbrev Q4:bx:=Ve 51
theorem Ga:Zp ["_law_thing"] ["_law_thing"] (Zf Q4):=Vt
theorem Gb(Df:Def K mg "_law_whole" Q4)(B:WM mg):QV P w K mg base:=
 dk1 [] Df Ga λhr=>
  (Zh (Zy (VE.pure (QA (vb Th LZ B.isinstance (WO (vo 0) (Cv rfl B.int (by decide +kernel)))) (OJ (Zeg (vb Th LZ B.isinstance (WO (vo 0) (Cv rfl B.bool (by decide +kernel))))))))))
abbrev Q5:bx:=Ve 57
theorem Gd:Zp ["_law_found","_law_many"] ["_law_found","_law_many"] (Zf Q5):=Vt
theorem Ge(Df:Def K mg "_law_tuple" Q5)(B:WM mg)(C_l_whole:QV P w K mg base):Si P w K mg base:=
 Bt [] Df Gd λhr=>
  (Zh (Zy (VE.pure (QA (vb Th LZ B.isinstance (WO (vo 0) (Cv rfl B.tuple (by decide +kernel)))) (QA (OZ hr.units (Ny B.len (vo 0)) (vo 1)) (OJ (vb (EF rfl) Zej B.all (X2 (AA "_law_number" [] [] (Hq (vo 0)) (VG C_l_whole hr (X2 (vo 0))))))))))))
abbrev KO:bx:=Ve 48
theorem sc_alike:Zp ["web","one","other","from_one","from_other"] ["web","one","other"] (Zf KO):=Vt
theorem BD(Df:Def K mg "alike" KO)(B:WM mg)(C_settle:R0 P w K mg base)(C_least:Oe P w K mg base)(C_minus:Of P w K mg base):Kw P w K mg base:=
 Mu [] Df sc_alike λhr=>
  (Ze (YX 3 sc_alike.nd (U9 C_settle hr (Te (vo 0) (vo 1) Zi)))
  (Ze (YX 4 sc_alike.nd (U9 C_settle hr (Te (vo 0) (vo 2) Zi)))
  (Ze (XY (Ts hr.units (Zn (vo 3) Zi) (Zn (vo 4) Zi)) (Zh (Zy (VE.pure Hi))) Ym)
  (Zh (Zy (U9 C_least hr (X2 (VG C_minus hr (WO (Zn (vo 3) Zi) (Zn (vo 4) Zi))))))))))
abbrev NO:bx:=Ve 58
theorem sc_l_gone:Zp ["_law_web","_law_purse","_law_often","_law_found","_law_house","_law_coins","_law_other","_law_step"] ["_law_web","_law_purse","_law_often"] (Zf NO):=Vt
theorem Dm(Df:Def K mg "_law_gone" NO)(B:WM mg):ND P w K mg base:=
 Mu [3] Df sc_l_gone λhr=>
  (Ze (YX 3 sc_l_gone.nd (Vg XA))
  (Ze (Kv (E6 B.range (Ny B.len (vo 0))) (So 4 sc_l_gone.nd) (Ze (YX 5 sc_l_gone.nd (VE.pure (Zn (vo 1) (vo 4))))
  (Ze (Kv (E6 B.range (Ny B.len (vo 0))) (So 6 sc_l_gone.nd) (Ze (YX 7 sc_l_gone.nd (VE.pure (Wb (Zn (vo 2) (vo 6)) (Zn (vo 2) (vo 4)))))
  (Zh (YX 5 sc_l_gone.nd (VE.pure (YC (vo 5) (Hj (Zn (Zn (vo 0) (vo 4)) (vo 6)) (vo 7))))))))
  (Zh (Wf (Xy (Tf b9 cV cW X9 (pv 3) (Z7 (VE.pure (vo 5)) Xu))))))))
  (Zh (Zy (VE.pure (Z3 ZJ YQ rfl B.tuple (by decide +kernel) (X2 (vo 3))))))))
abbrev KP:bx:=Ve 59
theorem sc_l_led:Zp ["_law_web","_law_base","_law_one","_law_other","_law_found","_law_both","_law_coins","_law_goal","_law_way"] ["_law_web","_law_base","_law_one","_law_other","_law_found"] (Zf KP):=Vt
theorem BE(Df:Def K mg "_law_led" KP)(B:WM mg)(C_plus:NB P w K mg base)(C_alike:Kw P w K mg base)(C_l_gone:ND P w K mg base)(C_l_tuple:Si P w K mg base):Kx P w K mg base:=
 O0 (O:=[]) (k:=6) 9 Ob Df sc_l_led (λ_ _ _ _ _ _ us hl=>match us,hl with | [_,_,_,_,_],_=>rfl) rfl rfl (by decide) (λfa cdv A outer s H E hr=>
  (Ze (YX 5 sc_l_led.nd (U9 C_plus hr (WO (vo 2) (vo 3))))
  (Ze (XY (Ts hr.units (VM.ve (MY RA Jx rfl B.list (by decide +kernel) (X2 (vo 5)))) (AA "_law_house" ["_law_one","_law_other"] [2,3] (E6 B.range (Ny B.len (vo 0))) (YC (Zn (vo 1) (vo 0)) (Zn (vo 2) (vo 0))))) (Zh (Zy (VE.pure MU))) Ym)
  (Ze (YX 6 sc_l_led.nd (VE.pure (Wb (vb (Uh rfl) OO B.sum (X2 (vo 5))) (vb (Uh rfl) OO B.sum (X2 (vo 4))))))
  (Ze (YX 7 sc_l_led.nd (VE.pure (WX UO UP (WX UO UP (We (vo 4) UH (W3 (vo 1))) (Y8 (X2 (vo 6)))) (We (vo 4) (W3 (YC (vo 1) Zi)) UH))))
  (Ze (YX 8 sc_l_led.nd (U9 C_alike hr (Te (vo 0) (vo 5) (vo 7))))
  (Zh (Zy (VE.pure (QA (VG C_l_tuple hr (WO (vo 8) (Ny B.len (vo 0)))) (OJ (OZ hr.units (VG C_l_gone hr (Te (vo 0) (vo 5) (vo 8))) (vo 7)))))))))))))
abbrev BF:bx:=Ve 60
theorem sc_law:Zp ["_law_script","_law_many","_law_web","_law_base","_law_some","_law_one","_law_other","_law_third","_law_found","_law_nought","_law_far"] ["_law_script"] (Zf BF):=Vt
theorem Ze7{ff:aN}{fd:fX}(Fn:Fun K "law" "law" BF ff fd)(B:WM mg)(C_l_houses:SS P w K mg base)(C_l_cell:R1 P w K mg base)(C_l_square:SU P w K mg base)(C_l_timesL:SW P w K mg base)(C_stills:Bd P w K mg base "stills" (["web","base","most"]:List bH) (Xd K TN 3) 7 300)(C_joined:NC P w K mg base)(C_l_led:Kx P w K mg base)(C_l_tuple:Si P w K mg base)(C_back:HK P w K mg base):Qq P w K mg base LJ 8 ff fd (["_law_script"]:List bH) (Xd K D_law 1):=
 Zes (O:=[]) (k:=7) 11 FQ Fn sc_law rfl rfl (by decide) (λfa cdv A outer s H E hr=>
  (Ze (YX 1 sc_law.nd (U9 C_l_houses hr (X2 (VG C_l_cell hr (WO (vo 0) Zi)))))
  (Ze (YX 2 sc_law.nd (U9 C_l_square hr (WO (VG C_l_timesL hr (Te (vo 0) Zi (vo 1))) (vo 1))))
  (Ze (YX 3 sc_law.nd (VE.pure (Wc (VG C_l_cell hr (WO (vo 0) Zi)) (vo 1))))
  (Ze (YX 4 sc_law.nd (Be C_stills (hr.mono (by decide)) rfl (WO (vo 2) (vo 3))))
  (Ze (Bj (is:=[5,6,7]) (LB (AA "_law_k" ["_law_some","_law_script"] [4,0] (E6 B.range Zi) (Zn (vo 1) (Wc (VG C_l_cell hr (WO (vo 2) (YC Zi (vo 0)))) (Ny B.len (vo 1))))) (Zaz (n:=3) rfl (Zv (So 5 sc_law.nd) (Zv (So 6 sc_law.nd) (Zv (So 7 sc_law.nd) YO))))))
  (Ze (YX 8 sc_law.nd (U9 C_joined hr (FR (vo 2) (vo 3) (vo 5) (vo 6))))
  (Ze (XY (VW.vt (MW (LS (OH (VG C_l_tuple hr (WO (vo 8) (vo 1))))) (MW (Ui hr.units (vo 8) (vo 4)) (LR (LS (OH (VG C_l_led hr (VN (vo 2) (FR (vo 3) (vo 5) (vo 6) (vo 8)))))))))) (Zh (Zy (VE.pure MU))) Ym)
  (Ze (XY (Ts hr.units (VG C_joined hr (FR (vo 2) (vo 3) (vo 6) (vo 5))) (vo 8)) (Zh (Zy (VE.pure MU))) Ym)
  (Ze (XY (Ts hr.units (VG C_joined hr (FR (vo 2) (vo 3) (vo 8) (vo 7))) (VG C_joined hr (FR (vo 2) (vo 3) (vo 5) (VG C_joined hr (FR (vo 2) (vo 3) (vo 6) (vo 7)))))) (Zh (Zy (VE.pure MU))) Ym)
  (Ze (YX 9 sc_law.nd (VE.pure (WX Fz FA (Y8 (X2 Zi)) (vo 1))))
  (Ze (XY (VW.vt (MW (Ts hr.units (VG C_joined hr (FR (vo 2) (vo 3) (vo 5) (vo 9))) (vo 5)) (LR (Ts hr.units (VG C_joined hr (FR (vo 2) (vo 3) (vo 9) (vo 6))) (vo 6))))) (Zh (Zy (VE.pure MU))) Ym)
  (Ze (YX 10 sc_law.nd (U9 C_back hr (Te (vo 2) (vo 3) (vo 5))))
  (Ze (XY (VW.vt (MW (LS (OH (VG C_l_tuple hr (WO (vo 10) (vo 1))))) (MW (Ui hr.units (vo 10) (vo 4)) (LR (Ts hr.units (VG C_joined hr (FR (vo 2) (vo 3) (vo 5) (vo 10))) (vo 9)))))) (Zh (Zy (VE.pure MU))) Ym)
  (Zh (Zy (VE.pure (QA (OZ hr.units (VG C_back hr (Te (vo 2) (vo 3) (vo 10))) (vo 5)) (OJ (OZ hr.units (VG C_back hr (Te (vo 2) (vo 3) (vo 9))) (vo 9)))))))))))))))))))))
end
end PW
namespace PW
open L2 VL
theorem BH(l:List PV)(lo hi:Option Int):(UG l lo hi).length<=l.length:=by unfold UG;rw[bT,br];omega
theorem Dp(ns:List Int)(k:Nat):Td (UG (iL ns) (aA (k:Int)) (aA ((k:Int)+1))++[PV.int 0]) 0=aA (.int (Zl ns k)):=by
 have e1:((k:Int)+1)=((k+1:Nat):Int):=by omega
 rw[e1];refine VH (j:=0) ?_;unfold UG;rw[HT.sIx_nat,HT.sIx_nat,aK];by_cases h:k<ns.length
 ·rw[fH (by omega),fH (by omega),show k+1-k=1 by omega];rw[g0 (by rw[aK];exact h)];simp[Zl,aI,aE h]
 ·rw[iU (by omega),eO (by rw[aK];omega)];simp[Zl,aI,cK (Nat.not_lt.mp h)]
theorem Sj{ns:List Int}(h:ns.length<=63)(k:Nat):YH [.cst (iL ns),.int (k:Int)]=aA (.int (Zl ns k)):=by
 have hl:=BH (iL ns) (aA (k:Int)) (aA ((k:Int)+1));rw[aK] at hl;have hp:ZD (UG (iL ns) (aA (k:Int)) (aA ((k:Int)+1)))=aD:=EN _ _ (Y7 ns);have c:(UG (iL ns) (aA (k:Int)) (aA ((k:Int)+1))).length+1<=10000:=by omega
 simp[YH,JM,Ya,Z2,QD,Zen,CK,hp,c,Dp]
theorem Gf{W:List (List Int)}{h:Nat}(hh:h<W.length):Uj [wP W,.int (h:Int)]=aA (.int (Zz W h).sum):=by simp[Uj,Ld,Ya,Z2,RO hh]
theorem BI(i:Int):Uk [.int i]=aA (.bl aD):=by simp[Uk,Lf,Ya,Z2]
def X0(a b:List Int):List Int:=(aF a.length).map λi=>Zl a i+Zl b i
def Ws(a b:List Int):List Int:=(aF a.length).map λi=>Zl a i-Zl b i
theorem KQ{a b:List Int}(h:b.length=a.length)(hl:a.length<=1000):V6 [pP a,pP b]=aA (pP (X0 a b)):=by
 have hz:SD (iL a) (iL b)=(aF a.length).map λ(i:Nat)=>.tup [.int (Zl a i),.int (Zl b i)]:=by rw[UN _ _ (by simpa using h),aK];apply ao;intro i hi;have hi:=aY.mp hi;rw[VZ a i hi,VZ b i (by omega)]
 have hc:Zr 2 [] (Sm aC aC [Za 0,Za 1]) (.many [0,1]) ZF (Zg Yi (Za 0) (Za 1)) [aA (pP a),aA (pP b)]=aA (.lst (iL (X0 a b))):=by rw[ZK (aF a.length) (λ(i:Nat)=>.tup [.int (Zl a i),.int (Zl b i)]) (λi=>.int (Zl a i+Zl b i)) (by simp[hz]) (by simp;omega) (λi _=>⟨_,rfl,rfl,by simp[setAll,compEnv]⟩)];simp[X0]
 simp[V6,C4,Ya,Z2,hc]
theorem J7{a b:List Int}(h:b.length=a.length)(hl:a.length<=1000):UQ [pP a,pP b]=aA (pP (Ws a b)):=by
 have hz:SD (iL a) (iL b)=(aF a.length).map λ(i:Nat)=>.tup [.int (Zl a i),.int (Zl b i)]:=by rw[UN _ _ (by simpa using h),aK];apply ao;intro i hi;have hi:=aY.mp hi;rw[VZ a i hi,VZ b i (by omega)]
 have hc:Zr 2 [] (Sm aC aC [Za 0,Za 1]) (.many [0,1]) ZF (Zg X3 (Za 0) (Za 1)) [aA (pP a),aA (pP b)]=aA (.lst (iL (Ws a b))):=by rw[ZK (aF a.length) (λ(i:Nat)=>.tup [.int (Zl a i),.int (Zl b i)]) (λi=>.int (Zl a i-Zl b i)) (by simp[hz]) (by simp;omega) (λi _=>⟨_,rfl,rfl,by simp[setAll,compEnv]⟩)];simp[Ws]
 simp[UQ,FC,Ya,Z2,hc]
theorem Oh(l:List Int):Vi (iL l)=(aF l.length).map λ(i:Nat)=>.tup [.int (i:Int),.int (Zl l i)]:=by rw[VY,aK];apply ao;intro i hi;rw[VZ l i (aY.mp hi)]
def X7(W:List (List Int))(S:List Int)(h:Nat):Int:=((aF W.length).map λi=>Z1 W h i*(Zl S i-Zl S h)).sum
theorem Zbb{W:List (List Int)}{S:List Int}{h:Nat}(ok:Zt W)(hh:h<W.length)(hs:S.length=W.length):Nd [wP W,pP S,.int (h:Int)]=aA (.int (X7 W S h)):=by
 have hr:=ok.sq h hh;have hf:=ok.few
 have hc:Zr 2 [1,2] (Y3 aC [Zg ZC (Za 0) (Za 2)]) (.many [0,1]) ZF (Zg Jp (Za 1) (Zg X3 (Zg ZC (Za 2) (Za 0)) (Zg ZC (Za 2) (Za 3)))) [aA (wP W),aA (pP S),aA (.int (h:Int))]=aA (.lst (iL ((aF W.length).map λi=>Z1 W h i*(Zl S i-Zl S h)))):=by
  rw[ZK (aF W.length) (λ(i:Nat)=>.tup [.int (i:Int),.int (Z1 W h i)]) (λi=>.int (Z1 W h i*(Zl S i-Zl S h))) (by simp[RO hh,Oh,hr];intro a _;rfl) (by simp;omega) (λi hi=>?_)]
  ·simp
  ·have hi:=aY.mp hi;refine⟨_,rfl,rfl,?_⟩;have b1:=ok.lo h i hh hi;have b2:=ok.hi h i hh hi;have hm:∀j,CMul (Z1 W h i) j:=λj=>Hz (by omega) (by omega);simp[setAll,compEnv,YT (show i<S.length by omega),YT (show h<S.length by omega),hm]
 simp[Nd,C3,Ya,Z2,hc,X7,-bV]
def Zx(W:List (List Int))(D S:List Int):List Int:=(aF D.length).map λh=>Zl D h+X7 W S h
theorem BJ{W:List (List Int)}{D S:List Int}(ok:Zt W)(hd:D.length=W.length)(hs:S.length=W.length):Sx [wP W,pP D,pP S]=aA (pP (Zx W D S)):=by
 have hf:=ok.few
 have hc:Zr 2 [0,2] (Y3 aC [Za 1]) (.many [0,1]) ZF (Zg Yi (Za 1) (Zc Nd [Za 2,Za 3,Za 0])) [aA (wP W),aA (pP D),aA (pP S)]=aA (.lst (iL (Zx W D S))):=by
  rw[ZK (aF D.length) (λ(i:Nat)=>.tup [.int (i:Int),.int (Zl D i)]) (λh=>.int (Zl D h+X7 W S h)) (by simp[Oh]) (by simp;omega) (λi hi=>?_)]
  ·simp[Zx]
  ·have hi:=aY.mp hi;refine⟨_,rfl,rfl,?_⟩;simp[setAll,compEnv,Zbb ok (show i<W.length by omega) hs]
 simp[Sx,Zcv,Ya,Z2,hc]
theorem J8{l:List Int}(hl:l.length<=1000):Wh [pP l,.int (l.length:Int)]=aA (.bl aD):=by
 have hc:Zr 1 [] (PR (Za 0)) (.one 0) ZF (Zc Uk [Za 0]) [aA (pP l),aA (.int (l.length:Int))]=aA (.lst (bL (l.map λ_=>aD))):=by rw[ZK l PV.int (λ_=>.bl aD) (JL (by simp)) (by omega) (λi hi=>⟨_,rfl,rfl,by simp[compEnv,BI]⟩)];simp
 have ha:EI [.lst (bL (l.map λ_=>aD))]=aA (.bl aD):=by rw[Zev];simp
 simp[Wh,Lg,Ya,Z2,hc,ha,-bV]
def XH(W:List (List Int))(a b:Nat):List (List Int):=(aF (Z1 W a b).toNat).map λ(t:Nat)=>[(a:Int),(b:Int),(t:Int)]
noncomputable def Uo(W:List (List Int))(a:Nat):List (List Int):=(aF (W.length-(a+1))).flatMap λj=>XH W a (a+1+j)
def Ys(W:List (List Int)):List (List Int):=(aF W.length).flatMap (Uo W)
theorem Uq{α:Type}(f:Nat->List α)(i:Nat):(aF (i+1)).flatMap f=(aF i).flatMap f++f i:=by rw[gw,jE];simp
theorem Gg{W:List (List Int)}(ok:Zt W){a b:Nat}(ha:a<W.length)(hb:b<W.length):(XH W a b).length<=9:=by have:=ok.hi a b ha hb;unfold XH;simp;omega
theorem Dq{W:List (List Int)}(ok:Zt W){a b:Nat}(ha:a<W.length)(hb:b<W.length)(t:Option PV):Zr 1 [2,4] (ZQ [Zg ZC (Za 3) (Za 4)]) (.one 0) ZF (eP (Yp [Za 1,Za 2,Za 0])) [aA (wP W),t,aA (.int (a:Int)),aA (pP (Zz W a)),aA (.int (b:Int))]=aA (.lst ((XH W a b).map pP)):=by
 have hr:=ok.sq a ha;have b1:=ok.lo a b ha hb;have b2:=ok.hi a b ha hb;rw[ZK (aF (Z1 W a b).toNat) (λ(i:Nat)=>.int (i:Int)) (λ(t:Nat)=>pP [(a:Int),(b:Int),(t:Int)]) ?_ (by simp;omega) (λi hi=>⟨_,rfl,rfl,by simp[compEnv]⟩)]
 ·simp[XH]
 ·exact YE (by simp[YT (show b<(Zz W a).length by omega)];show Z1 W a b=max (Z1 W a b) 0;omega) (by omega)
theorem Gh{W:List (List Int)}(ok:Zt W){a:Nat}(ha:a<W.length)(acc:List (List Int))(hacc:acc.length<=1000)(b0:Option PV) :
  ∃b',Xe (.one 4) (W4 1 (Zr 1 [2,4] (ZQ [Zg ZC (Za 3) (Za 4)]) (.one 0) ZF (eP (Yp [Za 1,Za 2,Za 0])))) (WE ((a:Int)+1) (W.length-(a+1))) [aA (wP W),aA (.lst (acc.map pP)),aA (.int (a:Int)),aA (pP (Zz W a)),b0]
   = aA (.nx [aA (wP W),aA (.lst ((acc++Uo W a).map pP)),aA (.int (a:Int)),aA (pP (Zz W a)),b'])/\(Uo W a).length<=63:=by
 have hf:=ok.few
 obtain⟨s',h1,b',h2,h3⟩:=ZY (T:=.one 4) (fb:=W4 1 (Zr 1 [2,4] (ZQ [Zg ZC (Za 3) (Za 4)]) (.one 0) ZF (eP (Yp [Za 1,Za 2,Za 0])))) (ls:=WE ((a:Int)+1) (W.length-(a+1))) (s:=[aA (wP W),aA (.lst (acc.map pP)),aA (.int (a:Int)),aA (pP (Zz W a)),b0])
  (λj st=>∃b',st=[aA (wP W),aA (.lst ((acc++(aF j).flatMap λj=>XH W a (a+1+j)).map pP)),aA (.int (a:Int)),aA (pP (Zz W a)),b']/\((aF j).flatMap λj=>XH W a (a+1+j)).length<=9*j)
  ⟨b0,by simp,by simp⟩ (λj l st hl hJ=>by
   obtain⟨hj,rfl⟩:=Tu hl;obtain⟨b',rfl,hlen⟩:=hJ;have hb:a+1+j<W.length:=by omega
   have e1:(a:Int)+1+(j:Int)=((a+1+j:Nat):Int):=by omega
   rw[e1];have hc:=Dq ok ha hb (aA (.lst ((acc++(aF j).flatMap λj=>XH W a (a+1+j)).map pP)));have hl2:=Gg ok ha hb;have hg:(acc.length+((aF j).flatMap λj=>XH W a (a+1+j)).length)+(XH W a (a+1+j)).length<=10000:=by omega
   refine⟨_,_,rfl,?_,aA (.int ((a+1+j:Nat):Int)),rfl,?_⟩
   ·refine(O7 hc rfl (by rw[aK,aK,ag];exact hg)).trans ?_;simp[Uq]
   ·rw[Uq,ag];omega)
 rw[Tv] at h2 h3;refine⟨b',?_,?_⟩
 ·rw[h1,h2];rfl
 ·have:Uo W a=(aF (W.length-(a+1))).flatMap λj=>XH W a (a+1+j):=rfl;rw[this];omega
theorem S6{W:List (List Int)}(ok:Zt W):Vb [wP W]=aA (.lst ((Ys W).map pP))/\(Ys W).length<=441:=by
 have hf:=ok.few;have enumW:Vi (W.map pP)=(aF W.length).map λ(i:Nat)=>.tup [.int (i:Int),pP (Zz W i)]:=by rw[VY,aK];apply ao;intro i hi;rw[C2 W i (aY.mp hi)]
 obtain⟨s',h1,x,y,z,h2,h3⟩:=ZY (T:=.many [2,3]) (fb:=YR [1] (Xa [Zg Yi (Za 2) (eC (.int 1)),Zc ZR [Za 0]]) (.one 4) (W4 1 (Zr 1 [2,4] (ZQ [Zg ZC (Za 3) (Za 4)]) (.one 0) ZF (eP (Yp [Za 1,Za 2,Za 0]))))) (ls:=Vi (W.map pP)) (s:=[aA (wP W),aA (.lst []),aB,aB,aB])
  (λi st=>∃x y z,st=[aA (wP W),aA (.lst (((aF i).flatMap (Uo W)).map pP)),x,y,z]/\((aF i).flatMap (Uo W)).length<=63*i)
  ⟨aB,aB,aB,by simp,by simp⟩ (λi l st hl hJ=>by
   obtain⟨x,y,z,rfl,hlen⟩:=hJ;have hi:i<W.length:=by have:=(aS.mp hl).1;rw[T7,aK] at this;exact this
   rw[enumW,aW,dC hi] at hl;cases hl;obtain⟨b',e1,e2⟩:=Gh ok hi ((aF i).flatMap (Uo W)) (by omega) z;refine⟨_,_,rfl,?_,aA (.int (i:Int)),aA (pP (Zz W i)),b',rfl,?_⟩
   ·have hr:Xa [Zg Yi (Za 2) (eC (.int 1)),Zc ZR [Za 0]] (Z5 [1] [aA (wP W),aA (.lst (((aF i).flatMap (Uo W)).map pP)),aA (.int (i:Int)),aA (pP (Zz W i)),z])=aA (WE ((i:Int)+1) (W.length-(i+1))):=by rw[Va (i:=(i:Int)+1) (j:=(W.length:Int)) (by simp[Z5]) (by simp[Z5]) ⟨by omega,by omega⟩ ⟨by omega,by omega⟩];congr 2;omega
    show YR _ _ _ _ [aA (wP W),_,aA (.int (i:Int)),aA (pP (Zz W i)),z]=_;rw[Y5,hr];simp only[aO];rw[e1,Uq]
   ·rw[Uq,ag];omega)
 rw[T7,aK] at h2 h3;refine⟨?_,by have:Ys W=(aF W.length).flatMap (Uo W):=rfl;rw[this];omega⟩;have hs:Ya 5 QG [wP W]=aA (.lst ((Ys W).map pP)):=by unfold QG;simp only[Ya,Z2,a9,dq,bB,fG,Y4,ZE,CP,Kb,bc,aO];rw[Y5];simp only[EX];have:(Z5 [1] (([aA (wP W)]++aG (5-(0+1)) aB:ZL).set 1 (aA (.lst []))))=[aA (wP W),aB,aB,aB,aB]:=rfl;rw[this];simp only[O3,kB,kF,aO,Zex,bc];show((Xe _ _ (Vi (W.map pP)) [aA (wP W),aA (.lst []),aB,aB,aB]).bind _).bind Xl=_;rw[h1,h2];rfl
 exact hs
noncomputable def tk(e:Xb):List YV:=[.inl (e.1:Int),.inl (e.2.1:Int)]
def dP(ts:List Xb):PV:=.dT (ts.map tk) (ts.map λe=>.int e.2.2)
theorem Dr(ts:List Xb):ZD (ts.map λe=>PV.int e.2.2)=aD:=La λ_ _=>rfl
theorem J9(a b:Int):OX (.tup [.int a,.int b])=aA [.inl a,.inl b]:=rfl
theorem Gi{e:Xb}{a b:Nat}(h:tk e=[.inl (a:Int),.inl (b:Int)]):e.1=a/\e.2.1=b:=LP h
theorem Ia(ts:List Xb):(ts.map tk).zip (ts.map λe=>PV.int e.2.2)=ts.map λe=>(tk e,PV.int e.2.2):=by
 induction ts with
 | nil=>rfl
 | cons e r ih=>rw[a9,a9,dS,ih];rfl
theorem Zbc{n:Nat}{ts:List Xb}(ok:DictOk n ts){a b:Nat}{t:Int}(h:(a,b,t)∈ts):VD (ts.map tk) (ts.map λe=>PV.int e.2.2) [.inl (a:Int),.inl (b:Int)]=aA (.int t):=by
 unfold VD;rw[Ia];have nd:=ok.nd;clear ok
 induction ts with
 | nil=>simp at h
 | cons e r ih=>
  rw[a9,cO];rw[a9,ar] at nd;rcases aa.mp h with q | q
  ·subst q;have:decide (tk (a,b,t)=[eB (a:Int),eB (b:Int)])=aD:=decide_eq_true rfl;simp only[this,bc]
  ·have:decide (tk e=[eB (a:Int),eB (b:Int)])=aC:=decide_eq_false λz=>by obtain⟨h1,h2⟩:=Gi z;exact nd.1 (ah.mpr ⟨_,q,by simp[h1,h2]⟩)
   simp only[this];exact ih q nd.2
theorem Ib{n:Nat}{ts:List Xb}(ok:DictOk n ts){a b:Nat}{t:Int}(h:(a,b,t)∈ts):Vl (dP ts) (.tup [.int (a:Int),.int (b:Int)])=aA (.int t):=by show(OX (.tup [.int (a:Int),.int (b:Int)])).bind (λk=>VD (ts.map tk) (ts.map λe=>PV.int e.2.2) k)=_;rw[J9];exact Zbc ok h
theorem key_mem{ts:List Xb}{a b:Nat}:[eB (a:Int),eB (b:Int)]∈ts.map tk↔∃t,(a,b,t)∈ts:=by
 rw[ah];constructor
 ·rintro⟨e,he,z⟩;obtain⟨h1,h2⟩:=Gi z;exact⟨e.2.2,by rw[<-h1,<-h2];exact he⟩
 ·rintro⟨t,ht⟩;exact⟨_,ht,rfl⟩
def Gj(ts:List Xb)(a b:Nat):Prop:=∃t,(a,b,t)∈ts
def Ext(ts ts':List Xb):Prop:=∀c d,Gj ts c d->Gj ts' c d
theorem Ext.refl(ts:List Xb):Ext ts ts:=λ_ _ h=>h
theorem Ext.trans{a b c:List Xb}(h:Ext a b)(g:Ext b c):Ext a c:=λx y z=>g x y (h x y z)
def Y2(ts:List Xb):Int:=(ts.map λe=>e.2.2).sum
theorem Q6(e:Xb)(r:List Xb):Y2 (e::r)=e.2.2+Y2 r:=by unfold Y2;rw[a9,bY]
theorem Ic(l:List Xb)(a b:Nat)(t:Int):Y2 (l++[(a,b,t)])=Y2 l+t:=by unfold Y2;rw[bR,gu];simp
theorem FU(a b:Nat){t:Int}(h0:0<=t):∀ts:List Xb,(ts.map λe=>(e.1,e.2.1)).Nodup->(∀e∈ts,1<=e.2.2)->Y2 (ts.map λe=>if(e.1,e.2.1)=(a,b) then(e.1,e.2.1,t) else e)<=Y2 ts+t
 | [],_,_=>by show(0:Int)<=0+t;omega
 | e::r,nd,h=>by
  rw[a9,ar] at nd;have h1:=h e (by simp);rw[a9,Q6,Q6];by_cases q:(e.1,e.2.1)=(a,b)
  ·rw[oA q]
   have:(r.map λe=>if(e.1,e.2.1)=(a,b) then((e.1,e.2.1,t):Xb) else e)=r:=by
    conv=>rhs;rw[<-ja r]
    refine ao λx hx=>?_;rw[oB (λz=>nd.1 (ah.mpr ⟨x,hx,z.trans q.symm⟩))];rfl
   rw[this];show t+Y2 r<=_;omega
  ·rw[oB q];have:=FU a b h0 r nd.2 λx hx=>h x (by simp[hx]);omega
theorem R7{n:Nat}{ts:List Xb}{a b:Nat}{t:Int}(ok:DictOk n ts)(hab:a<b)(hb:b<n)(h1:1<=t)(h9:t<=9)(hl:ts.length<=10000) :
  ∃ts',Zan (dP ts) (.tup [.int (a:Int),.int (b:Int)]) (.int t)=aA (dP ts')/\DictOk n ts'/\ts'.length<=ts.length+1/\Gj ts' a b/\Ext ts ts'/\Y2 ts'<=Y2 ts+t:=by
 have c:(ZD (ts.map λe=>PV.int e.2.2)&&ZH (.int t)&&decide ((ts.map tk).length<=10000))=aD:=by rw[Dr,aK,decide_eq_true hl];rfl
 have e0:Zan (dP ts) (.tup [.int (a:Int),.int (b:Int)]) (.int t)=aA (.dT (Tq (ts.map tk) [.inl (a:Int),.inl (b:Int)]) (Tr (ts.map tk) (ts.map λe=>PV.int e.2.2) [.inl (a:Int),.inl (b:Int)] (.int t))):=by show(gd _).bind _=_;rw[T9 c,J9];rfl
 rw[e0];obtain⟨ts',p1,p2,p3⟩:=Zee ok hab hb h1 h9;by_cases hm:∃t',(a,b,t')∈ts
 ·refine⟨ts.map λe=>if(e.1,e.2.1)=(a,b) then(e.1,e.2.1,t) else e,?_,⟨?_,?_⟩,by simp,?_,?_,FU a b (by omega) ts ok.nd λe he=>(ok.ok e he).2.2.1⟩
  ·unfold Tq Tr dP;rw[oA (key_mem.mpr hm),oA (key_mem.mpr hm),Ia,bV,bV,bV];congr 2
   ·apply ao;intro e _;show tk e=tk (if(e.1,e.2.1)=(a,b) then(e.1,e.2.1,t) else e);split<;>rfl
   ·apply ao;intro e _;show(if tk e=[eB (a:Int),eB (b:Int)] then PV.int t else PV.int e.2.2)=PV.int (if(e.1,e.2.1)=(a,b) then((e.1,e.2.1,t):Xb) else e).2.2;by_cases q:(e.1,e.2.1)=(a,b)
    ·rw[oA q,oA (by have:=kj q;show [eB (e.1:Int),eB (e.2.1:Int)]=_;rw[this.1,this.2])]
    ·rw[oB q,oB (λz=>q (by obtain⟨h1,h2⟩:=Gi z;rw[h1,h2]))]
  ·intro e he;obtain⟨e',he',rfl⟩:=ah.mp he;have:=ok.ok e' he';split
   ·exact⟨this.1,this.2.1,h1,h9⟩
   ·exact this
  ·rw[bV]
   have e:((λe:Xb=>(e.1,e.2.1)) ∘ λe:Xb=>if(e.1,e.2.1)=(a,b) then(e.1,e.2.1,t) else e)=λe:Xb=>(e.1,e.2.1):=by
    funext e;show((if(e.1,e.2.1)=(a,b) then((e.1,e.2.1,t):Xb) else e).1,(if(e.1,e.2.1)=(a,b) then((e.1,e.2.1,t):Xb) else e).2.1)=_;split<;>rfl
   rw[e];exact ok.nd
  ·obtain⟨t',ht'⟩:=hm;exact⟨t,ah.mpr ⟨(a,b,t'),ht',oA rfl⟩⟩
  ·rintro c d ⟨u,hu⟩;by_cases q:(c,d)=(a,b)
   ·exact⟨t,ah.mpr ⟨(c,d,u),hu,oA q⟩⟩
   ·exact⟨u,ah.mpr ⟨(c,d,u),hu,oB q⟩⟩
 ·have hn:∀t',(a,b,t')∉ts:=λt' h=>hm ⟨t',h⟩;refine⟨ts++[(a,b,t)],?_,⟨?_,?_⟩,by simp,⟨t,by simp⟩,λc d ⟨u,hu⟩=>⟨u,au _ hu⟩,by rw[Ic];exact bq _⟩
  ·unfold Tq Tr dP;rw[oB (λz=>hm (key_mem.mp z)),oB (λz=>hm (key_mem.mp z)),bR,bR];rfl
  ·intro e he;rcases aq.mp he with q | q
   ·exact ok.ok e q
   ·rw[aR.mp q];exact⟨hab,hb,h1,h9⟩
  ·rw[bR];refine Ww ok.nd ?_;rw[ah];rintro⟨e,he,q⟩;have:=kj q;obtain⟨a',b',t'⟩:=e;simp only at this;rw[this.1,this.2] at he;exact hn t' he
theorem R8{i:Nat}{fk fv:XE}{s:ZL}{d k v d':PV}(hv:fv s=aA v)(hk:fk s=aA k)(hd:(s[i]?).join=aA d)(hp:Zan d k v=aA d'):VL.sDPut i fk fv s=aA (.nx (s.set i (aA d'))):=by unfold VL.sDPut;rw[hv,hk];simp only[aO,hd,hp,bc]
theorem KR(ts:List Xb):M8 (dP ts)=aA (ts.map λe=>.tup [.int (e.1:Int),.int (e.2.1:Int)]):=by show aA ((ts.map tk).map Zap)=_;rw[bV];rfl
def Cl(ts:List Xb)(P:Nat->Prop):Prop:=∀a b,Gj ts a b->(P a↔P b)
def Hang(n:Nat)(ts:List Xb):Prop:=∀P:Nat->Prop,Cl ts P->∀i j,i<n->j<n->(P i↔P j)
def WT(W:List (List Int)):Prop:=∀P:Nat->Prop,(∀a b,a<W.length->b<W.length->0<Z1 W a b->(P a↔P b))->∀i j,i<W.length->j<W.length->(P i↔P j)
theorem NP{n:Nat}{M:List (List Int)}{e:Xb}(ok:MatOk n M)(h:e.1<e.2.1/\e.2.1<n/\1<=e.2.2/\e.2.2<=9)(i j:Nat):Z1 (Z9 M e) i j=if e.2.1=i/\e.1=j then e.2.2 else if e.1=i/\e.2.1=j then e.2.2 else Z1 M i j:=by obtain⟨a,b,t⟩:=e;simp only at h ⊢;obtain⟨l1,r1⟩:=Uz (t:=t) (b:=b) ok.len ok.row (show a<n by omega);show Z1 (Wz (Wz M a b t) b a t) i j=_;rw[RH l1 r1 (by omega) (by omega),RH ok.len ok.row (by omega) (by omega)]
theorem Zbd{n:Nat}{ts:List Xb}(ok:DictOk n ts){a b:Nat}(h:Gj ts a b):a<n/\b<n/\0<Z1 (Hg n ts) a b:=by
 have keep:∀(l:List Xb)(M:List (List Int)),(∀e∈l,e.1<e.2.1/\e.2.1<n/\1<=e.2.2/\e.2.2<=9)->MatOk n M->0<Z1 M a b->0<Z1 (l.foldl Z9 M) a b:=by
  intro l
  induction l with
  | nil=>exact λM _ _ h=>h
  | cons e r ih=>
   intro M hl hM hp;have he:=hl e (by simp);refine ih _ (λe' h'=>hl e' (by simp[h'])) (hM.step he) ?_;rw[NP hM he];split
   ·omega
   ·split
    ·omega
    ·exact hp
 have gen:∀(l:List Xb)(M:List (List Int)),(∀e∈l,e.1<e.2.1/\e.2.1<n/\1<=e.2.2/\e.2.2<=9)->MatOk n M->Gj l a b->0<Z1 (l.foldl Z9 M) a b:=by
  intro l
  induction l with
  | nil=>rintro M _ _ ⟨t,ht⟩;simp at ht
  | cons e r ih=>
   rintro M hl hM ⟨t,ht⟩;have he:=hl e (by simp);rcases aa.mp ht with q | q
   ·refine keep r _ (λe' h'=>hl e' (by simp[h'])) (hM.step he) ?_;rw[NP hM he];subst q;simp only at he;split
    ·show 0<t;omega
    ·rw[oA ⟨rfl,rfl⟩];show 0<t;omega
   ·exact ih _ (λe' h'=>hl e' (by simp[h'])) (hM.step he) ⟨t,q⟩
 obtain⟨t,ht⟩:=id h;have:=ok.ok _ ht;simp only at this;exact⟨by omega,by omega,gen ts _ ok.ok (MatOk.zero n) h⟩
theorem Hang.conn{n:Nat}{ts:List Xb}(h:Hang n ts)(ok:DictOk n ts):WT (Hg n ts):=by intro P hP i j hi hj;have hl:=(OG ok).len;refine h P (λa b hab=>?_) i j (by omega) (by omega);obtain⟨ha,hb,hp⟩:=Zbd ok hab;exact hP a b (by omega) (by omega) hp
theorem Ur:∀{l m:List Int},l.Nodup->(∀x∈l,x∈m)->l.length<=m.length
 | [],m,_,_=>cj _
 | x::r,m,nd,h=>by have hx:x∈m:=h x (by simp);have nd':=ar.mp nd;have:=Ur (l:=r) (m:=m.erase x) nd'.2 λy hy=>(gQ (show y≠x from λz=>nd'.1 (by rw[<-z];exact hy))).mpr (h y (by simp[hy]));rw[gk hx] at this;have hp:=iM hx;rw[bB];omega
theorem Zg5{n:Nat}{l:List Int}(nd:l.Nodup)(h:∀x∈l,∃k:Nat,k<n/\x=(k:Int))(hl:l.length=n){j:Nat}(hj:j<n):(j:Int)∈l:=by
 by_cases q:(j:Int)∈l
 ·exact q
 ·have:=Ur (l:=(j:Int)::l) (m:=(aF n).map λ(k:Nat)=>(k:Int)) (ar.mpr ⟨q,nd⟩) (λx hx=>by
   rcases aa.mp hx with rfl | hx
   ·exact ah.mpr ⟨j,aY.mpr hj,rfl⟩
   ·obtain⟨k,hk,rfl⟩:=h x hx;exact ah.mpr ⟨k,aY.mpr hk,rfl⟩)
  rw[bB,aK,cR] at this;omega
def rL(M:List (List Int)):List PV:=M.map λr=>.lst (iL r)
theorem BK{M:List (List Int)}{a:Nat}(h:a<M.length):(rL M)[a]?=aA (.lst (iL (Zz M a))):=by unfold rL;rw[aW,OF h];rfl
theorem BL{M:List (List Int)}{a b:Nat}{t:Int}:(rL M).set a (.lst ((iL (Zz M a)).set b (.int t)))=rL (Wz M a b t):=by unfold rL Wz;rw[mP];show _=(List.map (λr=>PV.lst (iL r)) M).set a (PV.lst (((Zz M a).set b t).map PV.int));rw[mP]
theorem Ds{n:Nat}{ts:List Xb}(ok:DictOk n ts)(hn:n<=7):SI [dP ts,.int (n:Int)]=aA (wP (Hg n ts)):=by
 have hc:Zr 1 [1] (ZQ [Za 1]) (.one 0) ZF (Zg L8 (Xc [eC (.int 0)]) (Za 1)) [aA (dP ts),aA (.int (n:Int)),aB,aB,aB]=aA (.lst (rL (aG n (aG n 0)))):=by
  rw[ZK (aF n) (λ(i:Nat)=>.int (i:Int)) (λ_=>.lst (iL (aG n 0))) (YE (by simp) (by omega)) (by simp;omega) (λi _=>⟨_,rfl,rfl,?_⟩)]
  ·unfold rL;rw[List.map_const',cR,List.map_replicate]
  ·have e:L8 (.lst [.int 0]) (.int (n:Int))=aA (.lst (iL (aG n 0))):=by show(if ZD [PV.int 0]=aD/\(-1000000:Int)<=(n:Int)/\(n:Int)<=1000000/\[PV.int 0].length*((n:Int)).toNat<=10000 then aA (PV.lst (aG ((n:Int)).toNat [PV.int 0]).flatten) else aB)=_;rw[oA ⟨rfl,by omega,by omega,by simp;omega⟩,cF,Jn];simp
   simp[compEnv,e]
 have mat:∀i,MatOk n ((ts.take i).foldl Z9 (aG n (aG n 0))):=λi=>OG (ts:=ts.take i) ⟨λe he=>ok.ok e (fN he),by rw[jw];exact ok.nd.sublist (gG _ _)⟩
 obtain⟨s',h1,x,y,h2⟩:=ZY (T:=.many [3,4]) (fb:=Zj (VV 2 (Za 3) (Za 4) (Zg Vl (Za 0) (Yp [Za 3,Za 4]))) (VV 2 (Za 4) (Za 3) (Zg Vl (Za 0) (Yp [Za 3,Za 4])))) (ls:=ts.map λe=>.tup [.int (e.1:Int),.int (e.2.1:Int)]) (s:=[aA (dP ts),aA (.int (n:Int)),aA (.lst (rL (aG n (aG n 0)))),aB,aB])
  (λi st=>∃x y,st=[aA (dP ts),aA (.int (n:Int)),aA (.lst (rL ((ts.take i).foldl Z9 (aG n (aG n 0))))),x,y]) ⟨aB,aB,rfl⟩ (λi l st hl hJ=>by
   obtain⟨x,y,rfl⟩:=hJ;rw[aW] at hl
   cases he:ts[i]? with
   | none=>rw[he] at hl;cases hl
   | some e=>
    rw[he] at hl;cases hl;obtain⟨a,b,t⟩:=e;have hmem:(a,b,t)∈ts:=av he;obtain⟨hab,hbn,t1,t9⟩:=ok.ok _ hmem;simp only at hab hbn t1 t9;have mi:=mat i;have hg:=Ib ok hmem;refine⟨_,_,rfl,?_,aA (.int (a:Int)),aA (.int (b:Int)),rfl⟩;show Zj _ _ [aA (dP ts),aA (.int (n:Int)),aA (.lst (rL ((ts.take i).foldl Z9 (aG n (aG n 0))))),aA (.int (a:Int)),aA (.int (b:Int))]=_;have sh:=Uz (t:=t) (b:=b) mi.len mi.row (show a<n by omega);have lenM:(rL ((ts.take i).foldl Z9 (aG n (aG n 0)))).length=n:=by unfold rL;rw[aK];exact mi.len
    have lenM2:(rL (Wz ((ts.take i).foldl Z9 (aG n (aG n 0))) a b t)).length=n:=by unfold rL;rw[aK];exact sh.1
    rw[Y4,O9 (l:=.int t) (a:=(a:Int)) (b:=(b:Int)) (j:=a) (c:=b) (m:=rL ((ts.take i).foldl Z9 (aG n (aG n 0)))) (n:=iL (Zz ((ts.take i).foldl Z9 (aG n (aG n 0))) a)) (by simp[hg]) rfl rfl rfl (RS (by rw[lenM];omega)) (BK (by rw[mi.len];omega)) (Y7 _) rfl (RS (by rw[aK,mi.row a (by omega)];omega))];simp only[aO,BL];show VV _ _ _ _ [aA (dP ts),aA (.int (n:Int)),aA (.lst (rL (Wz ((ts.take i).foldl Z9 (aG n (aG n 0))) a b t))),aA (.int (a:Int)),aA (.int (b:Int))]=_;rw[O9 (l:=.int t) (a:=(b:Int)) (b:=(a:Int)) (j:=b) (c:=a) (m:=rL (Wz ((ts.take i).foldl Z9 (aG n (aG n 0))) a b t)) (n:=iL (Zz (Wz ((ts.take i).foldl Z9 (aG n (aG n 0))) a b t) b)) (by simp[hg]) rfl rfl rfl (RS (by rw[lenM2];omega)) (BK (by rw[sh.1];omega)) (Y7 _) rfl (RS (by rw[aK,sh.2 b (by omega)];omega)),BL];have e5:(ts.take (i+1)).foldl Z9 (aG n (aG n 0))=Z9 ((ts.take i).foldl Z9 (aG n (aG n 0))) (a,b,t):=Hh _ _ he;rw[e5];rfl)
 rw[aK,dW] at h2;have hsq:(ts.foldl Z9 (aG n (aG n 0)))=Hg n ts:=rfl;rw[hsq] at h2;have hc2:Zr 1 [] (X5 (Za 2)) (.one 0) ZF (Zc YD [Za 0]) [aA (dP ts),aA (.int (n:Int)),aA (.lst (rL (Hg n ts))),x,y]=aA (.lst ((Hg n ts).map pP)):=by rw[ZK (Hg n ts) (λr=>.lst (iL r)) pP (by simp[rL]) (by rw[(OG ok).len];omega) (λr _=>⟨_,rfl,rfl,by simp[compEnv]⟩)]
 show Ya 5 SH [dP ts,.int (n:Int)]=_;unfold SH;simp only[Ya,Z2,a9,dq,bB,fG,Y4,ZE];show(((Zr 1 [1] (ZQ [Za 1]) (.one 0) ZF (Zg L8 (Xc [eC (.int 0)]) (Za 1)) [aA (dP ts),aA (.int (n:Int)),aB,aB,aB]).map _).bind _).bind Xl=_;rw[hc];simp only[bc,aO];show((O1 0 _ _ [aA (dP ts),aA (.int (n:Int)),aA (.lst (rL (aG n (aG n 0)))),aB,aB]).bind _).bind Xl=_;unfold O1;show(((M8 (dP ts)).bind λls=>Xe _ _ ls [aA (dP ts),aA (.int (n:Int)),aA (.lst (rL (aG n (aG n 0)))),aB,aB]).bind _).bind Xl=_;rw[KR];simp only[aO];rw[h1,h2];simp[hc2]
theorem BM(l:List Int)(k:Nat)(x:Int):(iL l).take k++PV.int x::(iL l).drop k=iL (l.take k++x::l.drop k):=by show(l.map PV.int).take k++PV.int x::(l.map PV.int).drop k=(l.take k++x::l.drop k).map PV.int;rw[bR,a9,jw,nZ]
theorem Ie{n:Nat}{ts:List Xb}(ok:DictOk n ts)(hn:n<=7)(hl:ts.length<=1000)(c:Int):∃ts',Tz [dP ts,.int c,.int (n:Int)]=aA (dP ts')/\DictOk n ts'/\ts'.length<=ts.length/\(Hang n ts->Hang n ts')/\Y2 ts'<=Y2 ts:=by
 obtain⟨s1,h1,c1,x1,l1,e1,nk⟩:=ZY (T:=.one 4) (fb:=Zj (VU 3 (Zg Wa (Za 1) (Zg Yi (Za 4) (eC (.int 1)))) (Za 4)) (Zk 1 (eP (Zg WA (Za 1) (Zg Yi (Za 4) (eC (.int 1))))))) (ls:=WD n) (s:=[aA (dP ts),aA (.int c),aA (.int (n:Int)),aA (.lst []),aB,aB,aB,aB,aB])
  (λi st=>∃(c':Int) (x:Option PV) (l:List Int),st=[aA (dP ts),aA (.int c'),aA (.int (n:Int)),aA (.lst (iL l)),x,aB,aB,aB,aB]/\NamesOk i l) ⟨c,aB,[],rfl,NamesOk.nil⟩ (λi l st hl hJ=>by
   obtain⟨hi,rfl⟩:=Vn hl;obtain⟨c',x,nl,rfl,nk⟩:=hJ;have hd:0<(i:Int)+1:=by omega
   have hm0:=gA c' (show(i:Int)+1≠0 by omega);have hm1:=fm c' hd;refine⟨_,_,rfl,?_,c'/((i:Int)+1),aA (.int (i:Int)),nl.take (c'%((i:Int)+1)).toNat++(i:Int)::nl.drop (c'%((i:Int)+1)).toNat,rfl,nk.ins _⟩;show Zj _ _ [aA (dP ts),aA (.int c'),aA (.int (n:Int)),aA (.lst (iL nl)),aA (.int (i:Int)),aB,aB,aB,aB]=_;rw[Y4,O8 (k:=c'%((i:Int)+1)) (l:=.int (i:Int)) (m:=iL nl) (by simp[hd]) rfl rfl (Y7 nl) rfl hm0 (by omega) (by rw[aK,nk.len];omega),BM];have hcd:Rx c' ((i:Int)+1):=Tw hd (by omega);simp[hcd])
 have nkn:=nk;rw[Vo] at nkn
 obtain⟨s2,h2,x6,x7,x8,ts',e2,ok',hle,hsu,hall⟩:=ZY (T:=.many [6,7]) (fb:=Zj (Zk 8 (eP (Yp [Zc Tj [Zg ZC (Za 3) (Za 6),Zg ZC (Za 3) (Za 7)],Zc MZ [Zg ZC (Za 3) (Za 6),Zg ZC (Za 3) (Za 7)]]))) (VL.sDPut 5 (Za 8) (Zg Vl (Za 0) (Yp [Za 6,Za 7])))) (ls:=ts.map λe=>.tup [.int (e.1:Int),.int (e.2.1:Int)])
  (s:=[aA (dP ts),aA (.int c1),aA (.int (n:Int)),aA (.lst (iL l1)),x1,aA (dP []),aB,aB,aB])
  (λi st=>∃(x6 x7 x8:Option PV) (ts':List Xb),st=[aA (dP ts),aA (.int c1),aA (.int (n:Int)),aA (.lst (iL l1)),x1,aA (dP ts'),x6,x7,x8]/\DictOk n ts'/\ts'.length<=i/\Y2 ts'<=Y2 (ts.take i)/\∀(j:Nat)(e:Xb),j<i->ts[j]?=aA e->Gj ts' (Zl l1 e.1).toNat (Zl l1 e.2.1).toNat\/Gj ts' (Zl l1 e.2.1).toNat (Zl l1 e.1).toNat) ⟨aB,aB,aB,[],rfl,DictOk.nil n,aT _,bq _,λj e hj _=>by omega⟩ (λi l st hl' hJ=>by
   obtain⟨x6,x7,x8,ts',rfl,ok',hle,hsu,hall⟩:=hJ;rw[aW] at hl'
   cases he:ts[i]? with
   | none=>rw[he] at hl';cases hl'
   | some e=>
    rw[he] at hl';cases hl';obtain⟨a,b,t⟩:=e;have hil:=(aS.mp he).1;have hmem:(a,b,t)∈ts:=av he;obtain⟨hab,hbn,t1,t9⟩:=ok.ok _ hmem;simp only at hab hbn t1 t9;have hg:=Ib ok hmem;rw[Vo] at nk;have na:=nk.at (x:=a) (by omega);have nb:=nk.at (x:=b) (by omega);have ne:=nk.ne (x:=a) (y:=b) (by omega) (by omega) (by omega)
    -- the pair
    obtain⟨p,q,ep,eq,hpq,hqn⟩:∃p q:Nat,(if Zl l1 b<Zl l1 a then Zl l1 b else Zl l1 a)=(p:Int)/\(if Zl l1 b>Zl l1 a then Zl l1 b else Zl l1 a)=(q:Int)/\p<q/\q<n:=by refine⟨(if Zl l1 b<Zl l1 a then Zl l1 b else Zl l1 a).toNat,(if Zl l1 b>Zl l1 a then Zl l1 b else Zl l1 a).toNat,?_,?_,?_,?_⟩<;>split<;>(try split)<;>omega
    obtain⟨ts2,pe,ok2,hle2,hh2,hx2,hs2⟩:=R7 (t:=t) ok' hpq hqn t1 t9 (by omega);have ia:=YT (l:=l1) (k:=a) (by rw[nk.len];omega);have ib:=YT (l:=l1) (k:=b) (by rw[nk.len];omega)
    refine⟨_,_,rfl,?_,aA (.int (a:Int)),aA (.int (b:Int)),aA (.tup [.int (p:Int),.int (q:Int)]),ts2,rfl,ok2,by omega,by rw[iK,he];show _<=Y2 (ts.take i++[(a,b,t)]);rw[Ic];omega,λj e hj hje=>by
     by_cases hji:j<i
     ·exact(hall j e hji hje).imp (hx2 _ _) (hx2 _ _)
     ·have hj':j=i:=by omega
      subst hj';rw[he] at hje;cases hje;show Gj ts2 (Zl l1 a).toNat (Zl l1 b).toNat\/Gj ts2 (Zl l1 b).toNat (Zl l1 a).toNat;by_cases hlt:Zl l1 b<Zl l1 a
      ·rw[oA hlt] at ep;rw[oB (by omega)] at eq;exact .inr (by rw[ep,eq];exact hh2)
      ·rw[oB hlt] at ep;rw[oA (by omega)] at eq;exact .inl (by rw[ep,eq];exact hh2)⟩
    show Zj _ _ [aA (dP ts),aA (.int c1),aA (.int (n:Int)),aA (.lst (iL l1)),x1,aA (dP ts'),aA (.int (a:Int)),aA (.int (b:Int)),x8]=_;have hset:Zk 8 (eP (Yp [Zc Tj [Zg ZC (Za 3) (Za 6),Zg ZC (Za 3) (Za 7)],Zc MZ [Zg ZC (Za 3) (Za 6),Zg ZC (Za 3) (Za 7)]])) [aA (dP ts),aA (.int c1),aA (.int (n:Int)),aA (.lst (iL l1)),x1,aA (dP ts'),aA (.int (a:Int)),aA (.int (b:Int)),x8]=aA (.nx [aA (dP ts),aA (.int c1),aA (.int (n:Int)),aA (.lst (iL l1)),x1,aA (dP ts'),aA (.int (a:Int)),aA (.int (b:Int)),aA (.tup [.int (p:Int),.int (q:Int)])]):=by simp[ia,ib,ep,eq]
    rw[Y4,hset];simp only[aO];rw[R8 (v:=.int t) (k:=.tup [.int (p:Int),.int (q:Int)]) (d:=dP ts') (by simp[hg]) rfl rfl pe];rfl)
 rw[aK] at hle hall hsu;rw[dW] at hsu;refine⟨ts',?_,ok',hle,λhg P hP i j hi hj=>?_,hsu⟩;rotate_left
 ·have sur:∀k,k<n->∃x,x<n/\(Zl l1 x).toNat=k:=λk hk=>by have hm:=Zg5 nkn.nd (λx hx=>⟨x.toNat,by have:=nkn.lo x hx;have:=nkn.hi x hx;omega,by have:=nkn.lo x hx;omega⟩) nkn.len hk;obtain⟨x,hx,ex⟩:=cX hm;refine⟨x,by rw[<-nkn.len];exact hx,?_⟩;unfold Zl;rw[aI,aE hx,ex];rfl
  obtain⟨x,hx,rfl⟩:=sur i hi;obtain⟨y,hy,rfl⟩:=sur j hj;refine hg (λk=>P (Zl l1 k).toNat) (λa b hab=>?_) x y hx hy;obtain⟨t,ht⟩:=hab;obtain⟨k,hk,ek⟩:=cX ht;rcases hall k (a,b,t) hk (by rw[aE hk,ek]) with q | q
  ·exact hP _ _ q
  ·exact(hP _ _ q).symm
 show Ya 9 Tx [dP ts,.int c,.int (n:Int)]=_;unfold Tx;simp only[Ya,Z2,a9,dq,bB,fG,Y4,ZE];have hr:ZQ [Za 2] (Z5 [3,5] [aA (dP ts),aA (.int c),aA (.int (n:Int)),aA (.lst []),aB,aB,aB,aB,aB])=aA (WD n):=YE (by simp[Z5]) (by omega);show((YR [3,5] (ZQ [Za 2]) (.one 4) _ [aA (dP ts),aA (.int c),aA (.int (n:Int)),aA (.lst []),aB,aB,aB,aB,aB]).bind _).bind Xl=_;rw[Y5,hr];simp only[aO];rw[show(Xe (.one 4) (Zj (VU 3 (Zg Wa (Za 1) (Zg Yi (Za 4) (eC (.int 1)))) (Za 4)) (Zk 1 (eP (Zg WA (Za 1) (Zg Yi (Za 4) (eC (.int 1))))))) (WD n) [aA (dP ts),aA (.int c),aA (.int (n:Int)),aA (.lst []),aB,aB,aB,aB,aB])=aA (.nx s1) from h1,e1];show((O1 0 _ _ [aA (dP ts),aA (.int c1),aA (.int (n:Int)),aA (.lst (iL l1)),x1,aA (dP []),aB,aB,aB]).bind _).bind Xl=_;unfold O1;show(((M8 (dP ts)).bind λls=>Xe _ _ ls [aA (dP ts),aA (.int c1),aA (.int (n:Int)),aA (.lst (iL l1)),x1,aA (dP []),aB,aB,aB]).bind _).bind Xl=_;rw[KR];simp only[aO];rw[h2,e2];rfl
theorem BN{r m:Int}(h1:1<=m)(h9:m<=9):0<=r%2*(1+r/2%m)/\r%2*(1+r/2%m)<=9:=by
 have a1:=gA (r/2) (show m≠0 by omega);have a2:=fm (r/2) (show 0<m by omega);have a3:r%2=0\/r%2=1:=by omega
 rcases a3 with e | e<;>rw[e]<;>omega
theorem Zim{x y:PV}(c:Int):Td [x,y] (c%2)=aA (if c%2=0 then x else y):=by
 have h:c%2=0\/c%2=1:=by omega
 rcases h with h | h<;>rw[h]<;>rfl
theorem BO(neg:Bool)(a:Int)(l:List Int):X4 neg (.int a) (.lst (iL l))=aA (.bl (if neg then !decide (a∈l) else decide (a∈l))):=by
 unfold X4;have c:((iL l).all λz=>Wd 8 z (.int a))=aD:=by rw[jJ,bO];intro x _;rfl
 show(aA (iL l)).bind _=_;simp only[aO,oA c]
 have:decide (PV.int a∈iL l)=decide (a∈l):=decide_eq_decide.mpr (by
  rw[ah];constructor
  ·rintro⟨x,hx,e⟩;cases e;exact hx
  ·intro h;exact⟨a,h,rfl⟩)
 rw[this]
def bRT:XS:=(Zj (Zk 8 (eP (Zc Tj [Zg Jp (Zg Wa (Za 0) (eC (.int 2))) (Zg Yi (eC (.int 1)) (Zg Wa (Zg WA (Za 0) (eC (.int 2))) (Za 3))),Za 2])))
  (Zj (Zk 0 (eP (Zg ZC (Xc [Zg WA (Za 0) (eC (.int 2)),Zg WA (Zg WA (Za 0) (eC (.int 2))) (Za 3)]) (Zg Wa (Za 0) (eC (.int 2))))))
  (Sn (xB (Zg MV (Za 8) (eC (.int 0)))) (Zj (VL.sDPut 4 (Yp [Za 6,Za 7]) (Za 8))
  (Zk 2 (eP (Zg X3 (Za 2) (Za 8))))) Yk)))
noncomputable def WU(n:Nat)(most:Int)(ts:List Xb)(Zu o5:Int)(x6 x7 x8:Option Int)(x9:Option Int)(met:List Int):ZL:=
 [aA (.int Zu),aA (.int (n:Int)),aA (.int o5),aA (.int most),aA (dP ts),aA (.lst (iL met)),x6.map PV.int,x7.map PV.int,x8.map PV.int,x9.map PV.int]
theorem Ze8{n:Nat}{most:Int}{ts:List Xb}{Zu o5:Int}{a b:Nat}{x8 x9:Option Int}{met:List Int}(h1:1<=most)(h9:most<=9)(ok:DictOk n ts)(hl:ts.length<=1000)(hab:a<b)(hb:b<n) :
  ∃ts' o8 o7 x8',bRT (WU n most ts Zu o5 (aA (a:Int)) (aA (b:Int)) x8 x9 met)=aA (.nx (WU n most ts' o8 o7 (aA (a:Int)) (aA (b:Int)) (aA x8') x9 met))/\DictOk n ts'/\ts'.length<=ts.length+1/\(0<=o5->0<=o7/\Y2 ts'+o7<=Y2 ts+o5):=by
 obtain⟨d0,d9⟩:=BN (r:=Zu) h1 h9;have cm:CMul (Zu%2) (1+Zu/2%most):=Hz (by omega) (by omega);have cd:Rx Zu 2:=Tw (by omega) (by omega);have cd2:Rx (Zu/2) most:=Tw (by omega) (by omega);have hm:0<most:=by omega
 generalize hdp:(if o5<Zu%2*(1+Zu/2%most) then o5 else Zu%2*(1+Zu/2%most))=dp;have hdp9:dp<=9:=by rw[<-hdp];split<;>omega
 have hdpr:dp<=o5:=by rw[<-hdp];split<;>omega
 generalize hrs:(if Zu%2=0 then Zu/2 else Zu/2/most)=rs;have hif:(if Zu%2=0 then PV.int (Zu/2) else PV.int (Zu/2/most))=PV.int rs:=by rw[<-hrs];split<;>rfl
 have first:(Zj (Zk 8 (eP (Zc Tj [Zg Jp (Zg Wa (Za 0) (eC (.int 2))) (Zg Yi (eC (.int 1)) (Zg Wa (Zg WA (Za 0) (eC (.int 2))) (Za 3))),Za 2]))) (Zk 0 (eP (Zg ZC (Xc [Zg WA (Za 0) (eC (.int 2)),Zg WA (Zg WA (Za 0) (eC (.int 2))) (Za 3)]) (Zg Wa (Za 0) (eC (.int 2)))))))
   (WU n most ts Zu o5 (aA (a:Int)) (aA (b:Int)) x8 x9 met)=aA (.nx (WU n most ts rs o5 (aA (a:Int)) (aA (b:Int)) (aA dp) x9 met)):=by
  simp[WU,cm,cd,cd2,hm,Zim,hif,hdp]
 have split3:∀(f g h:XS)(s s1:ZL),Zj f g s=aA (.nx s1)->Zj f (Zj g h) s=h s1:=λf g h s s1 e=>by
  simp only[Y4] at e ⊢
  cases q:f s with
  | none=>rw[q] at e;cases e
  | some o=>
   rw[q] at e
   cases o with
   | nx s2=>
    simp only[aO] at e ⊢;rw[e];rfl
   | _=>cases e
 by_cases hpos:0<dp
 ·obtain⟨ts2,pe,ok2,hle2,_,_,hs2⟩:=R7 (t:=dp) ok hab hb (by omega) hdp9 (by omega);refine⟨ts2,rs,o5-dp,dp,?_,ok2,hle2,λ_=>⟨by omega,by omega⟩⟩;unfold bRT;rw[split3 _ _ _ _ _ first];have hput:=R8 (i:=4) (fk:=Yp [Za 6,Za 7]) (fv:=Za 8) (s:=WU n most ts rs o5 (aA (a:Int)) (aA (b:Int)) (aA dp) x9 met) (v:=.int dp) (k:=.tup [.int (a:Int),.int (b:Int)]) (d:=dP ts) rfl (by simp[WU]) rfl pe;have ht:xB (Zg MV (Za 8) (eC (.int 0))) (WU n most ts rs o5 (aA (a:Int)) (aA (b:Int)) (aA dp) x9 met)=aA aD:=by simp[WU,hpos]
  rw[UM,ht];simp only[aO,if_true];rw[Y4,hput];simp[WU]
 ·refine⟨ts,rs,o5,dp,?_,ok,by omega,λh=>⟨h,bq _⟩⟩;unfold bRT;rw[split3 _ _ _ _ _ first];have ht:xB (Zg MV (Za 8) (eC (.int 0))) (WU n most ts rs o5 (aA (a:Int)) (aA (b:Int)) (aA dp) x9 met)=aA aC:=by simp[WU,hpos]
  rw[UM,ht];simp
theorem BP{n:Nat}{most:Int}{a:Nat}{ts:List Xb}{Zu o5:Int}{x7 x8 x9:Option Int}{met:List Int}(h1:1<=most)(h9:most<=9)(ok:DictOk n ts)(hl:ts.length<=100)(ha:a<n)(hn:n<=7) :
  ∃ts' o8 o7 y7 y8,Xe (.one 7) bRT (WE ((a:Int)+1) (n-(a+1))) (WU n most ts Zu o5 (aA (a:Int)) x7 x8 x9 met)=aA (.nx (WU n most ts' o8 o7 (aA (a:Int)) y7 y8 x9 met))/\DictOk n ts'/\ts'.length<=ts.length+7/\(0<=o5->0<=o7/\Y2 ts'+o7<=Y2 ts+o5):=by
 obtain⟨s',h,ts',o8,o7,y7,y8,e,ok',hle,hsu⟩:=ZY (T:=.one 7) (fb:=bRT) (ls:=WE ((a:Int)+1) (n-(a+1))) (s:=WU n most ts Zu o5 (aA (a:Int)) x7 x8 x9 met)
  (λj st=>∃ts' o8 o7 y7 y8,st=WU n most ts' o8 o7 (aA (a:Int)) y7 y8 x9 met/\DictOk n ts'/\ts'.length<=ts.length+j/\(0<=o5->0<=o7/\Y2 ts'+o7<=Y2 ts+o5)) ⟨ts,Zu,o5,x7,x8,rfl,ok,by omega,λh=>⟨h,bq _⟩⟩ (λj l st hl' hJ=>by
   obtain⟨hj,rfl⟩:=Tu hl';obtain⟨ts',o8,o7,y7,y8,rfl,ok',hle,hsu⟩:=hJ;have e1:(a:Int)+1+(j:Int)=((a+1+j:Nat):Int):=by omega
   rw[e1];obtain⟨ts2,r2,m2,z8,e2,ok2,hle2,hs2⟩:=Ze8 (Zu:=o8) (o5:=o7) (x8:=y8) (x9:=x9) (met:=met) h1 h9 ok' (by omega) (show a<a+1+j by omega) (by omega);exact⟨_,_,rfl,e2,ts2,r2,m2,aA ((a+1+j:Nat):Int),aA z8,rfl,ok2,by omega,λh=>by have a1:=hsu h;have a2:=hs2 a1.1;exact⟨a2.1,by omega⟩⟩)
 rw[Tv] at hle;exact⟨ts',o8,o7,y7,y8,by rw[h,e],ok',by omega,hsu⟩
theorem BQ{n:Nat}{most:Int}{Zu o5:Int}{met:List Int}(h1:1<=most)(h9:most<=9)(hn:n<=7) :
  ∃ts' o8 o7 y6 y7 y8,Xe (.one 6) (YR [4,5] (Xa [Zg Yi (Za 6) (eC (.int 1)),Za 1]) (.one 7) bRT) (WD n) (WU n most [] Zu o5 aB aB aB aB met)=aA (.nx (WU n most ts' o8 o7 y6 y7 y8 aB met))/\DictOk n ts'/\ts'.length<=49/\(0<=o5->Y2 ts'<=o5):=by
 obtain⟨s',h,ts',o8,o7,y6,y7,y8,e,ok',hle,hsu⟩:=ZY (T:=.one 6) (fb:=YR [4,5] (Xa [Zg Yi (Za 6) (eC (.int 1)),Za 1]) (.one 7) bRT) (ls:=WD n) (s:=WU n most [] Zu o5 aB aB aB aB met)
  (λi st=>∃ts' o8 o7 y6 y7 y8,st=WU n most ts' o8 o7 y6 y7 y8 aB met/\DictOk n ts'/\ts'.length<=7*i/\(0<=o5->0<=o7/\Y2 ts'+o7<=o5)) ⟨[],Zu,o5,aB,aB,aB,rfl,DictOk.nil n,by simp,λh=>⟨h,by show(0:Int)+o5<=o5;omega⟩⟩ (λi l st hl' hJ=>by
   obtain⟨hi,rfl⟩:=Vn hl';obtain⟨ts',o8,o7,y6,y7,y8,rfl,ok',hle,hsu⟩:=hJ;obtain⟨ts2,r2,m2,z7,z8,e2,ok2,hle2,hs2⟩:=BP (Zu:=o8) (o5:=o7) (x7:=y7) (x8:=y8) (x9:=aB) (met:=met) h1 h9 ok' (by omega) hi hn;refine⟨_,_,rfl,?_,ts2,r2,m2,aA (i:Int),z7,z8,rfl,ok2,by omega,λh=>by have a1:=hsu h;have a2:=hs2 a1.1;exact⟨a2.1,by omega⟩⟩;have hr:Xa [Zg Yi (Za 6) (eC (.int 1)),Za 1] (Z5 [4,5] (WU n most ts' o8 o7 (aA (i:Int)) y7 y8 aB met))=aA (WE ((i:Int)+1) (n-(i+1))):=by rw[Va (i:=(i:Int)+1) (j:=(n:Int)) (by simp[Z5,WU]) (by simp[Z5,WU]) ⟨by omega,by omega⟩ ⟨by omega,by omega⟩];congr 2;omega
   show YR _ _ _ _ (WU n most ts' o8 o7 (aA (i:Int)) y7 y8 aB met)=_;rw[Y5,hr];exact e2)
 rw[Vo] at hle;exact⟨ts',o8,o7,y6,y7,y8,by rw[h,e],ok',by omega,λh=>by have:=hsu h;omega⟩
def Gk:XS:=(Zj (Sn (V5 (xB (Zg (X4 aC) (Za 6) (Za 5))) (xB (Zg (X4 aD) (Za 7) (Za 5)))) (ZZ 5 (eP (Za 7))) Yk)
  (Sn (V5 (xB (Zg (X4 aC) (Za 7) (Za 5))) (xB (Zg (X4 aD) (Za 6) (Za 5)))) (ZZ 5 (eP (Za 6))) Yk))
structure MetOk(n:Nat)(ts:List Xb)(met:List Int):Prop where
 nd:met.Nodup
 ok:∀m∈met,∃k:Nat,k<n/\m=(k:Int)/\∀P:Nat->Prop,Cl ts P->(P k↔P 0)
theorem MetOk.add{n:Nat}{ts:List Xb}{met:List Int}{a b:Nat}(h:MetOk n ts met)(hab:Gj ts a b\/Gj ts b a)(hb:b<n)(ha:(a:Int)∈met)(hnb:(b:Int)∉met):MetOk n ts (met++[(b:Int)]):=by
 refine⟨?_,λm hm=>?_⟩
 ·rw[dG];refine⟨h.nd,by simp,λx hx y hy z=>?_⟩;rw[aR.mp hy] at z;exact hnb (z▸hx)
 ·rcases aq.mp hm with hm | hm
  ·exact h.ok m hm
  ·refine⟨b,hb,aR.mp hm,λP hP=>?_⟩;obtain⟨k,hk,e,q⟩:=h.ok _ ha;have:a=k:=by omega
   subst this;rcases hab with z | z
   ·exact(hP _ _ z).symm.trans (q P hP)
   ·exact(hP _ _ z).trans (q P hP)
theorem MetOk.hang{n:Nat}{ts:List Xb}{met:List Int}(h:MetOk n ts met)(hl:met.length=n):Hang n ts:=by
 have all:∀P,Cl ts P->∀i,i<n->(P i↔P 0):=λP hP i hi=>by
  have hm:=Zg5 h.nd (λx hx=>by obtain⟨k,hk,e,_⟩:=h.ok x hx;exact⟨k,hk,e⟩) hl hi;obtain⟨k,hk,e,q⟩:=h.ok _ hm;have:i=k:=by omega
  subst this;exact q P hP
 exact λP hP i j hi hj=>(all P hP i hi).trans (all P hP j hj).symm
theorem Ig{n:Nat}{most:Int}{ts:List Xb}{Zu o5:Int}{a b:Int}{x8 x9:Option Int}{met:List Int}(hl:met.length<=5000)(f g:Nat)(va vb:Int)(hf:∀met,(WU n most ts Zu o5 (aA a) (aA b) x8 x9 met)[f]?=aA (aA (.int va)))(hg:∀met,(WU n most ts Zu o5 (aA a) (aA b) x8 x9 met)[g]?=aA (aA (.int vb))) :
  ∃met',Sn (V5 (xB (Zg (X4 aC) (Za f) (Za 5))) (xB (Zg (X4 aD) (Za g) (Za 5)))) (ZZ 5 (eP (Za g))) Yk (WU n most ts Zu o5 (aA a) (aA b) x8 x9 met)=aA (.nx (WU n most ts Zu o5 (aA a) (aA b) x8 x9 met'))/\met'.length<=met.length+1/\(met'=met\/(va∈met/\vb∉met/\met'=met++[vb])):=by
 have h5:(WU n most ts Zu o5 (aA a) (aA b) x8 x9 met)[5]?=aA (aA (.lst (iL met))):=rfl
 have t:V5 (xB (Zg (X4 aC) (Za f) (Za 5))) (xB (Zg (X4 aD) (Za g) (Za 5))) (WU n most ts Zu o5 (aA a) (aA b) x8 x9 met)=aA (decide (va∈met)&&!decide (vb∈met)):=by
  simp only[O5,O4,UK,O3,hf,hg,h5,kF,aO,BO,CQ];by_cases h:va∈met<;>simp[h]
 rw[UM,t];simp only[aO];split
 ·rename_i hc;refine⟨met++[vb],?_,by simp,.inr ⟨by simp at hc;exact hc.1,by simp at hc;exact hc.2,rfl⟩⟩;rw[Wg (l:=.int vb) (m:=iL met) (by simp only[Vm,O3,hg,kF,aO,EU,if_true]) rfl (by rw[aK];omega)];simp[WU]
 ·exact⟨met,rfl,by omega,.inl rfl⟩
theorem Zbe{n:Nat}{most:Int}{ts:List Xb}{Zu o5:Int}{a b:Int}{x8 x9:Option Int}{met:List Int}(hl:met.length<=4000) :
  ∃met',Gk (WU n most ts Zu o5 (aA a) (aA b) x8 x9 met)=aA (.nx (WU n most ts Zu o5 (aA a) (aA b) x8 x9 met'))/\met'.length<=met.length+2/\(∀a' b':Nat,a=a'->b=b'->Gj ts a' b'->a'<n->b'<n->MetOk n ts met->MetOk n ts met'):=by
 obtain⟨m1,e1,l1,o1⟩:=Ig (n:=n) (most:=most) (ts:=ts) (Zu:=Zu) (o5:=o5) (a:=a) (b:=b) (x8:=x8) (x9:=x9) (met:=met) (by omega) 6 7 a b (λ_=>rfl) (λ_=>rfl);obtain⟨m2,e2,l2,o2⟩:=Ig (n:=n) (most:=most) (ts:=ts) (Zu:=Zu) (o5:=o5) (a:=a) (b:=b) (x8:=x8) (x9:=x9) (met:=m1) (by omega) 7 6 b a (λ_=>rfl) (λ_=>rfl);refine⟨m2,?_,by omega,λa' b' ha hb hab han hbn mk=>?_⟩;rotate_left
 ·subst ha hb
  have k1:MetOk n ts m1:=by
   rcases o1 with rfl | ⟨u,v,rfl⟩
   ·exact mk
   ·exact mk.add (.inl hab) hbn u v
  rcases o2 with rfl | ⟨u,v,rfl⟩
  ·exact k1
  ·exact k1.add (.inr hab) han u v
 unfold Gk;rw[Y4,e1];exact e2
theorem Dt{n:Nat}{most:Int}{ts:List Xb}{Zu o5:Int}{x6 x7 x8 x9:Option Int}{met:List Int}:Hw [4,5] (.nx (WU n most ts Zu o5 x6 x7 x8 x9 met)) = .nx (WU n most ts Zu o5 x6 x7 x8 x9 met):=by cases x6<;>cases x7<;>cases x8<;>cases x9<;>rfl
theorem BR{n:Nat}{most:Int}{ts:List Xb}{Zu o5:Int}{x6 x7 x8 x9:Option Int}{met:List Int}(hl:met.length<=2000)(ht:ts.length<=49)(ok:DictOk n ts)(mk:MetOk n ts met) :
  ∃y6 y7 met',SG [4,5] 4 (.many [6,7]) Gk (WU n most ts Zu o5 x6 x7 x8 x9 met)=aA (.nx (WU n most ts Zu o5 y6 y7 x8 x9 met'))/\met'.length<=met.length+98/\MetOk n ts met':=by
 obtain⟨s',h,y6,y7,met',e,hle,mk'⟩:=ZY (T:=.many [6,7]) (fb:=Gk) (ls:=ts.map λe=>.tup [.int (e.1:Int),.int (e.2.1:Int)]) (s:=WU n most ts Zu o5 x6 x7 x8 x9 met)
  (λj st=>∃y6 y7 met',st=WU n most ts Zu o5 y6 y7 x8 x9 met'/\met'.length<=met.length+2*j/\MetOk n ts met') ⟨x6,x7,met,rfl,by omega,mk⟩ (λj l st hl' hJ=>by
   obtain⟨y6,y7,met',rfl,hle,mk'⟩:=hJ;rw[aW] at hl'
   cases he:ts[j]? with
   | none=>rw[he] at hl';cases hl'
   | some e=>
    rw[he] at hl';cases hl';have hj:=(aS.mp he).1;have hmem:=av he;have hoe:=ok.ok e hmem;obtain⟨m2,e2,l2,o2⟩:=Zbe (n:=n) (most:=most) (ts:=ts) (Zu:=Zu) (o5:=o5) (a:=(e.1:Int)) (b:=(e.2.1:Int)) (x8:=x8) (x9:=x9) (met:=met') (by omega);exact⟨_,_,rfl,e2,aA (e.1:Int),aA (e.2.1:Int),m2,rfl,by omega,o2 e.1 e.2.1 rfl rfl ⟨e.2.2,hmem⟩ (by omega) (by omega) mk'⟩)
 rw[aK] at hle;refine⟨y6,y7,met',?_,by omega,mk'⟩;unfold SG;show((M8 (dP ts)).bind λls=>(Xe _ _ ls _).map (Hw [4,5]))=_;rw[KR];simp only[aO];rw[h,e,bc,Dt]
theorem Zbf{n:Nat}{most:Int}{ts:List Xb}{Zu o5:Int}{x6 x7 x8:Option Int}(ht:ts.length<=49)(hn:n<=7)(ok:DictOk n ts)(hn1:1<=n) :
  ∃y6 y7 y9 met',Xe (.one 9) (SG [4,5] 4 (.many [6,7]) Gk) (WD n) (WU n most ts Zu o5 x6 x7 x8 aB [0])=aA (.nx (WU n most ts Zu o5 y6 y7 x8 y9 met'))/\MetOk n ts met':=by
 obtain⟨s',h,y6,y7,y9,met',e,hle,mk⟩:=ZY (T:=.one 9) (fb:=SG [4,5] 4 (.many [6,7]) Gk) (ls:=WD n) (s:=WU n most ts Zu o5 x6 x7 x8 aB [0])
  (λi st=>∃y6 y7 y9 met',st=WU n most ts Zu o5 y6 y7 x8 y9 met'/\met'.length<=1+98*i/\MetOk n ts met') ⟨x6,x7,aB,[0],rfl,by simp,⟨by simp,λm hm=>⟨0,by omega,aR.mp hm,λP _=>Iff.rfl⟩⟩⟩ (λi l st hl' hJ=>by
   obtain⟨hi,rfl⟩:=Vn hl';obtain⟨y6,y7,y9,met',rfl,hle,mk⟩:=hJ;obtain⟨z6,z7,m2,e2,l2,mk2⟩:=BR (n:=n) (most:=most) (ts:=ts) (Zu:=Zu) (o5:=o5) (x6:=y6) (x7:=y7) (x8:=x8) (x9:=aA (i:Int)) (met:=met') (by omega) ht ok mk;exact⟨_,_,rfl,e2,z6,z7,aA (i:Int),m2,rfl,by omega,mk2⟩)
 exact⟨y6,y7,y9,met',by rw[h,e],mk⟩
theorem NQ{n:Nat}{most Zu o5:Int}(h1:1<=most)(h9:most<=9)(hn:n<=7)(hn1:1<=n):∃r,Yq [.int Zu,.int (n:Int),.int o5,.int most]=aA r/\(r = .non\/∃ts,r=dP ts/\DictOk n ts/\ts.length<=49/\Hang n ts/\(0<=o5->Y2 ts<=o5)):=by
 obtain⟨ts,o8,o7,y6,y7,y8,e1,ok,hle,hsu⟩:=BQ (n:=n) (Zu:=Zu) (o5:=o5) (met:=[0]) h1 h9 hn;obtain⟨z6,z7,z9,met,e2,mk⟩:=Zbf (n:=n) (most:=most) (ts:=ts) (Zu:=o8) (o5:=o7) (x6:=y6) (x7:=y7) (x8:=y8) hle hn ok hn1;refine⟨if met.length=n then dP ts else .non,?_,?_⟩
 ·show Ya 10 Vp [.int Zu,.int (n:Int),.int o5,.int most]=_;have r1:ZQ [Za 1] (Z5 [4,5] (WU n most [] Zu o5 aB aB aB aB [0]))=aA (WD n):=YE (by simp[Z5,WU]) (by omega);have r2:ZQ [Za 1] (Z5 [4,5] (WU n most ts o8 o7 y6 y7 y8 aB [0]))=aA (WD n):=YE (by simp[Z5,WU]) (by omega);unfold Vp;simp only[Ya,Z2,a9,dq,bB,fG,Y4,ZE];show((YR [4,5] (ZQ [Za 1]) (.one 6) (YR [4,5] (Xa [Zg Yi (Za 6) (eC (.int 1)),Za 1]) (.one 7) bRT) (WU n most [] Zu o5 aB aB aB aB [0])).bind _).bind Xl=_;rw[Y5,r1];simp only[aO];rw[e1];simp only[aO];show((YR [4,5] (ZQ [Za 1]) (.one 9) (SG [4,5] 4 (.many [6,7]) Gk) (WU n most ts o8 o7 y6 y7 y8 aB [0])).bind _).bind Xl=_;rw[Y5,r2];simp only[aO];rw[e2];simp only[aO];unfold Ka;by_cases h:met.length=n
  ·simp[WU,h]
  ·have h':¬((met.length:Int)=(n:Int)):=by omega
   simp[WU,h,h']
 ·by_cases h:met.length=n
  ·rw[oA h];exact .inr ⟨ts,rfl,ok,hle,mk.hang h,hsu⟩
  ·rw[oB h];exact .inl rfl
theorem Ze9(ts:List Xb)(a b:Int):∃c,dIn (dP ts) (.tup [.int a,.int b])=aA c:=⟨_,rfl⟩
theorem Yz{f g:XS}{s s1:ZL}(e1:f s=aA (.nx s1)):Zj f g s=g s1:=by simp only[Y4,e1,aO]
theorem YI(a b:List Int):(X0 a b).length=a.length:=by simp[X0]
theorem Xh(a b:List Int):(Ws a b).length=a.length:=by simp[Ws]
theorem Yl(W:List (List Int))(D S:List Int):(Zx W D S).length=D.length:=by simp[Zx]
theorem Yt{a b:List Int}{i:Nat}(h:i<a.length):Zl (X0 a b) i=Zl a i+Zl b i:=Yg h
theorem Vy{a b:List Int}{i:Nat}(h:i<a.length):Zl (Ws a b) i=Zl a i-Zl b i:=Yg h
theorem WI{W:List (List Int)}{a b:List Int}{i:Nat}(h:i<a.length):Zl (Zx W a b) i=Zl a i+X7 W b i:=Yg h
theorem V2{a b:List Int}(hl:a.length=b.length)(h:∀i,i<a.length->Zl a i=Zl b i):a=b:=by rw[<-Qx a,<-Qx b,hl];apply ao;intro i hi;exact h i (by rw[hl];exact aY.mp hi)
theorem Oi{W:List (List Int)}(ok:Zt W){i:Nat}(hi:i<W.length):(Zz W i).sum=((aF W.length).map λj=>Z1 W i j).sum:=by rw[<-Fb (Zz W i),ok.sq i hi];rfl
theorem Gm{W:List (List Int)}(ok:Zt W):((Ys W).length:Int)=((aF W.length).map λa=>((aF (W.length-(a+1))).map λj=>Z1 W a (a+1+j)).sum).sum:=by
 have len_flat:∀(f:Nat->List (List Int))(n:Nat),(((aF n).flatMap f).length:Int)=((aF n).map λi=>((f i).length:Int)).sum:=by
  intro f n
  induction n with
  | zero=>rfl
  | succ n ih=>rw[Uq,ag,ZX,<-ih];omega
 unfold Ys;rw[len_flat];apply Yn;intro a ha;unfold Uo;rw[len_flat];apply Yn;intro j hj;have:=ok.lo a (a+1+j) ha (by omega);unfold XH;rw[aK,cR];omega
theorem BS{W:List (List Int)}(ok:Zt W):((aF W.length).map λi=>(Zz W i).sum).sum=2*((Ys W).length:Int):=by rw[Gm ok,<-Cn (λi j=>Z1 W i j) W.length (λi j hi hj=>ok.sym i j hi hj) (λi hi=>ok.dia i hi)];apply Yn;intro i hi;exact Oi ok hi
theorem Du{n m:Nat}{ix:List Nat}{fi:XL}{ft:XT}{fe:XE}{s:ZL}(g:Nat->Int)(hfi:fi s=aA (WD m))(hm:m<=1000)(h:∀i:Nat,i<m->∃s1,Vj (.one 0) (.int (i:Int)) (compEnv n ix s)=aA s1/\ft s1=aA aD/\fe s1=aA (.int (g i))) :
  Zr n ix fi (.one 0) ft fe s=aA (.lst (iL ((aF m).map g))):=by
 rw[ZK (aF m) (λ(i:Nat)=>.int (i:Int)) (λi=>.int (g i)) hfi (by simp;omega) (λi hi=>h i (aY.mp hi))];simp
theorem NR(f g:Nat->Int)(n:Nat):((aF n).map λi=>f i+g i).sum=((aF n).map f).sum+((aF n).map g).sum:=by
 induction n with
 | zero=>rfl
 | succ n ih=>rw[ZX,ZX,ZX,ih];omega
theorem BU(f:Nat->Nat->Int)(n m:Nat):((aF n).map λi=>((aF m).map λj=>f i j).sum).sum=((aF m).map λj=>((aF n).map λi=>f i j).sum).sum:=by
 induction n with
 | zero=>
  have:((aF m).map λj=>((aF 0).map λi=>f i j).sum).sum=0:=by have:=EH 0 m;simpa using this
  rw[this];rfl
 | succ n ih=>
  rw[ZX,ih,<-NR];apply Yn;intro j _;rw[ZX]
theorem Ll{W:List (List Int)}{S U T:List Int}{h:Nat}(e:∀i,i<W.length->Zl T i=Zl S i+Zl U i)(hh:h<W.length):X7 W T h=X7 W S h+X7 W U h:=by unfold X7;rw[<-NR];apply Yn;intro i hi;rw[e i hi,e h hh,<-ie];congr 1;omega
theorem FV{W:List (List Int)}{D S U T:List Int}(hd:D.length=W.length)(e:∀i,i<W.length->Zl T i=Zl S i+Zl U i):Zx W (Zx W D S) U=Zx W D T:=V2 (by simp[Yl]) λi hi=>by rw[Yl,Yl] at hi;rw[WI (by rw[Yl];exact hi),WI hi,WI hi,Ll e (by omega)];omega
theorem Dv{W:List (List Int)}{S T:List Int}{h:Nat}(c:Int)(e:∀i,i<W.length->Zl T i=Zl S i+c)(hh:h<W.length):X7 W T h=X7 W S h:=by unfold X7;apply Yn;intro i hi;rw[e i hi,e h hh];congr 1;omega
theorem BV{W:List (List Int)}(ok:Zt W)(S:List Int):((aF W.length).map λh=>X7 W S h).sum=0:=by
 have e1:((aF W.length).map λh=>X7 W S h).sum=((aF W.length).map λi=>((aF W.length).map λj=>Z1 W i j*Zl S j).sum).sum-((aF W.length).map λi=>((aF W.length).map λj=>Z1 W i j*Zl S i).sum).sum:=by rw[<-G9];apply Yn;intro i _;unfold X7;rw[<-G9];apply Yn;intro j _;rw[gS]
 have e2:((aF W.length).map λi=>((aF W.length).map λj=>Z1 W i j*Zl S i).sum).sum=((aF W.length).map λi=>((aF W.length).map λj=>Z1 W i j*Zl S j).sum).sum:=by rw[BU];apply Yn;intro i hi;apply Yn;intro j hj;rw[ok.sym j i hj hi]
 rw[e1,e2];omega
theorem Zbg{W:List (List Int)}{D S:List Int}(ok:Zt W)(hd:D.length=W.length):(Zx W D S).sum=D.sum:=by unfold Zx;rw[NR,Fb,hd,BV ok,jN]
theorem Zfa(n:Nat)(c:Int):(aG n [PV.int c]).flatten=iL (aG n c):=by
 induction n with
 | zero=>rfl
 | succ n ih=>rw[cL,dZ,ih,cL];rfl
theorem KS{n i:Nat}(c:Int)(hi:i<n):Zl (aG n c) i=c:=by unfold Zl;rw[aI,b7,oA hi];rfl
theorem BW(l:List Int)(k:Nat):UG (iL l) aB (aA (k:Int))=iL (l.take k):=by
 unfold UG;rw[HT.sIx_none,HT.sIx_nat,aK,nR,Nat.sub_zero,<-jw];congr 1;by_cases h:k<=l.length
 ·rw[fH h]
 ·rw[iU (by omega),cH (aT _),cH (by omega)]
theorem BX(l:List Int)(k:Nat):UG (iL l) (aA (k:Int)) aB=iL (l.drop k):=by
 unfold UG;rw[HT.sIx_none,HT.sIx_nat,aK,<-nZ,<-jw];congr 1;by_cases h:k<=l.length
 ·rw[fH h,cH (by rw[br];omega)]
 ·rw[iU (by omega),eO (aT _),eO (by omega)];simp
theorem Zbh{l:List Int}{h:Nat}(v:Int)(hh:h<l.length):l.take h++[v]++l.drop (h+1)=l.set h v:=by rw[gH,List.set_eq_take_append_cons_drop,oA hh];rfl
theorem KU{l:List Int}{i:Nat}(h:i<l.length):Zl l i∈l:=by unfold Zl;rw[aI,aE h];exact cD h
theorem R9{l:List Int}{x:Int}(h:x∈l):∃i,i<l.length/\Zl l i=x:=by obtain⟨i,hi,e⟩:=cX h;refine⟨i,hi,?_⟩;unfold Zl;rw[aI,aE hi,e];rfl
theorem Dw{l l':List Int}(c:Int)(hl:l'.length=l.length)(hp:0<l.length)(e:∀i,i<l.length->Zl l' i=Zl l i+c):Wi l'=Wi l+c:=by
 obtain⟨a,b⟩:=QH (l:=l) (eK.mp hp);obtain⟨i,hi,ei⟩:=R9 a;refine FD ?_ λx hx=>?_
 ·have:=KU (l:=l') (i:=i) (by omega);rw[e i hi,ei] at this;exact this
 ·obtain⟨j,hj,ej⟩:=R9 hx;have h1:=b _ (KU (l:=l) (i:=j) (by omega));rw[e j (by omega)] at ej;omega
def ZM(l:List Int):List Int:=(aF l.length).map λi=>Zl l i-Wi l
theorem Yj(l:List Int):(ZM l).length=l.length:=by simp[ZM]
theorem XI{l:List Int}{i:Nat}(h:i<l.length):Zl (ZM l) i=Zl l i-Wi l:=Yg h
theorem V3{l l':List Int}(c:Int)(hl:l'.length=l.length)(hp:0<l.length)(e:∀i,i<l.length->Zl l' i=Zl l i+c):ZM l'=ZM l:=V2 (by rw[Yj,Yj,hl]) λi hi=>by rw[Yj] at hi;rw[XI hi,XI (by omega),Dw c hl hp e,e i (by omega)];omega
theorem Ih{l:List Int}(hp:0<l.length):ZM (ZM l)=ZM l:=V3 (- Wi l) (Yj l) hp λi hi=>by rw[XI hi];omega
theorem Dx{W:List (List Int)}{D S T:List Int}(c:Int)(hd:D.length=W.length)(e:∀i,i<W.length->Zl T i=Zl S i+c):Zx W D T=Zx W D S:=V2 (by simp[Yl]) λi hi=>by rw[Yl] at hi;rw[WI hi,WI hi,Dv c e (by omega)]
theorem NS{f:Nat->Int}:∀{n:Nat},(∀i,i<n->f i<=0)->((aF n).map f).sum<=0
 | 0,_=>bq _
 | n+1,h=>by rw[ZX];have:=NS (f:=f) (n:=n) λi hi=>h i (by omega);have:=h n (by omega);omega
theorem Ta{f:Nat->Int}:∀{n:Nat},(∀i,i<n->f i<=0)->((aF n).map f).sum=0->∀i,i<n->f i=0
 | 0,_,_,i,hi=>by omega
 | n+1,h,e,i,hi=>by
  rw[ZX] at e;have h1:=NS (f:=f) (n:=n) λi hi=>h i (by omega);have h2:=h n (by omega);by_cases q:i=n
  ·subst q;omega
  ·exact Ta (f:=f) (n:=n) (λi hi=>h i (by omega)) (by omega) i (by omega)
theorem Gn{W:List (List Int)}{S:List Int}(ok:Zt W)(cn:WT W)(hs:S.length=W.length)(e:∀h,h<W.length->X7 W S h=0):∃c,∀i,i<W.length->Zl S i=c:=by
 have hpos:=ok.pos;obtain⟨a,b⟩:=Lh (l:=S) (eK.mp (by omega))
 have step:∀x y,x<W.length->y<W.length->0<Z1 W x y->Zl S x=Mr S->Zl S y=Mr S:=λx y hx hy hp hm=>by
  have z:=Ta (f:=λi=>Z1 W x i*(Zl S i-Zl S x)) (n:=W.length) (λi hi=>by
   have h1:=ok.lo x i hx hi;have h2:=b _ (KU (l:=S) (i:=i) (by omega));have:=dw (show Zl S i-Zl S x<=0 by omega) h1;rw[da] at this;exact this) (e x hx) y hy
  rcases mq.mp z with q | q
  ·omega
  ·omega
 obtain⟨i0,hi0,e0⟩:=R9 a;have all:=cn (λi=>Zl S i=Mr S) λx y hx hy hp=>⟨step x y hx hy hp,step y x hy hx (by rw[ok.sym y x hy hx];exact hp)⟩;exact⟨Mr S,λi hi=>(all i0 i (by omega) hi).mp e0⟩
theorem BY{W:List (List Int)}{D S T:List Int}(ok:Zt W)(cn:WT W)(hd:D.length=W.length)(hs:S.length=W.length)(ht:T.length=W.length):Zx W D T=Zx W D S↔ZM T=ZM S:=by
 have hpos:=ok.pos;constructor
 ·intro h
  obtain⟨c,hc⟩:=Gn (S:=Ws T S) ok cn (by rw[Xh,ht]) λi hi=>by
   have h1:Zl (Zx W D T) i=Zl (Zx W D S) i:=by rw[h]
   rw[WI (by omega),WI (by omega)] at h1;have h2:=Ll (W:=W) (T:=T) (S:=S) (U:=Ws T S) (h:=i) (λj hj=>by rw[Vy (by omega)];omega) hi;omega
  refine V3 c (by omega) (by omega) λi hi=>?_;have:=hc i (by omega);rw[Vy (by omega)] at this;omega
 ·intro h;refine Dx (Wi T-Wi S) hd λi hi=>?_;have h1:Zl (ZM T) i=Zl (ZM S) i:=by rw[h]
  rw[XI (by omega),XI (by omega)] at h1;omega
end PW
namespace PW
def sN:Nat->(Nat->Int)->Int
 | 0,_=>0
 | n+1,f=>sN n f+f n
theorem Zq{f g:Nat->Int}:∀{n:Nat},(∀i,i<n->f i=g i)->sN n f=sN n g
 | 0,_=>rfl
 | n+1,h=>by show sN n f+f n=sN n g+g n;rw[Zq λi hi=>h i (by omega),h n (by omega)]
theorem Qa{f:Nat->Int}{n:Nat}(h:∀i,i<n->f i=0):sN n f=0:=by
 rw[Zq (g:=λ_=>0) h];clear h
 induction n with
 | zero=>rfl
 | succ n ih=>show sN n _+0=0;rw[ih];rfl
theorem YL(f g:Nat->Int):∀n,sN n (λi=>f i+g i)=sN n f+sN n g
 | 0=>rfl
 | n+1=>by show sN n _+(f n+g n)=(sN n f+f n)+(sN n g+g n);rw[YL f g n];omega
theorem ZP(c:Int)(f:Nat->Int):∀n,sN n (λi=>c*f i)=c*sN n f
 | 0=>by show(0:Int)=c*0;simp
 | n+1=>by show sN n _+c*f n=c*(sN n f+f n);rw[ZP c f n,ie]
theorem Oj(f:Nat->Nat->Int)(m:Nat):∀n,sN n (λi=>sN m (f i))=sN m (λj=>sN n λi=>f i j)
 | 0=>by show(0:Int)=sN m λ_=>0;rw[Qa (λ_ _=>rfl)]
 | n+1=>by show sN n (λi=>sN m (f i))+sN m (f n)=sN m (λj=>(sN n λi=>f i j)+f n j);rw[YL,Oj f m n]
theorem Yy{f:Nat->Int}{k:Nat}:∀{n:Nat},k<n->(∀i,i<n->i≠k->f i=0)->sN n f=f k
 | 0,h,_=>by omega
 | n+1,h,z=>by
  show sN n f+f n=f k;by_cases q:k=n
  ·subst q;rw[Qa λi hi=>z i (by omega) (by omega)];omega
  ·rw[Yy (n:=n) (by omega) λi hi=>z i (by omega),z n (by omega) (by omega)];omega
theorem BZ{f:Nat->Int}{k:Nat}:∀{n:Nat},k+1<n->(∀i,i<n->i≠k->i≠k+1->f i=0)->sN n f=f k+f (k+1)
 | 0,h,_=>by omega
 | n+1,h,z=>by
  show sN n f+f n=_;by_cases q:k+1=n
  ·subst q;rw[Yy (k:=k) (by omega) λi hi hk=>z i (by omega) hk (by omega)]
  ·rw[BZ (n:=n) (by omega) λi hi=>z i (by omega),z n (by omega) (by omega) (by omega)];omega
theorem Qb(f:Nat->Int)(n:Nat):((aF n).map f).sum=sN n f:=by
 induction n with
 | zero=>rfl
 | succ n ih=>rw[gw,bR,gu,ih];simp[sN]
abbrev Mt:=Nat->Nat->Int
def PZ(i:Nat)(A:Mt):Mt:=λr c=>A (if r<i then r else r+1) (c+1)
def sg:Nat->Int
 | 0=>1
 | n+1=>- sg n
noncomputable def Vz:Nat->Mt->Int
 | 0,_=>1
 | n+1,A=>sN (n+1) λi=>sg i*A i 0*Vz n (PZ i A)
theorem WK(n:Nat)(A:Mt):Vz (n+1) A=sN (n+1) λi=>sg i*A i 0*Vz n (PZ i A):=rfl
theorem Vf:∀{n:Nat}{A B:Mt},(∀r c,r<n->c<n->A r c=B r c)->Vz n A=Vz n B
 | 0,_,_,_=>rfl
 | n+1,A,B,h=>by rw[WK,WK];refine Zq λi hi=>?_;rw[h i 0 hi (by omega),Vf (n:=n) (A:=PZ i A) (B:=PZ i B) λr c hr hc=>?_];unfold PZ;exact h _ _ (by split<;>omega) (by omega)
theorem FW:∀{n:Nat}{A B C:Mt}{k:Nat}{x y:Int},k<n->(∀r c,r<n->c<n->r≠k->A r c=C r c/\B r c=C r c)->(∀c,c<n->C k c=x*A k c+y*B k c)->Vz n C=x*Vz n A+y*Vz n B
 | 0,_,_,_,k,_,_,h,_,_=>by omega
 | n+1,A,B,C,k,x,y,hk,h1,h2=>by
  rw[WK,WK,WK,<-ZP,<-ZP,<-YL];refine Zq λi hi=>?_;by_cases q:i=k
  ·subst q;have e1:Vz n (PZ i A)=Vz n (PZ i C):=Vf λr c hr hc=>by unfold PZ;exact(h1 _ _ (by split<;>omega) (by omega) (by split<;>omega)).1
   have e2:Vz n (PZ i B)=Vz n (PZ i C):=Vf λr c hr hc=>by unfold PZ;exact(h1 _ _ (by split<;>omega) (by omega) (by split<;>omega)).2
   rw[e1,e2,h2 0 (by omega),ie,km];simp only[dX,fO]
  ·obtain⟨a1,a2⟩:=h1 i 0 hi (by omega) q
   have e:Vz n (PZ i C)=x*Vz n (PZ i A)+y*Vz n (PZ i B):=FW (k:=if k<i then k else k-1) (by split<;>omega) (λr c hr hc hrk=>by
    unfold PZ
    exact h1 _ _ (by split<;>omega) (by omega) (by split at hrk<;>split<;>omega)) (λc hc=>by
    have e:(if(if k<i then k else k-1)<i then(if k<i then k else k-1) else(if k<i then k else k-1)+1)=k:=by split<;>(try split)<;>omega
    unfold PZ;rw[e];exact h2 (c+1) (by omega))
   rw[a1,a2,e,ie];simp only[dX,fO]
theorem Ol:∀{n:Nat}{A:Mt}{k:Nat},k+1<n->(∀c,c<n->A k c=A (k+1) c)->Vz n A=0
 | 0,_,k,h,_=>by omega
 | n+1,A,k,hk,he=>by
  rw[WK,BZ hk]
  ·have e:Vz n (PZ k A)=Vz n (PZ (k+1) A):=Vf λr c hr hc=>by
    unfold PZ;by_cases q:r<k
    ·rw[oA q,oA (by omega)]
    ·rw[oB q];by_cases q2:r=k
     ·subst q2;rw[oA (by omega)];exact(he (c+1) (by omega)).symm
     ·rw[oB (by omega)]
   rw[e,he 0 (by omega)];show sg k*_*_ + - sg k*_*_=0;rw[ck,ck];omega
  ·intro i hi h1 h2;rw[Ol (n:=n) (A:=PZ i A) (k:=if k+1<i then k else k-1) (by split<;>omega) λc hc=>?_,da];have e1:(if(if k+1<i then k else k-1)<i then(if k+1<i then k else k-1) else(if k+1<i then k else k-1)+1)=k:=by split<;>(try split)<;>omega
   have e2:(if(if k+1<i then k else k-1)+1<i then(if k+1<i then k else k-1)+1 else(if k+1<i then k else k-1)+1+1)=k+1:=by split<;>(try split)<;>omega
   unfold PZ;rw[e1,e2];exact he (c+1) (by omega)
def put(k:Nat)(v:Nat->Int)(A:Mt):Mt:=λr=>if r=k then v else A r
theorem Y6(k:Nat)(v:Nat->Int)(A:Mt):put k v A k=v:=by unfold put;rw[oA rfl]
theorem Ub{k r:Nat}(v:Nat->Int)(A:Mt)(h:r≠k):put k v A r=A r:=by unfold put;rw[oB h]
theorem Qc{n k:Nat}{A:Mt}{u v:Nat->Int}{x y:Int}(hk:k<n):Vz n (put k (λc=>x*u c+y*v c) A)=x*Vz n (put k u A)+y*Vz n (put k v A):=
 FW hk (λr c _ _ h=>by rw[Ub _ _ h,Ub _ _ h,Ub _ _ h];exact⟨rfl,rfl⟩) (λc _=>by rw[Y6,Y6,Y6])
def swp(k:Nat)(A:Mt):Mt:=put k (A (k+1)) (put (k+1) (A k) A)
theorem Zbi{n k:Nat}{A:Mt}(hk:k+1<n):Vz n (swp k A) = - Vz n A:=by
 have two:∀u v:Nat->Int,Vz n (put k (λc=>1*u c+1*v c) (put (k+1) (λc=>1*u c+1*v c) A))=0:=λu v=>Ol hk λc _=>by rw[Y6,Ub _ _ (by omega),Y6]
 have same:∀u:Nat->Int,Vz n (put k u (put (k+1) u A))=0:=λu=>Ol hk λc _=>by rw[Y6,Ub _ _ (by omega),Y6]
 have comm:∀u v:Nat->Int,put k u (put (k+1) v A)=put (k+1) v (put k u A):=λu v=>by
  funext r;unfold put;by_cases q:r=k
  ·rw[oA q,oB (by omega),oA q]
  ·rw[oB q];by_cases q2:r=k+1
   ·rw[oA q2,oA q2]
   ·rw[oB q2,oB q2,oB q]
 have h:=two (A k) (A (k+1));rw[Qc (by omega),comm,Qc hk,comm,Qc hk,<-comm,<-comm,<-comm,<-comm,same,same] at h
 have e:put k (A k) (put (k+1) (A (k+1)) A)=A:=by
  funext r;unfold put;by_cases q:r=k
  ·rw[oA q,q]
  ·rw[oB q];by_cases q2:r=k+1
   ·rw[oA q2,q2]
   ·rw[oB q2]
 rw[e] at h;unfold swp;omega
theorem T3:∀(d:Nat){n i:Nat}{A:Mt},i+1+d<n->(∀c,c<n->A i c=A (i+1+d) c)->Vz n A=0
 | 0,n,i,A,h,e=>Ol h e
 | d+1,n,i,A,h,e=>by
  have h1:Vz n (swp (i+1+d) A)=0:=T3 d (n:=n) (i:=i) (by omega) λc hc=>by unfold swp;rw[Ub _ _ (by omega),Ub _ _ (by omega),Y6];exact e c hc
  rw[Zbi (by omega)] at h1;omega
theorem Ii{n i j:Nat}{A:Mt}(hi:i<n)(hj:j<n)(hij:i≠j)(e:∀c,c<n->A i c=A j c):Vz n A=0:=by
 rcases Nat.lt_or_gt_of_ne hij with h | h
 ·exact T3 (j-i-1) (i:=i) (by omega) λc hc=>by rw[show i+1+(j-i-1)=j by omega];exact e c hc
 ·exact T3 (i-j-1) (i:=j) (by omega) λc hc=>by rw[show j+1+(i-j-1)=i by omega];exact(e c hc).symm
theorem Ij:∀{n:Nat}{A:Mt},(∀c,c<n->A n c=0)->Vz (n+1) A=A n n*Vz n A
 | 0,A,_=>by show 0+1*A 0 0*1=A 0 0*1;omega
 | n+1,A,h=>by
  rw[WK (n+1)];show sN (n+1) _+sg (n+1)*A (n+1) 0*_=_;rw[h 0 (by omega),da,fP,jN,WK n,<-ZP];refine Zq λi hi=>?_;rw[Ij (n:=n) (A:=PZ i A) λc hc=>?_]
  ·have e:PZ i A n n=A (n+1) (n+1):=by unfold PZ;rw[oB (by omega)]
   rw[e];simp only[dX,fO]
  ·unfold PZ;rw[oB (by omega)];exact h (c+1) (by omega)
theorem NT{n j:Nat}{A:Mt}{a:Nat->Int}{v:Nat->Nat->Int}(hj:j<n):∀m,Vz n (put j (λc=>sN m λk=>a k*v k c) A)=sN m λk=>a k*Vz n (put j (v k) A)
 | 0=>by have:Vz n (put j (λc=>0*(0:Int)+0*(0:Int)) A)=0*Vz n (put j (λ_=>0) A)+0*Vz n (put j (λ_=>0) A):=Qc (u:=λ_=>0) (v:=λ_=>0) hj;simp only[fP,jN] at this;exact this
 | m+1=>by have:=Qc (n:=n) (A:=A) (u:=λc=>sN m λk=>a k*v k c) (v:=v m) (x:=1) (y:=a m) hj;simp only[jb] at this;show Vz n (put j (λc=>(sN m λk=>a k*v k c)+a m*v m c) A)=_;rw[this,NT hj m];rfl
theorem Zbj{n j:Nat}{A:Mt}{a:Nat->Int}(hj:j<n):Vz n (put j (λc=>sN n λk=>a k*A k c) A)=a j*Vz n A:=by
 rw[NT hj n,Yy (k:=j) hj]
 ·have:put j (A j) A=A:=by funext r;unfold put;split<;>simp_all
  rw[this]
 ·intro i hi hij;rw[Ii (i:=i) (j:=j) hi hj hij λc _=>by rw[Ub _ _ hij,Y6],da]
def Ik(n:Nat)(A:Mt)(i j:Nat):Int:=Vz n (put j (λc=>if c=i then 1 else 0) A)
theorem Zbk{n:Nat}{A:Mt}{j:Nat}(hj:j<n)(v:Nat->Int):sN n (λi=>v i*Ik n A i j)=Vz n (put j v A):=by
 unfold Ik;rw[<-NT (v:=λi c=>if c=i then 1 else 0) hj n];refine Vf λr c hr hc=>?_;unfold put;split
 ·show sN n (λk=>v k*if c=k then 1 else 0)=v c;rw[Yy (k:=c) hc]
  ·simp
  ·intro i hi hic;rw[oB (λz=>hic z.symm),da]
 ·rfl
theorem FX{n:Nat}{A:Mt}{k j:Nat}(hk:k<n)(hj:j<n):sN n (λi=>A k i*Ik n A i j)=if k=j then Vz n A else 0:=by
 rw[Zbk hj];split
 ·rename_i h;subst h;have:put k (A k) A=A:=by funext r;unfold put;split<;>simp_all
  rw[this]
 ·rename_i h;exact Ii (i:=k) (j:=j) hk hj h λc _=>by rw[Ub _ _ h,Y6]
abbrev ZA:=Nat×Nat
def ind(a b:Nat):Int:=if a=b then 1 else 0
def mrg(P:Nat->Nat)(a b:Nat):Nat->Nat:=λx=>if P x=P b then P a else P x
noncomputable def Il:List ZA->(Nat->Nat)->Nat->Nat
 | [],_,0=>1
 | [],_,_+1=>0
 | e::E,P,0=>Il E P 0
 | e::E,P,s+1=>(if P e.1=P e.2 then 0 else Il E (mrg P e.1 e.2) s)+Il E P (s+1)
theorem B1{E:List ZA}{e:ZA}{P:Nat->Nat}{s:Nat}(h:P e.1=P e.2):Il (e::E) P s=Il E P s:=by
 cases s with
 | zero=>rfl
 | succ s=>
  show(if P e.1=P e.2 then 0 else _)+_=_;rw[oA h,jK]
theorem Zbl{E:List ZA}{e:ZA}{P:Nat->Nat}{s:Nat}(h:P e.1≠P e.2):Il (e::E) P (s+1)=Il E (mrg P e.1 e.2) s+Il E P (s+1):=by show(if P e.1=P e.2 then 0 else _)+_=_;rw[oB h]
def Sq(T:List ZA)(t:Nat):ZA:=T.getD t (0,0)
noncomputable def Q7(T:List ZA):(Nat->Nat)->List Nat->Nat->Nat
 | P,[]=>P
 | P,t::g=>Q7 T (mrg P (Sq T t).1 (Sq T t).2) g
theorem Q8(T:List ZA):∀(g:List Nat)(P:Nat->Nat)(t:Nat),Q7 T P (g++[t])=mrg (Q7 T P g) (Sq T t).1 (Sq T t).2
 | [],P,t=>rfl
 | x::g,P,t=>Q8 T g _ t
def Y9(g:List Nat):Nat:=match g.getLast? with | some t=>t+1 | none=>0
theorem WL(g:List Nat)(t:Nat):Y9 (g++[t])=t+1:=by unfold Y9;simp
def Qd(T:List ZA)(g:List Nat):List Nat:=(jc (Y9 g) (T.length-Y9 g)).filter λt=>!decide (Q7 T id g (Sq T t).1=Q7 T id g (Sq T t).2)
noncomputable def Yu(T:List ZA)(gs:List (List Nat)):List (List Nat):=gs.flatMap λg=>(Qd T g).map λt=>g++[t]
theorem Im{k n:Nat}(h:k<n):jc k (n-k)=k::jc (k+1) (n-(k+1)):=by rw[show n-k=(n-(k+1))+1 by omega,List.range'_succ]
theorem Dy{T:List ZA}{k:Nat}(h:k<T.length):T.drop k=Sq T k::T.drop (k+1):=by unfold Sq;rw[g0 h,aI,aE h];rfl
theorem NU(T:List ZA)(P:Nat->Nat)(r:Nat):∀(d k:Nat),T.length-k=d->Il (T.drop k) P (r+1) =
  (((jc k (T.length-k)).filter λt=>!decide (P (Sq T t).1=P (Sq T t).2)).map λt=>Il (T.drop (t+1)) (mrg P (Sq T t).1 (Sq T t).2) r).sum
 | 0,k,h=>by rw[eO (by omega),h];rfl
 | d+1,k,h=>by
  rw[Dy (by omega),Im (by omega)];have ih:=NU T P r d (k+1) (by omega);by_cases q:P (Sq T k).1=P (Sq T k).2
  ·rw[B1 q,ih,List.filter_cons_of_neg (by simp[q])]
  ·rw[Zbl q,ih,List.filter_cons_of_pos (by simp[q]),a9,bY]
theorem Io{α β:Type}(f:β->Nat)(g:α->List β):∀l:List α,((l.flatMap g).map f).sum=(l.map λa=>((g a).map f).sum).sum
 | []=>rfl
 | a::l=>by rw[jd,bR,gu,Io f g l,a9,bY]
def Dz(T:List ZA)(r:Nat)(g:List Nat):Nat:=Il (T.drop (Y9 g)) (Q7 T id g) r
theorem DA(T:List ZA)(gs:List (List Nat))(r:Nat):((Yu T gs).map (Dz T r)).sum=(gs.map (Dz T (r+1))).sum:=by unfold Yu;rw[Io];congr 1;apply ao;intro g _;unfold Dz Qd;rw[NU T _ r _ _ rfl,bV];congr 1;apply ao;intro t _;show Il (T.drop (Y9 (g++[t]))) (Q7 T id (g++[t])) r=_;rw[WL,Q8]
noncomputable def ZO(T:List ZA):Nat->List (List Nat)
 | 0=>[[]]
 | s+1=>Yu T (ZO T s)
theorem NV(T:List ZA):∀s r,((ZO T s).map (Dz T r)).sum=Il T id (s+r)
 | 0,r=>by show Il (T.drop 0) id r+0=_;rw[nR,jK,Nat.add_zero]
 | s+1,r=>by show((Yu T (ZO T s)).map (Dz T r)).sum=_;rw[DA,NV T s (r+1)];congr 1;omega
theorem NW:∀(E:List ZA)(P:Nat->Nat),Il E P 0=1
 | [],_=>rfl
 | e::E,P=>NW E P
theorem Ip{α:Type}{f:α->Nat}:∀{l:List α},(∀a∈l,f a=1)->(l.map f).sum=l.length
 | [],_=>rfl
 | a::l,h=>by rw[a9,bY,h a (by simp),Ip λb hb=>h b (by simp[hb]),bB];omega
theorem S7(T:List ZA)(s:Nat):(ZO T s).length=Il T id s:=by have:=NV T s 0;rw[Ip (f:=Dz T 0) λg _=>NW _ _] at this;exact this
noncomputable def bn:Nat->Nat->Nat
 | _,0=>1
 | 0,_+1=>0
 | k+1,s+1=>bn k s+bn k (s+1)
theorem NX:∀(E:List ZA)(P:Nat->Nat)(s:Nat),Il E P s<=bn E.length s
 | [],P,0=>by show 1<=1;omega
 | [],P,s+1=>by show 0<=_;omega
 | e::E,P,0=>by rw[NW];show 1<=bn (E.length+1) 0;simp[bn]
 | e::E,P,s+1=>by
  have h1:=NX E (mrg P e.1 e.2) s;have h2:=NX E P (s+1);show(if P e.1=P e.2 then 0 else _)+_<=bn E.length s+bn E.length (s+1);split<;>omega
structure Gv(T:List ZA)(g:List Nat):Prop where
 lt:∀t∈g,t<T.length
 ris:g.Pairwise (· < ·)
 btw:∀i t,g[i]?=aA t->Q7 T id (g.take i) (Sq T t).1≠Q7 T id (g.take i) (Sq T t).2
theorem DB{g:List Nat}(h:g.Pairwise (· < ·)){t x:Nat}(ht:Y9 g<=t)(hx:x∈g):x<t:=by
 rcases iS g with rfl | ⟨l,b,rfl⟩
 ·simp at hx
 ·rw[gE] at *;rw[WL] at ht;rcases aq.mp hx with q | q
  ·have:=(dz.mp h).2.2 x q b (by simp);omega
  ·simp at q;omega
theorem Gv.snoc{T:List ZA}{g:List Nat}(h:Gv T g){t:Nat}(ht:t∈Qd T g):Gv T (g++[t]):=by
 unfold Qd at ht;rw[cN,je] at ht;obtain⟨⟨h1,h2⟩,h3⟩:=ht;refine⟨λx hx=>?_,?_,λi x hx=>?_⟩
 ·rcases aq.mp hx with q | q
  ·exact h.lt x q
  ·simp at q;omega
 ·rw[dz];exact⟨h.ris,by simp,λx hx y hy=>by simp at hy;rw[hy];exact DB h.ris h1 hx⟩
 ·by_cases q:i<g.length
  ·rw[az q] at hx;rw[dH (by omega)];exact h.btw i x hx
  ·have:i=g.length:=by have:=(aS.mp hx).1;simp at this;omega
   subst this;rw[bK (aT _)] at hx;simp at hx;subst hx;rw[gz]
   ·simpa using h3
   ·rfl
theorem Us(T:List ZA):∀s,∀g∈ZO T s,Gv T g/\g.length=s
 | 0,g,hg=>by
  have:g=[]:=by simpa [ZO] using hg
  subst this;exact⟨⟨λt ht=>by simp at ht,.nil,λi t h=>by simp at h⟩,rfl⟩
 | s+1,g,hg=>by have hg:g∈Yu T (ZO T s):=hg;unfold Yu at hg;obtain⟨h,hh,hg⟩:=eV.mp hg;obtain⟨t,ht,rfl⟩:=ah.mp hg;obtain⟨a,b⟩:=Us T s h hh;exact⟨a.snoc ht,by rw[ag,b];rfl⟩
def Iq:List Nat->List Nat->Prop
 | a::g,b::h=>a<b\/(a=b/\Iq g h)
 | _,_=>False
theorem Ln:∀{g h:List Nat}{x y:Nat},g.length=h.length->Iq g h->Iq (g++[x]) (h++[y])
 | [],[],_,_,_,q=>q.elim
 | a::g,b::h,x,y,hl,q=>by
  rcases q with q | ⟨q,r⟩
  ·exact .inl q
  ·exact .inr ⟨q,Ln (by simpa using hl) r⟩
theorem Lo:∀(g:List Nat){x y:Nat},x<y->Iq (g++[x]) (g++[y])
 | [],x,y,h=>.inl h
 | a::g,x,y,h=>.inr ⟨rfl,Lo g h⟩
theorem Py(T:List ZA):∀s,(ZO T s).Pairwise Iq
 | 0=>by show([[]]:List (List Nat)).Pairwise Iq;simp
 | s+1=>by
  show(Yu T (ZO T s)).Pairwise Iq;have ih:=Py T s;have gv:=Us T s;unfold Yu;generalize ZO T s=gs at ih gv
  induction gs with
  | nil=>simp
  | cons g gs ihg=>
   rw[jd,dz];have ih':=List.pairwise_cons.mp ih;refine⟨?_,ihg ih'.2 λh hh=>gv h (by simp[hh]),λx hx y hy=>?_⟩
   ·rw[eD];unfold Qd;exact(List.pairwise_lt_range' (s:=Y9 g) (n:=T.length-Y9 g)).filter _ |>.imp λq=>Lo g q
   ·obtain⟨t,_,rfl⟩:=ah.mp hx;obtain⟨h,hh,hy⟩:=eV.mp hy;obtain⟨u,_,rfl⟩:=ah.mp hy;exact Ln (by rw[(gv g (by simp)).2,(gv h (by simp[hh])).2]) (ih'.1 h hh)
def DC(n:Nat):List ZA:=(aF n).flatMap λa=>(aF (n-(a+1))).map λj=>(a,a+1+j)
theorem mem_prs{n a b:Nat}:(a,b)∈DC n↔a<b/\b<n:=by
 unfold DC;simp only[eV,aY,ah,Prod.mk.injEq];constructor
 ·rintro⟨x,hx,j,hj,rfl,rfl⟩;omega
 ·rintro⟨h1,h2⟩;exact⟨a,by omega,b-(a+1),by omega,rfl,by omega⟩
def Lp(n:Nat)(w:Nat->Nat->Int):List ZA:=(DC n).flatMap λp=>aG (w p.1 p.2).toNat p
theorem NY{α:Type}(p:ZA)(g:α->List ZA):∀l:List α,(l.flatMap g).count p=(l.map λa=>(g a).count p).sum
 | []=>rfl
 | a::l=>by rw[jd,List.count_append,NY p g l,a9,bY]
theorem B2:∀n,n<=7->(DC n).Nodup:=by decide +kernel
theorem Q9{f:ZA->Nat}{p:ZA}:∀{l:List ZA},l.Nodup->(∀q∈l,q≠p->f q=0)->(l.map f).sum=if p∈l then f p else 0
 | [],_,_=>by simp
 | q::l,nd,h=>by
  have nd':=ar.mp nd;rw[a9,bY,Q9 nd'.2 λr hr=>h r (by simp[hr])];by_cases e:q=p
  ·subst e;rw[oB nd'.1,oA (by simp)];omega
  ·rw[h q (by simp) e,jK];by_cases z:p∈l
   ·rw[oA z,oA (by simp[z])]
   ·rw[oB z,oB (by simp[z];exact λy=>e y.symm)]
theorem Ir{n:Nat}(hn:n<=7)(w:Nat->Nat->Int)(p:ZA):(Lp n w).count p=if p∈DC n then(w p.1 p.2).toNat else 0:=by
 unfold Lp;rw[NY,Q9 (p:=p) (B2 n hn) λq _ hq=>?_]
 ·split
  ·rw[List.count_replicate_self]
  ·rfl
 ·rw[List.count_replicate,oB (by simpa using hq)]
end PW
namespace PK
open PW
theorem B3{f:Nat->Int}{n p q:Nat}(hp:p<n)(hq:q<n)(ne:p≠q)(h:∀i,i<n->i≠p->i≠q->f i=0):sN n f=f p+f q:=by
 have e:sN n f=sN n (λi=>(if i=p then f p else 0)+(if i=q then f q else 0)):=Zq λi hi=>by
  by_cases a:i=p
  ·subst a;simp[ne]
  ·by_cases b:i=q
   ·subst b;simp[a]
   ·simp[a,b,h i hi a b]
 rw[e,YL,Yy (k:=p) hp (λi _ hi=>oB hi),Yy (k:=q) hq (λi _ hi=>oB hi),oA rfl,oA rfl]
theorem B4(f g:Nat->Int)(n:Nat):sN n (λi=>f i-g i)=sN n f-sN n g:=by
 have:sN n (λi=>f i-g i)=sN n (λi=>f i+(-1)*g i):=Zq λi _=>by omega
 rw[this,YL,ZP];omega
def Xp(m:Nat->Nat)(G:List Nat)(v:Nat):Bool:=G.any λg=>m g==v
theorem hasM_iff{m:Nat->Nat}{G:List Nat}{v:Nat}:Xp m G v=aD↔∃g,g∈G/\m g=v:=by unfold Xp;simp[eU]
def b1(b:Bool):Int:=if b=aD then 1 else 0
noncomputable def MB(n:Nat)(m:Nat->Nat)(G:List Nat):Int:=sN n λv=>b1 (Xp m G v)
def ZI(m:Nat->Nat)(a b:Nat):Nat->Nat:=λx=>if m x=m a then m b else m x
theorem Zg6{m:Nat->Nat}{a b:Nat}{G:List Nat}(ne:m a≠m b):Xp (ZI m a b) G (m a)=aC:=by
 cases q:Xp (ZI m a b) G (m a) with
 | false=>rfl
 | true=>
  obtain⟨g,_,e⟩:=hasM_iff.mp q;unfold ZI at e;split at e
  ·exact absurd e.symm ne
  ·rename_i z;exact absurd e z
theorem Zg7{m:Nat->Nat}{a b:Nat}{G:List Nat}:Xp (ZI m a b) G (m b)=(Xp m G (m a) || Xp m G (m b)):=by
 rw[jA,gy,hasM_iff,hasM_iff,hasM_iff];constructor
 ·rintro⟨g,hg,e⟩;unfold ZI at e;split at e
  ·rename_i z;exact .inl ⟨g,hg,z⟩
  ·exact .inr ⟨g,hg,e⟩
 ·rintro(⟨g,hg,e⟩ | ⟨g,hg,e⟩)
  ·exact⟨g,hg,by unfold ZI;rw[oA e]⟩
  ·exact⟨g,hg,by unfold ZI;split<;>first | rfl | exact e⟩
theorem Zg8{m:Nat->Nat}{a b v:Nat}{G:List Nat}(h1:v≠m a)(h2:v≠m b):Xp (ZI m a b) G v=Xp m G v:=by
 rw[jA,hasM_iff,hasM_iff];constructor
 ·rintro⟨g,hg,e⟩;unfold ZI at e;split at e
  ·exact absurd e.symm h2
  ·exact⟨g,hg,e⟩
 ·rintro⟨g,hg,e⟩;exact⟨g,hg,by unfold ZI;rw[oB (by rw[e];exact h1)];exact e⟩
theorem NZ{n:Nat}{m:Nat->Nat}{a b:Nat}{G:List Nat}(ha:m a<n)(hb:m b<n)(ne:m a≠m b):MB n (ZI m a b) G=MB n m G-b1 (Xp m G (m a)&&Xp m G (m b)):=by
 have e:MB n (ZI m a b) G-MB n m G=sN n (λv=>b1 (Xp (ZI m a b) G v)-b1 (Xp m G v)):=(B4 _ _ n).symm;rw[B3 ha hb ne (λi _ h1 h2=>by rw[Zg8 h1 h2];omega),Zg6 ne,Zg7] at e;have:b1 aC-b1 (Xp m G (m a))+(b1 (Xp m G (m a) || Xp m G (m b))-b1 (Xp m G (m b))) = - b1 (Xp m G (m a)&&Xp m G (m b)):=by cases Xp m G (m a)<;>cases Xp m G (m b)<;>decide
 omega
theorem Zc1(b:Bool):0<=b1 b:=by cases b<;>decide
theorem Zg9(b:Bool):b1 b<=1:=by cases b<;>decide
def inG(G:List Nat)(e:ZA):Bool:=decide (e.1∈G)&&decide (e.2∈G)
def MC(G:List Nat)(E:List ZA):Int:=(E.map λe=>b1 (inG G e)).sum
theorem Lq(G:List Nat)(E:List ZA)(e:ZA):MC G (E++[e])=MC G E+b1 (inG G e):=by unfold MC;simp
structure MkOk(n:Nat)(m:Nat->Nat)(T:List ZA):Prop where
 lt:∀x,x<n->m x<n
 le:∀G:List Nat,G.Nodup->(∀g∈G,g<n)->MC G T+MB n m G<=G.length
 eq:MC (aF n) T+MB n m (aF n)=n
 inn:∀e∈T,e.1<n/\e.2<n
theorem Om:∀{l m:List Nat},l.Nodup->(∀x∈l,x∈m)->l.length<=m.length
 | [],m,_,_=>cj _
 | x::l,m,nd,sub=>by have nd':=ar.mp nd;have hx:=sub x (by simp);have:=Om (l:=l) (m:=m.erase x) nd'.2 λy hy=>(gQ (λz:y=x=>nd'.1 (by rw[<-z];exact hy))).mpr (sub y (by simp[hy]));rw[gk hx] at this;have:0<m.length:=iM hx;simp only[bB];omega
theorem Pa(p:Nat->Bool):∀n,sN n (λv=>b1 (p v))=(((aF n).filter p).length:Int)
 | 0=>rfl
 | n+1=>by
  show sN n _+b1 (p n)=_;rw[Pa p n,gw,iB,ag];cases h:p n<;>simp[List.filter,h,b1]
theorem MkOk.start(n:Nat):MkOk n (λx=>x) []:=by
 have hid:∀(G:List Nat)(v:Nat),Xp (λx=>x) G v=decide (v∈G):=λG v=>by rw[jA,hasM_iff,decide_eq_true_eq];exact⟨λ⟨g,h,e⟩=>e▸h,λh=>⟨v,h,rfl⟩⟩
 refine⟨λx h=>h,λG nd hG=>?_,?_,by simp⟩
 ·unfold MB;rw[Zq (g:=λv=>b1 (decide (v∈G))) λi _=>by rw[hid],Pa]
  have:=Om (l:=(aF n).filter λv=>decide (v∈G)) (m:=G) (eY.filter _) (λx hx=>by
   have:=(cN.mp hx).2;simpa using this)
  show(0:Int)+_<=_;omega
 ·unfold MB;rw[Zq (g:=λv=>b1 (decide (v∈aF n))) λi _=>by rw[hid],Pa];rw[lX.mpr λa ha=>by simpa using ha];show(0:Int)+_=_;simp
theorem MkOk.step{n:Nat}{m:Nat->Nat}{T:List ZA}{a b:Nat}(h:MkOk n m T)(ha:a<n)(hb:b<n)(ne:m a≠m b):MkOk n (ZI m a b) (T++[(a,b)]):=by
 have la:=h.lt a ha;have lb:=h.lt b hb;have has:∀{G:List Nat}{x:Nat},x∈G->Xp m G (m x)=aD:=λ{G x} hx=>hasM_iff.mpr ⟨x,hx,rfl⟩;refine⟨λx hx=>?_,λG nd hG=>?_,?_,λe he=>?_⟩
 ·unfold ZI;split
  ·exact lb
  ·exact h.lt x hx
 ·have:=h.le G nd hG;rw[Lq,NZ la lb ne]
  cases q:inG G (a,b) with
  | true=>
   unfold inG at q;simp only[ak,decide_eq_true_eq] at q;rw[has q.1,has q.2];show _+b1 aD+(_-b1 aD)<=_;omega
  | false=>
   have:=Zc1 (Xp m G (m a)&&Xp m G (m b));show _+(0:Int)+_<=_;omega
 ·have:=h.eq;rw[Lq,NZ la lb ne];have q:inG (aF n) (a,b)=aD:=by unfold inG;simp[ha,hb]
  rw[q,has (aY.mpr ha),has (aY.mpr hb)];show _+b1 aD+(_-b1 aD)=_;omega
 ·rcases aq.mp he with z | z
  ·exact h.inn e z
  ·rw[aR.mp z];exact⟨ha,hb⟩
theorem MkOk.few{n:Nat}{m:Nat->Nat}{T:List ZA}(h:MkOk n m T){G:List Nat}(nd:G.Nodup)(hG:∀g∈G,g<n)(ne:G≠[]):MC G T<=(G.length:Int)-1:=by
 have h1:=h.le G nd hG;obtain⟨g,hg⟩:=List.exists_mem_of_ne_nil G ne
 have h2:(1:Int)<=MB n m G:=by
  have lg:=h.lt g (hG g hg);unfold MB
  have le:sN n (λv=>if v=m g then(1:Int) else 0)<=sN n λv=>b1 (Xp m G v):=by
   have:0<=sN n (λv=>b1 (Xp m G v)-(if v=m g then(1:Int) else 0)):=by
    have nn:∀k,0<=sN k (λv=>b1 (Xp m G v)-(if v=m g then(1:Int) else 0)):=by
     intro k
     induction k with
     | zero=>exact bq _
     | succ k ih=>
      show 0<=sN k _+(b1 (Xp m G k)-(if k=m g then(1:Int) else 0));by_cases z:k=m g
      ·rw[z,hasM_iff.mpr ⟨g,hg,rfl⟩,oA rfl];show 0<=sN (m g) _+((1:Int)-1);rw[z] at ih;omega
      ·rw[oB z];have:=Zc1 (Xp m G k);omega
    exact nn n
   rw[B4] at this;omega
  rw[Yy lg λi _ hi=>oB hi,oA rfl] at le;exact le
 omega
def Zs(E:List ZA)(i:Nat):ZA:=E.getD i (0,0)
theorem Gp{m:Nat->Nat}{a b x y:Nat}(h:m x=m y):ZI m a b x=ZI m a b y:=by unfold ZI;rw[h]
end PK
namespace PW
open PK
structure WS where
 L:List Nat
 F:List Nat
 B:List (Nat×Nat×Nat)
def W8(E:List ZA)(L F:List Nat):Option Nat:=(aF E.length).find? λk=>!decide (k∈L)&&(decide ((Zs E k).1∈F) != decide ((Zs E k).2∈F))
def ZS(E:List ZA)(F:List Nat)(k:Nat):Nat:=if(Zs E k).1∈F then(Zs E k).2 else(Zs E k).1
def K5(E:List ZA)(h j:Nat):Bool:=decide (h=(Zs E j).1) || decide (h=(Zs E j).2)
def Z8(E:List ZA)(L:List Nat)(h:Nat):Nat:=(L.filter (K5 E h)).length
noncomputable def ZW(E:List ZA)(φ:Nat->Nat->Nat->Bool)(s:WS)(k:Nat):WS:=
 if φ k (ZS E s.F k) (Z8 E (s.L++[k]) (ZS E s.F k))=aD then⟨s.L++[k],s.F++[ZS E s.F k],s.B++[(k,ZS E s.F k,Z8 E (s.L++[k]) (ZS E s.F k))]⟩ else⟨s.L++[k],s.F,s.B⟩
def ZT(E:List ZA)(φ:Nat->Nat->Nat->Bool):Nat->WS->WS
 | 0,s=>s
 | n+1,s=>match W8 E s.L s.F with
  | some k=>ZT E φ n (ZW E φ s k)
  | none=>s
def S8(b:Nat):WS:=⟨[],[b],[]⟩
theorem Xq{E:List ZA}{L F:List Nat}{k:Nat}(h:W8 E L F=aA k):k<E.length/\k∉L/\(decide ((Zs E k).1∈F) != decide ((Zs E k).2∈F))=aD:=by have h1:=k7 h;have h2:=gZ h;simp only[ak,gJ,decide_eq_false_iff_not] at h1;exact⟨aY.mp h2,h1⟩
theorem Lr{E:List ZA}{L F:List Nat}(h:W8 E L F=aB){k:Nat}(hk:k<E.length)(hL:k∉L):(Zs E k).1∈F↔(Zs E k).2∈F:=by
 have:=fg.mp h k (aY.mpr hk);simp only[hL,decide_false,nS,Bool.true_and,m3,bne_eq_false_iff_eq] at this;by_cases a:(Zs E k).1∈F
 ·by_cases b:(Zs E k).2∈F
  ·exact⟨λ_=>b,λ_=>a⟩
  ·simp[a,b] at this
 ·by_cases b:(Zs E k).2∈F
  ·simp[a,b] at this
  ·exact⟨λz=>absurd z a,λz=>absurd z b⟩
theorem S9{E:List ZA}{L F:List Nat}{k:Nat}(h:W8 E L F=aA k):ZS E F k∉F/\K5 E (ZS E F k) k=aD/\∃o∈F,(Zs E k=(o,ZS E F k)\/Zs E k=(ZS E F k,o)):=by
 obtain⟨_,_,h3⟩:=Xq h;unfold ZS K5;by_cases a:(Zs E k).1∈F
 ·by_cases b:(Zs E k).2∈F
  ·simp[a,b] at h3
  ·rw[oA a];exact⟨b,by simp,_,a,.inl rfl⟩
 ·by_cases b:(Zs E k).2∈F
  ·rw[oB a];exact⟨a,by simp,_,b,.inr rfl⟩
  ·simp[a,b] at h3
theorem Iu{E:List ZA}{L:List Nat}{k h:Nat}(a:K5 E h k=aD):Z8 E (L++[k]) h=Z8 E L h+1:=by unfold Z8;rw[iB,ag];simp[a]
theorem Iv{E:List ZA}{L:List Nat}{k h:Nat}(a:K5 E h k=aC):Z8 E (L++[k]) h=Z8 E L h:=by unfold Z8;rw[iB,ag];simp[a]
structure WInv(E:List ZA)(n b:Nat)(s:WS):Prop where
 ndL:s.L.Nodup
 ltL:∀k∈s.L,k<E.length
 ndF:s.F.Nodup
 ltF:∀h∈s.F,h<n
 hB:s.F=b::s.B.map (·.2.1)
 bl:∀x∈s.B,x.1∈s.L
 ndB:(s.B.map (·.1)).Nodup
 cn:∀q:Nat->Nat,(∀x∈s.B,q (Zs E x.1).1=q (Zs E x.1).2)->∀h∈s.F,q h=q b
theorem WInv.start{E:List ZA}{n b:Nat}(hb:b<n):WInv E n b (S8 b):=
 ⟨cG,λk hk=>by simp[S8] at hk,by simp[S8],λh hh=>by simp[S8] at hh;omega,rfl,λx hx=>by simp[S8] at hx,by simp[S8],λq _ h hh=>by simp[S8] at hh;rw[hh]⟩
theorem Ww{α:Type}{l:List α}{a:α}(h:l.Nodup)(n:a∉l):(l++[a]).Nodup:=by rw[dG];exact⟨h,by simp,λx hx y hy z=>by rw[aR.mp hy] at z;exact n (z▸hx)⟩
theorem WInv.step{E:List ZA}{n b k:Nat}{s:WS}{φ:Nat->Nat->Nat->Bool}(hE:∀e∈E,e.1<n/\e.2<n)(i:WInv E n b s)(hk:W8 E s.L s.F=aA k):WInv E n b (ZW E φ s k):=by
 obtain⟨k1,k2,_⟩:=Xq hk;obtain⟨e1,e2,o,ho,e3⟩:=S9 hk;have ndL:(s.L++[k]).Nodup:=Ww i.ndL k2
 have ltL:∀j∈s.L++[k],j<E.length:=λj hj=>by
  rcases aq.mp hj with z | z
  ·exact i.ltL j z
  ·rw[aR.mp z];exact k1
 have eE:Zs E k∈E:=by unfold Zs;rw[aI,aE k1];exact cD k1
 have lt:ZS E s.F k<n:=by
  have:=hE _ eE;rcases e3 with z | z<;>rw[z] at this
  ·exact this.2
  ·exact this.1
 unfold ZW;split
 ·refine⟨ndL,ltL,Ww i.ndF e1,λh hh=>?_,?_,λx hx=>?_,?_,λq hq h hh=>?_⟩
  ·rcases aq.mp hh with z | z
   ·exact i.ltF h z
   ·rw[aR.mp z];exact lt
  ·show s.F++[_]=b::(s.B++[_]).map _;rw[bR,<-iV,<-i.hB];rfl
  ·rcases aq.mp hx with z | z
   ·exact au _ (i.bl x z)
   ·rw[aR.mp z];exact ay _ (by simp)
  ·show((s.B++[_]).map _).Nodup;rw[bR];refine Ww i.ndB λz=>?_;obtain⟨x,hx,ex⟩:=ah.mp z;have:=i.bl x hx;rw[ex] at this;exact k2 this
  ·have old:∀h∈s.F,q h=q b:=i.cn q λx hx=>hq x (au _ hx);rcases aq.mp hh with z | z
   ·exact old h z
   ·rw[aR.mp z];have:=hq (k,ZS E s.F k,Z8 E (s.L++[k]) (ZS E s.F k)) (ay _ (by simp));have oo:=old o ho;simp only at this;rcases e3 with y | y
    ·rw[y] at this;exact this.symm.trans oo
    ·rw[y] at this;exact this.trans oo
 ·exact⟨ndL,ltL,i.ndF,i.ltF,i.hB,λx hx=>au _ (i.bl x hx),i.ndB,i.cn⟩
theorem WInv.walk{E:List ZA}{n b:Nat}{φ:Nat->Nat->Nat->Bool}(hE:∀e∈E,e.1<n/\e.2<n):∀{m:Nat}{s:WS},WInv E n b s->WInv E n b (ZT E φ m s)
 | 0,s,i=>i
 | m+1,s,i=>by
  unfold ZT;split
  ·rename_i k hk;exact WInv.walk hE (i.step hE hk)
  ·exact i
theorem Iw{n:Nat}:∀{l:List Nat},l.Nodup->(∀x∈l,x<n)->l.length<=n:=by
 induction n with
 | zero=>
  intro l _ h
  cases l with
  | nil=>simp
  | cons a r=>exact absurd (h a (by simp)) (by omega)
 | succ n ih=>
  intro l nd h
  have h1:=ih (l:=l.filter (· != n)) (nd.filter _) λx hx=>by
   have:=cN.mp hx;have h2:=h x this.1;have h3:x≠n:=by simpa using this.2
   omega
  have h2:l.length<=(l.filter (· != n)).length+1:=by
   clear h h1 ih
   induction l with
   | nil=>simp
   | cons a r ih2=>
    have nr:=ar.mp nd;rw[List.filter_cons];by_cases e:a=n
    ·subst e;have:r.filter (· != a)=r:=lX.mpr λx hx=>by have:x≠a:=λz=>nr.1 (z▸hx);simpa using this
     simp[this]
    ·have e2:(a != n)=aD:=by simpa using e
     rw[e2];simp only[if_true,bB];have:=ih2 nr.2;omega
  omega
theorem Qe{E:List ZA}{n b:Nat}{φ:Nat->Nat->Nat->Bool}(hE:∀e∈E,e.1<n/\e.2<n):∀{m:Nat}{s:WS},WInv E n b s->E.length<=m+s.L.length->W8 E (ZT E φ m s).L (ZT E φ m s).F=aB
 | 0,s,i,h=>by
  unfold ZT
  cases z:W8 E s.L s.F with
  | none=>rfl
  | some k=>
   obtain⟨k1,k2,_⟩:=Xq z
   have:=Iw (n:=E.length) (Ww i.ndL k2) λx hx=>by
    rcases aq.mp hx with y | y
    ·exact i.ltL x y
    ·rw[aR.mp y];exact k1
   rw[ag,bz] at this;omega
 | m+1,s,i,h=>by
  unfold ZT
  cases z:W8 E s.L s.F with
  | none=>exact z
  | some k=>
   refine Qe hE (i.step hE z) ?_
   have:(ZW E φ s k).L.length=s.L.length+1:=by
    unfold ZW;split<;>simp
   omega
theorem Pb(E:List ZA)(φ:Nat->Nat->Nat->Bool)(s:WS)(k:Nat):(ZW E φ s k).L=s.L++[k]:=by unfold ZW;split<;>rfl
theorem Iy{E:List ZA}{φ:Nat->Nat->Nat->Bool}:∀{m:Nat}{s:WS}{k:Nat},k∈s.L->k∈(ZT E φ m s).B.map (·.1)->k∈s.B.map (·.1)
 | 0,s,k,_,h=>h
 | m+1,s,k,hk,h=>by
  unfold ZT at h;split at h
  ·rename_i j hj;have h1:=Iy (s:=ZW E φ s j) (by rw[Pb];exact au _ hk) h;obtain⟨_,j2,_⟩:=Xq hj;unfold ZW at h1;split at h1
   ·rw[bR] at h1;rcases aq.mp h1 with z | z
    ·exact z
    ·have:k=j:=by simpa using z
     exact absurd (this▸hk) j2
   ·exact h1
  ·exact h
theorem Pc{E:List ZA}{φ:Nat->Nat->Nat->Bool}:∀{m:Nat}{s:WS}{x:Nat×Nat×Nat},x∈s.B->x∈(ZT E φ m s).B
 | 0,s,x,h=>h
 | m+1,s,x,h=>by
  unfold ZT;split
  ·refine Pc ?_;unfold ZW;split
   ·exact au _ h
   ·exact h
  ·exact h
theorem N0{E:List ZA}{φ:Nat->Nat->Nat->Bool}{T:List Nat}:∀{m:Nat}{s:WS},(∀x∈s.B,x.1∈s.L)->(∀k,k∈T↔k∈(ZT E φ m s).B.map (·.1))->ZT E (λk _ _=>decide (k∈T)) m s=ZT E φ m s
 | 0,s,_,_=>rfl
 | m+1,s,hb,hT=>by
  unfold ZT at hT ⊢
  cases z:W8 E s.L s.F with
  | none=>rfl
  | some k=>
   rw[z] at hT;simp only at hT ⊢;obtain⟨_,k2,_⟩:=Xq z;have kL:k∈(ZW E φ s k).L:=by rw[Pb];simp
   have same:ZW E (λk _ _=>decide (k∈T)) s k=ZW E φ s k:=by
    by_cases c:φ k (ZS E s.F k) (Z8 E (s.L++[k]) (ZS E s.F k))=aD
    ·have hk:k∈T:=(hT k).mpr (by
      have:(k,ZS E s.F k,Z8 E (s.L++[k]) (ZS E s.F k))∈(ZW E φ s k).B:=by unfold ZW;rw[oA c];simp
      exact ah.mpr ⟨_,Pc this,rfl⟩)
     unfold ZW;rw[oA c,oA (by simpa using hk)]
    ·have hk:k∉T:=λy=>by
      have h1:=Iy kL ((hT k).mp y);have h2:(ZW E φ s k).B=s.B:=by unfold ZW;rw[oB c]
      rw[h2] at h1;obtain⟨x,hx,ex⟩:=ah.mp h1;exact k2 (ex▸hb x hx)
     unfold ZW;rw[oB c,oB (by simpa using hk)]
   rw[same];refine N0 (λx hx=>?_) hT;rw[Pb];unfold ZW at hx;split at hx
   ·rcases aq.mp hx with y | y
    ·exact au _ (hb x y)
    ·rw[aR.mp y];simp
   ·exact au _ (hb x hx)
noncomputable def byP(D:Nat->Int):Nat->Nat->Nat->Bool:=λ_ h c=>decide (D h<(c:Int))
structure PInv(E:List ZA)(n:Nat)(D:Nat->Int)(s:WS):Prop where
 out:∀h,h<n->h∉s.F->(Z8 E s.L h:Int)<=D h
 bur:∀x∈s.B,(x.2.2:Int)=D x.2.1+1
theorem PInv.step{E:List ZA}{n b k:Nat}{D:Nat->Int}{s:WS}(hE:∀e∈E,e.1<n/\e.2<n)(p:PInv E n D s)(hk:W8 E s.L s.F=aA k):PInv E n D (ZW E (byP D) s k):=by
 obtain⟨k1,k2,_⟩:=Xq hk;obtain⟨e1,e2,o,ho,e3⟩:=S9 hk;have eE:Zs E k∈E:=by unfold Zs;rw[aI,aE k1];exact cD k1
 have lt:ZS E s.F k<n:=by
  have:=hE _ eE;rcases e3 with z | z<;>rw[z] at this
  ·exact this.2
  ·exact this.1
 have X8:∀g,g∉s.F->g≠ZS E s.F k->K5 E g k=aC:=λg hg hne=>by
  unfold K5;have go:g≠o:=λz=>hg (z▸ho);rcases e3 with z | z<;>rw[z]<;>simp[go,hne]
 have hs:=p.out _ lt e1;have hn:=Iu (L:=s.L) e2;unfold ZW byP;split
 ·rename_i c;have c:D (ZS E s.F k)<(Z8 E (s.L++[k]) (ZS E s.F k):Int):=of_decide_eq_true c;refine⟨λh hh hF=>?_,λx hx=>?_⟩
  ·have h1:h∉s.F:=λz=>hF (au _ z);have h2:h≠ZS E s.F k:=λz=>hF (ay _ (by simp[z]));rw[Iv (X8 h h1 h2)];exact p.out h hh h1
  ·rcases aq.mp hx with z | z
   ·exact p.bur x z
   ·rw[aR.mp z];show((Z8 E (s.L++[k]) (ZS E s.F k):Nat):Int)=D (ZS E s.F k)+1;omega
 ·rename_i c;have c:¬D (ZS E s.F k)<(Z8 E (s.L++[k]) (ZS E s.F k):Int):=λz=>c (decide_eq_true z);refine⟨λh hh hF=>?_,p.bur⟩;by_cases h2:h=ZS E s.F k
  ·rw[h2];show(Z8 E (s.L++[k]) (ZS E s.F k):Int)<=_;omega
  ·rw[Iv (X8 h hF h2)];exact p.out h hh hF
theorem PInv.walk{E:List ZA}{n:Nat}{D:Nat->Int}(hE:∀e∈E,e.1<n/\e.2<n):∀{m:Nat}{s:WS},PInv E n D s->PInv E n D (ZT E (byP D) m s)
 | 0,s,i=>i
 | m+1,s,i=>by
  unfold ZT;split
  ·rename_i k hk;exact PInv.walk hE (i.step (b:=0) hE hk)
  ·exact i
theorem PInv.start{E:List ZA}{n b:Nat}{D:Nat->Int}(h:∀g,g<n->g≠b->0<=D g):PInv E n D (S8 b):=
 ⟨λg hg hF=>by
  have:g≠b:=λz=>hF (by simp[S8,z]);have:=h g hg this;simp only[S8,Z8,List.filter_nil,fG];omega,λx hx=>by simp[S8] at hx⟩
end PW
namespace PK
open PW
def Wt(m:Nat->Nat):List ZA->Nat->Nat
 | []=>m
 | e::T=>Wt (ZI m e.1 e.2) T
def FY(e:ZA):ZA:=(e.2,e.1)
theorem Iz:∀{T:List ZA}{m:Nat->Nat}{x y:Nat},m x=m y->Wt m T x=Wt m T y
 | [],m,x,y,h=>h
 | e::T,m,x,y,h=>Iz (T:=T) (Gp h)
theorem Gq(m:Nat->Nat)(a b:Nat):ZI m a b a=ZI m a b b:=by
 unfold ZI;rw[oA rfl];split<;>rfl
theorem N1:∀{T:List ZA}{m:Nat->Nat},∀e∈T,Wt m T e.1=Wt m T e.2
 | [],m,e,h=>by simp at h
 | f::T,m,e,h=>by
  rcases aa.mp h with rfl | h
  ·exact Iz (T:=T) (Gq m _ _)
  ·exact N1 (T:=T) e h
theorem IA{n:Nat}{q:Nat->Nat}:∀{T:List ZA}{m:Nat->Nat},(∀e∈T,q e.1=q e.2/\e.1<n/\e.2<n)->(∀x y,x<n->y<n->m x=m y->q x=q y)->∀x y,x<n->y<n->Wt m T x=Wt m T y->q x=q y
 | [],m,_,h,x,y,hx,hy,e=>h x y hx hy e
 | f::T,m,hT,h,x,y,hx,hy,e=>by
  obtain⟨qe,l1,l2⟩:=hT f (by simp);refine IA (T:=T) (λe he=>hT e (by simp[he])) (λx y hx hy e=>?_) x y hx hy e;unfold ZI at e;split at e
  ·rename_i z1;split at e
   ·rename_i z2;rw[h x _ hx l1 z1,h y _ hy l1 z2]
   ·rw[h x _ hx l1 z1,qe,h _ y l2 hy e]
  ·split at e
   ·rename_i z2;rw[h x _ hx l2 e,<-qe,h y _ hy l1 z2]
   ·exact h x y hx hy e
theorem IB{m:Nat->Nat}{a b:Nat}(h:m a=m b):ZI m a b=m:=by
 funext x;unfold ZI;split
 ·rename_i z;rw[z,h]
 ·rfl
theorem Gr{n:Nat}:∀{T:List ZA}{m:Nat->Nat},(∀e∈T,e.1<n/\e.2<n)->(∀x,x<n->m x<n)->∀x,x<n->Wt m T x<n
 | [],m,_,h,x,hx=>h x hx
 | f::T,m,hT,h,x,hx=>Gr (T:=T) (λe he=>hT e (by simp[he])) (λx hx=>by
   unfold ZI;split
   ·exact h _ (hT f (by simp)).2
   ·exact h x hx) x hx
theorem Gs{n:Nat}(G:List Nat):∀{T:List ZA}{m:Nat->Nat},(∀e∈T,e.1<n/\e.2<n)->(∀x,x<n->m x<n)->MB n m G-(T.length:Int)<=MB n (Wt m T) G
 | [],m,_,h=>by show MB n m G-(0:Int)<=MB n m G;omega
 | f::T,m,hT,h=>by
  have hf:=hT f (by simp)
  have lt:∀x,x<n->ZI m f.1 f.2 x<n:=λx hx=>by
   unfold ZI;split
   ·exact h _ hf.2
   ·exact h x hx
  have ih:=Gs G (T:=T) (m:=ZI m f.1 f.2) (λe he=>hT e (by simp[he])) lt
  have st:MB n m G-1<=MB n (ZI m f.1 f.2) G:=by
   by_cases q:m f.1=m f.2
   ·rw[IB q];omega
   ·rw[NZ (h _ hf.1) (h _ hf.2) q];have:=Zg9 (Xp m G (m f.1)&&Xp m G (m f.2));omega
  show MB n m G-((T.length+1:Nat):Int)<=MB n (Wt (ZI m f.1 f.2) T) G;omega
theorem KW:∀(A B:List ZA)(m:Nat->Nat),Wt m (A++B)=Wt (Wt m A) B
 | [],B,m=>rfl
 | e::A,B,m=>KW A B (ZI m e.1 e.2)
theorem Zfb{n:Nat}{m:Nat->Nat}(hn:0<n)(lt:∀x,x<n->m x<n)(one:∀x,x<n->m x=m 0):MB n m (aF n)=1:=by
 unfold MB;rw[Yy (k:=m 0) (lt 0 hn) λi hi ni=>?_]
 ·rw[hasM_iff.mpr ⟨0,aY.mpr hn,rfl⟩];rfl
 ·cases q:Xp m (aF n) i with
  | false=>rfl
  | true=>
   obtain⟨g,hg,eg⟩:=hasM_iff.mp q;rw[one g (aY.mp hg)] at eg;exact absurd eg.symm ni
theorem Zha(n:Nat):MB n (λx=>x) (aF n)=n:=by have:=(MkOk.start n).eq;have z:MC (aF n) []=0:=rfl;omega
theorem Zbo{n:Nat}{T:List ZA}(hn:0<n)(hT:∀e∈T,e.1<n/\e.2<n)(len:(T.length:Int)=n-1)(one:∀x,x<n->Wt (λx=>x) (T.map FY) x=Wt (λx=>x) (T.map FY) 0){A B:List ZA}{e:ZA}(hs:T=A++e::B) :
  Wt (λx=>x) A e.1≠Wt (λx=>x) A e.2:=λidle=>by
 have q1:∀x,x<n->Wt (λx=>x) T x=Wt (λx=>x) T 0:=λx hx=>by refine IA (n:=n) (q:=Wt (λx=>x) T) (T:=T.map FY) (m:=λx=>x) (λf hf=>?_) (λx y _ _ h=>by rw[h]) x 0 hx hn (one x hx);obtain⟨g,hg,rfl⟩:=ah.mp hf;exact⟨(N1 g hg).symm,(hT g hg).2,(hT g hg).1⟩
 have id_lt:∀x,x<n->(λx:Nat=>x) x<n:=λx h=>h;have d1:=Zfb hn (Gr hT id_lt) q1;have hA:∀f∈A,f.1<n/\f.2<n:=λf hf=>hT f (by rw[hs];simp[hf]);have hB:∀f∈B,f.1<n/\f.2<n:=λf hf=>hT f (by rw[hs];simp[hf]);have dA:=Gs (aF n) hA id_lt;have dB:=Gs (aF n) hB (Gr hA id_lt);have e1:Wt (λx=>x) T=Wt (Wt (λx=>x) A) B:=by rw[hs,KW];show Wt (ZI (Wt (λx=>x) A) e.1 e.2) B=_;rw[IB idle]
 rw[e1] at d1;have hl:(T.length:Int)=A.length+B.length+1:=by rw[hs];simp;omega
 have:=Zha n;omega
theorem DD{n:Nat}{m:Nat->Nat}{T:List ZA}(h:MkOk n m T)(hn:0<n)(len:(T.length:Int)=n-1){q:Nat->Nat}(hq:∀e∈T,q e.1=q e.2):∀x,x<n->q x=q 0:=λx hx=>by
 refine fC λne=>?_;let G:=(aF n).filter λy=>decide (q y=q 0);let G':=(aF n).filter λy=>!decide (q y=q 0);have mG:∀y,y∈G↔y<n/\q y=q 0:=λy=>by show y∈(aF n).filter (λy=>decide (q y=q 0))↔_;rw[cN,aY,decide_eq_true_eq]
 have mG':∀y,y∈G'↔y<n/\¬q y=q 0:=λy=>by show y∈(aF n).filter (λy=>!decide (q y=q 0))↔_;rw[cN,aY];simp
 have f1:=h.few (G:=G) (eY.filter _) (λg hg=>((mG g).mp hg).1) (lq ((mG 0).mpr ⟨hn,rfl⟩));have f2:=h.few (G:=G') (eY.filter _) (λg hg=>((mG' g).mp hg).1) (lq ((mG' x).mpr ⟨hx,ne⟩))
 have sum:∀l:List ZA,(∀e∈l,q e.1=q e.2/\e.1<n/\e.2<n)->MC G l+MC G' l=l.length:=by
  intro l
  induction l with
  | nil=>intro _;rfl
  | cons e l ih=>
   intro hl;have he:=hl e (by simp);have:=ih λf hf=>hl f (by simp[hf]);unfold MC at this ⊢;rw[a9,a9,bY,bY,bB]
   have one:b1 (inG G e)+b1 (inG G' e)=1:=by
    unfold inG;by_cases z:q e.1=q 0
    ·have a1:e.1∈G:=(mG _).mpr ⟨he.2.1,z⟩;have a2:e.2∈G:=(mG _).mpr ⟨he.2.2,by rw[<-he.1];exact z⟩;have a3:e.1∉G':=λw=>((mG' _).mp w).2 z;simp[a1,a2,a3,b1]
    ·have a1:e.1∈G':=(mG' _).mpr ⟨he.2.1,z⟩;have a2:e.2∈G':=(mG' _).mpr ⟨he.2.2,by rw[<-he.1];exact z⟩;have a3:e.1∉G:=λw=>z ((mG _).mp w).2;simp[a1,a2,a3,b1]
   omega
 have s1:=sum T λe he=>⟨hq e he,h.inn e he⟩
 have lg:G.length+G'.length=n:=by
  have:∀l:List Nat,(l.filter λy=>decide (q y=q 0)).length+(l.filter λy=>!decide (q y=q 0)).length=l.length:=by
   intro l
   induction l with
   | nil=>rfl
   | cons a l ih=>
    by_cases z:q a=q 0<;>simp[List.filter,z]<;>omega
  have:=this (aF n);rw[cR] at this;exact this
 omega
end PK
namespace PW
open L2 VL
theorem Zfc{f g:XS}{s:ZL}{v:PV}(e1:f s=aA (.rt v)):Zj f g s=aA (.rt v):=by rw[Y4,e1];rfl
section
variable {s:ZL} {f g:XE} {a b:Int} {C:Int->Int->Prop} [∀i j,Decidable (C i j)] {op:Int->Int->Int}
theorem vC(h1:f s=aA (.int a))(h2:g s=aA (.int b))(c:C a b):Zg (Ay C op) f g s=aA (.int (op a b)):=by rw[UK,h1,h2];simp only[aO,Zet,oA c]
theorem vI(h1:f s=aA (.int a))(h2:g s=aA (.int b)):Zg (gI op) f g s=aA (.int (op a b)):=by rw[UK,h1,h2];rfl
theorem vP(h1:f s=aA (.int a)):eP f s=aA (.int a):=by rw[Vm,h1];rfl
theorem Ra{v:PV}(h1:f s=aA v):ZN f s=aA (.rt v):=by rw[CU,h1];rfl
end
def nL(l:List Nat):List Int:=l.map λ(i:Nat)=>(i:Int)
theorem Gu{y:Nat}{l:List Nat}:(y:Int)∈nL l↔y∈l:=by unfold nL;rw[ah];exact⟨λ⟨a,h,e⟩=>by rw[show y=a by omega];exact h,λh=>⟨y,h,rfl⟩⟩
def ZU(W:List (List Int))(h:Nat)(F:List Nat):Int:=(F.map λo=>Z1 W h o).sum
theorem Gw{W:List (List Int)}{h i j k:Nat}{F:List Nat}{s:ZL}(ok:Zt W)(hh:h<W.length)(hF:∀x∈F,x<W.length)(hl:F.length<=100)(e0:s[i]?=aA (aA (wP W)))(e1:s[j]?=aA (aA (.int (h:Int))))(e2:s[k]?=aA (aA (.lst (iL (nL F))))) :
  Zc PQ [Zr 1 [i,j] (X5 (Za k)) (.one 0) ZF (Zg ZC (Zg ZC (Za 1) (Za 2)) (Za 0))] s=aA (.int (ZU W h F)):=by
 have hc:Zr 1 [i,j] (X5 (Za k)) (.one 0) ZF (Zg ZC (Zg ZC (Za 1) (Za 2)) (Za 0)) s=aA (.lst (iL (F.map λo=>Z1 W h o))):=by
  rw[ZK F (λ(o:Nat)=>.int (o:Int)) (λo=>.int (Z1 W h o)) (by simp[e2,nL]) (by omega) (λo ho=>⟨_,rfl,rfl,?_⟩)]
  ·simp
  ·have hr:=ok.sq h hh;have:=YT (l:=Zz W h) (k:=o) (by rw[hr];exact hF o ho);simp[compEnv,e0,e1,RO hh,this];rfl
 simp only[Yb,Zw,Kb,hc,aO,bc];exact Zeu _
theorem Gx{W:List (List Int)}{h:Nat}{F:List Nat}(ok:Zt W)(hh:h<W.length)(hF:∀x∈F,x<W.length)(hl:F.length<=100):Sa [wP W,.int (h:Int),.lst (iL (nL F))]=aA (.int (ZU W h F)):=by show Ya 3 QJ _=_;unfold QJ;show(ZN _ [aA (wP W),aA (.int (h:Int)),aA (.lst (iL (nL F)))]).bind Xl=_;rw[Ra (vP (Gw (i:=0) (j:=1) (k:=2) ok hh hF hl rfl rfl rfl))];rfl
theorem Pd{α:Type}{T:Tgt}{fb:XS}{q g:α->PV}{c:α->Bool}(S:ZL->Prop):∀{ls:List α}{s:ZL},(∀a∈ls,∀s,S s->∃s1,Vj T (q a) s=aA s1/\((c a=aD->fb s1=aA (.rt (g a)))/\(c a=aC->∃s2,fb s1=aA (.nx s2)/\S s2)))->S s->
  match ls.find? c with | some a=>Xe T fb (ls.map q) s=aA (.rt (g a)) | none=>∃s',Xe T fb (ls.map q) s=aA (.nx s')/\S s'
 | [],s,_,h0=>⟨s,rfl,h0⟩
 | a::r,s,h,h0=>by
  obtain⟨s1,e1,ht,hf⟩:=h a af s h0;rw[cO]
  cases ca:c a with
  | true=>
   show Xe T fb (q a::r.map q) s=_;unfold Xe;rw[e1];simp only[aO,ht ca]
  | false=>
   obtain⟨s2,e2,h2⟩:=hf ca;have ih:=Pd S (ls:=r) (s:=s2) (λb hb=>h b (aP _ hb)) h2
   have e:Xe T fb ((a::r).map q) s=Xe T fb (r.map q) s2:=by
    show Xe T fb (q a::r.map q) s=_;unfold Xe;rw[e1];simp only[aO,e2];cases r.map q<;>rfl
   rw[e];exact ih
def Xt(W:List (List Int))(D:List Int)(F:List Nat):Option Nat:=(aF W.length).find? λh=>!decide (h∈F)&&decide (Zl D h<ZU W h F)
def Uc:Option Nat->PV
 | none=>.non
 | some h=>.int (h:Int)
theorem Pe(y:Nat)(l:List Nat):X4 aD (.int (y:Int)) (.lst (iL (nL l)))=aA (.bl (!decide (y∈l))):=by rw[BO];have:=Gu (y:=y) (l:=l);simp[this]
theorem Oo(y:Nat)(l:List Nat):X4 aC (.int (y:Int)) (.lst (iL (nL l)))=aA (.bl (decide (y∈l))):=by rw[BO];have:=Gu (y:=y) (l:=l);simp[this]
theorem Pf{W:List (List Int)}{D:List Int}{F:List Nat}(ok:Zt W)(hd:D.length=W.length)(hF:∀x∈F,x<W.length)(hl:F.length<=100):Z4 [wP W,pP D,.lst (iL (nL F))]=aA (Uc (Xt W D F)):=by
 have hf:=ok.few
 have key:=Pd (T:=.many [3,4]) (fb:=Sn (V5 (xB (Zg (X4 aD) (Za 3) (Za 2))) (xB (Zg oLt (Za 4) (Zc Sa [Za 0,Za 3,Za 2])))) (ZN (eP (Za 3))) Yk) (q:=λ(i:Nat)=>.tup [.int (i:Int),.int (Zl D i)]) (g:=λ(i:Nat)=>.int (i:Int)) (c:=λh=>!decide (h∈F)&&decide (Zl D h<ZU W h F))
  (λst=>∃x y,st=[aA (wP W),aA (pP D),aA (.lst (iL (nL F))),x,y]) (ls:=aF W.length) (s:=[aA (wP W),aA (pP D),aA (.lst (iL (nL F))),aB,aB]) (by
   rintro h hh st ⟨x,y,rfl⟩;have hh:=aY.mp hh;have et:=Gx ok hh hF hl;refine⟨_,rfl,λhc=>?_,λhc=>?_⟩
   ·simp only[ak,gJ,decide_eq_false_iff_not,decide_eq_true_eq] at hc;simp[setAll,Pe,hc.1,et,hc.2]
   ·refine⟨[aA (wP W),aA (pP D),aA (.lst (iL (nL F))),aA (.int (h:Int)),aA (.int (Zl D h))],?_,_,_,rfl⟩;by_cases q:h∈F
    ·simp[setAll,Pe,q]
    ·have:¬Zl D h<ZU W h F:=λz=>by simp[q,z] at hc
     simp[setAll,Pe,q,et,this]) ⟨_,_,rfl⟩
 have en:Y3 aC [Za 1] [aA (wP W),aA (pP D),aA (.lst (iL (nL F))),aB,aB]=aA ((aF W.length).map λ(i:Nat)=>.tup [.int (i:Int),.int (Zl D i)]):=by have:=Oh D;rw[hd] at this;simp[this]
 show Ya 5 WN _=_;unfold WN;show(Zj (YR [] _ _ _) _ [aA (wP W),aA (pP D),aA (.lst (iL (nL F))),aB,aB]).bind Xl=_;unfold Xt
 cases q:(aF W.length).find? λh=>!decide (h∈F)&&decide (Zl D h<ZU W h F) with
 | some h=>
  rw[q] at key;rw[Zfc (v:=.int (h:Int))]
  ·rfl
  ·show(Y3 aC [Za 1] [aA (wP W),aA (pP D),aA (.lst (iL (nL F))),aB,aB]).bind _=_;rw[en];exact key
 | none=>
  rw[q] at key;obtain⟨s',k1,x,y,rfl⟩:=key;rw[Yz (s1:=[aA (wP W),aA (pP D),aA (.lst (iL (nL F))),x,y])]
  ·rfl
  ·show(Y3 aC [Za 1] [aA (wP W),aA (pP D),aA (.lst (iL (nL F))),aB,aB]).bind _=_;rw[en];exact k1
theorem Zfd{c:XT}{fb:XS}(Jv:ZL->Prop)(μ:ZL->Nat)(step:∀st,Jv st->c st=aA aC\/(c st=aA aD/\∃s2,fb st=aA (.nx s2)/\Jv s2/\μ s2<μ st)){s:ZL}(h0:Jv s) :
  ∃s',UI c fb s=aA (.nx s')/\Jv s'/\c s'=aA aC:=by
 have gen:∀(k:Nat)(st:ZL),μ st<k->Jv st->∃s',YS c fb k st=aA (.nx s')/\Jv s'/\c s'=aA aC:=by
  intro k
  induction k with
  | zero=>intro st h;omega
  | succ k ih=>
   intro st hk hJ;rcases step st hJ with hc | ⟨hc,s2,e,hJ2,hm⟩
   ·exact⟨st,by unfold YS;rw[hc];rfl,hJ,hc⟩
   ·obtain⟨s',a,b,d⟩:=ih s2 (by omega) hJ2;refine⟨s',?_,b,d⟩;unfold YS;rw[hc];simp only[aO,if_true,e];exact a
 obtain⟨s',a,b,d⟩:=gen (μ s+1) s (by omega) h0;exact⟨s',M4 a,b,d⟩
structure Burn(W:List (List Int))(D:List Int)(b:Nat)(F:List Nat):Prop where
 nd:F.Nodup
 lt:∀x∈F,x<W.length
 hd:F[0]?=aA b
 st:∀k,1<=k->k<F.length->Xt W D (F.take k)=F[k]?
theorem Burn.len{W:List (List Int)}{D:List Int}{b:Nat}{F:List Nat}(h:Burn W D b F):F.length<=W.length:=by
 have nd:(nL F).Nodup:=List.Pairwise.map _ (λa b z=>by omega) h.nd;have:=Ur (l:=nL F) (m:=nL (aF W.length)) nd λy hy=>by obtain⟨a,ha,rfl⟩:=ah.mp hy;exact ah.mpr ⟨a,aY.mpr (h.lt a ha),rfl⟩
 simpa [nL] using this
theorem Burn.pos{W:List (List Int)}{D:List Int}{b:Nat}{F:List Nat}(h:Burn W D b F):1<=F.length:=(aS.mp h.hd).1
theorem Burn.one{W:List (List Int)}{D:List Int}{b:Nat}(hb:b<W.length):Burn W D b [b]:=⟨by simp,λx hx=>by rw[aR.mp hx];exact hb,rfl,λk h1 h2=>by simp at h2;omega⟩
theorem U6{W:List (List Int)}{D:List Int}{F:List Nat}{h:Nat}(e:Xt W D F=aA h):h<W.length/\h∉F/\Zl D h<ZU W h F:=by have h1:=k7 e;have h2:=gZ e;simp only[ak,gJ,decide_eq_false_iff_not,decide_eq_true_eq] at h1;exact⟨aY.mp h2,h1⟩
theorem Rc{W:List (List Int)}{D:List Int}{F:List Nat}(e:Xt W D F=aB){h:Nat}(hh:h<W.length)(hF:h∉F):ZU W h F<=Zl D h:=by have:=fg.mp e h (aY.mpr hh);simp[hF] at this;exact this
theorem Burn.add{W:List (List Int)}{D:List Int}{b h:Nat}{F:List Nat}(B:Burn W D b F)(e:Xt W D F=aA h):Burn W D b (F++[h]):=by
 obtain⟨h1,h2,_⟩:=U6 e;have hp:=B.pos;refine⟨?_,λx hx=>?_,?_,λk k1 k2=>?_⟩
 ·rw[dG];exact⟨B.nd,by simp,λa ha c hc z=>by rw[aR.mp hc] at z;exact h2 (z▸ha)⟩
 ·rcases aq.mp hx with hx | hx
  ·exact B.lt x hx
  ·rw[aR.mp hx];exact h1
 ·rw[az (by omega)];exact B.hd
 ·rw[ag,bz] at k2;by_cases q:k<F.length
  ·rw[dH (by omega),az q];exact B.st k k1 q
  ·have:k=F.length:=by omega
   subst this;rw[gz,e,bK (by omega)]
   ·simp
   ·rfl
theorem Qf{W:List (List Int)}{D:List Int}{b:Nat}(ok:Zt W)(hd:D.length=W.length)(hb:b<W.length):∃F,W6 [wP W,pP D,.int (b:Int)]=aA (.lst (iL (nL F)))/\Burn W D b F/\Xt W D F=aB:=by
 have hf:=ok.few;have hn:∀F:List Nat,Burn W D b F->Z4 [wP W,pP D,.lst (iL (nL F))]=aA (Uc (Xt W D F)):=λF B=>Pf ok hd B.lt (by have:=B.len;omega)
 obtain⟨s',q1,⟨F,rfl,B⟩,q3⟩:=Zfd (c:=xB (OL aD (Za 4))) (fb:=Zj (ZZ 3 (eP (Za 4))) (Zk 4 (Zc Z4 [Za 0,Za 1,Za 3])))
  (λst=>∃F,st=[aA (wP W),aA (pP D),aA (.int (b:Int)),aA (.lst (iL (nL F))),aA (Uc (Xt W D F))]/\Burn W D b F)
  (λst=>match st[3]? with | some (aA (PV.lst l))=>8-l.length | _=>0) (by
   rintro st ⟨F,rfl,B⟩
   cases e:Xt W D F with
   | none=>exact .inl (by simp[Jt,Uc])
   | some h=>
    have B':=B.add e;have hl:=B'.len;rw[ag,bz] at hl;refine .inr ⟨by simp[Jt,Uc],[aA (wP W),aA (pP D),aA (.int (b:Int)),aA (.lst (iL (nL (F++[h])))),aA (Uc (Xt W D (F++[h])))],?_,⟨F++[h],rfl,B'⟩,?_⟩
    ·have e1:ZZ 3 (eP (Za 4)) [aA (wP W),aA (pP D),aA (.int (b:Int)),aA (.lst (iL (nL F))),aA (Uc (aA h))]=aA (.nx [aA (wP W),aA (pP D),aA (.int (b:Int)),aA (.lst (iL (nL (F++[h])))),aA (Uc (aA h))]):=by rw[Wg (m:=iL (nL F)) (l:=.int (h:Int)) rfl rfl (by simp[nL];omega)];simp[nL]
     have e2:Zk 4 (Zc Z4 [Za 0,Za 1,Za 3]) [aA (wP W),aA (pP D),aA (.int (b:Int)),aA (.lst (iL (nL (F++[h])))),aA (Uc (aA h))]=aA (.nx [aA (wP W),aA (pP D),aA (.int (b:Int)),aA (.lst (iL (nL (F++[h])))),aA (Uc (Xt W D (F++[h])))]):=by have:=hn _ B';generalize hh:iL (nL (F++[h]))=z at this ⊢;simp[this]
     rw[Yz e1,e2]
    ·show 8-(iL (nL (F++[h]))).length<8-(iL (nL F)).length;simp[nL];omega) (s:=[aA (wP W),aA (pP D),aA (.int (b:Int)),aA (.lst (iL (nL [b]))),aA (Uc (Xt W D [b]))]) ⟨[b],rfl,Burn.one hb⟩
 have en:Xt W D F=aB:=by
  cases e:Xt W D F with
  | none=>rfl
  | some h=>rw[e] at q3;simp[Jt,Uc] at q3
 refine⟨F,?_,B,en⟩;have e1:Zk 3 (Xc [eP (Za 2)]) [aA (wP W),aA (pP D),aA (.int (b:Int)),aB,aB]=aA (.nx [aA (wP W),aA (pP D),aA (.int (b:Int)),aA (.lst (iL (nL [b]))),aB]):=by simp[nL]
 have e2:Zk 4 (Zc Z4 [Za 0,Za 1,Za 3]) [aA (wP W),aA (pP D),aA (.int (b:Int)),aA (.lst (iL (nL [b]))),aB]=aA (.nx [aA (wP W),aA (pP D),aA (.int (b:Int)),aA (.lst (iL (nL [b]))),aA (Uc (Xt W D [b]))]):=by have:=hn _ (Burn.one hb);generalize hh:iL (nL [b])=z at this ⊢;simp[this]
 show Ya 5 Kj _=_;unfold Kj;show(Zj _ _ [aA (wP W),aA (pP D),aA (.int (b:Int)),aB,aB]).bind Xl=_;rw[Yz e1,Yz e2,Yz q1];rfl
theorem Burn.uniq{W:List (List Int)}{D:List Int}{b:Nat}{F G:List Nat}(hF:Burn W D b F)(hG:Burn W D b G)(eF:Xt W D F=aB)(eG:Xt W D G=aB):F=G:=by
 have pF:=hF.pos;have pG:=hG.pos
 have pre:∀k,k<=F.length->k<=G.length->F.take k=G.take k:=by
  intro k
  induction k with
  | zero=>intros;simp
  | succ k ih=>
   intro h1 h2;have e:=ih (by omega) (by omega);rw[iN,iN,e];congr 1;by_cases q:k=0
   ·subst q;rw[hF.hd,hG.hd]
   ·rw[<-hF.st k (by omega) (by omega),<-hG.st k (by omega) (by omega),e]
 rcases Nat.lt_trichotomy F.length G.length with h | h | h
 ·have:=pre F.length (by omega) (by omega);rw[dW] at this;have h3:=hG.st F.length (by omega) h;rw[<-this,eF,aE h] at h3;cases h3
 ·have:=pre F.length (by omega) (by omega);rw[dW,h,dW] at this;exact this
 ·have:=pre G.length (by omega) (by omega);rw[dW] at this;have h3:=hF.st G.length (by omega) h;rw[this,eG,aE h] at h3;cases h3
def YY(D:List Int)(b:Nat):List Nat:=(aF D.length).filter λh=>!decide (h=b)&&decide (Zl D h<0)
theorem Rf{D:List Int}{b:Nat}(hl:D.length<=1000):Yo [pP D,.int (b:Int)]=aA (.lst (iL (nL (YY D b)))):=by
 have en:Y3 aC [Za 0] [aA (pP D),aA (.int (b:Int))]=aA ((aF D.length).map λ(i:Nat)=>.tup [.int (i:Int),.int (Zl D i)]):=by have:=Oh D;simp[this]
 have hc:Zr 2 [1] (Y3 aC [Za 0]) (.many [0,1]) (V5 (xB (Zg (Xv aD) (Za 0) (Za 2))) (xB (Zg oLt (Za 1) (eC (.int 0))))) (eP (Za 0)) [aA (pP D),aA (.int (b:Int))]=aA (.lst (iL (nL (YY D b)))):=by
  rw[W5 (aF D.length) (λ(i:Nat)=>.tup [.int (i:Int),.int (Zl D i)]) (λ(i:Nat)=>.int (i:Int)) (λh=>!decide (h=b)&&decide (Zl D h<0)) en (by simp;omega) λy hy=>⟨[aA (.int (y:Int)),aA (.int (Zl D y)),aA (.int (b:Int))],by simp[compEnv,EW],?_,λ_=>by simp⟩]
  ·unfold nL YY iL;rw[bV];rfl
  ·by_cases q:y=b
   ·subst q;simp
   ·have q':¬(y:Int)=(b:Int):=by omega
    simp[q,q']
 show Ya 2 QK _=_;unfold QK;show(ZN _ [aA (pP D),aA (.int (b:Int))]).bind Xl=_;rw[Ra hc];rfl
theorem debt_nil{D:List Int}{b:Nat}:YY D b=[]↔∀h,h<D.length->h≠b->0<=Zl D h:=by
 unfold YY;rw[List.filter_eq_nil_iff];constructor
 ·intro h x hx hb;have:=h x (aY.mpr hx);simp[hb] at this;exact this
 ·intro h x hx;by_cases q:x=b
  ·simp[q]
  ·have:=h x (aY.mp hx) q;simp[q];omega
theorem B5{D:List Int}{b h:Nat}:h∈YY D b↔h<D.length/\h≠b/\Zl D h<0:=by unfold YY;rw[cN,aY];simp
theorem Rh:∀{l:List Int},(∀x∈l,0<=x)->0<=l.sum
 | [],_=>by simp
 | x::r,h=>by rw[bY];have:=h x af;have:=Rh (l:=r) λy hy=>h y (aP _ hy);omega
theorem Gy{W:List (List Int)}(ok:Zt W){i:Nat}(hi:i<W.length):∀x∈Zz W i,0<=x:=λx hx=>by obtain⟨j,hj,rfl⟩:=R9 hx;rw[ok.sq i hi] at hj;exact ok.lo i j hi hj
end PW
namespace PW
theorem Pg{f:Nat->Int}{q:Nat}:∀{m:Nat},q<=m->(∀k,q<=k->k<m->f k=0)->sN m f=sN q f
 | 0,h,_=>by rw[show q=0 by omega]
 | m+1,h,z=>by
  by_cases e:q=m+1
  ·rw[e]
  ·show sN m f+f m=_;rw[Pg (m:=m) (by omega) (λk h1 h2=>z k h1 (by omega)),z m (by omega) (by omega)];omega
theorem FZ{f:Nat->Int}{q i:Nat}:∀{m:Nat},q<=i->i<m->(∀k,q<=k->k<m->k≠i->f k=0)->sN m f=sN q f+f i
 | 0,_,h,_=>by omega
 | m+1,hq,hi,z=>by
  show sN m f+f m=_;by_cases e:i=m
  ·subst e;rw[Pg (q:=q) (by omega) λk h1 h2=>z k h1 (by omega) (by omega)]
  ·rw[FZ (m:=m) hq (by omega) (λk h1 h2=>z k h1 (by omega)),z m (by omega) (by omega) (λq=>e q.symm)];omega
noncomputable def Xx(m:Nat)(X:Mt):Nat->Mt×Int
 | 0=>(X,1)
 | p+1=>(λi j=>if i=p then(Xx m X p).1 i j else((Xx m X p).1 p p*(Xx m X p).1 i j-(Xx m X p).1 i p*(Xx m X p).1 p j).fdiv (Xx m X p).2,(Xx m X p).1 p p)
structure BOk(m:Nat)(A X:Mt):Prop where
 sym:∀i j,i<m->j<m->A i j=A j i
 inj:∀p,p<=m->∀z:Nat->Int,(∀j,j<p->sN p (λk=>z k*A k j)=0)->∀k,k<p->z k=0
 ext:∀i j,i<m->j<m->X i j=A i j
structure Zin(m p:Nat)(X:Mt)(E:Mt)(d:Int)(i:Nat)(a:Nat->Int):Prop where
 off:∀k,k<m->p<=k->k≠i->a k=0
 on:p<=i->a i=d
 val:∀j,j<=m->E i j=sN m (λk=>a k*X k j)
 uni:∀j,j<p->E i j=if i=j then d else 0
structure Zbq(m:Nat)(A X:Mt)(p:Nat)(E:Mt)(d:Int):Prop where
 de:d=Vz p A
 nz:d≠0
 row:∀i,i<m->∃a,Zin m p X E d i a
theorem Rj{m:Nat}{A X:Mt}{p:Nat}{E:Mt}{d:Int}(ok:BOk m A X)(hp:p<m)(I:Zbq m A X p E d) :
  Zbq m A X (p+1) (λi j=>if i=p then E i j else(E p p*E i j-E i p*E p j).fdiv d) (E p p)/\∀i j,i<m->j<=m->i≠p->∃q,E p p*E i j-E i p*E p j=d*q:=by
 obtain⟨ap,Rp⟩:=I.row p hp;have hd:=I.nz
 -- the pivot's row
 have rowp:∀j,j<m->E p j=sN (p+1) (λk=>ap k*A k j):=λj hj=>by
  rw[Rp.val j (by omega),Pg (q:=p+1) (by omega) λk h1 h2=>by rw[Rp.off k h2 (by omega) (by omega),fP]];exact Zq λk hk=>by rw[ok.ext k j (by omega) hj]
 have pd:E p p=Vz (p+1) A:=by
  have h1:=Zbj (n:=p+1) (j:=p) (A:=A) (a:=ap) (by omega);have h2:=Ij (n:=p) (A:=put p (λc=>sN (p+1) λk=>ap k*A k c) A) λc hc=>by rw[Y6];show sN (p+1) (λk=>ap k*A k c)=0;rw[<-rowp c (by omega),Rp.uni c hc,oB (by omega)]
  have h3:Vz p (put p (λc=>sN (p+1) λk=>ap k*A k c) A)=Vz p A:=Vf λr c hr hc=>by rw[Ub _ _ (by omega)]
  rw[Y6,h3,h1,Rp.on (aT p),<-I.de] at h2;have h4:d*Vz (p+1) A=E p p*d:=by rw[h2];show sN (p+1) (λk=>ap k*A k p)*d=_;rw[<-rowp p hp]
  have h5:d*(Vz (p+1) A)=d*E p p:=by rw[h4,cM]
  exact(j5 hd h5).symm
 have pz:E p p≠0:=λz=>by
  have:=ok.inj (p+1) (by omega) ap (λj hj=>by
   rw[<-rowp j (by omega)];by_cases q:j=p
   ·rw[q];exact z
   ·rw[Rp.uni j (by omega),oB (by omega)]) p (by omega)
  rw[Rp.on (aT p)] at this;exact hd this
 -- the other rows
 have other:∀i,i<m->i≠p->∃b:Nat->Int,(∀k,k<m->p+1<=k->k≠i->b k=0)/\(p+1<=i->b i=E p p)/\(∀l,l<p+1->sN m (λk=>b k*A k l)=if i=l then E p p else 0)/\∀j,j<=m->E p p*E i j-E i p*E p j=d*sN m (λk=>b k*X k j):=by
  intro i hi hip
  obtain⟨b,b1,b2,b3⟩:∃b:Nat->Int,(∀k,k<m->p+1<=k->k≠i->b k=0)/\(p+1<=i->b i=E p p)/\(∀l,l<p+1->sN m (λk=>b k*A k l)=if i=l then E p p else 0):=by
   have cm:∀j l,j<p+1->l<p+1->sN (p+1) (λk=>Ik (p+1) A k j*A k l)=if l=j then E p p else 0:=λj l hj hl=>by
    rw[pd,<-FX (A:=A) hl hj];exact Zq λk hk=>by rw[ok.sym l k (by omega) (by omega),cM]
   by_cases q:i<p
   ·obtain⟨b,hb⟩:∃b:Nat->Int,∀k,b k=if k<p+1 then Ik (p+1) A k i else 0:=⟨_,λ_=>rfl⟩
    refine⟨b,λk hk h1 _=>by rw[hb,oB (by omega)],λh=>by omega,λl hl=>?_⟩;rw[Pg (q:=p+1) (by omega) λk h1 h2=>by rw[hb,oB (by omega),fP]];rw[Zq (g:=λk=>Ik (p+1) A k i*A k l) λk hk=>by rw[hb,oA hk],cm i l (by omega) hl];by_cases e:i=l
    ·rw[oA e,oA e.symm]
    ·rw[oB e,oB (λz=>e z.symm)]
   ·obtain⟨b,hb⟩:∃b:Nat->Int,∀k,b k=if k<p+1 then-sN (p+1) (λj=>A i j*Ik (p+1) A k j) else if k=i then E p p else 0:=⟨_,λ_=>rfl⟩
    have hbi:b i=E p p:=by rw[hb,oB (by omega),oA rfl]
    refine⟨b,λk hk h1 h2=>by rw[hb,oB (by omega),oB h2],λh=>hbi,λl hl=>?_⟩;rw[FZ (q:=p+1) (i:=i) (by omega) hi λk h1 h2 h3=>by rw[hb,oB (by omega),oB h3,fP]];rw[hbi,oB (show ¬i=l by omega)]
    have e1:sN (p+1) (λk=>b k*A k l)=sN (p+1) (λk=>(-1)*sN (p+1) (λj=>A i j*(Ik (p+1) A k j*A k l))):=Zq λk hk=>by
     rw[hb,oA hk,ck,cM _ (A k l),<-ZP,ck,jb];congr 1;exact Zq λj _=>by rw[cM (A k l),dX]
    rw[e1,ZP,Oj];have e2:(sN (p+1) λj=>sN (p+1) λk=>A i j*(Ik (p+1) A k j*A k l))=A i l*E p p:=by rw[Zq (g:=λj=>A i j*(if l=j then E p p else 0)) λj hj=>by rw[ZP,cm j l hj hl]];rw[Yy (k:=l) hl λj _ hjl=>by rw[oB (λz=>hjl z.symm),da],oA rfl]
    rw[e2,cM (E p p)];omega
  refine⟨b,b1,b2,b3,?_⟩;obtain⟨ai,Ri⟩:=I.row i hi
  have hw:∀k,k<m->E p p*ai k-E i p*ap k-d*b k=0:=by
   have hi2:∀k,k<m->p+1<=k->E p p*ai k-E i p*ap k-d*b k=0:=λk hk h1=>by
    have zp:=Rp.off k hk (by omega) (by omega);by_cases q:k=i
    ·subst q;rw[Ri.on (by omega),zp,b2 h1,cM d];omega
    ·rw[Ri.off k hk (by omega) q,zp,b1 k hk h1 q];omega
   intro k hk;by_cases q:k<p+1
   ·refine ok.inj (p+1) (by omega) (λk=>E p p*ai k-E i p*ap k-d*b k) (λl hl=>?_) k q;rw[<-Pg (q:=p+1) (m:=m) (by omega) λk h1 h2=>by rw[hi2 k h2 h1,fP]]
    have e1:sN m (λk=>(E p p*ai k-E i p*ap k-d*b k)*A k l)=E p p*sN m (λk=>ai k*A k l)+((- E i p)*sN m (λk=>ap k*A k l)+(- d)*sN m (λk=>b k*A k l)):=by
     rw[<-ZP,<-ZP,<-ZP,<-YL,<-YL];exact Zq λk _=>by rw[Int.sub_mul,Int.sub_mul];simp only[dX,ck];omega
    have eX:∀a:Nat->Int,sN m (λk=>a k*X k l)=sN m (λk=>a k*A k l):=λa=>Zq λk hk=>by rw[ok.ext k l hk (by omega)]
    rw[e1,b3 l hl,<-eX,<-eX,<-Ri.val l (by omega),<-Rp.val l (by omega)];by_cases q2:l=p
    ·subst q2;rw[oB hip,cM (E l l),ck];omega
    ·rw[Ri.uni l (by omega),Rp.uni l (by omega),oB (show ¬p=l by omega)];by_cases q3:i=l
     ·rw[oA q3,oA q3,ck d,cM d];omega
     ·rw[oB q3,oB q3];omega
   ·exact hi2 k hk (by omega)
  intro j hj;rw[Ri.val j hj,Rp.val j hj,<-ZP,<-ZP,<-ZP];have:sN m (λk=>E p p*(ai k*X k j))=sN m (λk=>d*(b k*X k j))+sN m (λk=>E i p*(ap k*X k j)):=by rw[<-YL];refine Zq λk hk=>?_;have:=hw k hk;rw[<-dX,<-dX,<-dX,<-km];congr 1;omega
  omega
 refine⟨⟨pd,pz,λi hi=>?_⟩,λi j hi hj hip=>?_⟩
 ·by_cases hip:i=p
  ·subst hip;refine⟨ap,λk hk h1 h2=>Rp.off k hk (by omega) h2,λh=>by omega,λj hj=>by rw[oA rfl];exact Rp.val j hj,λj hj=>?_⟩;rw[oA rfl];by_cases q:i=j
   ·subst q;rw[oA rfl]
   ·rw[oB q,Rp.uni j (by omega),oB q]
  ·obtain⟨b,b1,b2,b3,b4⟩:=other i hi hip;have hv:∀j,j<=m->(E p p*E i j-E i p*E p j).fdiv d=sN m (λk=>b k*X k j):=λj hj=>by rw[b4 j hj,gp _ hd]
   refine⟨b,b1,b2,λj hj=>by rw[oB hip];exact hv j hj,λj hj=>?_⟩;rw[oB hip,hv j (by omega),<-b3 j hj];exact Zq λk hk=>by rw[ok.ext k j hk (by omega)]
 ·obtain⟨b,b1,b2,b3,b4⟩:=other i hi hip;exact⟨_,b4 j hj⟩
theorem XN{m:Nat}{A X:Mt}(ok:BOk m A X):∀{p:Nat},p<=m->Zbq m A X p (Xx m X p).1 (Xx m X p).2
 | 0,_=>⟨rfl,(show(1:Int)≠0 by decide),λi hi=>⟨λk=>if k=i then 1 else 0,λk _ _ h=>oB h,λ_=>oA rfl,λj hj=>by rw[Yy (k:=i) hi λk _ hk=>by rw[oB hk,fP],oA rfl,jb];rfl,λj hj=>by omega⟩⟩
 | p+1,h=>(Rj ok (by omega) (XN ok (p:=p) (by omega))).1
theorem DE{m:Nat}{A X:Mt}(ok:BOk m A X){k:Nat}(hk:k<m):sN m (λi=>A k i*(Xx m X m).1 i m)=(Xx m X m).2*X k m:=by
 have I:=XN ok (aT m);generalize hE:(Xx m X m).1=E at I ⊢;generalize hd:(Xx m X m).2=d at I ⊢;have nz:=I.nz
 have hr:∀k,k<m->sN m (λi=>A k i*sN m (λj=>Ik m A i j*X j m))=d*X k m:=λk hk=>by
  rw[Zq (g:=λi=>sN m (λj=>A k i*(Ik m A i j*X j m))) λi _=>by rw[ZP]]
  rw[Oj,Zq (g:=λj=>(if k=j then d else 0)*X j m) λj hj=>by
   rw[I.de,<-FX (A:=A) hk hj,cM _ (X j m),<-ZP];exact Zq λi _=>by rw[cM (X j m),dX]]
  rw[Yy (k:=k) hk λj _ h=>by rw[oB (λz=>h z.symm),fP],oA rfl]
 have he:∀i,i<m->E i m=sN m (λj=>Ik m A i j*X j m):=λi hi=>by
  obtain⟨a,R⟩:=I.row i hi;refine j5 nz ?_;rw[R.val m (aT m),<-ZP];have e1:sN m (λk=>d*(a k*X k m))=sN m (λk=>a k*sN m (λl=>A k l*sN m (λj=>Ik m A l j*X j m))):=Zq λk hk=>by rw[hr k hk,fO]
  rw[e1,Zq (g:=λk=>sN m (λl=>a k*A k l*sN m (λj=>Ik m A l j*X j m))) λk _=>by rw[<-ZP];exact Zq λl _=>by rw[dX]]
  rw[Oj,Zq (g:=λl=>(if i=l then d else 0)*sN m (λj=>Ik m A l j*X j m)) λl hl=>by
   rw[<-R.uni l hl,R.val l (by omega),cM _ (sN m λj=>Ik m A l j*X j m),<-ZP];exact Zq λk hk=>by rw[ok.ext k l hk hl,cM]]
  rw[Yy (k:=i) hi λl _ h=>by rw[oB (λz=>h z.symm),fP],oA rfl]
 rw[Zq (g:=λi=>A k i*sN m (λj=>Ik m A i j*X j m)) λi hi=>by rw[he i hi]];exact hr k hk
open L2 VL
theorem B6{z:Int}(h:z.natAbs<2^1000):z.natAbs.log2<1000:=by
 by_cases h0:z.natAbs=0
 ·rw[h0];decide +kernel
 ·exact(Nat.log2_lt h0).mpr h
theorem F0{a b:Int}(h:a.natAbs<2^1000)(h':b.natAbs<2^1000):CMulW a b:=⟨by have:=B6 h;omega,by have:=B6 h';omega⟩
theorem F1{a b:Int}(h0:b≠0)(h:b.natAbs<2^1000):Ni a b:=⟨h0,by have:=B6 h;omega⟩
def Mb:Nat->Nat
 | 0=>2^7
 | p+1=>2*Mb p*Mb p
noncomputable def Nb:Nat->Nat
 | 0=>2^208
 | p+1=>2*Mb p*Nb p
theorem Zhb{p:Nat}(h:p<=6):Mb p<2^1000:=by
 have:p=0\/p=1\/p=2\/p=3\/p=4\/p=5\/p=6:=by omega
 rcases this with rfl | rfl | rfl | rfl | rfl | rfl | rfl<;>decide +kernel
theorem Zio{p:Nat}(h:p<=6):Nb p<2^1000:=by
 have:p=0\/p=1\/p=2\/p=3\/p=4\/p=5\/p=6:=by omega
 rcases this with rfl | rfl | rfl | rfl | rfl | rfl | rfl<;>decide +kernel
theorem F2{a b c d:Int}{M N:Nat}(ha:a.natAbs<=M)(hb:b.natAbs<=N)(hc:c.natAbs<=M)(hd:d.natAbs<=N):(a*b-c*d).natAbs<=2*M*N:=by
 have h1:(a*b).natAbs<=M*N:=by rw[ky];exact jW ha hb
 have h2:(c*d).natAbs<=M*N:=by rw[ky];exact jW hc hd
 have h3:(a*b-c*d).natAbs<=(a*b).natAbs+(c*d).natAbs:=by omega
 have h4:2*M*N=M*N+M*N:=by rw[Nat.mul_assoc];omega
 omega
theorem IC{x d q:Int}(hd:d≠0)(e:x=d*q):(x.fdiv d).natAbs<=x.natAbs:=by
 rw[e,gp _ hd,ky];have:1<=d.natAbs:=by omega
 calc q.natAbs=1*q.natAbs:=by omega
  _<=d.natAbs*q.natAbs:=ig _ this
theorem Zbr(p:Nat):Mb p<=Mb (p+1):=by
 have h:∀p,1<=Mb p:=λp=>by
  induction p with
  | zero=>decide
  | succ p ih=>show 1<=2*Mb p*Mb p;exact jW (show 1<=2*Mb p by omega) ih
 show Mb p<=2*Mb p*Mb p
 calc Mb p=1*Mb p:=by omega
  _<=2*Mb p*Mb p:=ig _ (by have:=h p;omega)
theorem Zbs(p:Nat):Nb p<=Nb (p+1):=by
 have h:∀p,1<=Mb p:=λp=>by
  induction p with
  | zero=>decide
  | succ p ih=>show 1<=2*Mb p*Mb p;exact jW (show 1<=2*Mb p by omega) ih
 show Nb p<=2*Mb p*Nb p
 calc Nb p=1*Nb p:=by omega
  _<=2*Mb p*Nb p:=ig _ (by have:=h p;omega)
theorem Ph{m:Nat}{A X:Mt}(ok:BOk m A X)(h0:∀i j,i<m->j<m->(X i j).natAbs<=2^7)(h1:∀i,i<m->(X i m).natAbs<=2^208):∀{p:Nat},p<=m->(∀i j,i<m->j<m->((Xx m X p).1 i j).natAbs<=Mb p)/\∀i,i<m->((Xx m X p).1 i m).natAbs<=Nb p
 | 0,_=>⟨h0,h1⟩
 | p+1,hp=>by
  obtain⟨b1,b2⟩:=Ph ok h0 h1 (p:=p) (by omega);have I:=XN ok (p:=p) (by omega);have ex:=(Rj ok (by omega) I).2;refine⟨λi j hi hj=>?_,λi hi=>?_⟩
  ·show(if i=p then(Xx m X p).1 i j else _).natAbs<=_;split
   ·exact bg (b1 i j hi hj) (Zbr p)
   ·rename_i hip;obtain⟨q,e⟩:=ex i j hi (by omega) hip;exact bg (IC I.nz e) (F2 (b1 p p (by omega) (by omega)) (b1 i j hi hj) (b1 i p hi (by omega)) (b1 p j (by omega) hj))
  ·show(if i=p then(Xx m X p).1 i m else _).natAbs<=_;split
   ·exact bg (b2 i hi) (Zbs p)
   ·rename_i hip;obtain⟨q,e⟩:=ex i m hi (by omega) hip;exact bg (IC I.nz e) (F2 (b1 p p (by omega) (by omega)) (b2 i hi) (b1 i p hi (by omega)) (b2 p (by omega)))
def Z0(w:Nat)(f:Nat->Int):List Int:=(aF w).map f
theorem X1(w:Nat)(f:Nat->Int):(Z0 w f).length=w:=by simp[Z0]
theorem T4{w:Nat}{f:Nat->Int}{j:Nat}(h:j<w):Zl (Z0 w f) j=f j:=Yg h
theorem Zhc{l:List Int}:(jf ((jf (aA (PV.lst (iL l))) λx=>(QC [] s).map (x::·)).bind YD) λl=>if ZH l=aD then aA l else aB)=aA (pP l):=by show(if ZH (pP l)=aD then aA (pP l) else aB)=_;rw[oA (by simp)]
theorem Gz{w p:Nat}{f g:Nat->Int}{d:Int}(hw:w<=100)(hp:p<w)(hf:∀j,j<w->(f j).natAbs<2^1000)(hg:∀j,j<w->(g j).natAbs<2^1000)(hd:d≠0)(hdb:d.natAbs<2^1000) :
  Wj [pP (Z0 w f),pP (Z0 w g),.int (p:Int),.int d]=aA (pP (Z0 w λj=>(g p*f j-f p*g j).fdiv d)):=by
 have hz:SD (iL (Z0 w f)) (iL (Z0 w g))=(aF w).map λ(j:Nat)=>.tup [.int (f j),.int (g j)]:=by rw[UN _ _ (by simp[X1]),aK,X1];apply ao;intro i hi;have hi:=aY.mp hi;rw[VZ _ i (by rw[X1];exact hi),VZ _ i (by rw[X1];exact hi),T4 hi,T4 hi]
 have hx:Sm aC aC [Za 0,Za 1] [aA (pP (Z0 w f)),aA (pP (Z0 w g)),aA (.int (p:Int)),aA (.int d)]=aA ((aF w).map λ(j:Nat)=>.tup [.int (f j),.int (g j)]):=by show aA (SD (iL (Z0 w f)) (iL (Z0 w g)))=_;rw[hz]
 have hc:Zr 2 [3,1,2,0] (Sm aC aC [Za 0,Za 1]) (.many [0,1]) ZF (Zg JO (Zg X3 (Zg JN (Zg ZC (Za 3) (Za 4)) (Za 0)) (Zg JN (Zg ZC (Za 5) (Za 4)) (Za 1))) (Za 2)) [aA (pP (Z0 w f)),aA (pP (Z0 w g)),aA (.int (p:Int)),aA (.int d)]=aA (.lst (iL (Z0 w λj=>(g p*f j-f p*g j).fdiv d))):=by
  rw[ZK (aF w) (λ(j:Nat)=>.tup [.int (f j),.int (g j)]) (λj=>.int ((g p*f j-f p*g j).fdiv d)) hx (by simp;omega) (λj hj=>⟨[aA (.int (f j)),aA (.int (g j)),aA (.int d),aA (pP (Z0 w g)),aA (.int (p:Int)),aA (pP (Z0 w f))],rfl,rfl,?_⟩)]
  ·simp[Z0]
  ·have hj:=aY.mp hj;have i1:=YT (l:=Z0 w g) (k:=p) (by rw[X1];exact hp);have i2:=YT (l:=Z0 w f) (k:=p) (by rw[X1];exact hp);rw[T4 hp] at i1 i2;exact(vC (C:=Ni) (op:=nh) (vI (vC (C:=CMulW) (op:=(· * ·)) (a:=g p) (b:=f j) i1 rfl (F0 (hg p hp) (hf j hj))) (vC (C:=CMulW) (op:=(· * ·)) (a:=f p) (b:=g j) i2 rfl (F0 (hf p hp) (hg j hj)))) rfl (F1 hd hdb))
 show Ya 4 QL _=_;unfold QL;show(ZN _ [aA (pP (Z0 w f)),aA (pP (Z0 w g)),aA (.int (p:Int)),aA (.int d)]).bind Xl=_;rw[Ra (v:=pP (Z0 w λj=>(g p*f j-f p*g j).fdiv d)) (by rw[Vm,Yb,Zw,hc];exact Zhc)];rfl
def Wy(m w:Nat)(E:Mt):List (List Int):=(aF m).map λi=>Z0 w (E i)
theorem Zbt(m w:Nat)(E:Mt):(Wy m w E).length=m:=by simp[Wy]
def tL(M:List (List Int)):List PV:=M.map pP
theorem N2(m w:Nat)(E:Mt):tL (Wy m w E)=(aF m).map λi=>pP (Z0 w (E i)):=by unfold tL Wy;rw[bV];rfl
theorem N3(m w:Nat)(E:Mt):(tL (Wy m w E)).length=m:=by simp[tL,Zbt]
theorem GA{m w:Nat}{E:Mt}{i:Nat}(h:i<m):(tL (Wy m w E))[i]?=aA (pP (Z0 w (E i))):=by rw[N2,aW,dC h];rfl
theorem F3(M:List (List Int)):ZD (tL M)=aD:=JJ M
theorem Ls{m w:Nat}{A X:Mt}(hm:m<=6)(hw:m<=w)(hw1:w<=m+1)(ok:BOk m A X)(h0:∀i j,i<m->j<m->(X i j).natAbs<=2^7)(h1:∀i,i<m->(X i m).natAbs<=2^208){R:PV}(hR:R = .lst (tL (Wy m w X))\/R = .tup (tL (Wy m w X))) :
  WH [R]=aA (.tup [.int (Xx m X m).2,.lst (tL (Wy m w (Xx m X m).1))]):=by
 have bd:∀{p:Nat},p<=m->∀i j,i<m->j<m+1->((Xx m X p).1 i j).natAbs<2^1000:=λ{p} hp i j hi hj=>by
  obtain⟨b1,b2⟩:=Ph ok h0 h1 hp;by_cases q:j<m
  ·exact e8 (b1 i j hi q) (Zhb (by omega))
  ·rw[show j=m by omega];exact e8 (b2 i hi) (Zio (by omega))
 have db:∀{p:Nat},p<=m->(Xx m X p).2.natAbs<2^1000:=λ{p} hp=>by
  cases p with
  | zero=>show(1:Int).natAbs<_;decide +kernel
  | succ p=>exact bd (p:=p) (by omega) p p (by omega) (by omega)
 let st:Nat->Option PV->Option PV->ZL:=λp x3 x4=>[aA R,aA (.lst (tL (Wy m w (Xx m X p).1))),aA (.int (Xx m X p).2),x3,x4]
 have e1:Zk 1 (Zc UC [Za 0]) [aA R,aB,aB,aB,aB]=aA (.nx [aA R,aA (.lst (tL (Wy m w X))),aB,aB,aB]):=by
  have:Zc UC [Za 0] [aA R,aB,aB,aB,aB]=aA (.lst (tL (Wy m w X))):=by
   show UC [R]=_;rcases hR with rfl | rfl
   ·rw[C0,oA (F3 _)]
   ·rw[JK,oA (F3 _)]
  rw[ZE,this];rfl
 have e2:Zk 2 (eP (eC (.int 1))) [aA R,aA (.lst (tL (Wy m w X))),aB,aB,aB]=aA (.nx (st 0 aB aB)):=by rw[ZE,vP (a:=1) rfl];rfl
 let fb:XS:=(Zj (Zk 4 (eP (Zg ZC (Za 1) (Za 3))))
  (Zj (Zk 1 (Zr 2 [3,4,2] (Y3 aD [Za 1]) (.many [0,1]) ZF (eP (PM (xB (Zg (Xv aC) (Za 0) (Za 2))) (Za 1) (Zc Wj [Za 1,Za 3,Za 2,Za 4])))))
  (Zk 2 (eP (Zg ZC (Za 4) (Za 3))))))
 obtain⟨s',f1,x3,x4,hs⟩:=ZY (T:=.one 3) (fb:=fb) (ls:=WD m) (s:=st 0 aB aB) (λp s=>∃x3 x4,s=st p x3 x4) ⟨aB,aB,rfl⟩ (by
  rintro p l s hl ⟨x3,x4,rfl⟩;obtain⟨hp,rfl⟩:=Vn hl;generalize hE:(Xx m X p).1=E;generalize hd:(Xx m X p).2=d;have I:=XN ok (p:=p) (by omega);have bE:∀i j,i<m->j<w->(E i j).natAbs<2^1000:=by rw[<-hE];exact λi j hi hj=>bd (by omega) i j hi (by omega)
  have bD:d.natAbs<2^1000:=by rw[<-hd];exact db (by omega)
  rw[hE,hd] at I;let E':Mt:=λi j=>if i=p then E i j else(E p p*E i j-E i p*E p j).fdiv d
  have hs1:(Xx m X (p+1)).1=E':=by show(λi j=>if i=p then(Xx m X p).1 i j else((Xx m X p).1 p p*(Xx m X p).1 i j-(Xx m X p).1 i p*(Xx m X p).1 p j).fdiv (Xx m X p).2)=E';rw[hE,hd]
  have hs2:(Xx m X (p+1)).2=E p p:=by rw[<-hE];rfl
  have q0:st p (aA (.int (p:Int))) x4=[aA R,aA (.lst (tL (Wy m w E))),aA (.int d),aA (.int (p:Int)),x4]:=by rw[<-hE,<-hd]
  have q1:Zk 4 (eP (Zg ZC (Za 1) (Za 3))) [aA R,aA (.lst (tL (Wy m w E))),aA (.int d),aA (.int (p:Int)),x4]=aA (.nx [aA R,aA (.lst (tL (Wy m w E))),aA (.int d),aA (.int (p:Int)),aA (pP (Z0 w (E p)))]):=by
   have:Td (tL (Wy m w E)) (p:Int)=aA (pP (Z0 w (E p))):=VH (GA hp);have:eP (Zg ZC (Za 1) (Za 3)) [aA R,aA (.lst (tL (Wy m w E))),aA (.int d),aA (.int (p:Int)),x4]=aA (pP (Z0 w (E p))):=by show(jf (Td (tL (Wy m w E)) (p:Int)) λl=>if ZH l=aD then aA l else aB)=_;rw[this];show(if ZH (pP (Z0 w (E p)))=aD then _ else _)=_;rw[oA (by simp)]
   rw[ZE,this];rfl
  have q2:Zk 1 (Zr 2 [3,4,2] (Y3 aD [Za 1]) (.many [0,1]) ZF (eP (PM (xB (Zg (Xv aC) (Za 0) (Za 2))) (Za 1) (Zc Wj [Za 1,Za 3,Za 2,Za 4])))) [aA R,aA (.lst (tL (Wy m w E))),aA (.int d),aA (.int (p:Int)),aA (pP (Z0 w (E p)))]=aA (.nx [aA R,aA (.lst (tL (Wy m w E'))),aA (.int d),aA (.int (p:Int)),aA (pP (Z0 w (E p)))]):=by
   have hx:Y3 aD [Za 1] [aA R,aA (.lst (tL (Wy m w E))),aA (.int d),aA (.int (p:Int)),aA (pP (Z0 w (E p)))]=aA ((aF m).map λ(i:Nat)=>.tup [.int (i:Int),pP (Z0 w (E i))]):=by show aA (Vi (tL (Wy m w E)))=_;rw[VY,N3];congr 1;apply ao;intro i hi;have hi:=aY.mp hi;rw[aI,GA hi];rfl
   have hc:Zr 2 [3,4,2] (Y3 aD [Za 1]) (.many [0,1]) ZF (eP (PM (xB (Zg (Xv aC) (Za 0) (Za 2))) (Za 1) (Zc Wj [Za 1,Za 3,Za 2,Za 4]))) [aA R,aA (.lst (tL (Wy m w E))),aA (.int d),aA (.int (p:Int)),aA (pP (Z0 w (E p)))]=aA (.lst (tL (Wy m w E'))):=by
    rw[ZK (aF m) (λ(i:Nat)=>.tup [.int (i:Int),pP (Z0 w (E i))]) (λi=>pP (Z0 w (E' i))) hx (by simp;omega) (λi hi=>⟨[aA (.int (i:Int)),aA (pP (Z0 w (E i))),aA (.int (p:Int)),aA (pP (Z0 w (E p))),aA (.int d)],rfl,rfl,?_⟩),N2];have hi:=aY.mp hi
    have ev:PM (xB (Zg (Xv aC) (Za 0) (Za 2))) (Za 1) (Zc Wj [Za 1,Za 3,Za 2,Za 4]) [aA (.int (i:Int)),aA (pP (Z0 w (E i))),aA (.int (p:Int)),aA (pP (Z0 w (E p))),aA (.int d)]=aA (pP (Z0 w (E' i))):=by
     by_cases q:i=p
     ·have t:xB (Zg (Xv aC) (Za 0) (Za 2)) [aA (.int (i:Int)),aA (pP (Z0 w (E i))),aA (.int (p:Int)),aA (pP (Z0 w (E p))),aA (.int d)]=aA aD:=by simp[q]
      rw[UL,t];have:E' i=E i:=by funext j;show(if i=p then _ else _)=_;rw[oA q]
      rw[this];rfl
     ·have q':¬(i:Int)=(p:Int):=by omega
      have t:xB (Zg (Xv aC) (Za 0) (Za 2)) [aA (.int (i:Int)),aA (pP (Z0 w (E i))),aA (.int (p:Int)),aA (pP (Z0 w (E p))),aA (.int d)]=aA aC:=by simp[q']
      rw[UL,t];have:E' i=λj=>(E p p*E i j-E i p*E p j).fdiv d:=by funext j;show(if i=p then _ else _)=_;rw[oB q]
      rw[this];exact Gz (f:=E i) (g:=E p) (by omega) (by omega) (λj hj=>bE i j hi hj) (λj hj=>bE p j hp hj) I.nz bD
    rw[Vm,ev];show(if ZH (pP (Z0 w (E' i)))=aD then _ else _)=_;rw[oA (by simp)]
   rw[ZE,hc];rfl
  have q3:Zk 2 (eP (Zg ZC (Za 4) (Za 3))) [aA R,aA (.lst (tL (Wy m w E'))),aA (.int d),aA (.int (p:Int)),aA (pP (Z0 w (E p)))]=aA (.nx [aA R,aA (.lst (tL (Wy m w E'))),aA (.int (E p p)),aA (.int (p:Int)),aA (pP (Z0 w (E p)))]):=by have:=YT (l:=Z0 w (E p)) (k:=p) (by rw[X1];omega);rw[T4 (by omega)] at this;rw[ZE,vP (a:=E p p) this];rfl
  refine⟨st p (aA (.int (p:Int))) x4,st (p+1) (aA (.int (p:Int))) (aA (pP (Z0 w (E p)))),rfl,?_,_,_,rfl⟩;rw[q0];show Zj _ _ _=_;rw[Yz q1,Yz q2,q3];show _=aA (Out.nx [aA R,aA (.lst (tL (Wy m w (Xx m X (p+1)).1))),aA (.int (Xx m X (p+1)).2),_,_]);rw[hs1,hs2])
 subst hs;rw[Vo] at f1
 have e3:YR [1] (ZQ [Zc ZR [Za 0]]) (.one 3) fb (st 0 aB aB)=aA (.nx (st m x3 x4)):=by
  show(ZQ [Zc ZR [Za 0]] (Z5 [1] (st 0 aB aB))).bind _=_
  have:Zc ZR [Za 0] (Z5 [1] (st 0 aB aB))=aA (.int (m:Int)):=by
   rcases hR with rfl | rfl
   ·show aA (PV.int ((tL (Wy m w X)).length:Int))=_;rw[N3]
   ·show aA (PV.int ((tL (Wy m w X)).length:Int))=_;rw[N3]
  rw[YE (n:=m) this (by omega)];exact f1
 show Ya 5 Nk _=_;unfold Nk;show(Zj _ _ [aA R,aB,aB,aB,aB]).bind Xl=_;rw[Yz e1,Yz e2,Yz e3];rfl
theorem DF{m:Nat}{A X:Mt}(hm:m<=6)(ok:BOk m A X)(h0:∀i j,i<m->j<m->(X i j).natAbs<=2^7)(h1:∀i,i<m->(X i m).natAbs<=2^208) :
  Xf [wP (Wy m m A),pP (Z0 m λi=>X i m)]=aA (.lst (iL (Z0 m λi=>((Xx m X m).1 i m).fdiv (Xx m X m).2))):=by
 let R:PV:=wP (Wy m m A);let Cc:PV:=pP (Z0 m λi=>X i m);let T:PV:=.tup [.int (Xx m X m).2,.lst (tL (Wy m (m+1) (Xx m X m).1))]
 have e1:Zk 2 (Zc WH [Zr 2 [] (Sm aC aC [Za 0,Za 1]) (.many [0,1]) ZF (Zg Xs (Za 0) (Yp [Za 1]))]) [aA R,aA Cc,aB]=aA (.nx [aA R,aA Cc,aA T]):=by
  have hz:SD (tL (Wy m m A)) (iL (Z0 m λi=>X i m))=(aF m).map λ(i:Nat)=>.tup [pP (Z0 m (A i)),.int (X i m)]:=by rw[UN _ _ (by rw[N3,aK,X1]),N3];apply ao;intro i hi;have hi:=aY.mp hi;rw[VZ _ i (by rw[X1];exact hi),T4 hi,aI,GA hi];rfl
  have hx:Sm aC aC [Za 0,Za 1] [aA R,aA Cc,aB]=aA ((aF m).map λ(i:Nat)=>.tup [pP (Z0 m (A i)),.int (X i m)]):=by show aA (SD (tL (Wy m m A)) (iL (Z0 m λi=>X i m)))=_;rw[hz]
  have hc:Zr 2 [] (Sm aC aC [Za 0,Za 1]) (.many [0,1]) ZF (Zg Xs (Za 0) (Yp [Za 1])) [aA R,aA Cc,aB]=aA (.lst (tL (Wy m (m+1) X))):=by
   rw[ZK (aF m) (λ(i:Nat)=>.tup [pP (Z0 m (A i)),.int (X i m)]) (λi=>pP (Z0 (m+1) (X i))) hx (by simp;omega) (λi hi=>⟨[aA (pP (Z0 m (A i))),aA (.int (X i m))],rfl,rfl,?_⟩),N2];have hi:=aY.mp hi;have hl:(iL (Z0 m (A i))).length+[PV.int (X i m)].length<=10000:=by simp[X1];omega
   have e:Xs (pP (Z0 m (A i))) (.tup [.int (X i m)])=aA (.tup (iL (Z0 m (A i))++[.int (X i m)])):=by show(if _ then _ else _)=_;rw[oA hl]
   have e2:iL (Z0 m (A i))++[PV.int (X i m)]=iL (Z0 (m+1) (X i)):=by unfold Z0;rw[gw,bR];simp;exact λj hj=>(ok.ext i j hi hj).symm
   show(Zg Xs (Za 0) (Yp [Za 1])) [aA (pP (Z0 m (A i))),aA (.int (X i m))]=aA (.tup (iL (Z0 (m+1) (X i))));rw[<-e2,<-e];rfl
  have:Zc WH [Zr 2 [] (Sm aC aC [Za 0,Za 1]) (.many [0,1]) ZF (Zg Xs (Za 0) (Yp [Za 1]))] [aA R,aA Cc,aB]=aA T:=by rw[Yb,Zw,hc];exact Ls hm (by omega) (by omega) ok h0 h1 (.inl rfl)
  rw[ZE,this];rfl
 have I:=XN ok (aT m)
 have bD:(Xx m X m).2.natAbs<2^1000:=by
  obtain⟨b1,b2⟩:=Ph ok h0 h1 (p:=m-1) (by omega);by_cases q:m=0
  ·rw[q];show(1:Int).natAbs<_;decide +kernel
  ·have:(Xx m X m).2=(Xx m X (m-1)).1 (m-1) (m-1):=by obtain⟨k,rfl⟩:∃k,m=k+1:=⟨m-1,by omega⟩;rfl
   rw[this];exact e8 (b1 _ _ (by omega) (by omega)) (Zhb (by omega))
 have hc:Zr 1 [2] (X5 (Zg ZC (Za 2) (eC (.int 1)))) (.one 0) ZF (eP (Zg JO (Zg ZC (Za 0) (Ju QB (eC (.int 1)))) (Zg ZC (Za 1) (eC (.int 0))))) [aA R,aA Cc,aA T]=aA (.lst (iL (Z0 m λi=>((Xx m X m).1 i m).fdiv (Xx m X m).2))):=by
  have hx:X5 (Zg ZC (Za 2) (eC (.int 1))) [aA R,aA Cc,aA T]=aA ((aF m).map λi=>pP (Z0 (m+1) ((Xx m X m).1 i))):=by show aA (tL (Wy m (m+1) (Xx m X m).1))=_;rw[N2]
  rw[ZK (aF m) (λi=>pP (Z0 (m+1) ((Xx m X m).1 i))) (λi=>.int (((Xx m X m).1 i m).fdiv (Xx m X m).2)) hx (by simp;omega) (λi hi=>⟨[aA (pP (Z0 (m+1) ((Xx m X m).1 i))),aA T],rfl,rfl,?_⟩)]
  ·simp[Z0]
  ·have hi:=aY.mp hi
   have ix:Td (iL (Z0 (m+1) ((Xx m X m).1 i))) (-1)=aA (.int ((Xx m X m).1 i m)):=by
    have:ML (iL (Z0 (m+1) ((Xx m X m).1 i))).length (-1)=aA m:=by rw[aK,X1];unfold ML;rw[oB (by omega),oA (by omega)];congr 1;omega
    unfold Td;rw[this];show(iL (Z0 (m+1) ((Xx m X m).1 i)))[m]?=_;rw[Kc (by rw[X1];omega),T4 (by omega)]
   exact vP (vC (C:=Ni) (op:=nh) ix rfl (F1 I.nz bD))
 show Ya 3 Vq _=_;unfold Vq;show(Zj _ _ [aA R,aA Cc,aB]).bind Xl=_;rw[Yz e1,Ra hc];rfl
def X8(b i:Nat):Nat:=if i<b then i else i+1
def F4(b h:Nat):Nat:=if h<b then h else h-1
theorem B7(b i:Nat):X8 b i≠b:=by unfold X8;split<;>omega
theorem Wu{b i m:Nat}(h:i<m):X8 b i<m+1:=by unfold X8;split<;>omega
theorem F5(b i:Nat):F4 b (X8 b i)=i:=by unfold F4 X8;split<;>(try split)<;>omega
theorem Oq{b h:Nat}(q:h≠b):X8 b (F4 b h)=h:=by unfold F4 X8;split<;>(try split)<;>omega
theorem GB{b h m:Nat}(hb:b<m+1)(hh:h<m+1)(q:h≠b):F4 b h<m:=by unfold F4;split<;>omega
theorem ID{n b:Nat}(hn:n<=7)(hb:b<n):(aF n).filter (λh=>!decide (h=b))=(aF (n-1)).map (X8 b):=by
 have:∀n,n<8->∀b,b<8->b<n->(aF n).filter (λh=>!decide (h=b))=(aF (n-1)).map (X8 b):=by decide
 exact this n (by omega) b (by omega) hb
theorem GC{f:Nat->Int}{b:Nat}(h0:f b=0):∀{m:Nat},b<m+1->sN (m+1) f=sN m (λi=>f (X8 b i))
 | 0,h=>by
  have:b=0:=by omega
  subst this;show 0+f 0=0;rw[h0];rfl
 | m+1,h=>by
  by_cases q:b=m+1
  ·subst q;show sN (m+1) f+f (m+1)=_;rw[h0,jN];exact Zq λi hi=>by unfold X8;rw[oA hi]
  ·show sN (m+1) f+f (m+1)=sN m (λi=>f (X8 b i))+f (X8 b m);rw[GC h0 (m:=m) (by omega),show X8 b m=m+1 by unfold X8;rw[oB (by omega)]]
theorem T5{f:Nat->Int}:∀{n:Nat},(∀i,i<n->0<=f i)->sN n f<=0->∀i,i<n->f i=0
 | 0,_,_,i,h=>by omega
 | n+1,h,s,i,hi=>by
  have s:sN n f+f n<=0:=s
  have h1:0<=sN n f:=by
   have:∀k,k<=n->0<=sN k f:=by
    intro k
    induction k with
    | zero=>intro _;exact bq 0
    | succ k ih=>intro hk;have:=ih (by omega);have:=h k (by omega);show 0<=sN k f+f k;omega
   exact this n (aT n)
  have h2:=h n (by omega);by_cases q:i=n
  ·subst q;omega
  ·exact T5 (n:=n) (λi hi=>h i (by omega)) (by omega) i (by omega)
theorem YF{f:Nat->Int}:∀{n:Nat},(∀i,i<n->0<=f i)->0<=sN n f
 | 0,_=>bq 0
 | n+1,h=>by have:=YF (n:=n) λi hi=>h i (by omega);have:=h n (by omega);show 0<=sN n f+f n;omega
theorem N4(Y:Nat->Int):∀{n:Nat},0<n->∃h,h<n/\∀g,g<n->Y h<=Y g
 | 0,h=>by omega
 | 1,_=>⟨0,by omega,λg hg=>by rw[show g=0 by omega];exact bq _⟩
 | n+2,_=>by
  obtain⟨h,h1,h2⟩:=N4 Y (n:=n+1) (by omega);by_cases q:Y h<=Y (n+1)
  ·exact⟨h,by omega,λg hg=>by
    by_cases e:g=n+1
    ·rw[e];exact q
    ·exact h2 g (by omega)⟩
  ·exact⟨n+1,by omega,λg hg=>by
    by_cases e:g=n+1
    ·rw[e];exact bq _
    ·have:=h2 g (by omega);omega⟩
noncomputable def gN(W:List (List Int))(Y:Nat->Int)(h:Nat):Int:=sN W.length (λg=>Z1 W h g*(Y g-Y h))
theorem Zbu{W:List (List Int)}(ok:Zt W)(cn:WT W){Y:Nat->Int}{b:Nat}(hb:b<W.length)(hyp:∀h,h<W.length->h≠b->Y h<Y b->gN W Y h<=0):∀h,h<W.length->Y b<=Y h:=by
 intro h hh;refine nT.mp λhlt=>?_;obtain⟨h0,l0,m0⟩:=N4 Y (n:=W.length) (by omega);have lt0:Y h0<Y b:=by have:=m0 h hh;omega
 have step:∀a c,a<W.length->c<W.length->0<Z1 W a c->Y a=Y h0->Y c=Y h0:=λa c ha hc hp ea=>by
  have s:=hyp a ha (λz=>by rw[z] at ea;omega) (by omega);have t:=T5 (f:=λg=>Z1 W a g*(Y g-Y a)) (λg hg=>du (ok.lo a g ha hg) (by have:=m0 g hg;omega)) s c hc
  have:Y c-Y a=0:=by
   rcases mq.mp t with z | z
   ·omega
   ·exact z
  omega
 have:=(cn (λx=>Y x=Y h0) (λa c ha hc hp=>⟨step a c ha hc hp,step c a hc ha (by rw[ok.sym c a hc ha];exact hp)⟩) h0 b l0 hb).mp rfl;omega
theorem Rk{W:List (List Int)}(Y Z:Nat->Int)(h:Nat):gN W (λx=>Y x+Z x) h=gN W Y h+gN W Z h:=by
 unfold gN;rw[<-YL];exact Zq λg _=>by show Z1 W h g*(Y g+Z g-(Y h+Z h))=_;rw[<-ie];congr 1;omega
theorem VB{W:List (List Int)}(c:Int)(Y:Nat->Int)(h:Nat):gN W (λx=>c*Y x) h=c*gN W Y h:=by
 unfold gN;rw[<-ZP];exact Zq λg _=>by show Z1 W h g*(c*Y g-c*Y h)=_;rw[<-gS,fO]
theorem IE{W:List (List Int)}{Y Z:Nat->Int}{h:Nat}(hh:h<W.length)(e:∀g,g<W.length->Y g=Z g):gN W Y h=gN W Z h:=Zq λg hg=>by rw[e g hg,e h hh]
theorem Zbv(W:List (List Int))(S:List Int)(h:Nat):X7 W S h=gN W (Zl S) h:=by unfold X7 gN;rw[Qb]
def Xi(W:List (List Int))(b:Nat):Mt:=λi j=>if X8 b j=X8 b i then(Zz W (X8 b i)).sum else-Z1 W (X8 b i) (X8 b j)
def XQ(W:List (List Int))(b:Nat)(c:Nat->Int):Mt:=λi j=>if j<W.length-1 then Xi W b i j else c (X8 b i)
theorem GD{W:List (List Int)}(ok:Zt W){b:Nat}(hb:b<W.length){Y:Nat->Int}(h0:Y b=0){k:Nat}(hk:k<W.length-1):gN W Y (X8 b k) = - sN (W.length-1) (λi=>Xi W b k i*Y (X8 b i)):=by
 have hp:=ok.pos;obtain⟨m,hm⟩:∃m,W.length=m+1:=⟨W.length-1,by omega⟩;have hm1:W.length-1=m:=by omega
 rw[hm1] at hk ⊢;generalize hh:X8 b k=h;have hhn:h<W.length:=by rw[hm,<-hh];exact Wu hk
 have e1:sN m (λi=>Xi W b k i*Y (X8 b i))=sN (m+1) (λg=>(if g=h then(Zz W h).sum else-Z1 W h g)*Y g):=by
  rw[GC (b:=b) (f:=λg=>(if g=h then(Zz W h).sum else-Z1 W h g)*Y g) (by rw[h0,da]) (by omega)];exact Zq λi _=>by unfold Xi;rw[hh]
 have e2:sN (m+1) (λg=>(if g=h then(Zz W h).sum else-Z1 W h g)*Y g)=(-1)*sN (m+1) (λg=>Z1 W h g*Y g)+(Zz W h).sum*Y h:=by
  have:sN (m+1) (λg=>if g=h then(Zz W h).sum*Y h else 0)=(Zz W h).sum*Y h:=by rw[Yy (k:=h) (by omega) λi _ hi=>oB hi,oA rfl]
  rw[<-this,<-ZP,<-YL];refine Zq λg hg=>?_;by_cases q:g=h
  ·subst q;rw[oA rfl,oA rfl,ok.dia g hhn];omega
  ·rw[oB q,oB q,ck,ck,jb];omega
 have e3:(Zz W h).sum=sN (m+1) (λg=>Z1 W h g):=by rw[Oi ok hhn,Qb,hm]
 have e4:gN W Y h=sN (m+1) (λg=>Z1 W h g*Y g)+(- Y h)*sN (m+1) (λg=>Z1 W h g):=by
  unfold gN;rw[hm,<-ZP,<-YL];exact Zq λg _=>by rw[gS,cM (- Y h),md];omega
 rw[e4,e1,e2,e3,cM (sN (m+1) λg=>Z1 W h g) (Y h),ck];omega
theorem KY{W:List (List Int)}(ok:Zt W)(cn:WT W){b:Nat}(hb:b<W.length)(c:Nat->Int):BOk (W.length-1) (Xi W b) (XQ W b c):=by
 have hp:=ok.pos;obtain⟨m,hm⟩:∃m,W.length=m+1:=⟨W.length-1,by omega⟩;have hm1:W.length-1=m:=by omega
 have sym:∀i j,i<m->j<m->Xi W b i j=Xi W b j i:=λi j hi hj=>by
  unfold Xi;by_cases q:X8 b j=X8 b i
  ·rw[oA q,oA q.symm,q]
  ·rw[oB q,oB (λz=>q z.symm),ok.sym _ _ (by rw[hm];exact Wu hi) (by rw[hm];exact Wu hj)]
 rw[hm1];refine⟨sym,λp hp' z hz k hk=>?_,λi j hi hj=>by unfold XQ;rw[hm1,oA hj]⟩;obtain⟨Z,hZ⟩:∃Z:Nat->Int,∀h,Z h=if h=b then 0 else if F4 b h<p then z (F4 b h) else 0:=⟨_,λ_=>rfl⟩
 have Zb:Z b=0:=by rw[hZ,oA rfl]
 have Zo:∀i,Z (X8 b i)=if i<p then z i else 0:=λi=>by rw[hZ,oB (B7 b i),F5]
 have flat:∀j,j<p->gN W Z (X8 b j)=0:=λj hj=>by
  rw[GD ok hb Zb (by omega),hm1]
  have e:sN m (λi=>Xi W b j i*Z (X8 b i))=sN p (λk=>z k*Xi W b k j):=by
   rw[Pg (q:=p) hp' λk h1 h2=>by rw[Zo,oB (by omega),da]];exact Zq λk hk=>by rw[Zo,oA hk,sym j k (by omega) (by omega),cM]
  rw[e,hz j hj];rfl
 have off:∀h,h<W.length->Z h≠0->gN W Z h=0:=λh hh ne=>by
  have hb':h≠b:=λz=>ne (by rw[z];exact Zb);have hi:F4 b h<p:=by refine Nat.not_le.mp λq=>ne ?_;rw[hZ,oB hb',oB (by omega)]
  have:=flat _ hi;rw[Oq hb'] at this;exact this
 have up:=Zbu ok cn (Y:=Z) hb (λh hh _ hlt=>by rw[off h hh (by rw[Zb] at hlt;omega)];exact bq _)
 have dn:=Zbu ok cn (Y:=λx=>(-1)*Z x) hb (λh hh _ hlt=>by
  simp only[Zb] at hlt;rw[VB,off h hh (by omega)];decide)
 have h1:=up (X8 b k) (by rw[hm];exact Wu (by omega));have h2:=dn (X8 b k) (by rw[hm];exact Wu (by omega));simp only[Zb,Zo,oA hk] at h1 h2;omega
theorem Lu{W:List (List Int)}(ok:Zt W)(cn:WT W){b:Nat}(hb:b<W.length)(c:Nat->Int) :
  ∃R:Nat->Int,R b=0/\(∀i,i<W.length-1->R (X8 b i)=(Xx (W.length-1) (XQ W b c) (W.length-1)).1 i (W.length-1))/\∀h,h<W.length->h≠b->gN W R h = - ((Xx (W.length-1) (XQ W b c) (W.length-1)).2*c h):=by
 have hp:=ok.pos;have bk:=KY ok cn hb c;obtain⟨R,hR⟩:∃R:Nat->Int,∀h,R h=if h=b then 0 else(Xx (W.length-1) (XQ W b c) (W.length-1)).1 (F4 b h) (W.length-1):=⟨_,λ_=>rfl⟩
 have Rb:R b=0:=by rw[hR,oA rfl]
 have Ro:∀i,R (X8 b i)=(Xx (W.length-1) (XQ W b c) (W.length-1)).1 i (W.length-1):=λi=>by rw[hR,oB (B7 b i),F5]
 refine⟨R,Rb,λi _=>Ro i,λh hh hne=>?_⟩;have hk:F4 b h<W.length-1:=GB (m:=W.length-1) (by omega) (by omega) hne;have e:=GD ok hb Rb hk;rw[Oq hne] at e;have s:=DE bk hk;have x:XQ W b c (F4 b h) (W.length-1)=c h:=by unfold XQ;rw[oB (by omega),Oq hne]
 rw[x] at s;rw[e,<-s];congr 1;exact Zq λi _=>by rw[Ro]
theorem B8(l:List Int)(g:Int->Int):l.map g=(aF l.length).map λi=>g (Zl l i):=by refine V2 (by simp) λi hi=>?_;rw[aK] at hi;rw[Yg (by omega)];simp[Zl,aI,aE hi]
theorem GF{n:Nat}{ix:List Nat}{fi:XL}{ft:XT}{fe:XE}{s:ZL}{l:List Int}(g:Int->Int)(hfi:fi s=aA (iL l))(hl:l.length<=1000)(h:∀x∈l,∃s1,Vj (.one 0) (.int x) (compEnv n ix s)=aA s1/\ft s1=aA aD/\fe s1=aA (.int (g x))) :
  Zr n ix fi (.one 0) ft fe s=aA (.lst (iL (l.map g))):=by
 rw[ZK l (λ(x:Int)=>.int x) (λx=>.int (g x)) hfi (by omega) (λx hx=>h x hx)];simp
theorem N5{l:List Int}(hp:0<l.length)(hl:l.length<=1000):UR [pP l]=aA (pP (ZM l)):=by
 have hc:Zr 1 [1] (PR (Za 0)) (.one 0) ZF (Zg X3 (Za 0) (Za 1)) [aA (pP l),aA (.int (Wi l))]=aA (.lst (iL (ZM l))):=by rw[show ZM l=l.map λx=>x-Wi l from(B8 l λx=>x-Wi l).symm];exact GF (λx=>x-Wi l) (JL rfl) hl λx hx=>⟨_,rfl,rfl,by simp[compEnv]⟩
 have hm:=Zaw Wi (l:=l) (eK.mp hp);simp[UR,FH,Ya,Z2,hm,hc]
theorem DG{W:List (List Int)}{h m:Nat}{f:Nat->Nat}(ok:Zt W)(hh:h<W.length)(hm:m<=6)(hf:∀i,i<m->f i<W.length) :
  RU [wP W,.int (h:Int),.lst (iL (nL ((aF m).map f)))]=aA (pP (Z0 m λj=>if f j=h then(Zz W h).sum else-Z1 W h (f j))):=by
 have hc:Zr 1 [1,0] (X5 (Za 2)) (.one 0) ZF (PM (xB (Zg (Xv aC) (Za 0) (Za 1))) (Zc Uj [Za 2,Za 1]) (Ju QB (Zg ZC (Zg ZC (Za 2) (Za 1)) (Za 0)))) [aA (wP W),aA (.int (h:Int)),aA (.lst (iL (nL ((aF m).map f))))]=aA (.lst (iL (Z0 m λj=>if f j=h then(Zz W h).sum else-Z1 W h (f j)))):=by
  rw[ZK (aF m) (λ(j:Nat)=>.int ((f j:Nat):Int)) (λj=>.int (if f j=h then(Zz W h).sum else-Z1 W h (f j))) (by simp[nL]) (by simp;omega) (λj hj=>⟨[aA (.int ((f j:Nat):Int)),aA (.int (h:Int)),aA (wP W)],rfl,rfl,?_⟩)]
  ·simp[Z0]
  ·have hj:=aY.mp hj;have hfj:=hf j hj;by_cases q:f j=h
   ·have t:xB (Zg (Xv aC) (Za 0) (Za 1)) [aA (.int ((f j:Nat):Int)),aA (.int (h:Int)),aA (wP W)]=aA aD:=by simp[q]
    rw[oA q];rw[UL,t];exact Gf hh
   ·have q':¬((f j:Nat):Int)=(h:Int):=by omega
    have t:xB (Zg (Xv aC) (Za 0) (Za 1)) [aA (.int ((f j:Nat):Int)),aA (.int (h:Int)),aA (wP W)]=aA aC:=by simp[q']
    rw[oB q];rw[UL,t];have:=YT (l:=Zz W h) (k:=f j) (by rw[ok.sq h hh];exact hfj);simp[RO hh,this,QB];rfl
 show Ya 3 Nl _=_;unfold Nl;show(ZN _ [aA (wP W),aA (.int (h:Int)),aA (.lst (iL (nL ((aF m).map f))))]).bind Xl=_;rw[Ra (v:=pP (Z0 m λj=>if f j=h then(Zz W h).sum else-Z1 W h (f j))) (by rw[Vm,Yb,Zw,hc];exact Zhc)];rfl
theorem V4{W:List (List Int)}{b:Nat}(ok:Zt W)(hb:b<W.length) :
  Yc [wP W,.int (b:Int)]=aA (wP (Wy (W.length-1) (W.length-1) (Xi W b))):=by
 have hp:=ok.pos;have hf:=ok.few;obtain⟨m,hm⟩:∃m,W.length=m+1:=⟨W.length-1,by omega⟩;have hm1:W.length-1=m:=by omega
 rw[hm1];let os:=(aF m).map (X8 b);have fo:∀i,i<m->X8 b i<W.length:=λi hi=>by rw[hm];exact Wu hi
 have e1:Zk 2 (Zr 1 [1] (ZQ [Zc ZR [Za 0]]) (.one 0) (xB (Zg (Xv aD) (Za 0) (Za 1))) (eP (Za 0))) [aA (wP W),aA (.int (b:Int)),aB]=aA (.nx [aA (wP W),aA (.int (b:Int)),aA (.lst (iL (nL os)))]):=by
  have hc:Zr 1 [1] (ZQ [Zc ZR [Za 0]]) (.one 0) (xB (Zg (Xv aD) (Za 0) (Za 1))) (eP (Za 0)) [aA (wP W),aA (.int (b:Int)),aB]=aA (.lst (iL (nL os))):=by
   rw[W5 (aF W.length) (λ(i:Nat)=>.int (i:Int)) (λ(i:Nat)=>.int (i:Int)) (λh=>!decide (h=b)) (YE (n:=W.length) (by simp) (by omega)) (by simp;omega) λy hy=>⟨[aA (.int (y:Int)),aA (.int (b:Int))],rfl,?_,λ_=>by simp⟩]
   ·rw[ID hf hb,hm1];simp[nL,os]
   ·by_cases q:y=b
    ·simp[q]
    ·have q':¬(y:Int)=(b:Int):=by omega
     simp[q,q']
  rw[ZE,hc];rfl
 have hc:Zr 1 [0,2] (X5 (Za 2)) (.one 0) ZF (Zc RU [Za 1,Za 0,Za 2]) [aA (wP W),aA (.int (b:Int)),aA (.lst (iL (nL os)))]=aA (.lst (tL (Wy m m (Xi W b)))):=by rw[ZK (aF m) (λ(i:Nat)=>.int ((X8 b i:Nat):Int)) (λi=>pP (Z0 m (Xi W b i))) (by simp[nL,os]) (by simp;omega) (λi hi=>⟨[aA (.int ((X8 b i:Nat):Int)),aA (wP W),aA (.lst (iL (nL os)))],rfl,rfl,?_⟩),N2];exact DG (f:=X8 b) ok (fo i (aY.mp hi)) (by omega) fo
 show Ya 3 Wk _=_;unfold Wk;show(Zj _ _ [aA (wP W),aA (.int (b:Int)),aB]).bind Xl=_
 rw[Yz e1,Ra (v:=wP (Wy m m (Xi W b))) (by
  rw[Vm,Yb,Zw,hc];show(if ZH (wP (Wy m m (Xi W b)))=aD then aA (wP (Wy m m (Xi W b))) else aB)=_;rw[oA (by rw[EV];exact JJ _)])]
 rfl
theorem F6{l:List Int}{b h:Nat}{x:Int}(hb:b<=l.length)(hh:h<l.length+1):Zl (l.take b++x::l.drop b) h=if h=b then x else Zl l (F4 b h):=by
 unfold Zl F4;rw[aI,aI];by_cases q:h<b
 ·rw[oB (by omega),oA q,az (by rw[bT];omega),dm q]
 ·rw[bK (by rw[bT];omega),bT,fH hb];by_cases q2:h=b
  ·rw[oA q2,q2,Nat.sub_self];rfl
  ·rw[oB q2,oB q,show h-b=(h-b-1)+1 by omega,iG,hX,show b+(h-b-1)=h-1 by omega]
theorem F7{f:Nat->Int}:∀{n:Nat},(∀i,i<n->0<=f i/\f i<=9)->0<=sN n f/\sN n f<=9*n
 | 0,_=>⟨bq _,by show(0:Int)<=_;omega⟩
 | n+1,h=>by
  obtain⟨a,b⟩:=F7 (n:=n) λi hi=>h i (by omega);have:=h n (by omega);refine⟨?_,?_⟩
  ·show 0<=sN n f+f n;omega
  ·show sN n f+f n<=_;omega
theorem Lv{W:List (List Int)}(ok:Zt W){b:Nat}{c:Nat->Int}{i j:Nat}(hi:i<W.length-1)(hj:j<W.length-1):(XQ W b c i j).natAbs<=2^7:=by
 have hp:=ok.pos;have hf:=ok.few;have h1:X8 b i<W.length:=by have:=Wu (b:=b) hi;omega
 have h2:X8 b j<W.length:=by have:=Wu (b:=b) hj;omega
 unfold XQ Xi;rw[oA hj];split
 ·rw[Oi ok h1,Qb];obtain⟨a,b⟩:=F7 (f:=λj=>Z1 W (X8 b i) j) (n:=W.length) λj hj=>⟨ok.lo _ j h1 hj,ok.hi _ j h1 hj⟩;omega
 ·have:=ok.lo _ _ h1 h2;have:=ok.hi _ _ h1 h2;omega
theorem GG{W:List (List Int)}{D:List Int}{b:Nat}(ok:Zt W)(cn:WT W)(hd:D.length=W.length)(hb:b<W.length)(hD:∀h,h<W.length->(Zl D h).natAbs<=2^208) :
  ∃(S0:List Int) (d:Int) (R:Nat->Int),Vc [wP W,pP D,.int (b:Int)]=aA (pP S0)/\S0.length=W.length/\0<d/\R b=0/\Zl S0 b=0/\(∀h,h<W.length->d*Zl S0 h<=R h/\R h<d*Zl S0 h+d)/\∀h,h<W.length->h≠b->gN W R h = - (d*Zl D h):=by
 have hp:=ok.pos;have hf:=ok.few;obtain⟨m,hm⟩:∃m,W.length=m+1:=⟨W.length-1,by omega⟩;have hm1:W.length-1=m:=by omega
 obtain⟨R,Rb,Ro,Rg⟩:=Lu ok cn hb (Zl D);have bk:=KY ok cn hb (Zl D);have I:=XN bk (aT _)
 have se:=DF (m:=W.length-1) (by omega) bk (λi j hi hj=>Lv ok hi hj) (λi hi=>by
  show(XQ W b (Zl D) i (W.length-1)).natAbs<=_;unfold XQ;rw[oB (by omega)];exact hD _ (by have:=Wu (b:=b) hi;omega))
 generalize hE:(Xx (W.length-1) (XQ W b (Zl D)) (W.length-1)).1=E at Ro I se;generalize hdd:(Xx (W.length-1) (XQ W b (Zl D)) (W.length-1)).2=d at Rg I se;rw[hm1] at Ro se I;have nz:=I.nz
 have cc:D.take b++D.drop (b+1)=Z0 m λi=>XQ W b (Zl D) i m:=by
  refine V2 (by rw[ag,bT,br,X1];omega) λi hi=>?_;have hi:i<m:=by rw[ag,bT,br] at hi;omega
  rw[T4 hi];unfold XQ;rw[hm1,oB (by omega)];unfold X8 Zl;rw[aI,aI];by_cases q:i<b
  ·rw[oA q,az (by rw[bT];omega),dm q]
  ·rw[oB q,bK (by rw[bT];omega),bT,fH (by omega),hX];congr 2;omega
 have e1:Zk 3 (eP (Zg Xs (P6 XD (Za 1) Mi (QD (Za 2))) (P6 XD (Za 1) (QD (Zg Yi (Za 2) (eC (.int 1)))) Mi))) [aA (wP W),aA (pP D),aA (.int (b:Int)),aB,aB]=aA (.nx [aA (wP W),aA (pP D),aA (.int (b:Int)),aA (pP (Z0 m λi=>XQ W b (Zl D) i m)),aB]):=by
  have s1:XD (pP D) aB (aA (b:Int))=aA (pP (D.take b)):=by show(if HT.sIx (iL D).length 0 aB=0/\HT.sIx (iL D).length (iL D).length (aA (b:Int))=(iL D).length then aB else aA (PV.tup (UG (iL D) aB (aA (b:Int)))))=_;rw[oB (by rw[HT.sIx_nat,aK,hd];omega),BW]
  have s2:XD (pP D) (aA ((b:Int)+1)) aB=aA (pP (D.drop (b+1))):=by show(if HT.sIx (iL D).length 0 (aA ((b:Int)+1))=0/\HT.sIx (iL D).length (iL D).length aB=(iL D).length then aB else aA (PV.tup (UG (iL D) (aA ((b:Int)+1)) aB)))=_;rw[show((b:Int)+1)=((b+1:Nat):Int) by omega,oB (by rw[HT.sIx_nat,aK,hd];omega),BX]
  have s3:Xs (pP (D.take b)) (pP (D.drop (b+1)))=aA (pP (Z0 m λi=>XQ W b (Zl D) i m)):=by show(if(iL (D.take b)).length+(iL (D.drop (b+1))).length<=10000 then aA (PV.tup (iL (D.take b)++iL (D.drop (b+1)))) else aB)=_;rw[oA (by rw[aK,aK,bT,br];omega),<-bR,cc]
  have:Zg Xs (P6 XD (Za 1) Mi (QD (Za 2))) (P6 XD (Za 1) (QD (Zg Yi (Za 2) (eC (.int 1)))) Mi) [aA (wP W),aA (pP D),aA (.int (b:Int)),aB,aB]=aA (pP (Z0 m λi=>XQ W b (Zl D) i m)):=by show(jf (XD (pP D) aB (aA (b:Int))) λx=>jf (XD (pP D) (aA ((b:Int)+1)) aB) λy=>Xs x y)=_;rw[s1,s2];exact s3
  rw[ZE,Vm,this];show Option.map _ (if ZH (pP (Z0 m λi=>XQ W b (Zl D) i m))=aD then _ else _)=_;rw[oA (by simp)];rfl
 have e3:Zk 4 (Zc Xf [Zc Yc [Za 0,Za 2],Za 3]) [aA (wP W),aA (pP D),aA (.int (b:Int)),aA (pP (Z0 m λi=>XQ W b (Zl D) i m)),aB]=aA (.nx [aA (wP W),aA (pP D),aA (.int (b:Int)),aA (pP (Z0 m λi=>XQ W b (Zl D) i m)),aA (.lst (iL (Z0 m λi=>(E i m).fdiv d)))]):=by
  have sq:=V4 ok hb;rw[hm1] at sq;have:Zc Xf [Zc Yc [Za 0,Za 2],Za 3] [aA (wP W),aA (pP D),aA (.int (b:Int)),aA (pP (Z0 m λi=>XQ W b (Zl D) i m)),aB]=aA (.lst (iL (Z0 m λi=>(E i m).fdiv d))):=by have c1:Zc Yc [Za 0,Za 2] [aA (wP W),aA (pP D),aA (.int (b:Int)),aA (pP (Z0 m λi=>XQ W b (Zl D) i m)),aB]=aA (wP (Wy m m (Xi W b))):=sq;rw[Yb,Zw,c1];exact se
  rw[ZE,this];rfl
 generalize hl:Z0 m (λi=>(E i m).fdiv d)=l at e3;have ll:l.length=m:=by rw[<-hl,X1]
 generalize pP (Z0 m λi=>XQ W b (Zl D) i m)=col at e1 e3;have e4:VU 4 (Za 2) (eC (.int 0)) [aA (wP W),aA (pP D),aA (.int (b:Int)),aA col,aA (.lst (iL l))]=aA (.nx [aA (wP W),aA (pP D),aA (.int (b:Int)),aA col,aA (.lst (iL (l.take b++0::l.drop b)))]):=by rw[O8 (k:=(b:Int)) (l:=.int 0) (m:=iL l) rfl rfl rfl (Y7 l) rfl (by omega) (by omega) (by rw[aK,ll];omega),cF,BM];rfl
 have S0at:∀h,h<W.length->Zl (l.take b++0::l.drop b) h=(R h).fdiv d:=λh hh=>by
  rw[F6 (by omega) (by omega)];by_cases q:h=b
  ·rw[oA q,q,Rb];simp
  ·rw[oB q,<-hl,T4 (GB (m:=m) (by omega) (by omega) q),<-Ro _ (GB (m:=m) (by omega) (by omega) q),Oq q]
 have run:Vc [wP W,pP D,.int (b:Int)]=aA (pP (l.take b++0::l.drop b)):=by show Ya 5 QM _=_;unfold QM;show(Zj _ _ [aA (wP W),aA (pP D),aA (.int (b:Int)),aB,aB]).bind Xl=_;rw[Yz e1,Yz e3,Yz e4];generalize l.take b++0::l.drop b=z;simp
 have len:(l.take b++0::l.drop b).length=W.length:=by rw[ag,bT,bB,br,ll];omega
 have S0b:Zl (l.take b++0::l.drop b) b=0:=by rw[F6 (by omega) (by omega),oA rfl]
 rcases lr nz with neg | pos
 ·refine⟨_,- d,λh=>- R h,run,len,by omega,by show-R b=0;rw[Rb];rfl,S0b,λh hh=>?_,λh hh hne=>?_⟩
  ·have e:(R h).fdiv d=(- R h)/(- d):=by rw[<-Int.neg_fdiv_neg,gM _ (by omega)]
   rw[S0at h hh,e];exact⟨kz (by omega),jx (by omega)⟩
  ·have:=VB (W:=W) (-1) R h;rw[Rg h hh hne] at this;rw[IE (Z:=λx=>(-1)*R x) hh (λg _=>by show-R g=(-1)*R g;omega),this,ck d];omega
 ·refine⟨_,d,R,run,len,pos,Rb,S0b,λh hh=>?_,Rg⟩;rw[S0at h hh,gM _ (by omega)];exact⟨kz (by omega),jx pos⟩
theorem B9{c:XT}{fb:XS}(Jv:Nat->ZL->Prop)(step:∀k st,Jv k st->c st=aA aC\/(c st=aA aD/\∃s2 k',fb st=aA (.nx s2)/\k'<k/\Jv k' s2)){k:Nat}{s:ZL}(h0:Jv k s) :
  ∃s' k',UI c fb s=aA (.nx s')/\Jv k' s'/\c s'=aA aC:=by
 have gen:∀(n k:Nat)(st:ZL),k<n->Jv k st->∃s' k',YS c fb n st=aA (.nx s')/\Jv k' s'/\c s'=aA aC:=by
  intro n
  induction n with
  | zero=>intro k st h;omega
  | succ n ih=>
   intro k st hk hJ;rcases step k st hJ with hc | ⟨hc,s2,k',e,hm,hJ2⟩
   ·exact⟨st,k,by unfold YS;rw[hc];rfl,hJ,hc⟩
   ·obtain⟨s',k2,a,b,d⟩:=ih k' s2 (by omega) hJ2;refine⟨s',k2,?_,b,d⟩;unfold YS;rw[hc];simp only[aO,if_true,e];exact a
 obtain⟨s',k',a,b,d⟩:=gen (k+1) k s (by omega) h0;exact⟨s',k',M4 a,b,d⟩
def Ud(n:Nat)(L:List Nat):List Int:=(aF n).map λh=>if h∈L then -1 else 0
theorem KZ{W:List (List Int)}{L:List Nat}(hf:W.length<=7):XJ [wP W,.lst (iL (nL L))]=aA (pP (Ud W.length L)):=by
 have hc:Zr 1 [1] (ZQ [Zc ZR [Za 0]]) (.one 0) ZF (PM (xB (Zg (X4 aC) (Za 0) (Za 1))) (Ju QB (eC (.int 1))) (eC (.int 0))) [aA (wP W),aA (.lst (iL (nL L)))]=aA (.lst (iL (Ud W.length L))):=by
  rw[Du (λh=>if h∈L then -1 else 0) (YE (n:=W.length) (by simp) (by omega)) (by omega) λi hi=>⟨[aA (.int (i:Int)),aA (.lst (iL (nL L)))],rfl,rfl,?_⟩]
  ·rfl
  ·have g:=Oo i L;have t:xB (Zg (X4 aC) (Za 0) (Za 1)) [aA (.int (i:Int)),aA (.lst (iL (nL L)))]=aA (decide (i∈L)):=by rw[O4];show(X4 aC (.int (i:Int)) (.lst (iL (nL L)))).bind blO=_;rw[g];rfl
   rw[UL,t];by_cases q:i∈L
   ·rw[oA q,decide_eq_true q];rfl
   ·rw[oB q,decide_eq_false q];rfl
 show Ya 2 TB _=_;unfold TB;show(ZN _ [aA (wP W),aA (.lst (iL (nL L)))]).bind Xl=_;have:Zc YD [Zr 1 [1] (ZQ [Zc ZR [Za 0]]) (.one 0) ZF (PM (xB (Zg (X4 aC) (Za 0) (Za 1))) (Ju QB (eC (.int 1))) (eC (.int 0)))] [aA (wP W),aA (.lst (iL (nL L)))]=aA (pP (Ud W.length L)):=by simp only[Yb,Zw,Kb,hc,aO,bc,CZ]
 rw[Ra (v:=pP (Ud W.length L)) (by rw[Vm,this];simp)];rfl
theorem Zbw{n:Nat}{L:List Nat}{h:Nat}(hh:h<n):Zl (Ud n L) h=if h∈L then -1 else 0:=Yg hh
theorem N6{W:List (List Int)}{D S:List Int}{h:Nat}(hh:h<D.length):Zl (Zx W D S) h=Zl D h+gN W (Zl S) h:=by rw[WI hh,Zbv]
structure IF(W:List (List Int))(b:Nat)(n0:Nat->Int)(B:Nat->Int):Prop where
 pos:∀h,h<W.length->0<=B h
 base:B b=0
 free:∀h,h<W.length->h≠b->0<=n0 h-gN W B h
theorem Zbx{W:List (List Int)}(ok:Zt W)(cn:WT W){b:Nat}(hb:b<W.length)(n0:Nat->Int):∃B,IF W b n0 B:=by
 obtain⟨z,zb,_,zg⟩:=Lu ok cn hb (λ_=>1);have nz:=(XN (KY ok cn hb (λ_=>1)) (aT _)).nz;generalize (Xx (W.length-1) (XQ W b λ_=>1) (W.length-1)).2=d at zg nz
 obtain⟨y,yb,yg⟩:∃y:Nat->Int,y b=0/\∀h,h<W.length->h≠b->gN W y h<=-1:=by
  rcases lr nz with neg | pos
  ·exact⟨λx=>(-1)*z x,by show(-1)*z b=0;rw[zb];rfl,λh hh hne=>by rw[VB,zg h hh hne];omega⟩
  ·exact⟨z,zb,λh hh hne=>by rw[zg h hh hne];omega⟩
 have yp:=Zbu ok cn (Y:=y) hb (λh hh hne _=>by have:=yg h hh hne;omega);rw[yb] at yp;obtain⟨K,hK⟩:∃K:Int,K=sN W.length (λh=>((n0 h).natAbs:Int)):=⟨_,rfl⟩;have K0:0<=K:=by rw[hK];exact YF λi _=>by omega
 have Kge:∀h,h<W.length->- n0 h<=K:=λh hh=>by
  have:∀n,h<n->- n0 h<=sN n (λh=>((n0 h).natAbs:Int)):=by
   intro n
   induction n with
   | zero=>intro q;omega
   | succ n ih=>
    intro q;show _<=sN n (λh=>((n0 h).natAbs:Int))+((n0 n).natAbs:Int);by_cases e:h=n
    ·subst e;have:=YF (f:=λh=>((n0 h).natAbs:Int)) (n:=h) λi _=>by omega
     omega
    ·have:=ih (by omega);omega
  rw[hK];exact this _ hh
 refine⟨λx=>K*y x,λh hh=>du K0 (yp h hh),by show K*y b=0;rw[yb,da],λh hh hne=>?_⟩;rw[VB];have h1:=yg h hh hne;have h2:K*gN W y h<=K*(-1):=dw h1 K0;have h3:=Kge h hh;omega
theorem DH{W:List (List Int)}(ok:Zt W){b:Nat}{n0 B B':Nat->Int}(f:IF W b n0 B')(le:∀h,h<W.length->B h<=B' h){h:Nat}(hh:h<W.length)(hne:h≠b)(debt:n0 h-gN W B h<0):B h<B' h:=by
 refine Int.lt_iff_le_and_ne.mpr ⟨le h hh,λe=>?_⟩;have h1:=f.free h hh hne
 have h2:gN W B h<=gN W B' h:=by
  have:0<=sN W.length (λg=>Z1 W h g*(B' g-B' h)+(-1)*(Z1 W h g*(B g-B h))):=YF λg hg=>by
   have e1:Z1 W h g*(B' g-B' h)+(-1)*(Z1 W h g*(B g-B h))=Z1 W h g*(B' g-B g):=by rw[e,ck,jb,<-Int.sub_eq_add_neg,<-gS];congr 1;omega
   rw[e1];exact du (ok.lo h g hh hg) (by have:=le g hg;omega)
  rw[YL,ZP] at this;unfold gN;omega
 omega
structure Settled(W:List (List Int))(b:Nat)(N:List Int)(F:List Nat):Prop where
 free:∀h,h<W.length->h≠b->0<=Zl N h
 burn:Burn W N b F
 stop:Xt W N F=aB
 all:∀h,h<W.length->h∈F
theorem Aa{W:List (List Int)}{N:List Int}(ok:Zt W)(cn:WT W){b:Nat}(hb:b<W.length){n0 B R:Nat->Int}{d:Int}(hd0:0<d)(Rb:R b=0)(Re:∀h,h<W.length->0<=R h/\R h<d)(Rn:∀h,h<W.length->h≠b->gN W R h = - (d*n0 h))
  (hN:∀h,h<W.length->Zl N h=n0 h-gN W B h) (f:IF W b n0 B) (least:∀B',IF W b n0 B'->∀h,h<W.length->B h<=B' h) {F:List Nat} (Bu:Burn W N b F) (st:Xt W N F=aB):∀h,h<W.length->h∈F:=by
 intro x hx;refine fC λhxF=>?_;have bF:b∈F:=av Bu.hd;obtain⟨T,hT⟩:∃T:Nat->Int,∀h,T h=if h∈F then 0 else 1:=⟨_,λ_=>rfl⟩
 have Tb:T b=0:=by rw[hT,oA bF]
 have T01:∀h,0<=T h/\T h<=1:=λh=>by rw[hT];split<;>omega
 -- what the houses outside lend to those that burn
 have tie:∀h,h<W.length->h∉F->gN W T h = - ZU W h F:=λh hh hF=>by
  have e1:gN W T h=(-1)*sN W.length (λg=>if g∈F then Z1 W h g else 0):=by
   unfold gN;rw[<-ZP];refine Zq λg hg=>?_;rw[hT,hT,oB hF];split
   ·rw[Int.zero_sub,md,j7];omega
   ·simp
  have e2:sN W.length (λg=>if g∈F then Z1 W h g else 0)=ZU W h F:=by
   have gen:∀l:List Nat,l.Nodup->(∀x∈l,x<W.length)->sN W.length (λg=>if g∈l then Z1 W h g else 0)=(l.map λo=>Z1 W h o).sum:=by
    intro l
    induction l with
    | nil=>intro _ _;rw[Qa λi _=>by simp];rfl
    | cons a r ih=>
     intro nd lt;rw[ar] at nd;rw[a9,bY,<-ih nd.2 λx hx=>lt x (aP _ hx)];have:Z1 W h a=sN W.length (λg=>if g=a then Z1 W h a else 0):=by rw[Yy (k:=a) (lt a af) λi _ hi=>oB hi,oA rfl]
     rw[this,<-YL];refine Zq λg hg=>?_;by_cases q:g=a
     ·subst q;rw[oA af,oA rfl,oB nd.1];omega
     ·by_cases q2:g∈r
      ·rw[oA (aP _ q2),oB q,oA q2];omega
      ·rw[oB (λz=>(aa.mp z).elim q q2),oB q,oB q2];rfl
   exact gen F Bu.nd Bu.lt
  rw[e1,e2];omega
 have tie':∀h,h<W.length->h∈F->0<=gN W T h:=λh hh hF=>YF λg hg=>by rw[show T h=0 by rw[hT,oA hF]];exact du (ok.lo h g hh hg) (by have:=(T01 g).1;omega)
 have sub:∀h,gN W (λx=>B x+(-1)*T x) h=gN W B h-gN W T h:=λh=>by rw[Rk,VB];omega
 have free:∀h,h<W.length->h≠b->0<=n0 h-gN W (λx=>B x+(-1)*T x) h:=λh hh hne=>by
  rw[sub];by_cases q:h∈F
  ·have:=tie' h hh q;have:=f.free h hh hne;omega
  ·have h1:=tie h hh q;have h2:=Rc st hh q;rw[hN h hh] at h2;omega
 have f2:IF W b n0 (λx=>B x+(-1)*T x):=by
  refine⟨λh hh=>?_,by show B b+(-1)*T b=0;rw[f.base,Tb];rfl,free⟩
  have up:=Zbu ok cn (Y:=λx=>R x+d*(B x+(-1)*T x)) hb (λh hh hne _=>by
   rw[Rk R (λx=>d*(B x+(-1)*T x)),VB,Rn h hh hne];have:=free h hh hne;have h3:0<=d*(n0 h-gN W (λx=>B x+(-1)*T x) h):=du (by omega) this;rw[gS] at h3;omega) h hh
  have up:R b+d*(B b+(-1)*T b)<=R h+d*(B h+(-1)*T h):=up;rw[Rb,f.base,Tb] at up;have:=(Re h hh).2;refine nT.mp λneg=>?_;have h4:B h+(-1)*T h<=-1:=by have neg:B h+(-1)*T h<0:=neg;omega
  have h5:d*(B h+(-1)*T h)<=d*(-1):=dw h4 (by omega);omega
 have h1:=least _ f2 x hx;have h1:B x<=B x+(-1)*T x:=h1;rw[show T x=1 by rw[hT,oB hxF]] at h1;omega
theorem Pj{W:List (List Int)}{D:List Int}{b:Nat}(ok:Zt W)(cn:WT W)(hd:D.length=W.length)(hb:b<W.length)(hD:∀h,h<W.length->(Zl D h).natAbs<=2^208) :
  ∃(S N:List Int) (F:List Nat),Xw [wP W,pP D,.int (b:Int)]=aA (.tup [pP (ZM S),pP N,.lst (iL (nL F))])/\S.length=W.length/\N=Zx W D S/\Settled W b N F:=by
 have hp:=ok.pos;have hf:=ok.few;obtain⟨S0,d,R,en,l0,d0,Rb,S0b,Rs,Rg⟩:=GG ok cn hd hb hD;obtain⟨n0,hn0⟩:∃n0:Nat->Int,∀h,n0 h=Zl D h+gN W (Zl S0) h:=⟨_,λ_=>rfl⟩;obtain⟨Bs,fs⟩:=Zbx ok cn hb n0;have rl:∀S:List Int,(Zx W D S).length=W.length:=λS=>by rw[Yl,hd]
 let st:List Int->Option PV->ZL:=λS x6=>[aA (wP W),aA (pP D),aA (.int (b:Int)),aA (pP S),aA (pP (Zx W D S)),aA (.lst (iL (nL (YY (Zx W D S) b)))),x6];have near:∀(S:List Int)(B:Nat->Int),(∀h,h<W.length->Zl S h=Zl S0 h-B h)->∀h,h<W.length->Zl (Zx W D S) h=n0 h-gN W B h:=λS B e h hh=>by rw[N6 (by omega),hn0,IE (Z:=λx=>Zl S0 x+(-1)*B x) hh (λg hg=>by rw[e g hg];omega),Rk,VB];omega
 let J:Nat->ZL->Prop:=λk s=>∃(S:List Int) (B:Nat->Int) (x6:Option PV),s=st S x6/\S.length=W.length/\(∀h,h<W.length->Zl S h=Zl S0 h-B h)/\(∀h,h<W.length->0<=B h)/\B b=0/\(∀B',IF W b n0 B'->∀h,h<W.length->B h<=B' h)/\k=(sN W.length (λh=>Bs h-B h)).toNat;have j0:J (sN W.length (λh=>Bs h-0)).toNat (st S0 aB):=⟨S0,λ_=>0,aB,rfl,l0,λh _=>by(show Zl S0 h=Zl S0 h-0);omega,λh _=>bq 0,rfl,λB' f h hh=>f.pos h hh,rfl⟩
 obtain⟨s',k',w1,⟨S,B,x6,rfl,lS,eS,B0,Bb,Bl,_⟩,w3⟩:=B9 (c:=xB (Zg MV (Zc ZR [Za 5]) (eC (.int 0)))) (fb:=(Zj (Zk 6 (Zc XJ [Za 0,Za 5]))
  (Zj (Zk 3 (Zc V6 [Za 3,Za 6]))
  (Zj (Zk 4 (Zc Sx [Za 0,Za 4,Za 6]))
  (Zk 5 (Zc Yo [Za 4,Za 2])))))) J (by
   rintro k s ⟨S,B,x6,rfl,lS,eS,B0,Bb,Bl,rfl⟩;have cv:xB (Zg MV (Zc ZR [Za 5]) (eC (.int 0))) (st S x6)=aA (decide ((0:Int)<((YY (Zx W D S) b).length:Int))):=by show aA (decide ((0:Int)<((iL (nL (YY (Zx W D S) b))).length:Int)))=_;simp[nL]
   by_cases q:YY (Zx W D S) b=[]
   ·left;rw[cv,q];rfl
   ·right;have ql:0<(YY (Zx W D S) b).length:=eK.mpr q;refine⟨by rw[cv,decide_eq_true (by omega)],?_⟩;generalize hL:YY (Zx W D S) b=L at *;have memL:∀h,h∈L↔h<W.length/\h≠b/\Zl (Zx W D S) h<0:=λh=>by rw[<-hL,B5,rl]
    let S':=X0 S (Ud W.length L);have lb:(Ud W.length L).length=W.length:=by simp[Ud]
    have lS':S'.length=W.length:=by rw[YI];exact lS
    have e1:Zk 6 (Zc XJ [Za 0,Za 5]) [aA (wP W),aA (pP D),aA (.int (b:Int)),aA (pP S),aA (pP (Zx W D S)),aA (.lst (iL (nL L))),x6]=aA (.nx [aA (wP W),aA (pP D),aA (.int (b:Int)),aA (pP S),aA (pP (Zx W D S)),aA (.lst (iL (nL L))),aA (pP (Ud W.length L))]):=by have:Zc XJ [Za 0,Za 5] [aA (wP W),aA (pP D),aA (.int (b:Int)),aA (pP S),aA (pP (Zx W D S)),aA (.lst (iL (nL L))),x6]=aA (pP (Ud W.length L)):=KZ hf;rw[ZE,this];rfl
    have e2:Zk 3 (Zc V6 [Za 3,Za 6]) [aA (wP W),aA (pP D),aA (.int (b:Int)),aA (pP S),aA (pP (Zx W D S)),aA (.lst (iL (nL L))),aA (pP (Ud W.length L))]=aA (.nx [aA (wP W),aA (pP D),aA (.int (b:Int)),aA (pP S'),aA (pP (Zx W D S)),aA (.lst (iL (nL L))),aA (pP (Ud W.length L))]):=by have:Zc V6 [Za 3,Za 6] [aA (wP W),aA (pP D),aA (.int (b:Int)),aA (pP S),aA (pP (Zx W D S)),aA (.lst (iL (nL L))),aA (pP (Ud W.length L))]=aA (pP S'):=KQ (by omega) (by omega);rw[ZE,this];rfl
    have rr:Zx W (Zx W D S) (Ud W.length L)=Zx W D S':=FV hd λi hi=>Yt (by omega)
    have e3:Zk 4 (Zc Sx [Za 0,Za 4,Za 6]) [aA (wP W),aA (pP D),aA (.int (b:Int)),aA (pP S'),aA (pP (Zx W D S)),aA (.lst (iL (nL L))),aA (pP (Ud W.length L))]=aA (.nx [aA (wP W),aA (pP D),aA (.int (b:Int)),aA (pP S'),aA (pP (Zx W D S')),aA (.lst (iL (nL L))),aA (pP (Ud W.length L))]):=by
     have:Zc Sx [Za 0,Za 4,Za 6] [aA (wP W),aA (pP D),aA (.int (b:Int)),aA (pP S'),aA (pP (Zx W D S)),aA (.lst (iL (nL L))),aA (pP (Ud W.length L))]=aA (pP (Zx W D S')):=by rw[<-rr];exact BJ ok (rl S) lb
     rw[ZE,this];rfl
    have e4:Zk 5 (Zc Yo [Za 4,Za 2]) [aA (wP W),aA (pP D),aA (.int (b:Int)),aA (pP S'),aA (pP (Zx W D S')),aA (.lst (iL (nL L))),aA (pP (Ud W.length L))]=aA (.nx (st S' (aA (pP (Ud W.length L))))):=by have:Zc Yo [Za 4,Za 2] [aA (wP W),aA (pP D),aA (.int (b:Int)),aA (pP S'),aA (pP (Zx W D S')),aA (.lst (iL (nL L))),aA (pP (Ud W.length L))]=aA (.lst (iL (nL (YY (Zx W D S') b)))):=Rf (by rw[rl];omega);rw[ZE,this];rfl
    obtain⟨B',hB'⟩:∃B':Nat->Int,∀h,B' h=B h+(if h∈L then 1 else 0):=⟨_,λ_=>rfl⟩
    have less:∀C,IF W b n0 C->∀h,h<W.length->B' h<=C h:=λC fc h hh=>by
     rw[hB'];by_cases z:h∈L
     ·rw[oA z];obtain⟨_,z2,z3⟩:=(memL h).mp z;rw[near S B eS h hh] at z3;have:=DH ok fc (λg hg=>Bl C fc g hg) hh z2 z3;omega
     ·rw[oB z];have:=Bl C fc h hh;omega
    refine⟨st S' (aA (pP (Ud W.length L))),(sN W.length (λh=>Bs h-B' h)).toNat,?_,?_,S',B',_,rfl,lS',λh hh=>?_,λh hh=>?_,?_,less,rfl⟩
    ·show Zj _ _ [aA (wP W),aA (pP D),aA (.int (b:Int)),aA (pP S),aA (pP (Zx W D S)),aA (.lst (iL (nL (YY (Zx W D S) b)))),x6]=_;rw[hL,Yz e1,Yz e2,Yz e3,e4]
    ·have p1:0<=sN W.length (λh=>Bs h-B' h):=YF λh hh=>by have:=less Bs fs h hh;omega
     have p2:sN W.length (λh=>Bs h-B h)=sN W.length (λh=>Bs h-B' h)+sN W.length (λh=>if h∈L then 1 else 0):=by
      rw[<-YL];exact Zq λh _=>by rw[hB'];omega
     have p3:0<sN W.length (λh=>if h∈L then(1:Int) else 0):=by refine Int.not_le.mp λz=>?_;obtain⟨x,hx⟩:=List.exists_mem_of_length_pos ql;have:=T5 (f:=λh=>if h∈L then(1:Int) else 0) (λi _=>by split<;>omega) z x ((memL x).mp hx).1;rw[oA hx] at this;omega
     omega
    ·rw[Yt (by omega),Zbw hh,eS h hh,hB'];split<;>omega
    ·have:=B0 h hh;rw[hB'];split<;>omega
    ·rw[hB',oB (λz=>((memL b).mp z).2.1 rfl),Bb];rfl) j0
 have hnil:YY (Zx W D S) b=[]:=by
  refine fC λq=>?_;have ql:0<(YY (Zx W D S) b).length:=eK.mpr q;have cv:xB (Zg MV (Zc ZR [Za 5]) (eC (.int 0))) (st S x6)=aA (decide ((0:Int)<((YY (Zx W D S) b).length:Int))):=by show aA (decide ((0:Int)<((iL (nL (YY (Zx W D S) b))).length:Int)))=_;simp[nL]
  rw[cv,decide_eq_true (by omega)] at w3;cases w3
 have free:=debt_nil.mp hnil;rw[rl] at free;have nr:=near S B eS;have fB:IF W b n0 B:=⟨B0,Bb,λh hh hne=>by rw[<-nr h hh];exact free h hh hne⟩;obtain⟨F,eF,Bu,stp⟩:=Qf (D:=Zx W D S) ok (rl S) hb
 -- what the rounding left
 have all:=Aa (N:=Zx W D S) ok cn hb (n0:=n0) (B:=B) (R:=λh=>R h+(- d)*Zl S0 h) d0 (by show R b+(- d)*Zl S0 b=0;rw[Rb,S0b,da];rfl)
  (λh hh=>by
   have:=Rs h hh;show 0<=R h+(- d)*Zl S0 h/\R h+(- d)*Zl S0 h<d;rw[ck];omega)
  (λh hh hne=>by rw[Rk R (λx=>(- d)*Zl S0 x),VB,Rg h hh hne,hn0,ie,ck];omega) nr fB Bl Bu stp
 refine⟨S,Zx W D S,F,?_,lS,rfl,free,Bu,stp,all⟩;have e1:Zk 3 (Zc Vc [Za 0,Za 1,Za 2]) [aA (wP W),aA (pP D),aA (.int (b:Int)),aB,aB,aB,aB]=aA (.nx [aA (wP W),aA (pP D),aA (.int (b:Int)),aA (pP S0),aB,aB,aB]):=by have:Zc Vc [Za 0,Za 1,Za 2] [aA (wP W),aA (pP D),aA (.int (b:Int)),aB,aB,aB,aB]=aA (pP S0):=en;rw[ZE,this];rfl
 have e2:Zk 4 (Zc Sx [Za 0,Za 1,Za 3]) [aA (wP W),aA (pP D),aA (.int (b:Int)),aA (pP S0),aB,aB,aB]=aA (.nx [aA (wP W),aA (pP D),aA (.int (b:Int)),aA (pP S0),aA (pP (Zx W D S0)),aB,aB]):=by have:Zc Sx [Za 0,Za 1,Za 3] [aA (wP W),aA (pP D),aA (.int (b:Int)),aA (pP S0),aB,aB,aB]=aA (pP (Zx W D S0)):=BJ ok hd l0;rw[ZE,this];rfl
 have e3:Zk 5 (Zc Yo [Za 4,Za 2]) [aA (wP W),aA (pP D),aA (.int (b:Int)),aA (pP S0),aA (pP (Zx W D S0)),aB,aB]=aA (.nx (st S0 aB)):=by have:Zc Yo [Za 4,Za 2] [aA (wP W),aA (pP D),aA (.int (b:Int)),aA (pP S0),aA (pP (Zx W D S0)),aB,aB]=aA (.lst (iL (nL (YY (Zx W D S0) b)))):=Rf (by rw[rl];omega);rw[ZE,this];rfl
 show Ya 7 Nm _=_;unfold Nm;show(Zj _ _ [aA (wP W),aA (pP D),aA (.int (b:Int)),aB,aB,aB,aB]).bind Xl=_;rw[Yz e1,Yz e2,Yz e3,Yz w1];have g1:Zc UR [Za 3] (st S x6)=aA (pP (ZM S)):=N5 (by omega) (by omega);have g2:eP (Za 4) (st S x6)=aA (pP (Zx W D S)):=by show(aA (pP (Zx W D S))).bind (λl=>if ZH l=aD then aA l else aB)=_;simp
 have g3:Zc W6 [Za 0,Za 4,Za 2] (st S x6)=aA (.lst (iL (nL F))):=eF;rw[Ra (v:=.tup [pP (ZM S),pP (Zx W D S),.lst (iL (nL F))]) (by rw[JH,Zw,Zw,Zw,g1,g2,g3];rfl)];rfl
theorem gIx_p{n:Nat}{l:List Int}(h:l.length=n):∀k:Nat,k<n->ZC (pP l) (.int (k:Int))=aA (.int (Zl l k)):=λk hk=>YT (by omega)
theorem Zhd{n:Nat}{l:List Int}(h:l.length=n):∀k:Nat,k<n->ZC (.lst (iL l)) (.int (k:Int))=aA (.int (Zl l k)):=λk hk=>YT (by omega)
theorem Zby(Y:Nat->Int){n:Nat}(h:0<n):∃h,h<n/\∀g,g<n->Y g<=Y h:=by obtain⟨x,h1,h2⟩:=N4 (λi=>- Y i) h;exact⟨x,h1,λg hg=>by have:=h2 g hg;have : - Y x<=- Y g:=this;omega⟩
theorem Zbz{W:List (List Int)}(ok:Zt W){h:Nat}(hh:h<W.length){P:Nat->Prop}[DecidablePred P]:∀{l:List Nat},l.Nodup->(∀x∈l,x<W.length/\¬P x)->ZU W h l<=sN W.length (λg=>if P g then 0 else Z1 W h g):=by
 intro l nd hl
 have gen:∀l:List Nat,l.Nodup->(∀x∈l,x<W.length)->sN W.length (λg=>if g∈l then Z1 W h g else 0)=(l.map λo=>Z1 W h o).sum:=by
  intro l
  induction l with
  | nil=>intro _ _;rw[Qa λi _=>by simp];rfl
  | cons a r ih=>
   intro nd lt;rw[ar] at nd;rw[a9,bY,<-ih nd.2 λx hx=>lt x (aP _ hx)];have:Z1 W h a=sN W.length (λg=>if g=a then Z1 W h a else 0):=by rw[Yy (k:=a) (lt a af) λi _ hi=>oB hi,oA rfl]
   rw[this,<-YL];refine Zq λg hg=>?_;by_cases q:g=a
   ·subst q;rw[oA af,oA rfl,oB nd.1];omega
   ·by_cases q2:g∈r
    ·rw[oA (aP _ q2),oB q,oA q2];omega
    ·rw[oB (λz=>(aa.mp z).elim q q2),oB q,oB q2];rfl
 unfold ZU;rw[<-gen l nd λx hx=>(hl x hx).1]
 have:0<=sN W.length (λg=>(if P g then 0 else Z1 W h g)+(-1)*(if g∈l then Z1 W h g else 0)):=YF λg hg=>by
  have:=ok.lo h g hh hg;by_cases q:g∈l
  ·rw[oA q,oB (hl g q).2];omega
  ·rw[oB q];split<;>omega
 rw[YL,ZP] at this;omega
theorem F8{W:List (List Int)}{N M:List Int}{b:Nat}{F:List Nat}(ok:Zt W)(hb:b<W.length){T:Nat->Int}(B:Burn W N b F)(all:∀h,h<W.length->h∈F)(hM:∀h,h<W.length->Zl M h=Zl N h+gN W T h)(fr:∀h,h<W.length->h≠b->0<=Zl M h):∀h,h<W.length->T h<=T b:=by
 intro x hx;refine nT.mp λhlt=>?_;obtain⟨m,lm,mm⟩:=Zby T (n:=W.length) (by omega);have hmb:T b<T m:=by have:=mm x hx;omega
 -- the first of the greatest that burns
 have ex:∀k:Nat,(∃j,j<k/\∃h,F[j]?=aA h/\T h=T m)\/∀j,j<k->∀h,F[j]?=aA h->T h≠T m:=by
  intro k;by_cases q:∃j,j<k/\∃h,F[j]?=aA h/\T h=T m
  ·exact .inl q
  ·exact .inr λj hj h hh e=>q ⟨j,hj,h,hh,e⟩
 have first:∀k:Nat,(∃h,F[k]?=aA h/\T h=T m)->∃k h:Nat,F[k]?=aA h/\T h=T m/\∀j,j<k->∀h,F[j]?=aA h->T h≠T m:=by
  intro k
  induction k using mr with
  | ind k ih=>
   rintro⟨h,e,t⟩;rcases ex k with⟨j,hj,q⟩ | q
   ·exact ih j hj q
   ·exact⟨k,h,e,t,q⟩
 obtain⟨k0,hk0,e0⟩:=cX (all m lm);obtain⟨k,h,ek,et,hfst⟩:=first k0 ⟨m,by rw[aE hk0,e0],rfl⟩
 have kp:1<=k:=by
  refine Nat.not_lt.mp λq=>?_;have:k=0:=by omega
  subst this;rw[B.hd] at ek;cases ek;omega
 have kl:=(aS.mp ek).1;have hh:h<W.length:=B.lt h (av ek);have st:=B.st k kp kl;rw[ek] at st;obtain⟨_,_,lt⟩:=U6 st;have hb':h≠b:=λz=>by rw[z] at et;omega
 have nd:(F.take k).Nodup:=B.nd.sublist (gG _ _);have tl:=Zbz (h:=h) ok hh (P:=λg=>T g=T m) nd λy hy=>by refine⟨B.lt y (fN hy),λz=>?_⟩;obtain⟨j,hj,e⟩:=cX hy;rw[bT] at hj;exact hfst j (by omega) y (by rw[<-dm (show j<k by omega),aE (by rw[bT];exact hj),e]) z
 have g1:gN W T h<=- sN W.length (λg=>if T g=T m then 0 else Z1 W h g):=by
  have:0<=sN W.length (λg=>(-1)*(if T g=T m then 0 else Z1 W h g)+(-1)*(Z1 W h g*(T g-T h))):=YF λg hg=>by
   have lo:=ok.lo h g hh hg;have mg:=mm g hg;rw[et];by_cases q:T g=T m
   ·rw[oA q,q];simp
   ·rw[oB q];have:0<=Z1 W h g*(T m-T g-1):=du lo (by omega);have e:Z1 W h g*(T m-T g-1)=(-1)*Z1 W h g+(-1)*(Z1 W h g*(T g-T m)):=by rw[gS,gS,j7,gS];omega
    omega
  rw[YL,ZP,ZP] at this;unfold gN;omega
 have f:=fr h hh hb';rw[hM h hh] at f;omega
theorem Pz{W:List (List Int)}{N M:List Int}{b:Nat}{F G:List Nat}(ok:Zt W)(hb:b<W.length){T:Nat->Int}(s1:Settled W b N F)(s2:Settled W b M G)(hM:∀h,h<W.length->Zl M h=Zl N h+gN W T h):∀h,h<W.length->T h=T b:=by intro h hh;have h1:=F8 ok hb s1.burn s1.all hM s2.free h hh;have h2:=F8 (T:=λx=>(-1)*T x) ok hb s2.burn s2.all (λx hx=>by rw[hM x hx,VB];omega) s1.free h hh;have h2:(-1)*T h<=(-1)*T b:=h2;omega
theorem N7{W:List (List Int)}{T:Nat->Int}{c:Int}(e:∀h,h<W.length->T h=c){h:Nat}(hh:h<W.length):gN W T h=0:=Qa λg hg=>by rw[e g hg,e h hh];simp
theorem DI{W:List (List Int)}{D S N:List Int}{b:Nat}{F:List Nat}(ok:Zt W)(cn:WT W)(hd:D.length=W.length)(hb:b<W.length)(hD:∀h,h<W.length->(Zl D h).natAbs<=2^208)
  (lS:S.length=W.length) (hN:N=Zx W D S) (st:Settled W b N F):Xw [wP W,pP D,.int (b:Int)]=aA (.tup [pP (ZM S),pP N,.lst (iL (nL F))]):=by
 have hp:=ok.pos;obtain⟨S',N',F',e,lS',hN',st'⟩:=Pj ok cn hd hb hD;have ln:N.length=W.length:=by rw[hN,Yl,hd]
 have ln':N'.length=W.length:=by rw[hN',Yl,hd]
 have key:∀h,h<W.length->Zl N h=Zl N' h+gN W (λx=>Zl S x+(-1)*Zl S' x) h:=λh hh=>by rw[hN,hN',N6 (by omega),N6 (by omega),Rk (Zl S) (λx=>(-1)*Zl S' x),VB];omega
 have co:=Pz ok hb st' st key;obtain⟨c,hc⟩:∃c,c=Zl S b+(-1)*Zl S' b:=⟨_,rfl⟩;have co:∀h,h<W.length->Zl S h+(-1)*Zl S' h=c:=λh hh=>by rw[hc];exact co h hh
 have eN:N=N':=V2 (by omega) λi hi=>by rw[key i (by omega),N7 (c:=c) co (by omega)];omega
 have eL:ZM S=ZM S':=V3 c (by omega) (by omega) λi hi=>by have:=co i (by omega);omega
 have eF:F=F':=by have b1:=st.burn;have b2:=st.stop;rw[eN] at b1 b2;exact Burn.uniq b1 st'.burn b2 st'.stop
 rw[e,eL,eN,eF]
theorem N8{α:Type}{p q:α->Bool}:∀{l:List α},(∀x∈l,p x=q x)->l.find? p=l.find? q
 | [],_=>rfl
 | a::r,h=>by rw[cO,cO,h a af,N8 (l:=r) λx hx=>h x (aP _ hx)]
theorem PB{W:List (List Int)}{D E:List Int}{F:List Nat}(h:∀x,x<W.length->x∉F->Zl D x=Zl E x):Xt W D F=Xt W E F:=N8 λx hx=>by
 by_cases q:x∈F
 ·simp[q]
 ·rw[h x (aY.mp hx) q]
theorem Settled.base{W:List (List Int)}{N M:List Int}{b:Nat}{F:List Nat}(st:Settled W b N F)(h:∀x,x<W.length->x≠b->Zl M x=Zl N x):Settled W b M F:=by
 have bF:b∈F:=av st.burn.hd;refine⟨λx hx hb=>by rw[h x hx hb];exact st.free x hx hb,⟨st.burn.nd,st.burn.lt,st.burn.hd,λk h1 h2=>?_⟩,?_,st.all⟩
 ·rw[<-st.burn.st k h1 h2];refine PB λx hx hF=>h x hx λz=>hF ?_;rw[z];have:(F.take k)[0]?=aA b:=by rw[dm (by omega)];exact st.burn.hd
  exact av this
 ·rw[<-st.stop];exact PB λx hx hF=>h x hx λz=>hF (z▸bF)
theorem Zhe{n:Nat}(hn:1<=n)(hn':n<=7):Lc (.tup [.int 0]) (.int (n:Int))=aA (pP (aG n 0)):=by show(if ZD [PV.int 0]=aD/\[PV.int 0]≠[]/\(1:Int)<=(n:Int)/\(n:Int)<=1000000/\[PV.int 0].length*((n:Int)).toNat<=10000 then aA (PV.tup (aG ((n:Int)).toNat [PV.int 0]).flatten) else aB)=_;rw[oA ⟨rfl,by simp,by omega,by omega,by simp;omega⟩,cF,Zfa]
theorem Ac{W:List (List Int)}{D E O:List Int}(ok:Zt W)(cn:WT W)(hd:D.length=W.length)(bD:∀h,h<W.length->(Zl D h).natAbs<=2^208)(bE:∀h,h<W.length->(Zl E h).natAbs<=2^208)(lO:O.length=W.length)(hE:E=Zx W D O):Kl [wP W,pP D,pP E]=aA (pP (ZM O)):=by
 have hp:=ok.pos;have hf:=ok.few;have lE:E.length=W.length:=by rw[hE,Yl,hd]
 obtain⟨S,N,F,eS,lS,hN,st⟩:=Pj ok cn hd (b:=0) (by omega) bD;have ln:N.length=W.length:=by rw[hN,Yl,hd]
 have e2:=DI (D:=E) (S:=Ws S O) (N:=N) (F:=F) ok cn lE (b:=0) (by omega) bE (by rw[Xh];exact lS) (by
  rw[hN,hE];exact(FV hd λi hi=>by rw[Vy (by omega)];omega).symm) st
 have e3:=J7 (a:=ZM S) (b:=ZM (Ws S O)) (by rw[Yj,Yj,Xh]) (by rw[Yj];omega);have e4:=N5 (l:=Ws (ZM S) (ZM (Ws S O))) (by rw[Xh,Yj];omega) (by rw[Xh,Yj];omega);have e5:ZM (Ws (ZM S) (ZM (Ws S O)))=ZM O:=V3 (Wi (Ws S O)-Wi S) (by rw[Xh,Yj];omega) (by omega) λi hi=>by rw[Vy (by rw[Yj];omega),XI (by omega),XI (by rw[Xh];omega),Vy (by omega)];omega
 rw[e5] at e4;let T:PV:=.tup [pP (ZM S),pP N,.lst (iL (nL F))];let T2:PV:=.tup [pP (ZM (Ws S O)),pP N,.lst (iL (nL F))];have g1:Zk 3 (Zc Xw [Za 0,Za 1,eC (.int 0)]) [aA (wP W),aA (pP D),aA (pP E),aB,aB]=aA (.nx [aA (wP W),aA (pP D),aA (pP E),aA T,aB]):=by have:Zc Xw [Za 0,Za 1,eC (.int 0)] [aA (wP W),aA (pP D),aA (pP E),aB,aB]=aA T:=eS;rw[ZE,this];rfl
 have g2:Zk 4 (Zc Xw [Za 0,Za 2,eC (.int 0)]) [aA (wP W),aA (pP D),aA (pP E),aA T,aB]=aA (.nx [aA (wP W),aA (pP D),aA (pP E),aA T,aA T2]):=by have:Zc Xw [Za 0,Za 2,eC (.int 0)] [aA (wP W),aA (pP D),aA (pP E),aA T,aB]=aA T2:=e2;rw[ZE,this];rfl
 have g3:Sn (xB (Zg (Xv aD) (Zg ZC (Za 3) (eC (.int 1))) (Zg ZC (Za 4) (eC (.int 1))))) (ZN (eP (eC .non))) Yk [aA (wP W),aA (pP D),aA (pP E),aA T,aA T2]=aA (.nx [aA (wP W),aA (pP D),aA (pP E),aA T,aA T2]):=by
  have:Zg (Xv aD) (Zg ZC (Za 3) (eC (.int 1))) (Zg ZC (Za 4) (eC (.int 1))) [aA (wP W),aA (pP D),aA (pP E),aA T,aA T2]=aA (.bl aC):=by show Xv aD (pP N) (pP N)=_;rw[Hy];simp
  rw[UM,O4,this];rfl
 show Ya 5 Kk _=_;unfold Kk;show(Zj _ _ [aA (wP W),aA (pP D),aA (pP E),aB,aB]).bind Xl=_;rw[Yz g1,Yz g2,Yz g3];have g4:Zc UR [Zc UQ [Zg ZC (Za 3) (eC (.int 0)),Zg ZC (Za 4) (eC (.int 0))]] [aA (wP W),aA (pP D),aA (pP E),aA T,aA T2]=aA (pP (ZM O)):=by have h:Zc UQ [Zg ZC (Za 3) (eC (.int 0)),Zg ZC (Za 4) (eC (.int 0))] [aA (wP W),aA (pP D),aA (pP E),aA T,aA T2]=aA (pP (Ws (ZM S) (ZM (Ws S O)))):=e3;rw[Yb,Zw,h];exact e4
 rw[Ra g4];rfl
theorem Zc2{α:Type}(l:List α)(f:α->Int):iL (l.map f)=l.map λg=>.int (f g):=bV
end PW
namespace PW
open L2 VL VX PK
def eW(W:List (List Int)):List ZA:=Lp W.length (Z1 W)
def eAB(W:List (List Int))(a b:Nat):List ZA:=aG (Z1 W a b).toNat (a,b)
def eA(W:List (List Int))(a:Nat):List ZA:=(aF (W.length-(a+1))).flatMap λj=>eAB W a (a+1+j)
theorem F9(W:List (List Int)):eW W=(aF W.length).flatMap (eA W):=by unfold eW Lp DC;rw[List.flatMap_assoc];congr 1;funext a;rw[List.flatMap_map];rfl
theorem Rl(W:List (List Int)):(eW W).length=(Ys W).length:=by rw[F9];unfold Ys;rw[fW,fW];congr 1;refine ao λa _=>?_;unfold eA Uo;rw[fW,fW];congr 1;refine ao λj _=>?_;unfold eAB XH;simp
theorem Ea{W:List (List Int)}:∀e∈eW W,e.1<e.2/\e.2<W.length/\0<Z1 W e.1 e.2:=λe he=>by unfold eW Lp at he;obtain⟨p,hp,hq⟩:=eV.mp he;have hq':=List.mem_replicate.mp hq;obtain⟨h1,rfl⟩:=hq';have:=mem_prs.mp (show(e.1,e.2)∈DC W.length from hp);exact⟨by omega,by omega,by omega⟩
def IG(n:Nat)(m:Nat->Nat):List Int:=(aF n).map λx=>((m x:Nat):Int)
theorem Eb(n:Nat)(m:Nat->Nat):(IG n m).length=n:=by simp[IG]
theorem Ec{n:Nat}{m:Nat->Nat}{x:Nat}(h:x<n):Zl (IG n m) x=(m x:Int):=Yg h
theorem Zc3(neg:Bool)(a:Int)(l:List Int):X4 neg (.int a) (pP l)=aA (.bl (if neg then !decide (a∈l) else decide (a∈l))):=by
 unfold X4;have c:((iL l).all λz=>Wd 8 z (.int a))=aD:=by rw[jJ,bO];intro x _;rfl
 show(aA (iL l)).bind _=_;simp only[aO,oA c]
 have:decide (PV.int a∈iL l)=decide (a∈l):=decide_eq_decide.mpr (by
  rw[ah];constructor
  ·rintro⟨x,hx,e⟩;cases e;exact hx
  ·intro h;exact⟨a,h,rfl⟩)
 rw[this]
theorem N9{W:List (List Int)}{i:Nat}(hi:i<(eW W).length):∃t:Int,(Ys W)[i]?=aA [((Zs (eW W) i).1:Int),((Zs (eW W) i).2:Int),t]:=by
 have key:(Ys W).map (λr=>((Zl r 0).toNat,(Zl r 1).toNat))=eW W:=by rw[F9];unfold Ys;rw[m4];congr 1;funext a;unfold Uo eA;rw[m4];congr 1;funext j;unfold XH eAB;rw[bV];exact iW (by simp) (by intros;simp[Zl];omega)
 have form:∀r∈Ys W,∃(a b:Nat) (t:Int),r=[(a:Int),(b:Int),t]:=λr hr=>by unfold Ys at hr;obtain⟨a,_,hr⟩:=eV.mp hr;unfold Uo at hr;obtain⟨j,_,hr⟩:=eV.mp hr;unfold XH at hr;obtain⟨t,_,rfl⟩:=ah.mp hr;exact⟨a,a+1+j,t,rfl⟩
 have hl:i<(Ys W).length:=by rw[<-Rl];exact hi
 obtain⟨a,b,t,e⟩:=form _ (cD hl);refine⟨t,?_⟩;have e2:Zs (eW W) i=(a,b):=by have g:=congrArg (λl=>l[i]?) key;simp only[aW] at g;rw[aE hl,aE hi,e] at g;unfold Zs;rw[aI,aE hi];simp only[bc,j9] at g;rw[<-show(((a:Int)).toNat,((b:Int)).toNat)=_ from g];rfl
 rw[aE hl,e,e2]
theorem Zb0{n:Nat}{m:Nat->Nat}{a b:Nat}{s:ZL}(hf:n<=7)(h3:s[3]?=aA (aA (.lst (iL (IG n m)))))(h6:s[6]?=aA (aA (.int (m a:Int))))(h7:s[7]?=aA (aA (.int (m b:Int)))) :
  Zr 1 [6,7] (X5 (Za 3)) (.one 0) ZF (eP (PM (xB (Zg (Xv aC) (Za 0) (Za 2))) (Za 1) (Za 0))) s=aA (.lst (iL (IG n (ZI m b a)))):=by
 have v3:Za 3 s=aA (.lst (iL (IG n m))):=by show s[3]?.bind id=_;rw[h3];rfl
 rw[ZK (aF n) (λx=>.int (m x:Int)) (λx=>.int (ZI m b a x:Int)) (by
  unfold X5;rw[v3];show aA (iL (IG n m))=_;rw[IG,Zc2]) (by simp;omega) (λx hx=>⟨[aA (.int (m x:Int)),aA (.int (m a:Int)),aA (.int (m b:Int))],by simp[compEnv,h6,h7,Vj],rfl,?_⟩)]
 ·rw[IG,Zc2]
 ·have t:xB (Zg (Xv aC) (Za 0) (Za 2)) [aA (.int (m x:Int)),aA (.int (m a:Int)),aA (.int (m b:Int))]=aA (decide (m x=m b)):=by show(Xv aC (.int (m x:Int)) (.int (m b:Int))).bind blO=_;rw[Ke];show aA (decide ((m x:Int)=(m b:Int)))=_;rw[decide_eq_decide.mpr (Int.ofNat_inj (m:=m x) (n:=m b))]
  refine vP ?_;rw[UL,t,aO];unfold ZI;by_cases q:m x=m b
  ·rw[decide_eq_true q,oA rfl,oA q];rfl
  ·rw[decide_eq_false q,oB (by decide),oB q];rfl
noncomputable def IQ(W:List (List Int))(K:List Nat):Nat->Nat:=Wt (λx=>x) ((K.map (Zs (eW W))).map FY)
theorem Ad(W:List (List Int))(K:List Nat)(k:Nat):IQ W (K++[k])=ZI (IQ W K) (Zs (eW W) k).2 (Zs (eW W) k).1:=by unfold IQ;rw[bR,bR,KW];rfl
theorem DJ{W:List (List Int)}(ok:Zt W){K:List Nat}(hK:∀k∈K,k<(eW W).length):V0 [wP W,.lst ((Ys W).map pP),pP (nL K)]=aA (.lst (iL (IG W.length (IQ W K)))):=by
 have hf:=ok.few;let st:List Nat->Option PV->Option PV->Option PV->Option PV->ZL:=λA x4 x5 x6 x7=>[aA (wP W),aA (.lst ((Ys W).map pP)),aA (pP (nL K)),aA (.lst (iL (IG W.length (IQ W A)))),x4,x5,x6,x7]
 let fb:XS:=(Zj (Zk 5 (eP (Zg ZC (Za 1) (Za 4))))
  (Zj (Zk 6 (eP (Zg ZC (Za 3) (Zg ZC (Za 5) (eC (.int 0))))))
  (Zj (Zk 7 (eP (Zg ZC (Za 3) (Zg ZC (Za 5) (eC (.int 1))))))
  (Zk 3 (Zr 1 [6,7] (X5 (Za 3)) (.one 0) ZF (eP (PM (xB (Zg (Xv aC) (Za 0) (Za 2))) (Za 1) (Za 0))))))))
 obtain⟨s',f1,x4,x5,x6,x7,hs⟩:=ZY (T:=.one 4) (fb:=fb) (ls:=iL (nL K)) (s:=st [] aB aB aB aB) (λi s=>∃x4 x5 x6 x7,s=st (K.take i) x4 x5 x6 x7) ⟨aB,aB,aB,aB,by simp[st]⟩ (by
  rintro i l s hl ⟨x4,x5,x6,x7,rfl⟩;have hi:i<K.length:=by have:=(aS.mp hl).1;simpa [nL] using this
  have el:l = .int ((K[i]:Nat):Int):=by rw[Kc (by simpa [nL] using hi)] at hl;rw[<-bG hl];simp[nL,Zl,hi]
  subst el;have hk:K[i]<(eW W).length:=hK _ (cD hi);obtain⟨t,et⟩:=N9 hk;have eIn:Zs (eW W) K[i]∈eW W:=by unfold Zs;rw[aI,aE hk];exact cD hk
  have hb:=Ea _ eIn;generalize hA:Zs (eW W) K[i]=e at et hb;obtain⟨a,b⟩:=e;simp only at et hb;let m:=IQ W (K.take i);let R:PV:=pP [(a:Int),(b:Int),t]
  have q1:Zk 5 (eP (Zg ZC (Za 1) (Za 4))) (st (K.take i) (aA (.int ((K[i]:Nat):Int))) x5 x6 x7)=aA (.nx (st (K.take i) (aA (.int ((K[i]:Nat):Int))) (aA R) x6 x7)):=by
   have g:Zg ZC (Za 1) (Za 4) (st (K.take i) (aA (.int ((K[i]:Nat):Int))) x5 x6 x7)=aA R:=by refine CV (l:=(Ys W).map pP) (k:=K[i]) ?_;rw[aW,et];rfl
   rw[ZE,Vm,g];rfl
  have gm:∀z:Nat,z<W.length->ZC (.lst (iL (IG W.length m))) (.int (z:Int))=aA (.int (m z:Int)):=λz hz=>by rw[Zhd (Eb W.length m) z hz,Ec hz]
  have q2:Zk 6 (eP (Zg ZC (Za 3) (Zg ZC (Za 5) (eC (.int 0))))) (st (K.take i) (aA (.int ((K[i]:Nat):Int))) (aA R) x6 x7)=aA (.nx (st (K.take i) (aA (.int ((K[i]:Nat):Int))) (aA R) (aA (.int (m a:Int))) x7)):=by have g:Zg ZC (Za 3) (Zg ZC (Za 5) (eC (.int 0))) (st (K.take i) (aA (.int ((K[i]:Nat):Int))) (aA R) x6 x7)=aA (.int (m a:Int)):=gm a (by omega);rw[ZE,vP g];rfl
  have q3:Zk 7 (eP (Zg ZC (Za 3) (Zg ZC (Za 5) (eC (.int 1))))) (st (K.take i) (aA (.int ((K[i]:Nat):Int))) (aA R) (aA (.int (m a:Int))) x7)=aA (.nx (st (K.take i) (aA (.int ((K[i]:Nat):Int))) (aA R) (aA (.int (m a:Int))) (aA (.int (m b:Int))))):=by have g:Zg ZC (Za 3) (Zg ZC (Za 5) (eC (.int 1))) (st (K.take i) (aA (.int ((K[i]:Nat):Int))) (aA R) (aA (.int (m a:Int))) x7)=aA (.int (m b:Int)):=gm b (by omega);rw[ZE,vP g];rfl
  have q4:Zk 3 (Zr 1 [6,7] (X5 (Za 3)) (.one 0) ZF (eP (PM (xB (Zg (Xv aC) (Za 0) (Za 2))) (Za 1) (Za 0)))) (st (K.take i) (aA (.int ((K[i]:Nat):Int))) (aA R) (aA (.int (m a:Int))) (aA (.int (m b:Int))))=aA (.nx (st (K.take (i+1)) (aA (.int ((K[i]:Nat):Int))) (aA R) (aA (.int (m a:Int))) (aA (.int (m b:Int))))):=by
   rw[ZE,Zb0 (n:=W.length) (m:=m) (a:=a) (b:=b) hf rfl rfl rfl];have:IQ W (K.take (i+1))=ZI m b a:=by rw[iO hi,Ad,hA]
   show aA (Out.nx [_,_,_,_,_,_,_,_])=aA (Out.nx [_,_,_,aA (.lst (iL (IG W.length (IQ W (K.take (i+1)))))),_,_,_,_]);rw[this]
  exact⟨st (K.take i) (aA (.int ((K[i]:Nat):Int))) x5 x6 x7,_,rfl,(by show Zj _ _ _=_;rw[Yz q1,Yz q2,Yz q3,q4]),_,_,_,_,rfl⟩)
 subst hs;rw[show(iL (nL K)).length=K.length by simp[nL],dW] at f1
 have e1:Zk 3 (Ju QI (Zc ZR [Za 0])) [aA (wP W),aA (.lst ((Ys W).map pP)),aA (pP (nL K)),aB,aB,aB,aB,aB]=aA (.nx (st [] aB aB aB aB)):=by
  have l:Zc ZR [Za 0] [aA (wP W),aA (.lst ((Ys W).map pP)),aA (pP (nL K)),aB,aB,aB,aB,aB]=aA (.int (W.length:Int)):=by show aA (PV.int ((W.map pP).length:Int))=_;rw[aK]
  have g:Ju QI (Zc ZR [Za 0]) [aA (wP W),aA (.lst ((Ys W).map pP)),aA (pP (nL K)),aB,aB,aB,aB,aB]=aA (.lst (iL (IG W.length (IQ W [])))):=by show(Zc ZR [Za 0] _).bind QI=_;rw[l];show(if 0<=(W.length:Int)/\(W.length:Int)<=10000 then aA (PV.lst (iL ((aF (W.length:Int).toNat).map λ(i:Nat)=>(i:Int)))) else aB)=_;rw[oA ⟨by omega,by omega⟩,cF];rfl
  rw[ZE,g];rfl
 have e2:YR [3] (PR (Za 2)) (.one 4) fb (st [] aB aB aB aB)=aA (.nx (st K x4 x5 x6 x7)):=by show(PR (Za 2) (Z5 [3] (st [] aB aB aB aB))).bind _=_;exact f1
 show Ya 8 TF _=_;unfold TF;show(Zj _ _ [aA (wP W),aA (.lst ((Ys W).map pP)),aA (pP (nL K)),aB,aB,aB,aB,aB]).bind Xl=_;rw[Yz e1,Yz e2];rfl
def GH(F:List Nat):List Nat:=(Pr (nL F)).map lT
theorem Zb1(F:List Nat):nL (GH F)=Pr (nL F):=by
 unfold GH;show((Pr (nL F)).map lT).map (λ(i:Nat)=>(i:Int))=_;rw[bV]
 conv=>rhs;rw[<-ja (Pr (nL F))]
 refine ao λx hx=>?_;have:x∈nL F:=(SJ _).mem_iff.mp hx;obtain⟨j,_,rfl⟩:=ah.mp this;rfl
theorem GI{a b:Nat}:(λ(i:Nat)=>(i:Int)) a=(λ(i:Nat)=>(i:Int)) b->a=b:=λh=>by have h:(a:Int)=(b:Int):=h;omega
theorem Lw(F:List Nat):(GH F).Perm F:=by
 have:=(SJ (nL F)).map lT
 have e:(nL F).map lT=F:=by
  unfold nL;rw[bV]
  conv=>rhs;rw[<-ja F]
  exact ao λx _=>rfl
 rw[e] at this;exact this
theorem Ed{n b:Nat}{E:List ZA}{s:WS}(i:WInv E n b s)(all:∀h,h<n->h∈s.F):s.B.length+1=n:=by
 have h1:=Iw i.ndF i.ltF;have h2:(nL (aF n)).length<=(nL s.F).length:=Ur (eD.mpr (eY.imp λz e=>z (GI e))) λx hx=>by obtain⟨k,hk,rfl⟩:=ah.mp hx;exact ah.mpr ⟨k,all k (aY.mp hk),rfl⟩
 have e:s.F.length=s.B.length+1:=by rw[i.hB];simp
 simp only[nL,aK,cR] at h2;omega
theorem GJ(E:List ZA):(aF E.length).map (Zs E)=E:=by
 apply iW
 ·simp
 ·intro i h1 h2;rw[mZ,List.getElem_range];unfold Zs;rw[aI,aE h2];rfl
theorem Ae{α:Type}{p q:α->Bool}:∀{l:List α},(∀x∈l,¬(p x=aD/\q x=aD))->l.countP (λx=>p x || q x)=l.countP p+l.countP q
 | [],_=>rfl
 | a::r,h=>by
  have ih:=Ae (l:=r) λx hx=>h x (aP _ hx);have ha:=h a (by simp);rw[kG,kG,kG,ih];cases e1:p a<;>cases e2:q a<;>simp[e1,e2] at ha ⊢<;>omega
def GK(h o:Nat):ZA:=if h<o then(h,o) else(o,h)
theorem Zb2{h o o':Nat}(n1:o≠h)(n2:o'≠h)(e:GK h o=GK h o'):o=o':=by
 unfold GK at e;split at e<;>split at e<;>cases e<;>first | rfl | omega
def PD(E:List ZA)(h:Nat)(G:List Nat)(j:Nat):Bool:=G.any λo=>decide (Zs E j=GK h o)
theorem Zfe{W:List (List Int)}(ok:Zt W){h o:Nat}(hh:h<W.length)(ho:o<W.length)(ne:o≠h):((aF (eW W).length).countP (λj=>decide (Zs (eW W) j=GK h o)):Int)=Z1 W h o:=by
 have e1:(aF (eW W).length).countP (λj=>decide (Zs (eW W) j=GK h o))=(eW W).count (GK h o):=by
  conv=>rhs;rw[<-GJ (eW W)]
  rw[List.count,List.countP_map];refine List.countP_congr λx _=>?_;simp
 rw[e1];unfold eW;rw[Ir ok.few];unfold GK;have l0:=ok.lo h o hh ho;split
 ·rw[oA (mem_prs.mpr ⟨by omega,by omega⟩)];show((Z1 W h o).toNat:Int)=_;omega
 ·rw[oA (mem_prs.mpr ⟨by omega,by omega⟩)];show((Z1 W o h).toNat:Int)=_;rw[ok.sym o h ho hh];omega
theorem Ma{W:List (List Int)}(ok:Zt W){h:Nat}(hh:h<W.length):∀{G:List Nat},G.Nodup->(∀o∈G,o<W.length/\o≠h)->((aF (eW W).length).countP (PD (eW W) h G):Int)=ZU W h G
 | [],_,_=>by
  have:(aF (eW W).length).countP (PD (eW W) h [])=0:=by rw[List.countP_eq_zero];intro a _;simp[PD]
  rw[this];rfl
 | o::G,nd,hG=>by
  have nr:=ar.mp nd;have h1:=Ma ok hh nr.2 λx hx=>hG x (aP _ hx);have h2:=Zfe ok hh (hG o (by simp)).1 (hG o (by simp)).2
  have e:(aF (eW W).length).countP (PD (eW W) h (o::G))=(aF (eW W).length).countP (λj=>decide (Zs (eW W) j=GK h o))+(aF (eW W).length).countP (PD (eW W) h G):=by
   rw[<-Ae]
   ·rfl
   ·intro x _ ⟨a,c⟩;have a:Zs (eW W) x=GK h o:=of_decide_eq_true a;obtain⟨o',ho',c⟩:=eU.mp c;have c:Zs (eW W) x=GK h o':=of_decide_eq_true c;have:=Zb2 (hG o (by simp)).2 (hG o' (aP _ ho')).2 (a.symm.trans c);exact nr.1 (this▸ho')
  rw[e]
  push_cast
  rw[h1,h2];unfold ZU;rw[a9,bY]
theorem Af{W:List (List Int)}(ok:Zt W){b:Nat}{s:WS}(i:WInv (eW W) W.length b s)(en:W8 (eW W) s.L s.F=aB){h:Nat}(hh:h<W.length)(hF:h∉s.F):ZU W h s.F<=(Z8 (eW W) s.L h:Int):=by
 rw[<-Ma ok hh i.ndF λo ho=>⟨i.ltF o ho,λz=>hF (z▸ho)⟩]
 have sub:∀x∈(aF (eW W).length).filter (PD (eW W) h s.F),x∈s.L.filter (K5 (eW W) h):=λx hx=>by
  obtain⟨h1,h2⟩:=cN.mp hx;have h1:=aY.mp h1;obtain⟨o,ho,c⟩:=eU.mp h2;have c:Zs (eW W) x=GK h o:=of_decide_eq_true c
  have hat:K5 (eW W) h x=aD:=by
   unfold K5;rw[c];unfold GK;split<;>simp
  refine cN.mpr ⟨?_,hat⟩;by_cases z:x∈s.L
  ·exact z
  ·have iff:=Lr en h1 z;rw[c] at iff;unfold GK at iff;split at iff
   ·exact absurd (iff.mpr ho) hF
   ·exact absurd (iff.mp ho) hF
 have:=Ur (l:=nL ((aF (eW W).length).filter (PD (eW W) h s.F))) (m:=nL (s.L.filter (K5 (eW W) h))) (eD.mpr ((eY.filter _).imp λz e=>z (GI e))) λx hx=>by obtain⟨k,hk,rfl⟩:=ah.mp hx;exact ah.mpr ⟨k,sub k hk,rfl⟩
 simp only[nL,aK] at this;rw[jB];unfold Z8;omega
theorem Ag{l m:List Int}(h:l.Perm m):l.sum=m.sum:=by
 induction h with
 | nil=>rfl
 | cons x _ ih=>rw[bY,bY,ih]
 | swap x y l=>simp only[bY];omega
 | trans _ _ a b=>exact a.trans b
theorem Qg{W:List (List Int)}(ok:Zt W){h:Nat}(hh:h<W.length):∀{G F:List Nat},G.Nodup->(∀x∈G,x∈F)->(∀x∈F,x<W.length)->ZU W h G<=ZU W h F
 | [],F,_,_,hF=>by
  show(0:Int)<=_;unfold ZU;exact Rh λx hx=>by obtain⟨o,ho,rfl⟩:=ah.mp hx;exact ok.lo h o hh (hF o ho)
 | g::G,F,nd,sub,hF=>by
  have nr:=ar.mp nd;have gF:=sub g (by simp)
  have ih:=Qg ok hh (G:=G) (F:=F.erase g) nr.2 (λx hx=>by
   have:x≠g:=λz=>nr.1 (z▸hx);exact(gQ this).mpr (sub x (aP _ hx))) λx hx=>hF x (List.mem_of_mem_erase hx)
  have pm:F.Perm (g::F.erase g):=kq gF;have e:ZU W h F=Z1 W h g+ZU W h (F.erase g):=by unfold ZU;rw[Ag (pm.map _)];rw[a9,bY]
  have e2:ZU W h (g::G)=Z1 W h g+ZU W h G:=by unfold ZU;rw[a9,bY]
  omega
theorem IH{W:List (List Int)}(ok:Zt W){D:List Int}{b:Nat}{s:WS}{G:List Nat}(i:WInv (eW W) W.length b s)(p:PInv (eW W) W.length (Zl D) s)(en:W8 (eW W) s.L s.F=aB)(B:Burn W D b G):∀k,k<=G.length->∀x∈G.take k,x∈s.F
 | 0,_,x,hx=>by simp at hx
 | k+1,hk,x,hx=>by
  have ih:=IH ok i p en B k (by omega);have hlt:k<G.length:=by omega
  rw[iN,aE hlt] at hx;rcases aq.mp hx with z | z
  ·exact ih x z
  ·have ex:x=G[k]:=by simpa using z
   by_cases k0:k=0
   ·subst k0;have:=B.hd;rw[aE hlt] at this;have:G[0]=b:=bG this;rw[ex,this,i.hB];simp
   ·have st:=B.st k (by omega) hlt;rw[aE hlt] at st;obtain⟨h1,h2,h3⟩:=U6 st;by_cases hF:x∈s.F
    ·exact hF
    ·rw[ex] at hF;have a1:=p.out _ h1 hF;have a2:=Af ok i en h1 hF;have a3:=Qg ok h1 (B.nd.sublist (gG _ _)) ih i.ltF;omega
end PW
set_option maxHeartbeats 2000000
namespace PW
open PySem L2 VL VX PK
def Rq(W:List (List Int))(k:Nat):List Int:=(Ys W).getD k []
theorem K1{W:List (List Int)}{k:Nat}(hk:k<(eW W).length):∃t:Int,Rq W k=[((Zs (eW W) k).1:Int),((Zs (eW W) k).2:Int),t]:=by obtain⟨t,e⟩:=N9 hk;refine⟨t,?_⟩;unfold Rq;rw[aI,e];rfl
def Xj(W:List (List Int)):PV:=.lst ((Ys W).map pP)
theorem DK(W:List (List Int)):Vi ((Ys W).map pP)=(aF (eW W).length).map λ(i:Nat)=>.tup [.int (i:Int),pP (Rq W i)]:=by rw[VY,aK,Rl];refine ao λi hi=>?_;have hi:=aY.mp hi;rw[aI,aW,aE hi];unfold Rq;rw[aI,aE hi];rfl
theorem II{W:List (List Int)}{L F:List Nat}:Yd [Xj W,.lst (iL (nL L)),.lst (iL (nL F))]=aA (Uc (W8 (eW W) L F)):=by
 have key:=Pd (T:=.many [3,4]) (fb:=Sn (V5 (xB (Zg (X4 aD) (Za 3) (Za 1))) (xB (Zg (Xv aD) (Zg (X4 aC) (Zg ZC (Za 4) (eC (.int 0))) (Za 2)) (Zg (X4 aC) (Zg ZC (Za 4) (eC (.int 1))) (Za 2))))) (ZN (eP (Za 3))) Yk) (q:=λ(i:Nat)=>.tup [.int (i:Int),pP (Rq W i)]) (g:=λ(i:Nat)=>.int (i:Int)) (c:=λk=>!decide (k∈L)&&(decide ((Zs (eW W) k).1∈F) != decide ((Zs (eW W) k).2∈F)))
  (λst=>∃x y,st=[aA (Xj W),aA (.lst (iL (nL L))),aA (.lst (iL (nL F))),x,y]) (ls:=aF (eW W).length) (s:=[aA (Xj W),aA (.lst (iL (nL L))),aA (.lst (iL (nL F))),aB,aB]) (by
   rintro k hk st ⟨x,y,rfl⟩;have hk:=aY.mp hk;obtain⟨t,et⟩:=K1 hk;have a0:ZC (pP (Rq W k)) (.int 0)=aA (.int ((Zs (eW W) k).1:Int)):=by rw[et];rfl
   have a1:ZC (pP (Rq W k)) (.int 1)=aA (.int ((Zs (eW W) k).2:Int)):=by rw[et];rfl
   have b0:=Oo (Zs (eW W) k).1 F;have b1:=Oo (Zs (eW W) k).2 F
   have bb:∀p q:Bool,Xv aD (.bl p) (.bl q)=aA (.bl (p != q)):=λp q=>by
    unfold Xv;rw[oA (by rfl)];cases p<;>cases q<;>simp
   refine⟨_,rfl,λhc=>?_,λhc=>?_⟩
   ·simp only[ak,gJ,decide_eq_false_iff_not] at hc;simp[setAll,Pe,hc.1,a0,a1,b0,b1,bb,hc.2]
   ·refine⟨[aA (Xj W),aA (.lst (iL (nL L))),aA (.lst (iL (nL F))),aA (.int (k:Int)),aA (pP (Rq W k))],?_,_,_,rfl⟩;by_cases q:k∈L
    ·simp[setAll,Pe,q]
    ·have:(decide ((Zs (eW W) k).1∈F) != decide ((Zs (eW W) k).2∈F))=aC:=by simpa [q] using hc
     simp[setAll,Pe,q,a0,a1,b0,b1,bb,this]) ⟨_,_,rfl⟩
 have en:Y3 aD [Za 0] [aA (Xj W),aA (.lst (iL (nL L))),aA (.lst (iL (nL F))),aB,aB]=aA ((aF (eW W).length).map λ(i:Nat)=>.tup [.int (i:Int),pP (Rq W i)]):=by rw[<-DK];rfl
 show Ya 5 Wl _=_;unfold Wl;show(Zj (YR [] _ _ _) _ [aA (Xj W),aA (.lst (iL (nL L))),aA (.lst (iL (nL F))),aB,aB]).bind Xl=_;unfold W8
 cases q:(aF (eW W).length).find? λk=>!decide (k∈L)&&(decide ((Zs (eW W) k).1∈F) != decide ((Zs (eW W) k).2∈F)) with
 | some h=>
  rw[q] at key;rw[Zfc (v:=.int (h:Int))]
  ·rfl
  ·show(Y3 aD [Za 0] [aA (Xj W),aA (.lst (iL (nL L))),aA (.lst (iL (nL F))),aB,aB]).bind _=_;rw[en];exact key
 | none=>
  rw[q] at key;obtain⟨s',k1,x,y,rfl⟩:=key;rw[Yz (s1:=[aA (Xj W),aA (.lst (iL (nL L))),aA (.lst (iL (nL F))),x,y])]
  ·rfl
  ·show(Y3 aD [Za 0] [aA (Xj W),aA (.lst (iL (nL L))),aA (.lst (iL (nL F))),aB,aB]).bind _=_;rw[en];exact k1
noncomputable def bI(x:Nat×Nat×Nat):List Int:=[(x.1:Int),(x.2.1:Int),(x.2.2:Int)]
noncomputable def YM(W:List (List Int))(b:Nat)(C:PV)(F L:List Nat)(B:List (Nat×Nat×Nat))(x7 x8 x9:Option PV):ZL:=[aA (wP W),aA (.int (b:Int)),aA C,aA (Xj W),aA (.lst (iL (nL F))),aA (.lst (iL (nL L))),aA (.lst (B.map λx=>pP (bI x))),x7,x8,x9]
section
variable {W:List (List Int)} {b:Nat} {C:PV} {F L:List Nat} {B:List (Nat×Nat×Nat)} {x7 x8 x9:Option PV} {k h:Nat}
theorem Ah(hk:k<(eW W).length):ZC (Xj W) (.int (k:Int))=aA (pP (Rq W k)):=by
 show Td ((Ys W).map pP) (k:Int)=_;have hk':k<(Ys W).length:=by rw[<-Rl];exact hk
 refine VH ?_;rw[aW,aE hk'];unfold Rq;rw[aI,aE hk'];rfl
theorem w1(hl:L.length<=1000):ZZ 5 (eP (Za 7)) (YM W b C F L B (aA (.int (k:Int))) x8 x9)=aA (.nx (YM W b C F (L++[k]) B (aA (.int (k:Int))) x8 x9)):=by rw[Wg (m:=iL (nL L)) (l:=.int (k:Int)) rfl rfl (by simp[nL];omega)];simp[nL,YM]
theorem w2(hk:k<(eW W).length):Zk 8 (eP (PM (xB (Zg (X4 aC) (Zg ZC (Zg ZC (Za 3) (Za 7)) (eC (.int 0))) (Za 4))) (Zg ZC (Zg ZC (Za 3) (Za 7)) (eC (.int 1))) (Zg ZC (Zg ZC (Za 3) (Za 7)) (eC (.int 0))))) (YM W b C F L B (aA (.int (k:Int))) x8 x9)=aA (.nx (YM W b C F L B (aA (.int (k:Int))) (aA (.int (ZS (eW W) F k:Int))) x9)):=by
 obtain⟨t,et⟩:=K1 hk;have ta:=Ah hk;have a0:ZC (pP (Rq W k)) (.int 0)=aA (.int ((Zs (eW W) k).1:Int)):=by rw[et];rfl
 have a1:ZC (pP (Rq W k)) (.int 1)=aA (.int ((Zs (eW W) k).2:Int)):=by rw[et];rfl
 have b0:=Oo (Zs (eW W) k).1 F;have e0:Zg ZC (Zg ZC (Za 3) (Za 7)) (eC (.int 0)) (YM W b C F L B (aA (.int (k:Int))) x8 x9)=aA (.int ((Zs (eW W) k).1:Int)):=by show((ZC (Xj W) (.int (k:Int))).bind λx=>ZC x (.int 0))=_;rw[ta];exact a0
 have e1:Zg ZC (Zg ZC (Za 3) (Za 7)) (eC (.int 1)) (YM W b C F L B (aA (.int (k:Int))) x8 x9)=aA (.int ((Zs (eW W) k).2:Int)):=by show((ZC (Xj W) (.int (k:Int))).bind λx=>ZC x (.int 1))=_;rw[ta];exact a1
 have et:xB (Zg (X4 aC) (Zg ZC (Zg ZC (Za 3) (Za 7)) (eC (.int 0))) (Za 4)) (YM W b C F L B (aA (.int (k:Int))) x8 x9)=aA (decide ((Zs (eW W) k).1∈F)):=by
  have:Zg (X4 aC) (Zg ZC (Zg ZC (Za 3) (Za 7)) (eC (.int 0))) (Za 4) (YM W b C F L B (aA (.int (k:Int))) x8 x9)=aA (.bl (decide ((Zs (eW W) k).1∈F))):=by show((Zg ZC (Zg ZC (Za 3) (Za 7)) (eC (.int 0)) (YM W b C F L B (aA (.int (k:Int))) x8 x9)).bind λx=>X4 aC x (.lst (iL (nL F))))=_;rw[e0];exact b0
  unfold xB;rw[this];try rfl
 have ei:eP (PM (xB (Zg (X4 aC) (Zg ZC (Zg ZC (Za 3) (Za 7)) (eC (.int 0))) (Za 4))) (Zg ZC (Zg ZC (Za 3) (Za 7)) (eC (.int 1))) (Zg ZC (Zg ZC (Za 3) (Za 7)) (eC (.int 0)))) (YM W b C F L B (aA (.int (k:Int))) x8 x9)=aA (.int (ZS (eW W) F k:Int)):=by
  refine vP ?_;unfold PM ZS;rw[et];simp only[aO];by_cases q:(Zs (eW W) k).1∈F
  ·rw[oA (by simpa using q),oA q];exact e1
  ·rw[oB (by simpa using q),oB q];exact e0
 unfold Zk;rw[ei];rfl
theorem w3(hL:∀j∈L,j<(eW W).length)(hl:L.length<=1000):Zk 9 (eP (Zc ZR [Zr 1 [8,3] (X5 (Za 5)) (.one 0) (xB (Zg (X4 aC) (Za 1) (P6 XD (Zg ZC (Za 2) (Za 0)) Mi (QD (eC (.int 2)))))) (Za 0)])) (YM W b C F L B (aA (.int (k:Int))) (aA (.int (h:Int))) x9)=aA (.nx (YM W b C F L B (aA (.int (k:Int))) (aA (.int (h:Int))) (aA (.int (Z8 (eW W) L h:Int))))):=by
 have hc:Zr 1 [8,3] (X5 (Za 5)) (.one 0) (xB (Zg (X4 aC) (Za 1) (P6 XD (Zg ZC (Za 2) (Za 0)) Mi (QD (eC (.int 2)))))) (Za 0) (YM W b C F L B (aA (.int (k:Int))) (aA (.int (h:Int))) x9)=aA (.lst (iL (nL (L.filter (K5 (eW W) h))))):=by
  rw[W5 L (λ(i:Nat)=>.int (i:Int)) (λ(i:Nat)=>.int (i:Int)) (K5 (eW W) h) (by simp[nL,YM]) (by omega) λy hy=>⟨[aA (.int (y:Int)),aA (.int (h:Int)),aA (Xj W)],by simp[VL.compEnv,YM],?_,λ_=>by simp⟩]
  ·unfold nL iL;rw[bV];rfl
  ·obtain⟨t,et⟩:=K1 (hL y hy);have ta:=Ah (hL y hy);have sl:XD (pP (Rq W y)) aB (aA 2)=aA (pP [((Zs (eW W) y).1:Int),((Zs (eW W) y).2:Int)]):=by rw[et];rfl
   have gi:X4 aC (.int (h:Int)) (pP [((Zs (eW W) y).1:Int),((Zs (eW W) y).2:Int)])=aA (.bl (K5 (eW W) h y)):=by
    rw[Zc3];unfold K5;by_cases z1:h=(Zs (eW W) y).1
    ·simp[z1]
    ·by_cases z2:h=(Zs (eW W) y).2
     ·simp[z2]
     ·have y1:¬(h:Int)=((Zs (eW W) y).1:Int):=by omega
      have y2:¬(h:Int)=((Zs (eW W) y).2:Int):=by omega
      simp[z1,z2,y1,y2]
   have e1:Zg (X4 aC) (Za 1) (P6 XD (Zg ZC (Za 2) (Za 0)) Mi (QD (eC (.int 2)))) [aA (.int (y:Int)),aA (.int (h:Int)),aA (Xj W)]=aA (.bl (K5 (eW W) h y)):=by show((((ZC (Xj W) (.int (y:Int))).bind λx=>XD x aB (aA 2))).bind λz=>X4 aC (.int (h:Int)) z)=_;rw[ta];show(XD (pP (Rq W y)) aB (aA 2)).bind _=_;rw[sl];exact gi
   unfold xB;rw[e1];try rfl
 have e2:eP (Zc ZR [Zr 1 [8,3] (X5 (Za 5)) (.one 0) (xB (Zg (X4 aC) (Za 1) (P6 XD (Zg ZC (Za 2) (Za 0)) Mi (QD (eC (.int 2)))))) (Za 0)]) (YM W b C F L B (aA (.int (k:Int))) (aA (.int (h:Int))) x9)=aA (.int (Z8 (eW W) L h:Int)):=by refine vP ?_;show(QC [_] _).bind ZR=_;unfold QC;rw[hc];simp[QC,nL,Z8]
 unfold Zk;rw[e2];rfl
theorem w4a{Lm:Mh}{l:PV}{v:Bool}{k h c:Nat}(pl:Y1 l=aD)(hT:SM Lm l [.int (k:Int),.int (h:Int),.int (c:Int)]=aA (.bl v)) :
  xV (JY SM 2 [Za 7,Za 8,Za 9]) (YM W b (.clo Lm l) F L B (aA (.int (k:Int))) (aA (.int (h:Int))) (aA (.int (c:Int))))=aA v:=by
 have:JY SM 2 [Za 7,Za 8,Za 9] (YM W b (.clo Lm l) F L B (aA (.int (k:Int))) (aA (.int (h:Int))) (aA (.int (c:Int))))=aA (.bl v):=by unfold JY;have ev:QC [Za 7,Za 8,Za 9] (YM W b (.clo Lm l) F L B (aA (.int (k:Int))) (aA (.int (h:Int))) (aA (.int (c:Int))))=aA [.int (k:Int),.int (h:Int),.int (c:Int)]:=rfl;have g2:(YM W b (.clo Lm l) F L B (aA (.int (k:Int))) (aA (.int (h:Int))) (aA (.int (c:Int))))[2]?=aA (aA (.clo Lm l)):=rfl;rw[g2];simp only;rw[ev];simp only[aO];rw[oA (by rw[pl];rfl),hT];rfl
 unfold xV;rw[this];rfl
theorem w4(hF:F.length<=1000)(hB:B.length<=1000){Lm:Mh}{l:PV}{v:Bool}{k h c:Nat}(pl:Y1 l=aD)(hT:SM Lm l [.int (k:Int),.int (h:Int),.int (c:Int)]=aA (.bl v)) :
  Sn (xV (JY SM 2 [Za 7,Za 8,Za 9])) (Zj (ZZ 4 (eP (Za 8))) (ZZ 6 (eP (Yp [Za 7,Za 8,Za 9])))) Yk (YM W b (.clo Lm l) F L B (aA (.int (k:Int))) (aA (.int (h:Int))) (aA (.int (c:Int)))) =
   aA (.nx (if v=aD then YM W b (.clo Lm l) (F++[h]) L (B++[(k,h,c)]) (aA (.int (k:Int))) (aA (.int (h:Int))) (aA (.int (c:Int))) else YM W b (.clo Lm l) F L B (aA (.int (k:Int))) (aA (.int (h:Int))) (aA (.int (c:Int))))):=by
 unfold Sn;rw[w4a pl hT];simp only[aO]
 cases v with
 | false=>rfl
 | true=>
  simp only[if_true];have e1:ZZ 4 (eP (Za 8)) (YM W b (.clo Lm l) F L B (aA (.int (k:Int))) (aA (.int (h:Int))) (aA (.int (c:Int))))=aA (.nx (YM W b (.clo Lm l) (F++[h]) L B (aA (.int (k:Int))) (aA (.int (h:Int))) (aA (.int (c:Int))))):=by rw[Wg (m:=iL (nL F)) (l:=.int (h:Int)) rfl rfl (by simp[nL];omega)];simp[nL,YM]
  have e2:ZZ 6 (eP (Yp [Za 7,Za 8,Za 9])) (YM W b (.clo Lm l) (F++[h]) L B (aA (.int (k:Int))) (aA (.int (h:Int))) (aA (.int (c:Int))))=aA (.nx (YM W b (.clo Lm l) (F++[h]) L (B++[(k,h,c)]) (aA (.int (k:Int))) (aA (.int (h:Int))) (aA (.int (c:Int))))):=by rw[Wg (m:=B.map λx=>pP (bI x)) (l:=pP (bI (k,h,c))) rfl rfl (by simp;omega)];simp[YM]
  rw[Yz e1,e2]
theorem w5:Zk 7 (Zc Yd [Za 3,Za 5,Za 4]) (YM W b C F L B x7 x8 x9)=aA (.nx (YM W b C F L B (aA (Uc (W8 (eW W) L F))) x8 x9)):=by have:Zc Yd [Za 3,Za 5,Za 4] (YM W b C F L B x7 x8 x9)=aA (Uc (W8 (eW W) L F)):=II;unfold Zk;rw[this];rfl
end
theorem WZ{W:List (List Int)}:∀e∈eW W,e.1<W.length/\e.2<W.length:=λe he=>by have:=Ea e he;omega
theorem DL{W:List (List Int)}(ok:Zt W){b:Nat}(hb:b<W.length){Lm:Mh}{l:PV}{φ:Nat->Nat->Nat->Bool}(pl:Y1 l=aD)
  (hT:∀k h c:Nat,k<(eW W).length->h<W.length->SM Lm l [.int (k:Int),.int (h:Int),.int (c:Int)]=aA (.bl (φ k h c))) :
  Ul [wP W,.int (b:Int),.clo Lm l]=aA (.lst ((ZT (eW W) φ (eW W).length (S8 b)).B.map λx=>pP (bI x))):=by
 have hf:=ok.few;have tv:=S6 ok;have hm:(eW W).length<=441:=by rw[Rl];exact tv.2
 obtain⟨s',k',q1,⟨s,x8,x9,rfl,wi,wl,wf⟩,q3⟩:=B9 (c:=xB (OL aD (Za 7))) (fb:=Zj (ZZ 5 (eP (Za 7)))
   (Zj (Zk 8 (eP (PM (xB (Zg (X4 aC) (Zg ZC (Zg ZC (Za 3) (Za 7)) (eC (.int 0))) (Za 4))) (Zg ZC (Zg ZC (Za 3) (Za 7)) (eC (.int 1))) (Zg ZC (Zg ZC (Za 3) (Za 7)) (eC (.int 0))))))
   (Zj (Zk 9 (eP (Zc ZR [Zr 1 [8,3] (X5 (Za 5)) (.one 0) (xB (Zg (X4 aC) (Za 1) (P6 XD (Zg ZC (Za 2) (Za 0)) Mi (QD (eC (.int 2)))))) (Za 0)])))
   (Zj (Sn (xV (JY SM 2 [Za 7,Za 8,Za 9])) (Zj (ZZ 4 (eP (Za 8))) (ZZ 6 (eP (Yp [Za 7,Za 8,Za 9])))) Yk)
   (Zk 7 (Zc Yd [Za 3,Za 5,Za 4]))))))
  (λk st=>∃s x8 x9,st=YM W b (.clo Lm l) s.F s.L s.B (aA (Uc (W8 (eW W) s.L s.F))) x8 x9/\WInv (eW W) W.length b s/\(eW W).length<=k+s.L.length/\ZT (eW W) φ k s=ZT (eW W) φ (eW W).length (S8 b)) (by
   rintro k st ⟨s,x8,x9,rfl,wi,wl,wf⟩
   cases e:W8 (eW W) s.L s.F with
   | none=>exact .inl (by simp[Jt,Uc,YM])
   | some j=>
    cases k with
    | zero=>
     have:=Qe (φ:=φ) WZ wi (m:=0) (by omega);unfold ZT at this;rw[e] at this;cases this
    | succ k=>
     have wi2:=wi.step (φ:=φ) WZ e;obtain⟨j1,j2,_⟩:=Xq e;obtain⟨n1,n2,o,ho,n3⟩:=S9 e;have eE:Zs (eW W) j∈eW W:=by unfold Zs;rw[aI,aE j1];exact cD j1
     have hlt:ZS (eW W) s.F j<W.length:=by
      have:=WZ _ eE;rcases n3 with z | z<;>rw[z] at this
      ·exact this.2
      ·exact this.1
     have lL:=Iw wi.ndL wi.ltL;have lF:=Iw wi.ndF wi.ltF;have lB:s.F.length=s.B.length+1:=by rw[wi.hB];simp
     have ltL:∀i∈s.L++[j],i<(eW W).length:=λi hi=>by
      rcases aq.mp hi with z | z
      ·exact wi.ltL i z
      ·rw[aR.mp z];exact j1
     have e1:=w1 (W:=W) (b:=b) (C:=.clo Lm l) (F:=s.F) (L:=s.L) (B:=s.B) (x8:=x8) (x9:=x9) (k:=j) (by omega);have e2:=w2 (W:=W) (b:=b) (C:=.clo Lm l) (F:=s.F) (L:=s.L++[j]) (B:=s.B) (x8:=x8) (x9:=x9) j1;have e3:=w3 (W:=W) (b:=b) (C:=.clo Lm l) (F:=s.F) (L:=s.L++[j]) (B:=s.B) (x9:=x9) (k:=j) (h:=ZS (eW W) s.F j) ltL (by rw[ag,bz];omega);have e4:=w4 (W:=W) (b:=b) (F:=s.F) (L:=s.L++[j]) (B:=s.B) (by omega) (by omega) pl (hT j (ZS (eW W) s.F j) (Z8 (eW W) (s.L++[j]) (ZS (eW W) s.F j)) j1 hlt)
     have st:(if φ j (ZS (eW W) s.F j) (Z8 (eW W) (s.L++[j]) (ZS (eW W) s.F j))=aD then YM W b (.clo Lm l) (s.F++[ZS (eW W) s.F j]) (s.L++[j]) (s.B++[(j,ZS (eW W) s.F j,Z8 (eW W) (s.L++[j]) (ZS (eW W) s.F j))]) (aA (.int (j:Int))) (aA (.int (ZS (eW W) s.F j:Int))) (aA (.int (Z8 (eW W) (s.L++[j]) (ZS (eW W) s.F j):Int))) else YM W b (.clo Lm l) s.F (s.L++[j]) s.B (aA (.int (j:Int))) (aA (.int (ZS (eW W) s.F j:Int))) (aA (.int (Z8 (eW W) (s.L++[j]) (ZS (eW W) s.F j):Int))))=YM W b (.clo Lm l) (ZW (eW W) φ s j).F (ZW (eW W) φ s j).L (ZW (eW W) φ s j).B (aA (.int (j:Int))) (aA (.int (ZS (eW W) s.F j:Int))) (aA (.int (Z8 (eW W) (s.L++[j]) (ZS (eW W) s.F j):Int))):=by
      unfold ZW;split<;>rfl
     rw[st] at e4;have e5:=w5 (W:=W) (b:=b) (C:=.clo Lm l) (F:=(ZW (eW W) φ s j).F) (L:=(ZW (eW W) φ s j).L) (B:=(ZW (eW W) φ s j).B) (x7:=aA (.int (j:Int))) (x8:=aA (.int (ZS (eW W) s.F j:Int))) (x9:=aA (.int (Z8 (eW W) (s.L++[j]) (ZS (eW W) s.F j):Int)));refine .inr ⟨by simp[Jt,Uc,YM],_,k,?_,by omega,ZW (eW W) φ s j,aA (.int (ZS (eW W) s.F j:Int)),aA (.int (Z8 (eW W) (s.L++[j]) (ZS (eW W) s.F j):Int)),rfl,wi2,?_,?_⟩
     ·exact(Yz e1).trans ((Yz e2).trans ((Yz e3).trans ((Yz e4).trans e5)))
     ·rw[Pb,ag,bz];omega
     ·rw[<-wf]
      conv=>rhs;unfold ZT
      rw[e]) (k:=(eW W).length) (s:=YM W b (.clo Lm l) [b] [] [] (aA (Uc (W8 (eW W) [] [b]))) aB aB) ⟨S8 b,aB,aB,rfl,WInv.start hb,by simp,rfl⟩
 have en:W8 (eW W) s.L s.F=aB:=by
  cases e:W8 (eW W) s.L s.F with
  | none=>rfl
  | some h=>rw[e] at q3;simp[Jt,Uc,YM] at q3
 have fin:s=ZT (eW W) φ (eW W).length (S8 b):=by
  rw[<-wf]
  cases k' with
  | zero=>rfl
  | succ n=>unfold ZT;rw[en]
 have a1:Zk 3 (Zc Vb [Za 0]) [aA (wP W),aA (.int (b:Int)),aA (.clo Lm l),aB,aB,aB,aB,aB,aB,aB]=aA (.nx [aA (wP W),aA (.int (b:Int)),aA (.clo Lm l),aA (Xj W),aB,aB,aB,aB,aB,aB]):=by have:Zc Vb [Za 0] [aA (wP W),aA (.int (b:Int)),aA (.clo Lm l),aB,aB,aB,aB,aB,aB,aB]=aA (Xj W):=tv.1;unfold Zk;rw[this];rfl
 have a2:Zk 4 (Xc [eP (Za 1)]) [aA (wP W),aA (.int (b:Int)),aA (.clo Lm l),aA (Xj W),aB,aB,aB,aB,aB,aB]=aA (.nx [aA (wP W),aA (.int (b:Int)),aA (.clo Lm l),aA (Xj W),aA (.lst (iL (nL [b]))),aB,aB,aB,aB,aB]):=rfl;have a3:Zk 5 (Xc []) [aA (wP W),aA (.int (b:Int)),aA (.clo Lm l),aA (Xj W),aA (.lst (iL (nL [b]))),aB,aB,aB,aB,aB]=aA (.nx [aA (wP W),aA (.int (b:Int)),aA (.clo Lm l),aA (Xj W),aA (.lst (iL (nL [b]))),aA (.lst []),aB,aB,aB,aB]):=rfl;have a4:Zk 6 (Xc []) [aA (wP W),aA (.int (b:Int)),aA (.clo Lm l),aA (Xj W),aA (.lst (iL (nL [b]))),aA (.lst []),aB,aB,aB,aB]=aA (.nx (YM W b (.clo Lm l) [b] [] [] aB aB aB)):=rfl;have a5:=w5 (W:=W) (b:=b) (C:=.clo Lm l) (F:=[b]) (L:=[]) (B:=[]) (x7:=aB) (x8:=aB) (x9:=aB);show Ya 10 Nu _=_;unfold Nu;show(Zj _ _ [aA (wP W),aA (.int (b:Int)),aA (.clo Lm l),aB,aB,aB,aB,aB,aB,aB]).bind Xl=_;rw[Yz a1,Yz a2,Yz a3,Yz a4,Yz a5,Yz q1,<-fin];rfl
theorem GL{K:List Nat}{k h c:Nat}:SM Yr (pP (nL K)) [.int (k:Int),.int (h:Int),.int (c:Int)]=aA (.bl (decide (k∈K))):=by unfold SM;rw[oA rfl];show X4 aC (.int (k:Int)) (pP (nL K))=_;rw[Zc3];have:=Gu (y:=k) (l:=K);simp[this]
theorem Mc(D:List Int):Y1 (pP D)=aD:=by
 show XG (iL D)=aD
 induction D with
 | nil=>rfl
 | cons a r ih=>exact ih
theorem MD{W:List (List Int)}{D:List Int}{b:Nat}{F:List Nat}(hD:D.length<=1000)(eF:W6 [wP W,pP D,.int (b:Int)]=aA (.lst (iL (nL F)))) :
  U0 [wP W,pP D,.int (b:Int)]=aA (.bl (decide (YY D b=[])&&decide (F.length=W.length))):=by
 have e1:=Rf (b:=b) hD
 have h1:Zg (Xv aC) (Zc ZR [Zc Yo [Za 1,Za 2]]) (eC (.int 0)) [aA (wP W),aA (pP D),aA (.int (b:Int))]=aA (.bl (decide (YY D b=[]))):=by
  have:Zc ZR [Zc Yo [Za 1,Za 2]] [aA (wP W),aA (pP D),aA (.int (b:Int))]=aA (.int ((YY D b).length:Int)):=by have h:Zc Yo [Za 1,Za 2] [aA (wP W),aA (pP D),aA (.int (b:Int))]=aA (.lst (iL (nL (YY D b)))):=e1;rw[Yb,Zw,h];simp[nL]
  rw[UK,this];simp
 have h2:Zg (Xv aC) (Zc ZR [Zc W6 [Za 0,Za 1,Za 2]]) (Zc ZR [Za 0]) [aA (wP W),aA (pP D),aA (.int (b:Int))]=aA (.bl (decide (F.length=W.length))):=by
  have:Zc ZR [Zc W6 [Za 0,Za 1,Za 2]] [aA (wP W),aA (pP D),aA (.int (b:Int))]=aA (.int (F.length:Int)):=by have h:Zc W6 [Za 0,Za 1,Za 2] [aA (wP W),aA (pP D),aA (.int (b:Int))]=aA (.lst (iL (nL F))):=eF;rw[Yb,Zw,h];simp[nL]
  rw[UK,this];simp;omega
 show Ya 3 UZ _=_;unfold UZ;show(ZN _ [aA (wP W),aA (pP D),aA (.int (b:Int))]).bind Xl=_;rw[Ra (v:=.bl (decide (YY D b=[])&&decide (F.length=W.length)))]
 ·rfl
 ·rw[Vm,JI,O4,h1];by_cases q:YY D b=[]
  ·rw[decide_eq_true q];simp only[aO,CQ,if_true];rw[h2];rfl
  ·simp[q]
def Tc(W:List (List Int))(D:List Int)(b:Nat):WS:=ZT (eW W) (byP (Zl D)) (eW W).length (S8 b)
def Qh(W:List (List Int))(D:List Int)(b:Nat):List Nat:=GH ((Tc W D b).B.map (·.1))
theorem Ai{W:List (List Int)}(ok:Zt W){D:List Int}{b:Nat}(hb:b<W.length){G:List Nat}(B:Burn W D b G)(all:G.length=W.length)(nn:∀g,g<W.length->g≠b->0<=Zl D g):∀h,h<W.length->h∈(Tc W D b).F:=λh hh=>by
 have wi:WInv (eW W) W.length b (Tc W D b):=WInv.walk WZ (WInv.start hb);have wp:PInv (eW W) W.length (Zl D) (Tc W D b):=PInv.walk WZ (PInv.start nn);have en:W8 (eW W) (Tc W D b).L (Tc W D b).F=aB:=Qe WZ (WInv.start hb) (by simp)
 have hG:h∈G:=by
  have:=Ur (l:=nL (aF W.length)) (m:=nL G) (eD.mpr (eY.imp λz e=>z (GI e)));by_cases z:h∈G
  ·exact z
  ·have:=Iw (n:=W.length) (Ww B.nd z) λx hx=>by
    rcases aq.mp hx with y | y
    ·exact B.lt x y
    ·rw[aR.mp y];exact hh
   rw[ag,bz] at this;omega
 exact IH ok wi wp en B G.length (aT _) h (by rw[dW];exact hG)
theorem DM{W:List (List Int)}{D:List Int}{b:Nat}:ZT (eW W) (λk _ _=>decide (k∈Qh W D b)) (eW W).length (S8 b)=Tc W D b:=
 N0 (T:=Qh W D b) (λx hx=>by simp[S8] at hx) λk=>(Lw _).mem_iff
def WV(B:List (Nat×Nat×Nat))(c:List Int):List Int:=B.foldl (λc x=>c.set x.2.1 ((x.2.2:Int)-1)) c
theorem Qi:∀(B:List (Nat×Nat×Nat))(c:List Int),(WV B c).length=c.length
 | [],_=>rfl
 | x::B,c=>by show(WV B (c.set _ _)).length=_;rw[Qi,bp]
theorem DN(B:List (Nat×Nat×Nat))(x:Nat×Nat×Nat)(c:List Int):WV (B++[x]) c=(WV B c).set x.2.1 ((x.2.2:Int)-1):=by unfold WV;rw[mJ];rfl
def ME(W:List (List Int))(b:Nat)(K:List Nat)(c:List Int)(B:List (Nat×Nat×Nat))(x5 x6 x7:Option PV):ZL:=[aA (wP W),aA (.int (b:Int)),aA (pP (nL K)),aA (.lst (iL c)),aA (.lst (B.map λx=>pP (bI x))),x5,x6,x7]
theorem IJ{W:List (List Int)}(ok:Zt W){b:Nat}(hb:b<W.length){K:List Nat} :
  SQ [wP W,.int (b:Int),pP (nL K)]=aA (pP (WV (ZT (eW W) (λk _ _=>decide (k∈K)) (eW W).length (S8 b)).B (aG W.length 0))):=by
 have hw:=DL ok hb (Mc (nL K)) (Lm:=Yr) (φ:=λk _ _=>decide (k∈K)) λk h c _ _=>GL;generalize hs:ZT (eW W) (λk _ _=>decide (k∈K)) (eW W).length (S8 b)=s at hw ⊢;have wi:WInv (eW W) W.length b s:=by rw[<-hs];exact WInv.walk WZ (WInv.start hb)
 have hf:=ok.few;have hB:∀x∈s.B,x.2.1<W.length:=λx hx=>wi.ltF _ (by rw[wi.hB];exact aP _ (ah.mpr ⟨x,hx,rfl⟩))
 have e1:Zk 3 (Zg L8 (Xc [eC (.int 0)]) (Zc ZR [Za 0])) [aA (wP W),aA (.int (b:Int)),aA (pP (nL K)),aB,aB,aB,aB,aB]=aA (.nx [aA (wP W),aA (.int (b:Int)),aA (pP (nL K)),aA (.lst (iL (aG W.length 0))),aB,aB,aB,aB]):=by
  have e:L8 (.lst [.int 0]) (.int (W.length:Int))=aA (.lst (iL (aG W.length 0))):=by show(if ZD [PV.int 0]=aD/\(-1000000:Int)<=(W.length:Int)/\(W.length:Int)<=1000000/\[PV.int 0].length*((W.length:Int)).toNat<=10000 then aA (PV.lst (aG ((W.length:Int)).toNat [PV.int 0]).flatten) else aB)=_;rw[oA ⟨rfl,by omega,by omega,by simp;omega⟩,cF,Jn];simp
  have e0:Zg L8 (Xc [eC (.int 0)]) (Zc ZR [Za 0]) [aA (wP W),aA (.int (b:Int)),aA (pP (nL K)),aB,aB,aB,aB,aB]=aA (.lst (iL (aG W.length 0))):=by
   have z:Zc ZR [Za 0] [aA (wP W),aA (.int (b:Int)),aA (pP (nL K)),aB,aB,aB,aB,aB]=aA (.int (W.length:Int)):=by simp
   unfold Zg;rw[z];exact e
  unfold Zk;rw[e0];rfl
 have pB:XG (s.B.map λx=>pP (bI x))=aD:=by
  clear hw wi hB hs;generalize s.B=B
  induction B with
  | nil=>rfl
  | cons x r ih=>
   show(Y1 (pP (bI x))&&XG _)=aD;rw[Mc];exact ih
 have e2:Zk 4 (QO Ul (Za 0) (Za 1) Yr 2) [aA (wP W),aA (.int (b:Int)),aA (pP (nL K)),aA (.lst (iL (aG W.length 0))),aB,aB,aB,aB]=aA (.nx (ME W b K (aG W.length 0) s.B aB aB aB)):=by
  have:QO Ul (Za 0) (Za 1) Yr 2 [aA (wP W),aA (.int (b:Int)),aA (pP (nL K)),aA (.lst (iL (aG W.length 0))),aB,aB,aB,aB]=aA (.lst (s.B.map λx=>pP (bI x))):=by show(Ul [wP W,.int (b:Int),.clo Yr (pP (nL K))]).bind _=_;rw[hw,aO,oA];exact pB
  unfold Zk;rw[this];rfl
 have e3:∃x5 x6 x7,YR [3] (X5 (Za 4)) (.many [5,6,7]) (QE 3 (Za 6) (Zg X3 (Za 7) (eC (.int 1)))) (ME W b K (aG W.length 0) s.B aB aB aB)=aA (.nx (ME W b K (WV s.B (aG W.length 0)) s.B x5 x6 x7)):=by
  obtain⟨s',q1,x5,x6,x7,rfl⟩:=ZY (T:=.many [5,6,7]) (fb:=QE 3 (Za 6) (Zg X3 (Za 7) (eC (.int 1)))) (ls:=s.B.map λx=>pP (bI x)) (s:=ME W b K (aG W.length 0) s.B aB aB aB)
   (λi st=>∃x5 x6 x7,st=ME W b K (WV (s.B.take i) (aG W.length 0)) s.B x5 x6 x7) ⟨_,_,_,rfl⟩ (by
    rintro i l st hl ⟨x5,x6,x7,rfl⟩;rw[aW] at hl
    cases q:s.B[i]? with
    | none=>rw[q] at hl;cases hl
    | some x=>
     rw[q] at hl;cases hl;have hx:=hB x (av q);refine⟨ME W b K (WV (s.B.take i) (aG W.length 0)) s.B (aA (.int (x.1:Int))) (aA (.int (x.2.1:Int))) (aA (.int (x.2.2:Int))),ME W b K (WV (s.B.take (i+1)) (aG W.length 0)) s.B (aA (.int (x.1:Int))) (aA (.int (x.2.1:Int))) (aA (.int (x.2.2:Int))),rfl,?_,_,_,_,rfl⟩;rw[EY (l:=.int ((x.2.2:Int)-1)) (k:=(x.2.1:Int)) (j:=x.2.1) (m:=iL (WV (s.B.take i) (aG W.length 0))) rfl rfl rfl (Y7 _) rfl (RS (by rw[aK,Qi,bJ];exact hx))];have e:s.B.take (i+1)=s.B.take i++[x]:=by rw[iN,q];rfl
     rw[e,DN];simp[ME,mP])
  refine⟨x5,x6,x7,?_⟩;show Xe _ _ (s.B.map λx=>pP (bI x)) _=_;rw[q1];simp
 obtain⟨x5,x6,x7,e3⟩:=e3;show Ya 8 SO _=_;unfold SO;show(Zj _ _ [aA (wP W),aA (.int (b:Int)),aA (pP (nL K)),aB,aB,aB,aB,aB]).bind Xl=_;rw[Yz e1,Yz e2,Yz e3];have e4:eP (Zc YD [Za 3]) (ME W b K (WV s.B (aG W.length 0)) s.B x5 x6 x7)=aA (pP (WV s.B (aG W.length 0))):=by have:Zc YD [Za 3] (ME W b K (WV s.B (aG W.length 0)) s.B x5 x6 x7)=aA (pP (WV s.B (aG W.length 0))):=rfl;unfold eP;rw[this,aO,oA];exact Y7 _
 rw[Ra e4];rfl
theorem Qj{h:Nat}:∀{B:List (Nat×Nat×Nat)}{c:List Int},(∀x∈B,x.2.1≠h)->(WV B c)[h]?=c[h]?
 | [],_,_=>rfl
 | x::B,c,hb=>by show(WV B (c.set x.2.1 _))[h]?=_;rw[Qj λy hy=>hb y (aP _ hy),fJ (hb x (by simp))]
theorem K2{x:Nat×Nat×Nat}:∀{B:List (Nat×Nat×Nat)}{c:List Int},(B.map (·.2.1)).Nodup->x∈B->x.2.1<c.length->(WV B c)[x.2.1]?=aA ((x.2.2:Int)-1)
 | [],_,_,h,_=>by simp at h
 | y::B,c,nd,h,hl=>by
  rw[a9] at nd;have nr:=ar.mp nd;show(WV B (c.set y.2.1 _))[x.2.1]?=_;rcases aa.mp h with e | h
  ·subst e;rw[Qj λz hz e=>nr.1 (ah.mpr ⟨z,hz,e⟩),eM hl]
  ·exact K2 nr.2 h (by rw[bp];exact hl)
theorem Aj{W:List (List Int)}{D:List Int}{b:Nat}{s:WS}(hd:D.length=W.length)(wi:WInv (eW W) W.length b s)(wp:PInv (eW W) W.length (Zl D) s)(all:∀h,h<W.length->h∈s.F):WV s.B (aG W.length 0)=D.set b 0:=by
 have nd:(s.B.map (·.2.1)).Nodup:=by have:=wi.ndF;rw[wi.hB] at this;exact(ar.mp this).2
 have nb:∀x∈s.B,x.2.1≠b:=λx hx e=>by have:=wi.ndF;rw[wi.hB] at this;exact(ar.mp this).1 (ah.mpr ⟨x,hx,e⟩)
 apply fM;intro h;by_cases hh:h<W.length
 ·by_cases e:h=b
  ·subst e;rw[Qj nb,eM (by omega),b7,oA hh]
  ·have hF:=all h hh;rw[wi.hB] at hF;rcases aa.mp hF with z | z
   ·exact absurd z e
   ·obtain⟨x,hx,ex⟩:=ah.mp z;have ex:x.2.1=h:=ex;subst ex;rw[K2 nd hx (by rw[bJ];exact hh),fJ (λz=>e z.symm),wp.bur x hx];have hl:x.2.1<D.length:=by omega
    rw[aE hl];unfold Zl;rw[aI,aE hl];simp
 ·rw[cK (by rw[Qi,bJ];omega),cK (by rw[bp];omega)]
end PW
namespace PW
open L2 VL
structure SInv(m:Nat)(A E:Mt)(d:Int)(p:Nat):Prop where
 dp:0<d
 off:∀i j,p<=i->i<m->p<=j->j<m->i≠j->E i j<=0
 row:∀i,p<=i->i<m->0<=sN m λj=>if j<p then 0 else E i j
 dia:∀i,p<=i->i<m->E i i<=d*A i i
theorem SInv.piv{m p:Nat}{A E:Mt}{d:Int}(S:SInv m A E d p)(hp:p<m):0<=E p p:=by
 have h:=S.row p (aT p) hp;have e:=Yy (n:=m) (f:=λj=>if j=p then E p p else 0) hp λi _ ne=>oB ne
 have l:=YF (n:=m) (f:=λj=>(if j=p then E p p else 0)+(-1)*(if j<p then 0 else E p j)) λj hj=>by
  by_cases q:j=p
  ·subst q;rw[oA rfl,oB (by omega)];omega
  ·rw[oB q];split
   ·omega
   ·have:=S.off p j (aT p) hp (by omega) hj (λz=>q z.symm);omega
 rw[YL,ZP,e,oA rfl] at l;omega
theorem SInv.step{m p:Nat}{A X E:Mt}{d:Int}(ok:BOk m A X)(hp:p<m)(I:Zbq m A X p E d)(S:SInv m A E d p):SInv m A (λi j=>if i=p then E i j else(E p p*E i j-E i p*E p j).fdiv d) (E p p) (p+1):=by
 obtain⟨I2,dv⟩:=Rj ok hp I;have pp:0<E p p:=by have:=S.piv hp;have:=I2.nz;omega
 have dp:=S.dp;have ev:∀i j,p+1<=i->i<m->j<m->d*(if i=p then E i j else(E p p*E i j-E i p*E p j).fdiv d)=E p p*E i j-E i p*E p j:=λi j h1 h2 h3=>by obtain⟨q,e⟩:=dv i j h2 (by omega) (by omega);rw[oB (by omega),e,gp _ (by omega)]
 have pr:∀i j,p+1<=i->i<m->p+1<=j->j<m->0<=E i p*E p j:=λi j h1 h2 h3 h4=>
  Int.mul_nonneg_of_nonpos_of_nonpos (S.off i p (by omega) h2 (aT p) hp (by omega)) (S.off p j (aT p) hp (by omega) h4 (by omega))
 refine⟨pp,λi j h1 h2 h3 h4 ne=>?_,λi h1 h2=>?_,λi h1 h2=>?_⟩
 ·refine g6 (a:=d) ?_ dp;rw[ev i j h1 h2 h4,da];have:=Int.mul_nonpos_of_nonneg_of_nonpos (kX pp) (S.off i j (by omega) h2 (by omega) h4 ne);have:=pr i j h1 h2 h3 h4;omega
 ·refine g6 (a:=d) ?_ dp;rw[da,<-ZP]
  have e:(sN m λj=>d*(if j<p+1 then 0 else if i=p then E i j else(E p p*E i j-E i p*E p j).fdiv d))=sN m λj=>E p p*(if j<p then 0 else E i j)+(- E i p)*(if j<p then 0 else E p j):=Zq λj hj=>by
   by_cases q:j<p
   ·rw[oA (by omega),oA q,oA q];simp
   ·rw[oB q,oB q];by_cases q2:j=p
    ·subst q2;rw[oA (by omega),ck,cM (E i j)];omega
    ·rw[oB (by omega),ev i j h1 h2 hj,ck];omega
  rw[e,YL,ZP,ZP];have:=du (kX pp) (S.row i (by omega) h2);have:=du (a:=- E i p) (by have:=S.off i p (by omega) h2 (aT p) hp (by omega);omega) (S.row p (aT p) hp);omega
 ·refine g6 (a:=d) ?_ dp;rw[ev i i h1 h2 h2];have:=pr i i h1 h2 h1 h2;have:=dw (S.dia i (by omega) h2) (kX pp);rw[fO] at this;omega
def prN(A:Mt):Nat->Int
 | 0=>1
 | p+1=>prN A p*A p p
theorem Ak{m:Nat}{A X:Mt}(ok:BOk m A X)(o:∀i j,i<m->j<m->i≠j->A i j<=0)(r:∀i,i<m->0<=sN m (A i))(a:∀i,i<m->0<=A i i):∀{p:Nat},p<=m->SInv m A (Xx m X p).1 (Xx m X p).2 p/\(Xx m X p).2<=prN A p
 | 0,_=>⟨⟨by show(0:Int)<1;decide,λi j _ hi _ hj ne=>by show X i j<=0;rw[ok.ext i j hi hj];exact o i j hi hj ne,λi _ hi=>by
   rw[Zq (g:=A i) λj hj=>by rw[oB (by omega)];exact ok.ext i j hi hj];exact r i hi,λi _ hi=>by show X i i<=1*A i i;rw[ok.ext i i hi hi];omega⟩,bq _⟩
 | p+1,h=>by obtain⟨S,l⟩:=Ak ok o r a (p:=p) (by omega);refine⟨S.step ok (by omega) (XN ok (by omega)),?_⟩;have h1:=S.dia p (aT p) (by omega);exact iP h1 (dk l (a p (by omega)))
def mxP:Nat->Nat->Nat
 | 0,_=>1
 | m+1,s=>(aF (s+1)).foldl (λa x=>max a (x*mxP m (s-x))) 0
theorem Zc4{f:Nat->Nat}:∀(l:List Nat)(a:Nat),a<=l.foldl (λa x=>max a (f x)) a/\∀x∈l,f x<=l.foldl (λa x=>max a (f x)) a
 | [],a=>⟨aT _,by simp⟩
 | y::l,a=>by
  obtain⟨h1,h2⟩:=Zc4 (f:=f) l (max a (f y));refine⟨bg (Nat.le_max_left _ _) h1,λx hx=>?_⟩;rcases aa.mp hx with rfl | hx
  ·exact bg (Nat.le_max_right _ _) h1
  ·exact h2 x hx
theorem Al{A:Mt}:∀{m s:Nat},(∀i,i<m->0<=A i i)->sN m (λi=>A i i)<=(s:Int)->prN A m<=(mxP m s:Int)
 | 0,s,_,_=>bq _
 | m+1,s,h0,h=>by
  have a0:=h0 m (by omega);have r0:=YF (n:=m) (f:=λi=>A i i) λi hi=>h0 i (by omega);have h:sN m (λi=>A i i)+A m m<=(s:Int):=h;obtain⟨x,hx⟩:∃x:Nat,A m m=(x:Int):=⟨(A m m).toNat,by omega⟩;have ih:=Al (A:=A) (m:=m) (s:=s-x) (λi hi=>h0 i (by omega)) (by omega);have g:=(Zc4 (f:=λx=>x*mxP m (s-x)) (aF (s+1)) 0).2 x (aY.mpr (by omega));have g:x*mxP m (s-x)<=mxP (m+1) s:=g;have e:=dk ih (show(0:Int)<=(x:Int) by omega);show prN A m*A m m<=_;rw[hx];refine iP e ?_;rw[cM]
  exact_mod_cast g
theorem Zff:∀n,n<=6->mxP n (if n<=3 then 15 else 2*n+3)<=300:=by decide +kernel
theorem GN(i:Nat):X8 0 i=i+1:=by unfold X8;rw[oB (by omega)]
theorem Am{W:List (List Int)}(ok:Zt W)(cn:WT W)(h2:2<=W.length):1<=(Zz W 0).sum:=by
 have hp:=ok.pos;rw[Oi ok hp,Qb];refine fC λh=>?_;have h:¬1<=sN W.length (Z1 W 0):=h
 have z:∀j,j<W.length->Z1 W 0 j=0:=λj hj=>by
  have e:=Yy (n:=W.length) (f:=λi=>if i=j then Z1 W 0 j else 0) hj λi _ ne=>oB ne
  have l:=YF (n:=W.length) (f:=λi=>Z1 W 0 i+(-1)*(if i=j then Z1 W 0 j else 0)) λi hi=>by
   have:=ok.lo 0 i hp hi;split
   ·rename_i q;subst q;omega
   ·omega
  rw[YL,ZP,e,oA rfl] at l;have:=ok.lo 0 j hp hj;omega
 have:=(cn (· = 0) (λa b ha hb h0=>⟨λq=>by rw[q,z b hb] at h0;omega,λq=>by rw[q,ok.sym a 0 ha hp,z a ha] at h0;omega⟩) 1 0 (by omega) hp).mpr rfl;omega
theorem An{W:List (List Int)}(ok:Zt W)(cn:WT W)(h2:2<=W.length):sN (W.length-1) (λi=>Xi W 0 i i)<=2*((eW W).length:Int)-1:=by
 have h0:=Am ok cn h2;have t:=BS ok;rw[<-Rl,Qb] at t;have e:=GC (m:=W.length-1) (b:=0) (f:=λh=>if h=0 then 0 else(Zz W h).sum) (oA rfl) (by omega);rw[show W.length-1+1=W.length by omega] at e
 have e2:sN (W.length-1) (λi=>Xi W 0 i i)=sN W.length λh=>if h=0 then 0 else(Zz W h).sum:=by
  rw[e];exact Zq λi _=>by unfold Xi;rw[oA rfl,GN,oB (by omega)]
 have e3:=Yy (n:=W.length) (f:=λh=>if h=0 then(Zz W 0).sum else 0) (k:=0) ok.pos λi _ ne=>oB ne
 have e4:sN W.length (λh=>(Zz W h).sum)=sN W.length (λh=>(if h=0 then 0 else(Zz W h).sum)+if h=0 then(Zz W 0).sum else 0):=Zq λi _=>by
  split
  ·rename_i q;rw[q];omega
  ·omega
 rw[e4,YL,e3,oA rfl] at t;omega
theorem Ao{W:List (List Int)}(ok:Zt W)(cn:WT W)(h8:(eW W).length<=8)(h5:4<W.length->(eW W).length<=W.length+1):∃d:Int,UW [wP W]=aA (.int d)/\d<=300:=by
 have hp:=ok.pos;have hf:=ok.few;obtain⟨m,hm⟩:∃m,W.length=m+1:=⟨W.length-1,by omega⟩;have hm1:W.length-1=m:=by omega
 have bk:=KY ok cn (b:=0) hp (λ_=>0);have sq:=V4 ok (b:=0) hp;rw[hm1] at bk sq;have ent0:∀i j,i<m->j<m->0<=Z1 W (X8 0 i) (X8 0 j):=λi j hi hj=>ok.lo _ _ (by rw[hm];exact Wu hi) (by rw[hm];exact Wu hj);have dia:∀i,i<m->0<=Xi W 0 i i:=λi hi=>by unfold Xi;rw[oA rfl];exact Rh (Gy ok (by rw[hm];exact Wu hi))
 obtain⟨_,le⟩:=Ak bk (λi j hi hj ne=>by
  unfold Xi;rw[GN,GN,oB (by omega)];have:=ent0 i j hi hj;rw[GN,GN] at this
  omega) (λi hi=>by
  have g:=GD ok hp (Y:=λh=>if h=0 then 0 else 1) (oA rfl) (k:=i) (by omega);rw[hm1,Zq (g:=Xi W 0 i) λj _=>by rw[GN,oB (by omega),j7]] at g
  have:0<=sN W.length λh=>(-1)*(Z1 W (X8 0 i) h*((if h=0 then 0 else 1)-(if X8 0 i=0 then 0 else 1))):=YF λh hh=>by
   have:=ok.lo (X8 0 i) h (by rw[hm];exact Wu hi) hh;rw[GN] at this ⊢;rw[oB (show ¬i+1=0 by omega)];split
   ·rw[Int.zero_sub,md,j7];omega
   ·simp
  rw[ZP] at this;have g:(sN W.length λh=>Z1 W (X8 0 i) h*((if h=0 then(0:Int) else 1)-(if X8 0 i=0 then 0 else 1))) = - sN m (Xi W 0 i):=g;omega) dia (aT m)
 have ex:Wy m m (Xi W 0)=Wy m m (XQ W 0 λ_=>0):=by
  unfold Wy Z0;exact ao λi hi=>ao λj hj=>by unfold XQ;rw[oA (by have:=aY.mp hj;omega)]
 have ev:=Ls (w:=m) (R:=wP (Wy m m (Xi W 0))) (by omega) (by omega) (by omega) bk (λi j hi hj=>Lv ok (by omega) (by omega)) (λi hi=>by unfold XQ;rw[oB (by omega)];exact cj _) (.inr (by rw[ex];rfl));refine⟨_,?_,iP le ?_⟩
 ·have hd:V8 [wP (Wy m m (Xi W 0))]=aA (.int (Xx m (XQ W 0 λ_=>0) m).2):=by
   show Ya 1 V7 _=_;unfold V7;show(ZN _ [aA (wP (Wy m m (Xi W 0)))]).bind Xl=_
   rw[Ra (vP (by
    rw[show Zg ZC (Zc WH [Za 0]) (eC (.int 0)) [aA (wP (Wy m m (Xi W 0)))]=(WH [wP (Wy m m (Xi W 0))]).bind λx=>ZC x (.int 0) from rfl,ev];rfl))]
   rfl
  have hs:V1 [wP W]=aA (wP (Wy m m (Xi W 0))):=by show Ya 1 TM _=_;unfold TM;show(ZN _ [aA (wP W)]).bind Xl=_;rw[Ra (v:=wP (Wy m m (Xi W 0))) sq];rfl
  show Ya 1 UU _=_;unfold UU;show(ZN _ [aA (wP W)]).bind Xl=_
  rw[Ra (by
   rw[Yb,Zw,show Zc V1 [Za 0] [aA (wP W)]=aA (wP (Wy m m (Xi W 0))) from hs];exact hd)]
  rfl
 ·have mf:=Zff m (by omega);by_cases q:m=0
  ·subst q;exact iP (bq 1) (by decide)
  ·have ds:=An ok cn (by omega);rw[hm1] at ds
   have:=Al (s:=if m<=3 then 15 else 2*m+3) dia (by
    split
    ·omega
    ·have:=h5 (by omega);omega)
   omega
end PW
namespace PW
open PySem L2 VL VX
section
variable {f g h k l:XE} {s s1:ZL} {a b c d e v r:PV} {i m:Nat} {F G:XS} {x y:XT} {o:Option Out} {p:Bool} {D:List PV->Option PV} {R:Option PV} {ls:List PV}
theorem WW(q:F (Z2 m ls)=aA (.rt v)):Ya m F ls=aA v:=by show(F (Z2 m ls)).bind Xl=_;rw[q];rfl
theorem Zhf(q:F (Z2 m ls)=aA (.nx s)):Ya m F ls=aA .non:=by show(F (Z2 m ls)).bind Xl=_;rw[q];rfl
theorem sq(q:F s=aA (.nx s1))(w:G s1=o):Zj F G s=o:=(Yz q).trans w
theorem Z6(q:f s=aA v):Zk i f s=aA (.nx (s.set i (aA v))):=by rw[ZE,q];rfl
theorem ep(q:f s=aA v)(w:ZH v=aD:=by rfl):eP f s=aA v:=by rw[Vm,q,aO,oA w]
theorem epp{l:List Int}(q:f s=aA (pP l)):eP f s=aA (pP l):=ep q (Y7 _)
theorem c1(q:f s=aA a)(w:D [a]=R):Zc D [f] s=R:=by show((f s).bind λx=>aA [x]).bind D=_;rw[q];exact w
theorem c2(q:f s=aA a)(q2:g s=aA b)(w:D [a,b]=R):Zc D [f,g] s=R:=by rw[Yb,Zw,q,Zw,q2];exact w
theorem c3(q:f s=aA a)(q2:g s=aA b)(q3:h s=aA c)(w:D [a,b,c]=R):Zc D [f,g,h] s=R:=by rw[Yb,Zw,q,Zw,q2,Zw,q3];exact w
theorem c4(q:f s=aA a)(q2:g s=aA b)(q3:h s=aA c)(q4:k s=aA d)(w:D [a,b,c,d]=R):Zc D [f,g,h,k] s=R:=by rw[Yb,Zw,q,Zw,q2,Zw,q3,Zw,q4];exact w
theorem c5(q:f s=aA a)(q2:g s=aA b)(q3:h s=aA c)(q4:k s=aA d)(q5:l s=aA e)(w:D [a,b,c,d,e]=R):Zc D [f,g,h,k,l] s=R:=by rw[Yb,Zw,q,Zw,q2,Zw,q3,Zw,q4,Zw,q5];exact w
theorem o2{op:PV->PV->Option PV}(q:f s=aA a)(q2:g s=aA b)(w:op a b=R):Zg op f g s=R:=by rw[UK,q,q2];exact w
theorem xb(q:f s=aA (.bl p)):xB f s=aA p:=by rw[O4,q];rfl
theorem xn(q:x s=aA p):Js x s=aA !p:=by rw[CS,q];rfl
theorem xo{p2:Bool}(q:x s=aA p)(q2:y s=aA p2):Cr x y s=aA (p || p2):=by
 rw[Zaq,q];cases p
 ·exact q2
 ·rfl
theorem ea{p2:Bool}(q:f s=aA (.bl p))(q2:g s=aA (.bl p2)):Mo f g s=aA (.bl (p&&p2)):=by
 rw[JI,xb q];cases p
 ·rfl
 ·exact q2
theorem gof(q:x s=aA aC):Sn x F Yk s=aA (.nx s):=by rw[UM,q];rfl
theorem ret(q:f s=aA v):ZN f s=aA (.rt v):=Ra q
theorem neq{l:List Int}(q:f s=aA (pP l))(q2:g s=aA (pP l)):xB (Zg (Xv aD) f g) s=aA aC:=xb (o2 q q2 (by rw[Hy];simp))
theorem eqt{l:List Int}(q:f s=aA (pP l))(q2:g s=aA (pP l)):Zg (Xv aC) f g s=aA (.bl aD):=o2 q q2 (by rw[Hy];simp)
theorem Ap{w:PV}(q:f s=aA w):sEx f s=aA (.nx s):=by show(f s).map _=_;rw[q];rfl
end
theorem Zhi(R:List Int)(L:List (List Int))(neg:Bool):X4 neg (pP R) (.lst (L.map pP))=aA (.bl (if neg then !decide (R∈L) else decide (R∈L))):=by
 unfold X4;have c:((L.map pP).all λz=>Wd 8 z (pP R))=aD:=by rw[jJ,bO];intro x _;exact Fx 6 x R
 show(aA (L.map pP)).bind _=_;simp only[aO,oA c]
 have:decide (pP R∈L.map pP)=decide (R∈L):=decide_eq_decide.mpr (by
  rw[ah];exact⟨λ⟨x,hx,e⟩=>by rw[<-pP_inj.mp e];exact hx,λh=>⟨R,h,rfl⟩⟩)
 rw[this]
theorem Zb4{f g:XE}{s:ZL}{l:List Int}{k:Nat}(hf:f s=aA (pP l))(hg:g s=aA (.int (k:Int)))(h:k<l.length):P6 XD f Mi (QD g) s=aA (pP (l.take k)):=by rw[Fv,hf];simp only[aO,Fw];unfold QD;rw[hg];simp only[aO];unfold XD;simp only[];rw[oB,BW];rw[HT.sIx_none,HT.sIx_nat,aK];omega
theorem Zb5{f g:XE}{s:ZL}{l:List Int}{k:Nat}(hf:f s=aA (pP l))(hg:g s=aA (.int (k:Int)))(h:k<l.length):P6 XD f (QD (Zg Yi g (eC (.int 1)))) Mi s=aA (pP (l.drop (k+1))):=by
 have hg:Zg Yi g (eC (.int 1)) s=aA (.int ((k+1:Nat):Int)):=by rw[UK,hg];rfl
 rw[Fv,hf];simp only[aO,Fw];unfold QD;rw[hg];simp only[aO];unfold XD;simp only[];rw[oB,BX];rw[HT.sIx_none,HT.sIx_nat,aK];omega
theorem K3{a b:List Int}(h:a.length+b.length<=1000):Xs (pP a) (pP b)=aA (pP (a++b)):=by unfold Xs;simp only[];rw[oA (by rw[aK,aK];omega),<-bR]
theorem Aq{f g h:XE}{s:ZL}{l:List Int}{k:Nat}{v:Int}(hf:f s=aA (pP l))(hg:g s=aA (.int (k:Int)))(hh:h s=aA (.int v))(hk:k<l.length)(hl:l.length<=900) :
  eP (Zg Xs (Zg Xs (P6 XD f Mi (QD g)) (Yp [h])) (P6 XD f (QD (Zg Yi g (eC (.int 1)))) Mi)) s=aA (pP (l.set k v)):=by
 refine epp (o2 (o2 (Zb4 hf hg hk) (b:=pP [v]) ?_ (K3 (by rw[bT,bz];omega))) (Zb5 hf hg hk) ?_)
 ·rw[JH,Zw,hh];rfl
 ·rw[K3 (by rw[ag,bT,br,bz];omega),Zbh v hk]
end PW
namespace PC
open PySem L2 VL PW
theorem Zis(c:Int):∃v:Int,1<=v/\v<=9/\Td [PV.int 1,PV.int 1,PV.int 1,PV.int 2,PV.int 3] (c%5)=aA (.int v):=by
 have h:c%5=0\/c%5=1\/c%5=2\/c%5=3\/c%5=4:=by omega
 rcases h with h | h | h | h | h<;>rw[h]
 ·exact⟨1,by decide,by decide,rfl⟩
 ·exact⟨1,by decide,by decide,rfl⟩
 ·exact⟨1,by decide,by decide,rfl⟩
 ·exact⟨2,by decide,by decide,rfl⟩
 ·exact⟨3,by decide,by decide,rfl⟩
theorem Zit(c:Int):∃v:Int,0<=v/\v<=9/\Td [PV.int 0,PV.int 1,PV.int 0,PV.int 1,PV.int 2] (c%5)=aA (.int v):=by
 have h:c%5=0\/c%5=1\/c%5=2\/c%5=3\/c%5=4:=by omega
 rcases h with h | h | h | h | h<;>rw[h]
 ·exact⟨0,by decide,by decide,rfl⟩
 ·exact⟨1,by decide,by decide,rfl⟩
 ·exact⟨0,by decide,by decide,rfl⟩
 ·exact⟨1,by decide,by decide,rfl⟩
 ·exact⟨2,by decide,by decide,rfl⟩
noncomputable def Uu(ns:List Int)(Yh n:Nat)(first:Int)(ts:List Xb)(o5:Int)(x6 x7 x8 x9 x10 x11:Option Int):ZL:=
 [aA (.cst (iL ns)),aA (.int (Yh:Int)),aA (.int (n:Int)),aA (.int first),aA (.int o5),aA (dP ts),x6.map PV.int,x7.map PV.int,x8.map PV.int,x9.map PV.int,x10.map PV.int,x11.map PV.int]
def bT1:XS:=(Zj (Zk 7 (Zc YH [Za 0,Zg Yi (Za 1) (Za 6)]))
  (Zj (Zk 8 (eP (Zc Tj [Zg ZC (Xc [eC (.int 1),eC (.int 1),eC (.int 1),eC (.int 2),eC (.int 3)]) (Zg Wa (Zg WA (Za 7) (Za 6)) (eC (.int 5))),Zg X3 (Za 4) (Zg X3 (Zg X3 (Za 2) (eC (.int 1))) (Za 6))])))
  (Zj (VL.sDPut 5 (Yp [Zg Wa (Za 7) (Za 6),Za 6]) (Za 8))
  (Zk 4 (eP (Zg X3 (Za 4) (Za 8)))))))
theorem Zfg{ns:List Int}{Yh n:Nat}{first:Int}{ts:List Xb}{o5:Int}{x7 x8 x9 x10 x11:Option Int}{h:Nat}(hns:ns.length<=63)(ok:DictOk n ts)(hl:ts.length<=1000)(h1:1<=h)(hh:h<n)(hn:n<=7)(hr:(n:Int)-(h:Int)<=o5) :
  ∃ts' o7 y7 y8,bT1 (Uu ns Yh n first ts o5 (aA (h:Int)) x7 x8 x9 x10 x11)=aA (.nx (Uu ns Yh n first ts' o7 (aA (h:Int)) (aA y7) (aA y8) x9 x10 x11))/\DictOk n ts'/\ts'.length<=ts.length+1/\(n:Int)-((h:Int)+1)<=o7/\Ext ts ts'/\Y2 ts'+o7<=Y2 ts+o5/\∃c,c<h/\Gj ts' c h:=by
 have q:=Sj hns (Yh+h);generalize Zl ns (Yh+h)=c at q;obtain⟨v,v1,v9,ev⟩:=Zis (c/(h:Int));have hp:(0:Int)<(h:Int):=by omega
 generalize hd:(if o5-((n:Int)-1-(h:Int))<v then o5-((n:Int)-1-(h:Int)) else v)=dp;have d1:1<=dp/\dp<=9/\dp<=o5-((n:Int)-1-(h:Int)):=by rw[<-hd];split<;>omega
 have m0:=gA c (show(h:Int)≠0 by omega);have m1:=fm c hp;obtain⟨ts2,pe,ok2,hle2,hh2,hx2,hs2⟩:=R7 (a:=(c%(h:Int)).toNat) (b:=h) (t:=dp) ok (by omega) hh d1.1 d1.2.1 (by omega);rw[show(((c%(h:Int)).toNat:Nat):Int)=c%(h:Int) by omega] at pe;refine⟨ts2,o5-dp,c,dp,sq (s1:=Uu ns Yh n first ts o5 (aA (h:Int)) (aA c) x8 x9 x10 x11) (Z6 (c2 (b:=.int ((Yh+h:Nat):Int)) rfl rfl q)) (sq (s1:=Uu ns Yh n first ts o5 (aA (h:Int)) (aA c) (aA dp) x9 x10 x11) (Z6 (ep ?_)) (sq (s1:=Uu ns Yh n first ts2 o5 (aA (h:Int)) (aA c) (aA dp) x9 x10 x11) ?_ (Z6 (ep rfl)))),ok2,hle2,by omega,hx2,by omega,(c%(h:Int)).toNat,by omega,hh2⟩
 ·simp[Uu,Tw (i:=c) hp (by omega),ev,hd]
 ·exact R8 (v:=.int dp) (k:=.tup [.int (c%(h:Int)),.int (h:Int)]) (d:=dP ts) rfl (by simp[Uu,show 0<h by omega]) rfl pe
def bT2:XS:=(Zj (Zk 8 (eP (Zg ZC (Xc [eC (.int 0),eC (.int 1),eC (.int 0),eC (.int 1),eC (.int 2)]) (Zg Wa (Zc YH [Za 0,Za 9]) (eC (.int 5))))))
  (Zj (Zk 9 (eP (Zg Yi (Za 9) (eC (.int 1)))))
  (Sn (V5 (xB (Hu aD (Yp [Za 10,Za 11]) (Za 5))) (xB (eCh oLt oLe (eC (.int 0)) (Za 8) (Za 4)))) (Zj (VL.sDPut 5 (Yp [Za 10,Za 11]) (Za 8))
  (Zk 4 (eP (Zg X3 (Za 4) (Za 8))))) Yk)))
theorem Zfh{ns:List Int}{Yh n:Nat}{first:Int}{ts:List Xb}{o5:Int}{x6 x7 x8:Option Int}{k a b:Nat}(hns:ns.length<=63)(ok:DictOk n ts)(hl:ts.length<=1000)(hab:a<b)(hb:b<n) :
  ∃ts' o7 y8,bT2 (Uu ns Yh n first ts o5 x6 x7 x8 (aA (k:Int)) (aA (a:Int)) (aA (b:Int)))=aA (.nx (Uu ns Yh n first ts' o7 x6 x7 (aA y8) (aA ((k+1:Nat):Int)) (aA (a:Int)) (aA (b:Int))))/\DictOk n ts'/\ts'.length<=ts.length+1/\Ext ts ts'/\(0<=o5->0<=o7/\Y2 ts'+o7<=Y2 ts+o5):=by
 obtain⟨v,v0,v9,ev⟩:=Zit (Zl ns k);obtain⟨cc,ec⟩:=Ze9 ts (a:Int) (b:Int);have t1:xB (Hu aD (Yp [Za 10,Za 11]) (Za 5)) (Uu ns Yh n first ts o5 x6 x7 (aA v) (aA ((k+1:Nat):Int)) (aA (a:Int)) (aA (b:Int)))=aA !cc:=by simp[Uu,Hu,ec]
 have t2:xB (eCh oLt oLe (eC (.int 0)) (Za 8) (Za 4)) (Uu ns Yh n first ts o5 x6 x7 (aA v) (aA ((k+1:Nat):Int)) (aA (a:Int)) (aA (b:Int)))=aA (decide (0<v)&&decide (v<=o5)):=by by_cases hv:0<v<;>simp[Uu,eCh,hv]
 have go:∀{ts' o7},Sn (V5 (xB (Hu aD (Yp [Za 10,Za 11]) (Za 5))) (xB (eCh oLt oLe (eC (.int 0)) (Za 8) (Za 4)))) (Zj (VL.sDPut 5 (Yp [Za 10,Za 11]) (Za 8)) (Zk 4 (eP (Zg X3 (Za 4) (Za 8))))) Yk (Uu ns Yh n first ts o5 x6 x7 (aA v) (aA ((k+1:Nat):Int)) (aA (a:Int)) (aA (b:Int)))=aA (.nx (Uu ns Yh n first ts' o7 x6 x7 (aA v) (aA ((k+1:Nat):Int)) (aA (a:Int)) (aA (b:Int))))->bT2 (Uu ns Yh n first ts o5 x6 x7 x8 (aA (k:Int)) (aA (a:Int)) (aA (b:Int)))=aA (.nx (Uu ns Yh n first ts' o7 x6 x7 (aA v) (aA ((k+1:Nat):Int)) (aA (a:Int)) (aA (b:Int)))):=λq=>
  sq (Z6 (ep (o2 rfl (vC (C:=λ_ j=>0<j) (op:=(· % ·)) (c2 rfl rfl (Sj hns k)) rfl (by decide)) ev))) (sq (Z6 (ep rfl)) q)
 rw[UM,O5,t1,t2] at go;by_cases q:cc=aC/\0<v/\v<=o5
 ·obtain⟨rfl,hv,hvr⟩:=q;obtain⟨ts2,pe,ok2,hle2,_,hx2,hs2⟩:=R7 (t:=v) ok hab hb (by omega) v9 (by omega);refine⟨ts2,o5-v,v,go ?_,ok2,hle2,hx2,λ_=>⟨by omega,by omega⟩⟩;rw[decide_eq_true hv,decide_eq_true hvr];exact sq (R8 (v:=.int v) (k:=.tup [.int (a:Int),.int (b:Int)]) (d:=dP ts) rfl rfl rfl pe) (Z6 (ep rfl))
 ·refine⟨ts,o5,v,go ?_,ok,by omega,Ext.refl ts,λh=>⟨h,bq _⟩⟩
  cases cc with
  | true=>rfl
  | false=>
   have:(decide (0<v)&&decide (v<=o5))=aC:=by
    by_cases a1:0<v
    ·by_cases a2:v<=o5
     ·exact absurd ⟨rfl,a1,a2⟩ q
     ·simp[a2]
    ·simp[a1]
   simp only[nS,aO,if_true,this];rfl
def roomN(n:Nat):Int:=if 4<n then(n:Int)+1 else 8
theorem times_eq{ns:List Int}{Yh n:Nat}(hns:ns.length<=63)(h1:1<=n)(hn:n<=7):∃ts,SR [.cst (iL ns),.int (Yh:Int),.int (n:Int)]=aA (dP ts)/\DictOk n ts/\Hang n ts/\Y2 ts<=roomN n:=by
 have hR:(n:Int)+1<=roomN n/\roomN n<=8:=by unfold roomN;split<;>omega
 generalize hRd:roomN n=R at *;generalize hf:Zl ns Yh=first
 have hcell:YH [.cst (iL ns),.int (Yh:Int)]=aA (.int first):=by rw[<-hf];exact Sj hns Yh
 obtain⟨r,er,alt⟩:=NQ (n:=n) (most:=9) (Zu:=first/2) (o5:=R) (by omega) (by omega) hn h1;have cd2:Rx first 2:=Tw (by omega) (by omega)
 have g4:∀{s:ZL},Za 2 s=aA (.int (n:Int))->Zc Sw [Zg MV (Za 2) (eC (.int 4))] s=aA (.int (if 4<n then 1 else 0)):=λh=>c1 (o2 h rfl rfl) (by
  show aA (PV.int (if decide ((n:Int)>4)=aD then 1 else 0))=_;by_cases q:4<n
  ·rw[oA q,decide_eq_true (show(n:Int)>4 by omega)];rfl
  ·rw[oB q,decide_eq_false (show ¬(n:Int)>4 by omega)];rfl)
 let s3:Option PV->ZL:=λx=>[aA (.cst (iL ns)),aA (.int (Yh:Int)),aA (.int (n:Int)),aA (.int first),x,aB,aB,aB,aB,aB,aB,aB];have a1:Zk 3 (Zc YH [Za 0,Za 1]) (Z2 12 [.cst (iL ns),.int (Yh:Int),.int (n:Int)])=aA (.nx (s3 aB)):=Z6 (c2 rfl rfl hcell);have a2:Zk 4 (eP (Zg ZC (Xc [eC (.int 8),Zg Yi (Za 2) (eC (.int 1))]) (Zc Sw [Zg MV (Za 2) (eC (.int 4))]))) (s3 aB)=aA (.nx (s3 (aA (.int R)))):=Z6 (ep (o2 (a:=.lst [.int 8,.int ((n:Int)+1)]) rfl (g4 rfl) (by rw[<-hRd];unfold roomN;split<;>rfl)));have a3:Zc Yq [Zg WA (Za 3) (eC (.int 2)),Za 2,Za 4,eC (.int 9)] (s3 (aA (.int R)))=aA r:=c4 (vC (C:=Rx) (op:=(· / ·)) rfl rfl cd2) rfl rfl rfl er
 have a4:V5 (xB (Zg (Xv aC) (Zg Wa (Za 3) (eC (.int 2))) (eC (.int 1)))) (xB (OL aD (Zc Yq [Zg WA (Za 3) (eC (.int 2)),Za 2,Za 4,eC (.int 9)]))) (s3 (aA (.int R)))=aA (decide (first%2=1)&&!OK r):=by
  have b1:xB (Zg (Xv aC) (Zg Wa (Za 3) (eC (.int 2))) (eC (.int 1))) (s3 (aA (.int R)))=aA (decide (first%2=1)):=xb (o2 (vC (C:=λ_ j=>0<j) (op:=(· % ·)) rfl rfl (by decide)) rfl (by rw[Ke];rfl));have b2:xB (OL aD (Zc Yq [Zg WA (Za 3) (eC (.int 2)),Za 2,Za 4,eC (.int 9)])) (s3 (aA (.int R)))=aA (!OK r):=xb (by rw[CT,a3];cases r<;>rfl);rw[O5,b1,aO];cases decide (first%2=1)
  ·rfl
  ·rw[oA rfl,b2];rfl
 by_cases hc:(decide (first%2=1)&&!OK r)=aD
 ·rcases alt with rfl | ⟨ts,rfl,ok,_,hg,hsu⟩
  ·rw[ak] at hc;exact absurd hc.2 (by decide)
  ·exact⟨ts,WW (sq a1 (sq a2 (Zfc (by rw[UM,a4,hc];exact ret a3)))),ok,hg,hsu (by omega)⟩
 ·have a5:Zk 5 (eC (.dT [] [])) (s3 (aA (.int R)))=aA (.nx (Uu ns Yh n first [] R aB aB aB aB aB aB)):=rfl
  -- the first loop
  obtain⟨s1,l1,ts1,room1,y6,y7,y8,es1,ok1,hle1,hrm1,hsu1,tree⟩:=ZY (T:=.one 6) (fb:=bT1) (ls:=WE 1 (n-1)) (s:=Uu ns Yh n first [] R aB aB aB aB aB aB)
   (λi st=>∃ts o5 y6 y7 y8,st=Uu ns Yh n first ts o5 y6 y7 y8 aB aB aB/\DictOk n ts/\ts.length<=i/\(n:Int)-((i:Int)+1)<=o5/\Y2 ts+o5<=R/\∀h,1<=h->h<=i->∃c,c<h/\Gj ts c h) ⟨[],R,aB,aB,aB,rfl,DictOk.nil n,aT _,by omega,by show(0:Int)+R<=R;omega,λh h1 h2=>by omega⟩ (λi l st hl' hJ=>by
    obtain⟨hi,rfl⟩:=Tu hl';obtain⟨ts,o5,y6,y7,y8,rfl,ok,hle,hroom,hsu,tree⟩:=hJ;have z:(1:Int)+(i:Int)=((i+1:Nat):Int):=by omega
    rw[z];obtain⟨ts2,room2,z7,z8,e2,ok2,hle2,hr2,hx2,hs2,hc2⟩:=Zfg (Yh:=Yh) (first:=first) (o5:=o5) (x7:=y7) (x8:=y8) (x9:=aB) (x10:=aB) (x11:=aB) (h:=i+1) hns ok (by omega) (by omega) (by omega) hn (by omega)
    exact⟨_,_,rfl,e2,ts2,room2,aA ((i+1:Nat):Int),aA z7,aA z8,rfl,ok2,by omega,by omega,by omega,λh h1 h2=>by
     by_cases q:h<=i
     ·obtain⟨c,a,b⟩:=tree h h1 q;exact⟨c,a,hx2 _ _ b⟩
     ·have:h=i+1:=by omega
      subst this;exact hc2⟩)
  rw[Tv] at hle1 tree hrm1;have r1:Xa [eC (.int 1),Za 2] (Z5 [5] (Uu ns Yh n first [] R aB aB aB aB aB aB))=aA (WE 1 (n-1)):=by rw[Va (i:=1) (j:=(n:Int)) rfl (by simp[Z5,Uu]) ⟨by omega,by omega⟩ ⟨by omega,by omega⟩];congr 2;omega
  have f1:YR [5] (Xa [eC (.int 1),Za 2]) (.one 6) bT1 (Uu ns Yh n first [] R aB aB aB aB aB aB)=aA (.nx (Uu ns Yh n first ts1 room1 y6 y7 y8 aB aB aB)):=by rw[Y5,r1];exact l1.trans (by rw[es1])
  obtain⟨k0,e9⟩:∃k0:Nat,Zk 9 (eP (Zg Yi (Za 1) (Zg ZC (Xc [eC (.int 5),eC (.int 27)]) (Zc Sw [Zg MV (Za 2) (eC (.int 4))])))) (Uu ns Yh n first ts1 room1 y6 y7 y8 aB aB aB)=aA (.nx (Uu ns Yh n first ts1 room1 y6 y7 y8 (aA ((k0:Nat):Int)) aB aB)):=
   ⟨Yh+if 4<n then 27 else 5,Z6 (ep (o2 rfl (o2 (a:=.lst [.int 5,.int 27]) rfl (g4 rfl) (show _=aA (PV.int ((if 4<n then 27 else 5:Nat):Int)) by split<;>rfl)) rfl))⟩
  -- the second loops
  have inner:∀(a:Nat)(ts:List Xb)(o5:Int)(x8:Option Int)(k:Nat)(x11:Option Int),a<n->DictOk n ts->ts.length<=500->∃ts' o7 y8 k' y11,Xe (.one 11) bT2 (WE ((a:Int)+1) (n-(a+1))) (Uu ns Yh n first ts o5 y6 y7 x8 (aA (k:Int)) (aA (a:Int)) x11)=aA (.nx (Uu ns Yh n first ts' o7 y6 y7 y8 (aA ((k':Nat):Int)) (aA (a:Int)) y11))/\DictOk n ts'/\ts'.length<=ts.length+7/\Ext ts ts'/\(0<=o5->0<=o7/\Y2 ts'+o7<=Y2 ts+o5):=by
   intro a ts o5 x8 k x11 ha ok hl
   obtain⟨s',h,ts',o7,z8,k',z11,e,ok',hle,hx,hsu⟩:=ZY (T:=.one 11) (fb:=bT2) (ls:=WE ((a:Int)+1) (n-(a+1))) (s:=Uu ns Yh n first ts o5 y6 y7 x8 (aA (k:Int)) (aA (a:Int)) x11)
    (λj st=>∃ts' o7 z8 k' z11,st=Uu ns Yh n first ts' o7 y6 y7 z8 (aA ((k':Nat):Int)) (aA (a:Int)) z11/\DictOk n ts'/\ts'.length<=ts.length+j/\Ext ts ts'/\(0<=o5->0<=o7/\Y2 ts'+o7<=Y2 ts+o5)) ⟨ts,o5,x8,k,x11,rfl,ok,by omega,Ext.refl ts,λh=>⟨h,bq _⟩⟩ (λj l st hl' hJ=>by
     obtain⟨hj,rfl⟩:=Tu hl';obtain⟨ts',o7,z8,k',z11,rfl,ok',hle,hx,hsu⟩:=hJ;have z:(a:Int)+1+(j:Int)=((a+1+j:Nat):Int):=by omega
     rw[z];obtain⟨ts2,room2,w8,e2,ok2,hle2,hx2,hs2⟩:=Zfh (Yh:=Yh) (first:=first) (o5:=o7) (x6:=y6) (x7:=y7) (x8:=z8) (k:=k') hns ok' (by omega) (show a<a+1+j by omega) (by omega);exact⟨_,_,rfl,e2,ts2,room2,aA w8,k'+1,aA ((a+1+j:Nat):Int),rfl,ok2,by omega,hx.trans hx2,λh=>by have a1:=hsu h;have a2:=hs2 a1.1;exact⟨a2.1,by omega⟩⟩)
   rw[Tv] at hle;exact⟨ts',o7,z8,k',z11,by rw[h,e],ok',by omega,hx,hsu⟩
  obtain⟨s2,l2,ts2,room2,w8,w9,w10,w11,es2,ok2,hle2,hx2,hsu2⟩:=ZY (T:=.one 10) (fb:=YR [5] (Xa [Zg Yi (Za 10) (eC (.int 1)),Za 2]) (.one 11) bT2) (ls:=WD n) (s:=Uu ns Yh n first ts1 room1 y6 y7 y8 (aA ((k0:Nat):Int)) aB aB)
   (λi st=>∃ts o5 w8 k w10 w11,st=Uu ns Yh n first ts o5 y6 y7 w8 (aA ((k:Nat):Int)) w10 w11/\DictOk n ts/\ts.length<=7+7*i/\Ext ts1 ts/\0<=o5/\Y2 ts+o5<=R) ⟨ts1,room1,y8,k0,aB,aB,rfl,ok1,by omega,Ext.refl ts1,by omega,hsu1⟩ (λi l st hl' hJ=>by
    obtain⟨hi,rfl⟩:=Vn hl';obtain⟨ts,o5,w8,k,w10,w11,rfl,ok,hle,hx,hrm,hsu⟩:=hJ;obtain⟨ts',o7,z8,k',z11,e2,ok',hle',hx',hs'⟩:=inner i ts o5 w8 k w11 hi ok (by omega);refine⟨_,_,rfl,?_,ts',o7,z8,k',aA (i:Int),z11,rfl,ok',by omega,hx.trans hx',(hs' hrm).1,by have:=(hs' hrm).2;omega⟩;have hr:Xa [Zg Yi (Za 10) (eC (.int 1)),Za 2] (Z5 [5] (Uu ns Yh n first ts o5 y6 y7 w8 (aA (k:Int)) (aA (i:Int)) w11))=aA (WE ((i:Int)+1) (n-(i+1))):=by rw[Va (i:=(i:Int)+1) (j:=(n:Int)) (by simp[Z5,Uu]) (by simp[Z5,Uu]) ⟨by omega,by omega⟩ ⟨by omega,by omega⟩];congr 2;omega
    show YR _ _ _ _ (Uu ns Yh n first ts o5 y6 y7 w8 (aA (k:Int)) (aA (i:Int)) w11)=_;rw[Y5,hr];exact e2)
  rw[Vo] at hle2;have r2:ZQ [Za 2] (Z5 [5] (Uu ns Yh n first ts1 room1 y6 y7 y8 (aA ((k0:Nat):Int)) aB aB))=aA (WD n):=YE (by simp[Z5,Uu]) (by omega);have f2:YR [5] (ZQ [Za 2]) (.one 10) (YR [5] (Xa [Zg Yi (Za 10) (eC (.int 1)),Za 2]) (.one 11) bT2) (Uu ns Yh n first ts1 room1 y6 y7 y8 (aA ((k0:Nat):Int)) aB aB)=aA (.nx (Uu ns Yh n first ts2 room2 y6 y7 w8 (aA ((w9:Nat):Int)) w10 w11)):=by rw[Y5,r2];exact l2.trans (by rw[es2])
  have hg:Hang n ts2:=by
   have all:∀P,Cl ts2 P->∀i,i<n->(P i↔P 0):=by
    intro P hP i
    induction i using mr with
    | _ i ih=>
     intro hi;by_cases h0:i=0
     ·subst h0;exact Iff.rfl
     ·obtain⟨c,hc,hb⟩:=tree i (by omega) (by omega);exact(hP _ _ (hx2 _ _ hb)).symm.trans (ih c hc (by omega))
   exact λP hP i j hi hj=>(all P hP i hi).trans (all P hP j hj).symm
  obtain⟨ts',eR,okR,_,hgR,hsR⟩:=Ie ok2 hn (by omega) (first/7);have cd7:Rx first 7:=Tw (by omega) (by omega)
  exact⟨ts',WW (sq a1 (sq a2 (sq (gof (by rw[a4,Bool.eq_false_iff.mpr hc])) (sq a5 (sq f1 (sq e9 (sq f2 (ret (c3 rfl (vC (C:=Rx) (op:=(· / ·)) (c2 rfl rfl hcell) rfl cd7) rfl eR))))))))),okR,hgR hg,by omega⟩
end PC
namespace PW
open PySem L2 VL VX PK
theorem Md(T:List ZA):∀(g:List Nat)(P:Nat->Nat),Q7 T P g=Wt P ((g.map (Zs T)).map FY)
 | [],P=>rfl
 | t::g,P=>Md T g _
theorem Lx{E:List ZA}{k:Nat}(h:k<E.length):Zs E k∈E:=by unfold Zs;rw[aI,aE h];exact cD h
theorem Qk(g:List Nat):g=[]\/∃h x,g=h++[x]:=by
 rcases iS g with h | ⟨h,x,e⟩
 ·exact .inl h
 ·exact .inr ⟨h,x,by rw[e,gE]⟩
abbrev gP(g:List Nat):PV:=pP (nL g)
theorem DO{g:List Nat}{f:XE}{s:ZL}(v:f s=aA (gP g)):PM (xB (Zg MV (Zc ZR [f]) (eC (.int 0)))) (Zg Yi (Zg ZC f (Ju QB (eC (.int 1)))) (eC (.int 1))) (eC (.int 0)) s=aA (.int ((Y9 g:Nat):Int)):=by
 have t:xB (Zg MV (Zc ZR [f]) (eC (.int 0))) s=aA (decide (0<(g.length:Int))):=xb (o2 (a:=.int (g.length:Int)) (c1 v (by rw[O6];simp[nL])) rfl rfl);rw[UL,t];rcases Qk g with rfl | ⟨h,x,rfl⟩
 ·rfl
 ·rw[WL,decide_eq_true (show 0<((h++[x]).length:Int) by simp)];refine o2 (a:=.int (x:Int)) (b:=.int 1) (o2 v rfl ?_) rfl rfl;show Td (iL (nL (h++[x]))) (-1)=_;unfold Td;have:ML (iL (nL (h++[x]))).length (-1)=aA h.length:=by unfold ML;simp[nL];omega
  rw[this];simp[nL]
theorem Ar{W:List (List Int)}(ok:Zt W){gs:List (List Nat)}(hg:∀g∈gs,∀t∈g,t<(eW W).length)(hb:(Yu (eW W) gs).length<=1000)(hl:∀g∈gs,g.length<=100) :
  Oa [wP W,.lst ((Ys W).map pP),.lst (gs.map gP)]=aA (.lst ((Yu (eW W) gs).map gP)):=by
 have TL:(eW W).length<=441:=by rw[Rl];exact(S6 ok).2
 let st:Option PV->Option PV->Option PV->Option PV->ZL:=λx3 x4 x5 x6=>[aA (wP W),aA (.lst ((Ys W).map pP)),aA (.lst (gs.map gP)),x3,x4,x5,x6];let acc:Nat->Option PV:=λi=>aA (.lst ((Yu (eW W) (gs.take i)).map gP))
 obtain⟨s',f1,x4,x5,x6,rfl⟩:=ZY (T:=.one 4) (ls:=gs.map gP) (s:=st (acc 0) aB aB aB) (fb:=(Zj (Zk 5 (Zc V0 [Za 0,Za 1,Za 4]))
  (Zj (Zk 6 (eP (PM (xB (Zg MV (Zc ZR [Za 4]) (eC (.int 0)))) (Zg Yi (Zg ZC (Za 4) (Ju QB (eC (.int 1)))) (eC (.int 1))) (eC (.int 0)))))
  (W4 3 (Zr 1 [4,5,1] (Xa [Za 6,Zc ZR [Za 1]]) (.one 0) (xB (Zc UY [Za 2,Zg ZC (Za 3) (Za 0)])) (eP (Zg Xs (Za 1) (Yp [Za 0])))))))) (λi s=>∃x4 x5 x6,s=st (acc i) x4 x5 x6) ⟨aB,aB,aB,rfl⟩ (by
  rintro i l s hl' ⟨x4,x5,x6,rfl⟩
  obtain⟨g,hgi,rfl⟩:∃g,gs[i]?=aA g/\l=gP g:=by
   rw[aW] at hl'
   cases e:gs[i]? with
   | none=>rw[e] at hl';cases hl'
   | some g=>rw[e] at hl';cases hl';exact⟨g,rfl,rfl⟩
  have hgm:=av hgi;have hgt:=hg g hgm
  have bh:Y9 g<=(eW W).length:=by
   rcases Qk g with rfl | ⟨h,x,rfl⟩
   ·exact cj _
   ·rw[WL];have:=hgt x (by simp);omega
  have nx:Yu (eW W) (gs.take (i+1))=Yu (eW W) (gs.take i)++(Qd (eW W) g).map λt=>g++[t]:=by unfold Yu;rw[iK,hgi,jE];simp
  have pre:(Yu (eW W) (gs.take (i+1))).length<=(Yu (eW W) gs).length:=by
   have:Yu (eW W) gs=Yu (eW W) (gs.take (i+1))++Yu (eW W) (gs.drop (i+1)):=by unfold Yu;rw[<-jE,iR]
   rw[this,ag];omega
  rw[nx,ag] at pre;refine⟨_,_,rfl,sq (Z6 (c3 rfl rfl rfl (DJ ok hgt))) (sq (Z6 (ep (DO (g:=g) rfl))) (O7 (m:=(Yu (eW W) (gs.take i)).map gP) (n:=((Qd (eW W) g).map λt=>g++[t]).map gP) ?_ rfl (by simp only[aK] at pre ⊢;omega))),aA (gP g),aA (.lst (iL (IG W.length (IQ W g)))),aA (.int ((Y9 g:Nat):Int)),?_⟩
  ·rw[W5 (jc (Y9 g) ((eW W).length-Y9 g)) (λ(t:Nat)=>PV.int (t:Int)) (λt=>gP (g++[t])) (λt=>!decide (IQ W g (Zs (eW W) t).1=IQ W g (Zs (eW W) t).2)) ?_ (by simp;omega) λt ht=>?_]
   ·unfold Qd;rw[bV];have e:Q7 (eW W) id g=IQ W g:=Md _ _ _;rw[e];rfl
   ·rw[Va (i:=((Y9 g:Nat):Int)) (j:=((eW W).length:Int)) rfl (c1 rfl (by rw[CY,aK,Rl])) ⟨by omega,by omega⟩ ⟨by omega,by omega⟩];unfold WE;rw[List.range'_eq_map_range,bV,show(((eW W).length:Int)-((Y9 g:Nat):Int)).toNat=(eW W).length-Y9 g by omega];rfl
   ·have htl:t<(eW W).length:=by rw[je] at ht;omega
    obtain⟨c,hc⟩:=N9 htl;have od:=Ea _ (Lx htl);have lt:(Zs (eW W) t).1<W.length/\(Zs (eW W) t).2<W.length:=⟨by omega,od.2.1⟩;have ha:∀x,x<W.length->Td (iL (IG W.length (IQ W g))) ((x:Nat):Int)=aA (.int ((IQ W g x:Nat):Int)):=λx hx=>by rw[YT (by rw[Eb];exact hx),Ec hx]
    refine⟨[aA (.int (t:Int)),aA (gP g),aA (.lst (iL (IG W.length (IQ W g)))),aA (.lst ((Ys W).map pP))],rfl,xb (c2 (b:=pP [((Zs (eW W) t).1:Int),((Zs (eW W) t).2:Int),c]) rfl (o2 rfl rfl (VH (by rw[aW,hc];rfl))) ?_),λ_=>epp (o2 (b:=pP [(t:Int)]) rfl rfl ?_)⟩
    ·show Ya 2 UX _=_;unfold UX;refine WW (ret (ep (o2 (o2 rfl (o2 rfl rfl rfl) (ha _ lt.1)) (o2 rfl (o2 rfl rfl rfl) (ha _ lt.2)) ?_)));rw[Ke];simp;omega
    ·rw[K3 (by have:=hl g hgm;simp[nL];omega)];simp[nL]
  ·show _=st (aA (.lst ((Yu (eW W) (gs.take (i+1))).map gP))) _ _ _;rw[nx,bR];rfl)
 show Ya 7 Kt _=_;unfold Kt;refine WW (sq (s1:=st (acc 0) aB aB aB) rfl (sq f1 (ret ?_)));show acc (gs.map gP).length=_;simp[acc]
theorem bn8:∀k,k<=8->∀s,s<=6->bn k s<=300:=by decide +kernel
theorem As{W:List (List Int)}(ok:Zt W)(cn:WT W)(h8:(eW W).length<=8)(h5:4<W.length->(eW W).length<=W.length+1):RX [wP W,.int 300]=aA (.lst ((ZO (eW W) (W.length-1)).map gP)):=by
 have hp:=ok.pos;have hf:=ok.few;obtain⟨d,tc,d3⟩:=Ao ok cn h8 h5;let st:Option PV->Option PV->ZL:=λx3 x4=>[aA (wP W),aA (.int 300),aA (.lst ((Ys W).map pP)),x3,x4]
 obtain⟨s',f1,x4,rfl⟩:=ZY (T:=.one 4) (fb:=Zk 3 (Zc Oa [Za 0,Za 2,Za 3])) (ls:=WE 1 (W.length-1)) (s:=st (aA (.lst ((ZO (eW W) 0).map gP))) aB) (λi s=>∃x4,s=st (aA (.lst ((ZO (eW W) i).map gP))) x4) ⟨aB,rfl⟩ (by
  rintro i l s hl ⟨x4,rfl⟩;obtain⟨hi,rfl⟩:=Tu hl;have gg:=Us (eW W) i;refine⟨_,_,rfl,Z6 (c3 rfl rfl rfl (Ar ok (gs:=ZO (eW W) i) (λg hg t ht=>(gg g hg).1.lt t ht) ?_ λg hg=>by rw[(gg g hg).2];omega)),_,rfl⟩;show(ZO (eW W) (i+1)).length<=_;rw[S7];have:=NX (eW W) id (i+1);have:=bn8 _ h8 (i+1) (by omega);omega)
 rw[Tv] at f1;show Ya 5 RW _=_;unfold RW;refine WW (sq (gof (xb (o2 (c1 rfl tc) rfl (show aA (PV.bl (decide ((300:Int)<d)))=_ by rw[decide_eq_false (by omega)])))) (sq (Z6 (c1 rfl (S6 ok).1)) (sq (s1:=st (aA (.lst ((ZO (eW W) 0).map gP))) aB) rfl (sq (s1:=st (aA (.lst ((ZO (eW W) (W.length-1)).map gP))) x4) ?_ (ret rfl)))));rw[Y5,Va (i:=1) (j:=(W.length:Int)) rfl (c1 rfl (by rw[O6,aK])) ⟨by omega,by omega⟩ ⟨by omega,by omega⟩,show((W.length:Int)-1).toNat=W.length-1 by omega];exact f1
theorem Zhj{W:List (List Int)}:∀{g:List Nat},Gv (eW W) g->MkOk W.length (Q7 (eW W) id g) ((g.map (Zs (eW W))).map FY):=by
 have gen:∀(k:Nat)(g:List Nat),g.length=k->Gv (eW W) g->MkOk W.length (Q7 (eW W) id g) ((g.map (Zs (eW W))).map FY):=by
  intro k
  induction k with
  | zero=>
   intro g h _;rw[b8.mp h];exact MkOk.start _
  | succ k ih=>
   intro g h gv;rcases Qk g with rfl | ⟨l,t,rfl⟩
   ·simp at h
   have hl:l.length=k:=by simpa using h
   have gl:Gv (eW W) l:=⟨λx hx=>gv.lt x (au _ hx),(dz.mp gv.ris).1,λi x hx=>by
    have hi:=(aS.mp hx).1;have:=gv.btw i x (by rw[az hi];exact hx);rw[dH (by omega)] at this;exact this⟩
   have bt:=gv.btw l.length t (by simp);rw[gz rfl] at bt;have tl:=gv.lt t (by simp);have lt:=WZ _ (Lx tl);have:=(ih l hl gl).step (a:=(Zs (eW W) t).2) (b:=(Zs (eW W) t).1) lt.2 lt.1 (λz=>bt z.symm);rw[Q8,bR,bR];exact this
 exact λ{g} gv=>gen g.length g rfl gv
theorem Zb6{W:List (List Int)}(ok:Zt W){g:List Nat}(gv:Gv (eW W) g)(hl:g.length+1=W.length){q:Nat->Nat}(hq:∀t∈g,q (Zs (eW W) t).1=q (Zs (eW W) t).2):∀x,x<W.length->q x=q 0:=
 DD (Zhj gv) ok.pos (by rw[aK,aK];omega) λe he=>by obtain⟨f,hf,rfl⟩:=ah.mp he;obtain⟨t,ht,rfl⟩:=ah.mp hf;exact(hq t ht).symm
theorem Zb7{W:List (List Int)}(ok:Zt W){g:List Nat}(lt:∀t∈g,t<(eW W).length)(ris:g.Pairwise (· < ·))(hl:g.length+1=W.length)(cn:∀q:Nat->Nat,(∀t∈g,q (Zs (eW W) t).1=q (Zs (eW W) t).2)->∀x,x<W.length->q x=q 0):Gv (eW W) g:=by
 refine⟨lt,ris,λi t hi=>?_⟩;have il:=(aS.mp hi).1;have spl:g=g.take i++t::g.drop (i+1):=by have e:g[i]=t:=(aS.mp hi).2;rw[<-e,<-g0 il,iR]
 have hT:∀e∈(g.map (Zs (eW W))).map FY,e.1<W.length/\e.2<W.length:=λe he=>by obtain⟨f,hf,rfl⟩:=ah.mp he;obtain⟨u,hu,rfl⟩:=ah.mp hf;have ul:=lt u hu;have eE:=Lx (E:=(eW W)) ul;have:=WZ _ eE;exact⟨this.2,this.1⟩
 have ss:((g.map (Zs (eW W))).map FY).map FY=g.map (Zs (eW W)):=by
  rw[bV]
  conv=>rhs;rw[<-ja (g.map (Zs (eW W)))]
  exact ao λ_ _=>rfl
 have:=Zbo (n:=W.length) (T:=(g.map (Zs (eW W))).map FY) (A:=((g.take i).map (Zs (eW W))).map FY) (B:=((g.drop (i+1)).map (Zs (eW W))).map FY) (e:=FY (Zs (eW W) t)) ok.pos hT (by rw[aK,aK];omega) (by
  rw[ss]
  exact cn _ λu hu=>N1 _ (List.mem_map_of_mem hu)) (by
  conv=>lhs;rw[spl]
  simp only[bR,a9])
 rw[Md];exact λz=>this z.symm
theorem Me{T:List ZA}:∀{k:Nat}{g:List Nat},g.length=k->Gv T g->g∈ZO T k
 | 0,g,h,_=>by rw[b8.mp h];simp[ZO]
 | k+1,g,h,gv=>by
  rcases Qk g with rfl | ⟨l,t,rfl⟩
  ·simp at h
  have hl:l.length=k:=by simpa using h
  have gl:Gv T l:=⟨λx hx=>gv.lt x (au _ hx),(dz.mp gv.ris).1,λi x hx=>by
   have hi:=(aS.mp hx).1;have:=gv.btw i x (by rw[az hi];exact hx);rw[dH (by omega)] at this;exact this⟩
  have bt:=gv.btw l.length t (by simp);rw[gz rfl] at bt;have tl:=gv.lt t (by simp);show l++[t]∈Yu T (ZO T k);refine eV.mpr ⟨l,Me hl gl,ah.mpr ⟨t,?_,rfl⟩⟩;unfold Qd
  have bh:Y9 l<=t:=by
   rcases iS l with e | ⟨r,u,e⟩
   ·rw[e];exact cj _
   ·rw[e,gE,WL];have:=(dz.mp gv.ris).2.2 u (by rw[e,gE];simp) t (by simp);omega
  rw[cN,je];exact⟨⟨bh,by omega⟩,by simp only[gJ,decide_eq_false_iff_not];exact bt⟩
section
variable {E:List ZA} {n b m:Nat} {s:WS} {φ:Nat->Nat->Nat->Bool} {g:List Nat}
theorem Pk:∀{m:Nat}{s:WS}{x:Nat×Nat×Nat},x∈(ZT E φ m s).B->x∈s.B\/Z8 E s.L x.2.1+1<=x.2.2
 | 0,s,x,h=>.inl h
 | m+1,s,x,h=>by
  unfold ZT at h;split at h
  ·rename_i k hk;rcases Pk (s:=ZW E φ s k) h with z | z
   ·unfold ZW at z;split at z
    ·rcases aq.mp z with y | y
     ·exact .inl y
     ·rw[aR.mp y];exact .inr (by rw[Iu (S9 hk).2.1];exact aT _)
    ·exact .inl z
   ·rw[Pb] at z;refine .inr (bg (Nat.succ_le_succ ?_) z);unfold Z8;rw[iB,ag];omega
  ·exact .inl h
theorem Ee{D:Nat->Int}(hE:∀e∈E,e.1<n/\e.2<n):∀{m:Nat}{s:WS},WInv E n b s->(∀x∈(ZT E φ m s).B,(x.2.2:Int)=D x.2.1+1)->(∀h,h<n->h∈(ZT E φ m s).F)->ZT E (byP D) m s=ZT E φ m s
 | 0,s,_,_,_=>rfl
 | m+1,s,i,hD,all=>by
  have wF:=WInv.walk (φ:=φ) (m:=m+1) hE i;unfold ZT at hD all wF ⊢
  cases z:W8 E s.L s.F with
  | none=>rfl
  | some k=>
   rw[z] at hD all wF;simp only at hD all wF ⊢;obtain⟨k1,k2,_⟩:=Xq z;obtain⟨e1,e2,o,ho,e3⟩:=S9 z;have eE:=Lx (E:=E) k1
   have lt:ZS E s.F k<n:=by
    have:=hE _ eE;rcases e3 with y | y<;>rw[y] at this
    ·exact this.2
    ·exact this.1
   have same:ZW E (byP D) s k=ZW E φ s k:=by
    by_cases c:φ k (ZS E s.F k) (Z8 E (s.L++[k]) (ZS E s.F k))=aD
    ·have hx:(k,ZS E s.F k,Z8 E (s.L++[k]) (ZS E s.F k))∈(ZW E φ s k).B:=by unfold ZW;rw[oA c];simp
     have:=hD _ (Pc hx);simp only at this;unfold ZW;have by1:byP D k (ZS E s.F k) (Z8 E (s.L++[k]) (ZS E s.F k))=aD:=decide_eq_true (by omega);rw[oA c,oA by1]
    ·have hF:=all _ lt;rw[wF.hB] at hF;have hsB:(ZW E φ s k).B=s.B:=by unfold ZW;rw[oB c]
     rcases aa.mp hF with y | y
     ·exact absurd (y▸(by rw[i.hB];simp:b∈s.F)) e1
     ·obtain⟨x,hx,ex⟩:=ah.mp y;have ex:x.2.1=ZS E s.F k:=ex;have dx:=hD x hx;rcases Pk hx with w | w
      ·rw[hsB] at w;have hm:ZS E s.F k∈b::s.B.map (·.2.1):=aP _ (ah.mpr ⟨x,w,ex⟩);exact absurd (i.hB.symm▸hm) e1
      ·rw[Pb,ex] at w;rw[ex] at dx;unfold ZW;rw[oB c,oB];exact λq=>by have:=of_decide_eq_true q;omega
   rw[same];exact Ee hE (i.step hE z) hD all
structure TInv(E:List ZA)(g:List Nat)(s:WS):Prop where
 two:∀k∈s.L,k∈g->(Zs E k).1∈s.F/\(Zs E k).2∈s.F
 sub:∀x∈s.B,x.1∈g
theorem TInv.walk:∀{m:Nat}{s:WS},TInv E g s->TInv E g (ZT E (λk _ _=>decide (k∈g)) m s)
 | 0,s,i=>i
 | m+1,s,i=>by
  unfold ZT;split
  ·rename_i k hk;refine TInv.walk ?_;obtain⟨e1,e2,o,ho,e3⟩:=S9 hk;unfold ZW;by_cases q:k∈g
   ·rw[oA (decide_eq_true q)];refine⟨λj hj jg=>?_,λx hx=>?_⟩
    ·rcases aq.mp hj with y | y
     ·have:=i.two j y jg;exact⟨au _ this.1,au _ this.2⟩
     ·rw[aR.mp y];have ho:o∈s.F++[ZS E s.F k]:=au _ ho;have he:ZS E s.F k∈s.F++[ZS E s.F k]:=by simp
      generalize ZS E s.F k=h at e3 ho he;rcases e3 with y | y<;>rw[y]
      ·exact⟨ho,he⟩
      ·exact⟨he,ho⟩
    ·rcases aq.mp hx with y | y
     ·exact i.sub x y
     ·rw[aR.mp y];exact q
   ·rw[oB (by simpa using q)];refine⟨λj hj jg=>?_,i.sub⟩;rcases aq.mp hj with y | y
    ·exact i.two j y jg
    ·rw[aR.mp y] at jg;exact absurd jg q
  ·exact i
end
structure QInv(W:List (List Int))(s:WS):Prop where
 lk:∀k∈s.L,(Zs (eW W) k).1∈s.F\/(Zs (eW W) k).2∈s.F
 few:∀i x,s.B[i]?=aA x->(x.2.2:Int)<=ZU W x.2.1 (s.F.take (i+1))
theorem Au{W:List (List Int)}(ok:Zt W){L F:List Nat}(nd:L.Nodup)(lt:∀k∈L,k<(eW W).length)(ndF:F.Nodup)(ltF:∀h∈F,h<W.length)(lk:∀k∈L,(Zs (eW W) k).1∈F\/(Zs (eW W) k).2∈F){h:Nat}(hh:h<W.length)(hF:h∉F):(Z8 (eW W) L h:Int)<=ZU W h F:=by
 rw[<-Ma ok hh ndF λo ho=>⟨ltF o ho,λz=>hF (z▸ho)⟩]
 have sub:∀x∈L.filter (K5 (eW W) h),x∈(aF (eW W).length).filter (PD (eW W) h F):=λx hx=>by
  obtain⟨h1,h2⟩:=cN.mp hx;refine cN.mpr ⟨aY.mpr (lt x h1),?_⟩;have xl:=lt x h1;have eE:=Lx (E:=(eW W)) xl;have od:=(Ea _ eE).1;have lkx:=lk x h1;unfold K5 at h2;simp only[gy,decide_eq_true_eq] at h2;refine eU.mpr ?_;unfold GK;by_cases q:h=(Zs (eW W) x).1
  ·rcases lkx with y | y
   ·exact absurd (q▸y) hF
   ·exact⟨_,y,decide_eq_true (by rw[oA (by omega),q])⟩
  ·have q2:h=(Zs (eW W) x).2:=h2.resolve_left q;rcases lkx with y | y
   ·exact⟨_,y,decide_eq_true (by rw[oB (by omega),q2])⟩
   ·exact absurd (q2▸y) hF
 have:=Om (nd.filter _) sub;rw[jB];unfold Z8;omega
theorem QInv.walk{W:List (List Int)}(ok:Zt W){b:Nat}{φ:Nat->Nat->Nat->Bool}:∀{m:Nat}{s:WS},WInv (eW W) W.length b s->QInv W s->QInv W (ZT (eW W) φ m s)
 | 0,s,_,i=>i
 | m+1,s,wi,i=>by
  unfold ZT;split
  ·rename_i k hk;refine QInv.walk ok (wi.step WZ hk) ?_;obtain⟨k1,k2,_⟩:=Xq hk;obtain⟨e1,e2,o,ho,e3⟩:=S9 hk;have eE:=Lx (E:=(eW W)) k1
   have lt:ZS (eW W) s.F k<W.length:=by
    have:=WZ _ eE;rcases e3 with y | y<;>rw[y] at this
    ·exact this.2
    ·exact this.1
   have lk:∀j∈s.L++[k],(Zs (eW W) j).1∈s.F\/(Zs (eW W) j).2∈s.F:=λj hj=>by
    rcases aq.mp hj with y | y
    ·exact i.lk j y
    ·rw[aR.mp y];generalize ZS (eW W) s.F k=h at e3;rcases e3 with y | y<;>rw[y]
     ·exact .inl ho
     ·exact .inr ho
   unfold ZW;split
   ·refine⟨λj hj=>?_,λj x hx=>?_⟩
    ·rcases lk j hj with y | y
     ·exact .inl (au _ y)
     ·exact .inr (au _ y)
    ·have hl:s.F.length=s.B.length+1:=by rw[wi.hB];simp
     by_cases q:j<s.B.length
     ·rw[az q] at hx;rw[dH (by omega)];exact i.few j x hx
     ·have jl:=(aS.mp hx).1;rw[ag,bz] at jl;have:j=s.B.length:=by omega
      subst this;rw[bK (aT _),Nat.sub_self] at hx;have hx:=bG hx;subst hx;rw[show s.B.length+1=s.F.length from hl.symm,gz rfl];refine Au ok (Ww wi.ndL k2) (λj hj=>?_) wi.ndF wi.ltF lk lt e1;rcases aq.mp hj with y | y
      ·exact wi.ltL j y
      ·rw[aR.mp y];exact k1
   ·exact⟨lk,i.few⟩
  ·exact i
theorem QInv.start(W:List (List Int))(b:Nat):QInv W (S8 b):=⟨λk hk=>by simp[S8] at hk,λi x hx=>by simp[S8] at hx⟩
structure YJ(W:List (List Int))(b:Nat)(D:List Int):Prop where
 len:D.length=W.length
 base:Zl D b=0
 set:∃F,Settled W b D F
def stl(W:List (List Int))(b:Nat)(g:List Nat):List Int:=WV (ZT (eW W) (λk _ _=>decide (k∈g)) (eW W).length (S8 b)).B (aG W.length 0)
theorem Ql{l:List Int}{i:Nat}{v:Int}(h:l[i]?=aA v):Zl l i=v:=by unfold Zl;rw[aI,h];rfl
theorem Rr{W:List (List Int)}(ok:Zt W){b:Nat}(hb:b<W.length){g:List Nat}(gv:Gv (eW W) g)(hl:g.length+1=W.length):YJ W b (stl W b g)/\Qh W (stl W b g) b=g:=by
 unfold stl Qh Tc;generalize hs:ZT (eW W) (λk _ _=>decide (k∈g)) (eW W).length (S8 b)=s;have wi:WInv (eW W) W.length b s:=by rw[<-hs];exact WInv.walk WZ (WInv.start hb)
 have ti:TInv (eW W) g s:=by rw[<-hs];exact TInv.walk ⟨λk hk=>by simp[S8] at hk,λx hx=>by simp[S8] at hx⟩
 have qi:QInv W s:=by rw[<-hs];exact QInv.walk ok (WInv.start hb) (QInv.start W b)
 have en:W8 (eW W) s.L s.F=aB:=by rw[<-hs];exact Qe WZ (WInv.start hb) (by simp)
 have bF:b∈s.F:=by rw[wi.hB];simp
 have all:∀h,h<W.length->h∈s.F:=λh hh=>by
  have key:=Zb6 ok gv hl (q:=λx=>if x∈s.F then 1 else 0) λt ht=>by
   by_cases q:t∈s.L
   ·have:=ti.two t q ht;simp only[this.1,this.2,if_true]
   ·have:=Lr en (gv.lt t ht) q;simp only[this]
  have e1:=key h hh;have e2:=key b hb;simp only[bF,if_true] at e2;rw[<-e2] at e1;by_cases q:h∈s.F
  ·exact q
  ·simp[q] at e1
 have ndH:(s.B.map (·.2.1)).Nodup:=by have:=wi.ndF;rw[wi.hB] at this;exact(ar.mp this).2
 have nb:∀x∈s.B,x.2.1≠b:=λx hx e=>by have:=wi.ndF;rw[wi.hB] at this;exact(ar.mp this).1 (ah.mpr ⟨x,hx,e⟩)
 have ltB:∀x∈s.B,x.2.1<W.length:=λx hx=>wi.ltF _ (by rw[wi.hB];exact aP _ (ah.mpr ⟨x,hx,rfl⟩));let D:=WV s.B (aG W.length 0);have lD:D.length=W.length:=by show(WV _ _).length=_;rw[Qi,bJ]
 have vD:∀x∈s.B,(x.2.2:Int)=Zl D x.2.1+1:=λx hx=>by have:=Ql (v:=(x.2.2:Int)-1) (K2 (c:=aG W.length 0) ndH hx (by rw[bJ];exact ltB x hx));show(x.2.2:Int)=Zl (WV s.B (aG W.length 0)) x.2.1+1;rw[this];omega
 have bD:Zl D b=0:=Ql (by show(WV _ _)[b]?=_;rw[Qj nb,b7,oA hb]);have same:ZT (eW W) (byP (Zl D)) (eW W).length (S8 b)=s:=by rw[<-hs];exact Ee (b:=b) WZ (WInv.start hb) (by rw[hs];exact vD) (by rw[hs];exact all)
 have one:∀h,h<W.length->h≠b->∃(i:Nat) (x:Nat×Nat×Nat),s.B[i]?=aA x/\x.2.1=h:=λh hh hne=>by
  have:=all h hh;rw[wi.hB] at this;rcases aa.mp this with z | z
  ·exact absurd z hne
  ·obtain⟨x,hx,ex⟩:=ah.mp z;obtain⟨i,hi,e⟩:=cX hx;exact⟨i,x,by rw[aE hi,e],ex⟩
 refine⟨⟨lD,bD,?_⟩,?_⟩
 ·obtain⟨F,_,B,nx⟩:=Qf ok lD hb
  have sub:∀k,k<=s.B.length->∀h∈s.F.take (k+1),h∈F:=by
   intro k
   induction k with
   | zero=>
    intro _ h hh;rw[wi.hB] at hh;rw[show h=b by simpa using hh];exact av B.hd
   | succ k ih=>
    intro hk h hh;have ih:=ih (by omega);rw[iN] at hh;rcases aq.mp hh with z | z
    ·exact ih h z
    ·obtain⟨x,hx⟩:∃x,s.B[k]?=aA x:=⟨_,aE (by omega)⟩;have eh:h=x.2.1:=by rw[wi.hB,iG,aW,hx] at z;simpa using z
     have hlt:h<W.length:=by rw[eh];exact ltB x (av hx)
     by_cases q:h∈F
     ·exact q
     ·have n1:=Rc nx hlt q;have n2:=Qg ok hlt (wi.ndF.sublist (gG _ _)) ih B.lt;have n3:=qi.few k x hx;have n4:=vD x (av hx);rw[<-eh] at n3 n4;omega
  refine⟨F,λh hh hne=>?_,B,nx,λh hh=>?_⟩
  ·obtain⟨i,x,hx,ex⟩:=one h hh hne;have n4:=vD x (av hx);rw[ex] at n4;have:=Pk (s:=S8 b) (by rw[hs];exact av hx);rcases this with z | z
   ·simp[S8] at z
   ·show 0<=Zl D h;omega
  ·have lF:s.F.length=s.B.length+1:=by rw[wi.hB];simp
   have:=sub s.B.length (aT _) h;rw[cH (by omega)] at this;exact this (all h hh)
 ·show GH ((ZT (eW W) (byP (Zl D)) (eW W).length (S8 b)).B.map (·.1))=g;rw[same];have ln:=Ed wi all
  have pm:(s.B.map (·.1)).Perm g:=TC wi.ndB (λk hk=>by
   obtain⟨x,hx,rfl⟩:=ah.mp hk;exact ti.sub x hx) (by rw[aK];omega)
  unfold GH;have e1:nL g=Pr (nL (s.B.map λx=>x.1)):=C6 (pm.symm.map _) (eD.mpr (gv.ris.imp λh=>by omega));rw[<-e1];unfold nL;rw[bV]
  conv=>rhs;rw[<-ja g]
  exact ao λx _=>cF x
theorem Settled.len{W:List (List Int)}{b:Nat}{D:List Int}{F:List Nat}(s:Settled W b D F):F.length=W.length:=by have h1:=s.burn.len;have h2:=Om (l:=aF W.length) (m:=F) eY λx hx=>s.all x (aY.mp hx);rw[cR] at h2;omega
theorem IK{W:List (List Int)}(ok:Zt W){b:Nat}(hb:b<W.length){D:List Int}(st:YJ W b D):stl W b (Qh W D b)=D/\Gv (eW W) (Qh W D b)/\(Qh W D b).length+1=W.length:=by
 obtain⟨F,sF⟩:=st.set;have lF:=sF.len;have wi:WInv (eW W) W.length b (Tc W D b):=WInv.walk WZ (WInv.start hb);have wp:PInv (eW W) W.length (Zl D) (Tc W D b):=PInv.walk WZ (PInv.start sF.free);have all:=Ai ok hb sF.burn lF sF.free;have pm:=Lw ((Tc W D b).B.map (·.1));have ln:=Ed wi all;have lt:(Qh W D b).length+1=W.length:=by show(GH _).length+1=_;rw[pm.length_eq,aK];exact ln
 refine⟨?_,Zb7 ok (λt ht=>?_) ?_ lt λq hq x hx=>?_,lt⟩
 ·unfold stl;rw[DM,Aj st.len wi wp all];have:D[b]?=aA 0:=by have hl:=st.len;have h0:=st.base;rw[aE (by omega)];unfold Zl at h0;rw[aI,aE (by omega)] at h0;exact congrArg aA h0
  apply fM;intro i;rw[bW];split
  ·rename_i e;subst e;rw[oA (by have:=st.len;omega),this]
  ·rfl
 ·obtain⟨x,hx,rfl⟩:=ah.mp (pm.mem_iff.mp ht);exact wi.ltL _ (wi.bl x hx)
 ·have nd:=pm.nodup_iff.mpr wi.ndB;have so:=RT (nL ((Tc W D b).B.map (·.1)));rw[<-Zb1] at so;have so:(Qh W D b).Pairwise λ(a c:Nat)=>(a:Int)<=(c:Int):=eD.mp so;exact(so.and nd).imp λh=>by have:=h.1;have:=h.2;omega
 ·have key:∀x,x<W.length->q x=q b:=λx hx=>wi.cn q (λy hy=>hq y.1 (pm.mem_iff.mpr (ah.mpr ⟨y,hy,rfl⟩))) x (all x hx);exact(key x hx).trans (key 0 ok.pos).symm
def Rt(W:List (List Int))(b:Nat):List (List Int):=(ZO (eW W) (W.length-1)).map (stl W b)
theorem IL{W:List (List Int)}(ok:Zt W){b:Nat}(hb:b<W.length){D:List Int}:D∈Rt W b↔YJ W b D:=by
 have hp:=ok.pos;unfold Rt;rw[ah];constructor
 ·rintro⟨g,hg,rfl⟩;obtain⟨g1,g2⟩:=Us _ _ g hg;exact(Rr ok hb g1 (by omega)).1
 ·intro st;obtain⟨h1,h2,h3⟩:=IK ok hb st;exact⟨_,Me (by omega) h2,h1⟩
theorem Zfj{gs:List (List Nat)}(h:gs.Pairwise Iq):gs.Nodup:=h.imp λ{a b} q e=>by
 subst e
 induction a with
 | nil=>exact q
 | cons x r ih=>rcases q with q | q;exact dI _ q;exact ih q.2
theorem Zb8{W:List (List Int)}(ok:Zt W){b:Nat}(hb:b<W.length):(Rt W b).Nodup:=by have hp:=ok.pos;have gv:=Us (eW W) (W.length-1);have nd:=Zfj (Py (eW W) (W.length-1));unfold Rt;refine eD.mpr ?_;have two:(ZO (eW W) (W.length-1)).Pairwise λa c=>a∈ZO (eW W) (W.length-1)/\c∈ZO (eW W) (W.length-1):=List.pairwise_iff_forall_sublist.mpr λ{a c} hs=>⟨hs.subset (by simp),hs.subset (by simp)⟩;refine(nd.and two).imp λ{a c} h e=>h.1 ?_;obtain⟨a1,a2⟩:=gv a h.2.1;obtain⟨c1,c2⟩:=gv c h.2.2;rw[<-(Rr ok hb a1 (by omega)).2,<-(Rr ok hb c1 (by omega)).2,e]
section
variable {W:List (List Int)} {b:Nat} {A B C D E R S:List Int} {F:List Nat} {v:Int}
theorem Wv{g:Nat}(v:Int)(h:g≠b):Zl (D.set b v) g=Zl D g:=by unfold Zl;rw[aI,aI,fJ (bX h)]
theorem U7(v:Int)(h:b<D.length):Zl (D.set b v) b=v:=Ql (eM h)
def Eqb(W:List (List Int))(b:Nat)(D E:List Int):Prop:=∃(T:Nat->Int) (c:Int),∀h,h<W.length->Zl E h=Zl D h+gN W T h+(if h=b then c else 0)
theorem Eqb.refl:Eqb W b D D:=⟨λ_=>0,0,λh hh=>by rw[N7 (c:=0) (λ_ _=>rfl) hh];split<;>omega⟩
theorem Eqb.symm(q:Eqb W b D E):Eqb W b E D:=by
 obtain⟨T,c,q⟩:=q;refine⟨λx=>(-1)*T x,-c,λh hh=>?_⟩;rw[VB,q h hh];split<;>omega
theorem Eqb.trans(q:Eqb W b C D)(w:Eqb W b D E):Eqb W b C E:=by
 obtain⟨T,c,q⟩:=q;obtain⟨U,d,w⟩:=w;refine⟨λx=>T x+U x,c+d,λh hh=>?_⟩;rw[Rk,w h hh,q h hh];split<;>omega
theorem Eqb.add(lA:A.length=W.length)(lC:C.length=W.length)(q:Eqb W b A C)(w:Eqb W b B D):Eqb W b (X0 A B) (X0 C D):=by
 obtain⟨T,c,q⟩:=q;obtain⟨U,d,w⟩:=w;refine⟨λx=>T x+U x,c+d,λh hh=>?_⟩;rw[Yt (by omega),Yt (by omega),Rk,w h hh,q h hh];split<;>omega
theorem Eqb.of(lA:A.length=W.length)(h:∀h,h<W.length->Zl A h=Zl B h):Eqb W b A B:=by obtain⟨T,c,q⟩:=Eqb.refl (W:=W) (b:=b) (D:=A);exact⟨T,c,λx hx=>by rw[<-h x hx];exact q x hx⟩
theorem Ly(ok:Zt W)(hb:b<W.length)(sD:YJ W b D)(sE:YJ W b E)(q:Eqb W b D E):D=E:=by
 obtain⟨T,c,q⟩:=q;obtain⟨F,fD⟩:=sD.set;obtain⟨G,fE⟩:=sE.set;have lD:=sD.len
 have co:=Pz (T:=T) ok hb (fD.base λx _ ne=>Wv c ne) fE λh hh=>by
  rw[q h hh];by_cases e:h=b
  ·subst e;rw[U7 c (by omega),sD.base,oA rfl];omega
  ·rw[Wv c e,oB e];omega
 refine V2 (by rw[lD,sE.len]) λi hi=>?_;by_cases e:i=b
 ·subst e;rw[sD.base,sE.base]
 ·rw[q i (by omega),N7 (c:=T b) co (by omega),oB e];omega
theorem VC(ok:Zt W)(hb:b<W.length)(sD:YJ W b D){h:Nat}(hh:h<W.length):0<=Zl D h/\Zl D h<=63:=by
 obtain⟨F,fD⟩:=sD.set;by_cases e:h=b
 ·subst e;rw[sD.base];exact⟨by decide,by decide⟩
 ·refine⟨fD.free h hh e,?_⟩;obtain⟨k,hk,ek⟩:=cX (fD.all h hh);have fk:F[k]?=aA h:=by rw[aE hk,ek]
  have k0:k≠0:=λz=>by subst z;rw[fD.burn.hd] at fk;exact e (bG fk).symm
  have st:=fD.burn.st k (by omega) hk;rw[fk] at st;have lt:=(U6 st).2.2;have lF:=fD.burn.len;have hf:=ok.few
  have:∀l:List Nat,(∀x∈l,x<W.length)->ZU W h l<=9*(l.length:Int):=by
   intro l
   induction l with
   | nil=>intro _;exact bq 0
   | cons a r ih=>
    intro hl;have h1:=ih λx hx=>hl x (by simp[hx]);have h2:=ok.hi h a hh (hl a (by simp));have:ZU W h (a::r)=Z1 W h a+ZU W h r:=by unfold ZU;rw[a9,bY]
    rw[this,bB];omega
  have:=this (F.take k) λx hx=>fD.burn.lt x (fN hx);rw[bT] at this;omega
theorem GO(ok:Zt W)(cn:WT W)(hb:b<W.length):YJ W b (aG W.length 0):=by
 have l0:(aG W.length (0:Int)).length=W.length:=bJ;have n0:∀h,h<W.length->Zl (aG W.length 0) h=0:=λh hh=>KS 0 hh;obtain⟨F,_,B,nx⟩:=Qf ok l0 hb;refine⟨l0,n0 b hb,F,λh hh _=>by rw[n0 h hh];exact bq 0,B,nx,λh hh=>?_⟩;refine(cn (·∈F) (λx y hx hy h0=>?_) h b hh hb).mpr (av B.hd)
 have key:∀x y,x<W.length->y<W.length->0<Z1 W x y->x∈F->y∈F:=λx y hx hy h0 xF=>by
  by_cases q:y∈F
  ·exact q
  ·have n1:=Rc nx hy q;rw[n0 y hy] at n1;have n2:=Qg ok hy (G:=[x]) (F:=F) (by simp) (λz hz=>by rw[aR.mp hz];exact xF) B.lt;have:ZU W y [x]=Z1 W y x:=by unfold ZU;simp
   rw[this,ok.sym y x hy hx] at n2;omega
 exact⟨key x y hx hy h0,key y x hy hx (by rw[ok.sym y x hy hx];exact h0)⟩
theorem Pl(ok:Zt W)(hb:b<W.length)(sD:YJ W b D):YU [wP W,.int (b:Int),pP D]=aA .non:=by
 obtain⟨F,fD⟩:=sD.set;have lD:=sD.len;have hf:=ok.few;obtain⟨G,eG,BG,nG⟩:=Qf ok lD hb;have e:G=F:=BG.uniq fD.burn nG fD.stop;subst e;have lG:=fD.len;have sv:=MD (by omega) eG;rw[decide_eq_true (debt_nil.mpr λh hh ne=>fD.free h (by omega) ne),decide_eq_true lG] at sv;show Ya 3 Wm _=_;unfold Wm;have a:Td (iL D) (b:Int)=aA (.int 0):=by rw[YT (by omega),sD.base]
 exact Zhf (s:=[aA (wP W),aA (.int (b:Int)),aA (pP D)]) (gof (xo (p:=aC) (p2:=aC) (xb (o2 (o2 rfl rfl a) rfl (by rw[Ke];rfl))) (xn (xb (c3 rfl rfl rfl sv)))))
theorem Mf(ok:Zt W)(cn:WT W)(hb:b<W.length)(lD:D.length=W.length)(bD:∀h,h<W.length->(Zl D h).natAbs<=2^208):∃S,S.length=W.length/\Sf [wP W,.int (b:Int),pP D]=aA (pP ((Zx W D S).set b 0))/\YJ W b ((Zx W D S).set b 0):=by
 obtain⟨S,N,F,e,lS,hN,st⟩:=Pj ok cn lD hb bD;have lN:(Zx W D S).length=W.length:=by rw[Yl,lD]
 have hf:=ok.few;subst hN;refine⟨S,lS,?_,by rw[bp];exact lN,U7 0 (by omega),F,st.base λx _ ne=>Wv 0 ne⟩;show Ya 4 QP _=_;unfold QP;exact WW (sq (Z6 (epp (l:=Zx W D S) (o2 (c3 rfl rfl rfl e) rfl rfl))) (ret (Aq (k:=b) rfl rfl rfl (by omega) (by omega))))
theorem Sk(lD:D.length=W.length)(hb:b<W.length):Eqb W b D ((Zx W D S).set b 0):=by
 refine⟨Zl S,- (Zl D b+gN W (Zl S) b),λh hh=>?_⟩;by_cases e:h=b
 ·subst e;rw[U7 0 (by rw[Yl];omega),oA rfl];omega
 ·rw[Wv 0 e,oB e,N6 (by omega)];omega
theorem Sl(ok:Zt W)(cn:WT W)(hb:b<W.length)(sA:YJ W b A)(sB:YJ W b B):∃S,S.length=W.length/\Xg [wP W,.int (b:Int),pP A,pP B]=aA (pP ((Zx W (X0 A B) S).set b 0))/\YJ W b ((Zx W (X0 A B) S).set b 0):=by
 have lA:=sA.len;have lB:=sB.len;have hf:=ok.few
 obtain⟨S,lS,e,st⟩:=Mf (D:=X0 A B) ok cn hb (by rw[YI,lA]) λh hh=>by
  rw[Yt (by omega)];have h1:=VC ok hb sA hh;have h2:=VC ok hb sB hh;have:(126:Nat)<=2^208:=by decide
  omega
 refine⟨S,lS,?_,st⟩;show Ya 4 Nv _=_;unfold Nv;exact WW (sq (Ap (c3 rfl rfl rfl (Pl ok hb sA))) (sq (Ap (c3 rfl rfl rfl (Pl ok hb sB))) (ret (c3 rfl rfl (c2 rfl rfl (KQ (by omega) (by omega))) e))))
theorem Ef(ok:Zt W)(cn:WT W)(hb:b<W.length)(sA:YJ W b A):∃S,S.length=W.length/\QQ [wP W,.int (b:Int),pP A]=aA (pP ((Zx W (Ws (aG W.length 0) A) S).set b 0))/\YJ W b ((Zx W (Ws (aG W.length 0) A) S).set b 0):=by
 have lA:=sA.len;have hf:=ok.few;have l0:(aG W.length (0:Int)).length=W.length:=bJ
 obtain⟨S,lS,e,st⟩:=Mf (D:=Ws (aG W.length 0) A) ok cn hb (by rw[Xh,l0]) λh hh=>by
  rw[Vy (by omega),KS 0 hh];have h1:=VC ok hb sA hh;have:(126:Nat)<=2^208:=by decide
  omega
 refine⟨S,lS,?_,st⟩;show Ya 3 HH _=_;unfold HH;refine WW (sq (Ap (c3 rfl rfl rfl (Pl ok hb sA))) (ret (c3 rfl rfl (c2 (o2 rfl (c1 rfl rfl) ?_) rfl (J7 (by omega) (by omega))) e)));show Lc (.tup [.int 0]) (.int ((W.map pP).length:Int))=_;rw[aK];exact Zhe ok.pos hf
theorem Ut(ok:Zt W)(cn:WT W)(hb:b<W.length)(sA:YJ W b A)(sB:YJ W b B)(sR:YJ W b R)(q:Eqb W b (X0 A B) R):Xg [wP W,.int (b:Int),pP A,pP B]=aA (pP R):=by obtain⟨S,lS,e,st⟩:=Sl ok cn hb sA sB;rw[e,Ly ok hb st sR ((Sk (by rw[YI,sA.len]) hb).symm.trans q)]
theorem Eg(ok:Zt W)(cn:WT W)(hb:b<W.length)(sA:YJ W b A)(sR:YJ W b R)(q:Eqb W b (Ws (aG W.length 0) A) R):QQ [wP W,.int (b:Int),pP A]=aA (pP R):=by obtain⟨S,lS,e,st⟩:=Ef ok cn hb sA;rw[e,Ly ok hb st sR ((Sk (by rw[Xh,bJ]) hb).symm.trans q)]
end
section
variable {W:List (List Int)} {b:Nat} {A B D R S:List Int}
theorem Ziv:∀k,k<=8->∀s,s<=6->(3<s->k<=s+2)->bn k s<64:=by decide +kernel
theorem DP(ok:Zt W)(cn:WT W)(hb:b<W.length)(h8:(eW W).length<=8)(h5:4<W.length->(eW W).length<=W.length+1):TN [wP W,.int (b:Int),.int 300]=aA (.lst ((WY (Rt W b)).map pP)):=by
 have hf:=ok.few;have hp:=ok.pos;have gl:(ZO (eW W) (W.length-1)).length<64:=by rw[S7];exact e8 (NX _ _ _) (Ziv _ h8 _ (by omega) λq=>by have:=h5 (by omega);omega)
 have te:=As ok cn h8 h5;have nd:=Zb8 ok hb;have hm:=λD=>IL (D:=D) ok hb;have okt:∀D∈Rt W b,TH W.length D=aD:=λD hD=>by have st:=(hm D).mp hD;unfold TH;simp only[ak,decide_eq_true_eq,bO];refine⟨st.len,λx hx=>?_⟩;obtain⟨j,hj,rfl⟩:=R9 hx;have:=VC ok hb st (h:=j) (by rw[<-st.len];exact hj);omega
 show Ya 3 RY _=_;unfold RY;refine WW (ret (c1 (a:=.lst ((Rt W b).map pP)) ?_ ?_))
 ·unfold Rt;rw[bV];refine ZK (ZO (eW W) (W.length-1)) gP (λg=>pP (stl W b g)) ?_ (by omega) λg hg=>⟨_,rfl,rfl,c3 rfl rfl rfl (IJ ok hb)⟩;show(Zc RX [Za 0,Za 2] _).bind asS=_;rw[c2 rfl rfl te];rfl
 ·show(Nn ((Rt W b).map λp=>PV.tup (iL p))).bind _=_;rw[Np,aO]
  cases e:Rt W b with
  | nil=>
   rw[oB (by simp),oA rfl];simp[WY]
  | cons D r=>
   have hD:TH W.length D=aD:=okt D (by rw[e];simp);have lD:D.length=W.length:=by unfold TH at hD;simp only[ak,decide_eq_true_eq] at hD;exact hD.1
   rw[oA];rw[<-e];refine⟨by show((ZO _ _).map _).length<64;rw[aK];exact gl,nd,?_,bO.mpr ?_⟩
   ·rw[e];show 1<=D.length;omega
   ·rw[show((Rt W b).headD []).length=W.length by rw[e];exact lD];exact okt
theorem Zb9(ok:Zt W)(lD:D.length=W.length)(lS:S.length=W.length):Nx [wP W,pP D,pP S]=aA (pP (Zx W D S)):=by
 have hf:=ok.few;let st:List Int->Option PV->Option PV->Option PV->Option PV->ZL:=λl x4 x5 x6 x7=>[aA (wP W),aA (pP D),aA (pP S),aA (.lst (iL l)),x4,x5,x6,x7];have lenW:∀x3 x4 x5 x6 x7,ZQ [Zc ZR [Za 0]] [aA (wP W),aA (pP D),aA (pP S),x3,x4,x5,x6,x7]=aA (WD W.length):=λx3 x4 x5 x6 x7=>YE (c1 rfl (by rw[O6,aK])) (by omega);let fi:XS:=Zj (Zk 7 (eP (Zg X3 (Zg ZC (Za 2) (Za 6)) (Zg ZC (Za 2) (Za 4))))) (Zk 5 (eP (Zg Yi (Za 5) (Zg Jp (Zg ZC (Zg ZC (Za 0) (Za 4)) (Za 6)) (Za 7)))))
 have inner:∀(l:List Int)(h:Nat)(x6 x7:Option PV),h<W.length->∃y6 y7,Xe (.one 6) fi (WD W.length) (st l (aA (.int (h:Int))) (aA (.int (Zl D h))) x6 x7)=aA (.nx (st l (aA (.int (h:Int))) (aA (.int (Zl (Zx W D S) h))) y6 y7)):=λl h x6 x7 hh=>by
  obtain⟨s',h1,y6,y7,h2⟩:=ZY (T:=.one 6) (fb:=fi) (ls:=WD W.length) (s:=st l (aA (.int (h:Int))) (aA (.int (Zl D h))) x6 x7)
   (λj s=>∃y6 y7,s=st l (aA (.int (h:Int))) (aA (.int (Zl D h+sN j λg=>Z1 W h g*(Zl S g-Zl S h)))) y6 y7) ⟨x6,x7,by show _=st l _ (aA (.int (Zl D h+0))) _ _;rw[jN]⟩ (by
    rintro j v s hl ⟨y6,y7,rfl⟩;obtain⟨hj,rfl⟩:=Vn hl;refine⟨_,_,rfl,sq (Z6 (ep (o2 (o2 rfl rfl (YT (by omega))) (o2 rfl rfl (YT (by omega))) rfl))) (Z6 (ep (o2 rfl (vC (C:=CMul) (op:=(· * ·)) (o2 (o2 rfl rfl (RO hh)) rfl (YT (l:=Zz W h) (by rw[ok.sq h hh];exact hj))) rfl (Hz (by have:=ok.lo h j hh hj;exact iP (by decide) this) (by have:=ok.hi h j hh hj;exact iP this (by decide)))) rfl))),aA (.int (j:Int)),aA (.int (Zl S j-Zl S h)),?_⟩;show _=st l _ (aA (.int (Zl D h+(sN j _+_)))) _ _;rw[<-Int.add_assoc];rfl)
  rw[Vo] at h2;exact⟨y6,y7,by rw[h1,h2,N6 (by omega)];rfl⟩
 obtain⟨s',h1,l,x4,x5,x6,x7,h2,h3⟩:=ZY (T:=.one 4) (fb:=Zj (Zk 5 (eP (Zg ZC (Za 1) (Za 4)))) (Zj (YR [3] (ZQ [Zc ZR [Za 0]]) (.one 6) fi) (ZZ 3 (eP (Za 5))))) (ls:=WD W.length) (s:=st [] aB aB aB aB)
  (λi s=>∃l x4 x5 x6 x7,s=st l x4 x5 x6 x7/\l=(Zx W D S).take i) ⟨[],aB,aB,aB,aB,rfl,by simp⟩ (by
   rintro i v s hl ⟨l,x4,x5,x6,x7,rfl,rfl⟩;obtain⟨hi,rfl⟩:=Vn hl;obtain⟨y6,y7,e⟩:=inner ((Zx W D S).take i) i x6 x7 hi;have il:i<(Zx W D S).length:=by rw[Yl];omega
   refine⟨_,_,rfl,sq (Z6 (ep (o2 rfl rfl (YT (k:=i) (by omega))))) (sq (s1:=st ((Zx W D S).take i) (aA (.int (i:Int))) (aA (.int (Zl (Zx W D S) i))) y6 y7) ?_ (Wg (m:=iL ((Zx W D S).take i)) (l:=.int (Zl (Zx W D S) i)) rfl rfl (by rw[aK,bT];omega))),(Zx W D S).take (i+1),aA (.int (i:Int)),aA (.int (Zl (Zx W D S) i)),y6,y7,?_,rfl⟩
   ·rw[Y5];show(ZQ [Zc ZR [Za 0]] [aA (wP W),aA (pP D),aA (pP S),aB,_,_,_,_]).bind _=_;rw[lenW];exact e
   ·have e2:(Zx W D S).take (i+1)=(Zx W D S).take i++[Zl (Zx W D S) i]:=by rw[iO il];simp[Zl,aI,aE il]
    rw[e2];simp[st])
 rw[Vo,cH (by rw[Yl];omega)] at h3;subst h3;show Ya 8 Nw _=_;unfold Nw;refine WW (sq (s1:=st [] aB aB aB aB) rfl (sq (s1:=st (Zx W D S) x4 x5 x6 x7) ?_ (ret (epp (c1 rfl rfl)))));rw[Y5];show(ZQ [Zc ZR [Za 0]] [aA (wP W),aA (pP D),aA (pP S),aB,_,_,_,_]).bind _=_;rw[lenW,aO,<-h2];exact h1
theorem K4:∀{l:List Int}{k:Nat}{v:Int},k<l.length->(l.set k v).sum=l.sum-Zl l k+v
 | a::l,0,v,_=>by show v+l.sum=_;rw[bY];show _=a+l.sum-a+v;omega
 | a::l,k+1,v,h=>by have:=K4 (l:=l) (k:=k) (v:=v) (by simpa using h);show a+(l.set k v).sum=_;rw[this,bY];show _=a+l.sum-Zl l k+v;omega
theorem Zfk(ok:Zt W)(cn:WT W)(hb:b<W.length)(sA:YJ W b A)(sB:YJ W b B)(lS:S.length=W.length)(sR:YJ W b ((Zx W (X0 A B) S).set b 0)):Ku [wP W,.int (b:Int),pP A,pP B,pP ((Zx W (X0 A B) S).set b 0)]=aA (.bl aD):=by
 have hf:=ok.few;have lA:=sA.len;have lB:=sB.len;generalize hC:X0 A B=C at *;have lC:C.length=W.length:=by rw[<-hC,YI,lA]
 have nC:∀h,h<W.length->Zl C h=Zl A h+Zl B h:=λh hh=>by rw[<-hC,Yt (by omega)]
 have bC:∀h,h<W.length->(Zl C h).natAbs<=126:=λh hh=>by have h1:=VC ok hb sA hh;have h2:=VC ok hb sB hh;rw[nC h hh];omega
 generalize hN:Zx W C S=N at *;have lN:N.length=W.length:=by rw[<-hN,Yl,lC]
 have sN':N.sum=C.sum:=by rw[<-hN];exact Zbg ok lC
 have big:(10000:Nat)<=2^208:=by decide
 have bN:∀h,h<W.length->(Zl N h).natAbs<=2^208:=by
  have b1:∀h,h<W.length->h≠b->(Zl N h).natAbs<=126:=λh hh ne=>by have:=VC ok hb sR hh;rw[Wv 0 ne] at this;omega
  have b2:=K4 (l:=N) (k:=b) (v:=0) (by omega)
  have sumB:∀l:List Int,(∀i,i<l.length->(Zl l i).natAbs<=126)->l.sum.natAbs<=126*l.length:=by
   intro l
   induction l with
   | nil=>intro _;exact aT 0
   | cons a r ih=>
    intro h;have h1:=ih λi hi=>h (i+1) (by simpa using hi);have h2:=h 0 (by simp);have h2:a.natAbs<=126:=h2;rw[bY,bB];omega
  have s1:=sumB C (by rw[lC];exact bC)
  have s2:=sumB (N.set b 0) (λi hi=>by
   rw[bp,lN] at hi;by_cases e:i=b
   ·subst e;rw[U7 0 (by omega)];exact cj _
   ·rw[Wv 0 e];exact b1 i hi e)
  rw[bp] at s2;intro h hh;by_cases e:h=b
  ·subst e;omega
  ·have:=b1 h hh e;omega
 have goal:(N.set b 0).set b (C.sum-(N.set b 0).sum)=N:=by
  rw[K4 (by omega),List.set_set];apply fM;intro i;rw[bW];split
  ·rename_i e;subst e;rw[oA (by omega),aE (by omega)];have:Zl N b=N[b]:=Ql (aE (by omega));rw[this];congr 1;omega
  ·rfl
 have al:=Ac ok cn lC (λh hh=>by have:=bC h hh;omega) bN lS hN.symm;have ll:(ZM S).length=W.length:=by rw[Yj,lS]
 have gn:=Zb9 ok lC ll;rw[(BY ok cn lC lS ll).mpr (Ih (by omega)),hN] at gn;have tu:=J8 (l:=ZM S) (by omega);rw[ll] at tu;have pl:V6 [pP A,pP B]=aA (pP C):=by rw[<-hC];exact KQ (by omega) (by omega)
 show Ya 9 Ob _=_;unfold Ob;refine WW (sq (Z6 (c2 rfl rfl pl)) (sq (gof (xb (o2 (a:=.lst (iL C)) (b:=.lst (iL C)) (c1 rfl ?_) ?_ (by rw[Zew];simp)))) (sq (Z6 (ep (o2 (c1 rfl (CW C)) (c1 rfl (CW _)) rfl))) (sq (Z6 (Aq (k:=b) rfl rfl rfl (by rw[bp];omega) (by rw[bp];omega))) ?_))))
 ·rw[JK,oA (Y7 C)]
 ·have e:=ZK (n:=1) (ix:=[2,3]) (T:=.one 0) (ft:=ZF) (fe:=Zg Yi (Zg ZC (Za 1) (Za 0)) (Zg ZC (Za 2) (Za 0))) (fi:=ZQ [Zc ZR [Za 0]]) (s:=(Z2 9 [wP W,.int (b:Int),pP A,pP B,pP (N.set b 0)]).set 5 (aA (pP C))) (aF W.length) (λ(i:Nat)=>.int (i:Int)) (λ(i:Nat)=>.int (Zl C i)) (YE (c1 rfl (by rw[O6,aK])) (by omega)) (by simp;omega) λi hi=>⟨[aA (.int (i:Int)),aA (pP A),aA (pP B)],rfl,rfl,o2 (o2 rfl rfl (YT (by have:=aY.mp hi;omega))) (o2 rfl rfl (YT (by have:=aY.mp hi;omega))) (by rw[nC i (aY.mp hi)];rfl)⟩;have eC:C=(aF W.length).map (Zl C):=V2 (by simp[lC]) λi hi=>(Yg (by omega)).symm;rw[e];congr 2
  conv=>rhs;rw[eC]
  unfold iL;rw[bV];rfl
 ·rw[show(N.set b 0).set b ((λx1 x2=>x1-x2) C.sum (N.set b 0).sum)=N from goal];exact sq (Z6 (c3 rfl rfl rfl al)) (ret (ep (ea (c2 (b:=.int (W.length:Int)) rfl (c1 rfl (by rw[O6,aK])) tu) (eqt (c3 rfl rfl rfl gn) rfl))))
end
theorem Eh{f g h:ZA->Nat}:∀{l:List ZA},(∀p∈l,f p<=g p+h p)->(l.map f).sum<=(l.map g).sum+(l.map h).sum
 | [],_=>by simp
 | p::r,H=>by have h1:=H p (by simp);have:=Eh (l:=r) λq hq=>H q (by simp[hq]);simp only[a9,bY];omega
def uN(n:Nat)(M:List (List Int)):Nat:=((DC n).map λp=>(Z1 M p.1 p.2).toNat).sum
theorem Zhk(W:List (List Int)):(eW W).length=uN W.length W:=by unfold eW Lp uN;rw[fW];congr 1;refine ao λp _=>?_;rw[bJ]
theorem Zca{n:Nat}(hn:n<=7){M:List (List Int)}{e:Xb}(ok:MatOk n M)(h:e.1<e.2.1/\e.2.1<n/\1<=e.2.2/\e.2.2<=9):uN n (Z9 M e)<=uN n M+e.2.2.toNat:=by
 have a:=Eh (f:=λp:ZA=>(Z1 (Z9 M e) p.1 p.2).toNat) (g:=λp=>(Z1 M p.1 p.2).toNat) (h:=λp=>if p=(e.1,e.2.1) then e.2.2.toNat else 0) (l:=DC n) λp hp=>by
  have:=mem_prs.mp (show(p.1,p.2)∈DC n from hp);show(Z1 (Z9 M e) p.1 p.2).toNat<=(Z1 M p.1 p.2).toNat+(if p=(e.1,e.2.1) then e.2.2.toNat else 0);rw[NP ok h,oB (by omega)];by_cases q:e.1=p.1/\e.2.1=p.2
  ·rw[oA q,oA (Prod.ext q.1.symm q.2.symm)];omega
  ·rw[oB q];omega
 have b:=Q9 (f:=λp:ZA=>if p=(e.1,e.2.1) then e.2.2.toNat else 0) (p:=(e.1,e.2.1)) (l:=DC n) (B2 n hn) λq _ hq=>oB hq
 have c:(if(e.1,e.2.1)∈DC n then(if(e.1,e.2.1)=(e.1,e.2.1) then e.2.2.toNat else 0) else 0)<=e.2.2.toNat:=by
  split
  ·rw[oA rfl];exact aT _
  ·omega
 unfold uN;rw[b] at a;exact bg a (lU c _)
theorem Ei{n:Nat}(hn:n<=7):∀(l:List Xb)(M:List (List Int)),(∀e∈l,e.1<e.2.1/\e.2.1<n/\1<=e.2.2/\e.2.2<=9)->MatOk n M->(uN n (l.foldl Z9 M):Int)<=(uN n M:Int)+Y2 l
 | [],M,_,_=>by show(uN n M:Int)<=(uN n M:Int)+(0:Int);omega
 | e::r,M,hl,hM=>by have he:=hl e (by simp);have a:=Zca hn hM he;have b:=Ei hn r _ (λe' h'=>hl e' (by simp[h'])) (hM.step he);rw[Q6];show(uN n (r.foldl Z9 (Z9 M e)):Int)<=_;omega
abbrev IM(n:Nat):List (List Int):=aG n (aG n 0)
theorem DQ{n a b:Nat}(ha:a<n)(hb:b<n):Z1 (IM n) a b=0:=by unfold Z1 Zz Zl;simp[aI,b7,ha,hb]
theorem Av{n:Nat}{ts:List Xb}(ok:DictOk n ts)(hn:n<=7):(uN n (Hg n ts):Int)<=Y2 ts:=by
 have h:=Ei hn ts (IM n) ok.ok (MatOk.zero n)
 have z:uN n (IM n)=0:=by
  unfold uN
  have:∀l:List ZA,(∀p∈l,p.1<n/\p.2<n)->(l.map λp=>(Z1 (IM n) p.1 p.2).toNat).sum=0:=by
   intro l
   induction l with
   | nil=>intro _;rfl
   | cons p r ih=>
    intro H;have hp:=H p (by simp);rw[a9,bY,ih λq hq=>H q (by simp[hq]),DQ hp.1 hp.2];rfl
  exact this _ λp hp=>by have:=mem_prs.mp (show(p.1,p.2)∈DC n from hp);omega
 have e:uN n (Hg n ts)=uN n (ts.foldl Z9 (IM n)):=rfl;omega
theorem DR(c:Int):∃n:Nat,1<=n/\n<=7/\SN [.int c]=aA (.int (n:Int)):=by
 have d4:Rx c 4:=Tw (by omega) (by omega);have d16:Rx c 16:=Tw (by omega) (by omega);by_cases q:c/4%4=3
 ·refine⟨(5+c/16%3).toNat,by omega,by omega,?_⟩;rw[show(((5+c/16%3).toNat:Nat):Int)=5+c/16%3 by omega];show Ya 1 Vs _=_;unfold Vs;simp[Ya,Z2,d4,d16,q]
 ·refine⟨(1+c%4).toNat,by omega,by omega,?_⟩;rw[show(((1+c%4).toNat:Nat):Int)=1+c%4 by omega];show Ya 1 Vs _=_;unfold Vs;simp[Ya,Z2,d4,d16,q]
theorem Aw{is:List Nat}{f:XE}{s:ZL}{ls:List PV}(q:f s=aA (.lst ls))(p:ZD ls=aD)(l:ls.length=is.length):Kr is f s=aA (.nx (setAll is ls s)):=by unfold Kr;rw[q];simp only[aO];rw[oA ⟨p,l⟩]
theorem law_true:∀ns:List Int,ns.length<=63->(∀n∈ns,n.natAbs.log2<=1048576)->D_law [.cst (iL ns)]=aA (.bl aD):=by
 intro ns hns _;obtain⟨n,h1,h7,hn⟩:=DR (Zl ns 0);obtain⟨ts,eT,dok,hg,hsu⟩:=PC.times_eq (Yh:=1) hns h1 h7;have eS:=Ds dok h7;have ok:Zt (Hg n ts):=(OG dok).web h1 h7;have hl:(Hg n ts).length=n:=(OG dok).len;have cn:WT (Hg n ts):=hg.conn dok;have fw:((eW (Hg n ts)).length:Int)<=Y2 ts:=by rw[Zhk,hl];exact Av dok h7
 generalize Hg n ts=W at *
 have h8:(eW W).length<=8/\(4<W.length->(eW W).length<=W.length+1):=by
  unfold PC.roomN at hsu;split at hsu<;>omega
 have q0:=gA (Zl ns 12) (show(n:Int)≠0 by omega);have q1:=fm (Zl ns 12) (show(0:Int)<(n:Int) by omega);obtain⟨b,eb⟩:∃b:Nat,Zl ns 12%(n:Int)=(b:Int):=⟨(Zl ns 12%(n:Int)).toNat,by omega⟩;have hb:b<W.length:=by omega
 have st:=DP ok cn hb h8.1 h8.2;have mem:∀D,D∈WY (Rt W b)↔YJ W b D:=λD=>((US _).mem_iff).trans (IL ok hb);have z0:=GO ok cn hb;have pos:0<(WY (Rt W b)).length:=iM ((mem _).mpr z0);have l64:(WY (Rt W b)).length<1000:=by rw[(US _).length_eq];show((ZO _ _).map _).length<_;rw[aK,S7];have:=NX (eW W) id (W.length-1);have:=bn8 _ h8.1 (W.length-1) (by omega);omega
 generalize WY (Rt W b)=L at st mem pos l64;obtain⟨pk,hpk⟩:∃pk:Nat->List Int,∀i,pk i=L.getD (Zl ns (13+i)%(L.length:Int)).toNat []:=⟨_,λ_=>rfl⟩;have pkl:∀i:Nat,(Zl ns (13+i)%(L.length:Int)).toNat<L.length:=λi=>by have:=gA (Zl ns (13+i)) (show(L.length:Int)≠0 by omega);have:=fm (Zl ns (13+i)) (show(0:Int)<(L.length:Int) by omega);omega
 have pks:∀i,YJ W b (pk i):=λi=>(mem _).mp (by
  rw[hpk,aI,aE (pkl i)];exact cD (pkl i))
 have pkv:∀i:Nat,Td (L.map pP) (Zl ns (13+i)%(L.length:Int))=aA (pP (pk i)):=λi=>by have h0:=gA (Zl ns (13+i)) (show(L.length:Int)≠0 by omega);rw[show Zl ns (13+i)%(L.length:Int)=(((Zl ns (13+i)%(L.length:Int)).toNat:Nat):Int) by omega];refine VH ?_;rw[aW,aE (pkl i),hpk,aI,aE (pkl i)];rfl
 generalize hA:pk 0=A at *;generalize hB:pk 1=B at *;generalize hC:pk 2=C at *;have sA:YJ W b A:=by rw[<-hA];exact pks 0
 have sB:YJ W b B:=by rw[<-hB];exact pks 1
 have sC:YJ W b C:=by rw[<-hC];exact pks 2
 have tup:∀{D:List Int},YJ W b D->Wh [pP D,.int (n:Int)]=aA (.bl aD):=λ{D} sD=>by
  have:=J8 (l:=D) (by rw[sD.len];omega)
  rwa [sD.len,hl] at this
 have inn:∀{D:List Int},YJ W b D->X4 aD (pP D) (.lst (L.map pP))=aA (.bl aC):=λ{D} sD=>by rw[Zhi];simp[(mem D).mpr sD]
 obtain⟨S,lS,eJ,sR⟩:=Sl ok cn hb sA sB;have led:=Zfk ok cn hb sA sB lS sR;have qR:Eqb W b (X0 A B) ((Zx W (X0 A B) S).set b 0):=Sk (by rw[YI,sA.len]) hb;generalize (Zx W (X0 A B) S).set b 0=R at eJ sR led qR;have lA:=sA.len;have lB:=sB.len;have lC:=sC.len;have lR:=sR.len;obtain⟨S2,_,eBC,sBC⟩:=Sl ok cn hb sB sC;have qBC:Eqb W b (X0 B C) ((Zx W (X0 B C) S2).set b 0):=Sk (by rw[YI,lB]) hb;generalize (Zx W (X0 B C) S2).set b 0=Y at eBC sBC qBC;obtain⟨S3,_,eRC,sRC⟩:=Sl ok cn hb sR sC;have qRC:Eqb W b (X0 R C) ((Zx W (X0 R C) S3).set b 0):=Sk (by rw[YI,lR]) hb;generalize (Zx W (X0 R C) S3).set b 0=Z at eRC sRC qRC;have lY:=sBC.len;have z00:∀h,h<W.length->Zl (aG W.length 0) h=0:=λh hh=>KS 0 hh;have eBA:=Ut ok cn hb sB sA sR (Eqb.trans (Eqb.of (by rw[YI,lB]) λh hh=>by rw[Yt (by omega),Yt (by omega)];omega) qR)
 have eAY:=Ut ok cn hb sA sBC sRC (by
  have p1:=Eqb.add (D:=Y) lA lA Eqb.refl qBC.symm.symm;have p2:Eqb W b (X0 A (X0 B C)) (X0 (X0 A B) C):=Eqb.of (by rw[YI,lA]) λh hh=>by rw[Yt (by omega),Yt (by omega),Yt (by rw[YI];omega),Yt (by omega)];omega
  have p3:=Eqb.add (B:=C) (D:=C) (by rw[YI,lA]) lR qR Eqb.refl;exact p1.symm.trans (p2.trans (p3.trans qRC)))
 have eA0:=Ut ok cn hb sA z0 sA (Eqb.of (by rw[YI,lA]) λh hh=>by rw[Yt (by omega),z00 h hh];omega);have e0B:=Ut ok cn hb z0 sB sB (Eqb.of (by rw[YI,bJ]) λh hh=>by rw[Yt (by rw[bJ];omega),z00 h hh];omega);obtain⟨S4,_,eF,sF⟩:=Ef ok cn hb sA;have qF:Eqb W b (Ws (aG W.length 0) A) ((Zx W (Ws (aG W.length 0) A) S4).set b 0):=Sk (by rw[Xh,bJ]) hb;generalize (Zx W (Ws (aG W.length 0) A) S4).set b 0=Q at eF sF qF;have lQ:=sF.len;have nsub:∀(D:List Int) h,h<W.length->Zl (Ws (aG W.length 0) D) h=0-Zl D h:=λD h hh=>by rw[Vy (by rw[bJ];omega),z00 h hh]
 have lsub:∀D:List Int,(Ws (aG W.length 0) D).length=W.length:=λD=>by rw[Xh,bJ]
 have eAQ:=Ut ok cn hb sA sF z0 (by
  have p1:=Eqb.add (A:=A) (C:=A) lA lA Eqb.refl qF.symm;refine p1.trans (Eqb.of (by rw[YI,lA]) λh hh=>?_);rw[Yt (by omega),nsub A h hh,z00 h hh];omega)
 have eBQ:=Eg ok cn hb sF sA (by
  obtain⟨T,c,w⟩:=qF;refine⟨T,c,λh hh=>?_⟩;have:=w h hh;rw[nsub A h hh] at this;rw[nsub Q h hh];omega)
 have e00:=Eg ok cn hb z0 z0 (Eqb.of (lsub _) λh hh=>by rw[nsub _ h hh,z00 h hh];omega);show Ya 11 FQ _=_;unfold FQ;refine WW ?_;refine sq (Z6 (c1 (c2 rfl rfl (Sj hns 0)) hn)) ?_;refine sq (Z6 (c2 (c3 rfl rfl rfl eT) rfl eS)) ?_;refine sq (Z6 (v:=.int (b:Int)) (ep (vC (C:=λ_ j=>0<j) (op:=(· % ·)) (c2 rfl rfl (Sj hns 12)) (b:=(n:Int)) rfl (by omega) |>.trans (by show aA (PV.int (Zl ns 12%(n:Int)))=_;rw[eb])))) ?_;have st:(λls=>TN (ls++[.int 300])) [wP W,.int (b:Int)]=aA (.lst (L.map pP)):=st;refine sq (Z6 (c2 (a:=wP W) (b:=.int (b:Int)) rfl rfl st)) ?_;refine sq (Aw (ls:=[pP A,pP B,pP C]) ?_ (by simp) rfl) ?_
 ·rw[<-hA,<-hB,<-hC];refine ZK (aF 3) (λ(i:Nat)=>.int (i:Int)) (λi=>pP (pk i)) (YE (n:=3) rfl (by omega)) (by simp) λi hi=>⟨[aA (.int (i:Int)),aA (.lst (L.map pP)),aA (.cst (iL ns))],rfl,rfl,o2 rfl (vC (C:=λ_ j=>0<j) (op:=(· % ·)) (b:=(L.length:Int)) (c2 (b:=.int ((13+i:Nat):Int)) rfl ?_ (Sj hns (13+i))) (c1 rfl ?_) (by omega)) (pkv i)⟩
  ·show aA (PV.int ((13:Int)+(i:Int)))=_;rw[show(13:Int)+(i:Int)=((13+i:Nat):Int) by omega]
  ·rw[CY,aK]
 refine sq (Z6 (c4 rfl rfl rfl rfl eJ)) ?_;refine sq (gof (xo (xn (xb (c2 rfl rfl (tup sR)))) (xo (xb (o2 rfl rfl (inn sR))) (xn (xb (c5 rfl rfl rfl rfl rfl led)))))) ?_;refine sq (gof (neq (c4 rfl rfl rfl rfl eBA) rfl)) ?_;refine sq (gof (neq (c4 rfl rfl rfl rfl eRC) (c4 rfl rfl rfl (c4 rfl rfl rfl rfl eBC) eAY))) ?_;refine sq (Z6 (epp (l:=aG W.length 0) (o2 (b:=.int (n:Int)) rfl rfl (by rw[hl];exact Zhe h1 h7)))) ?_;refine sq (gof (xo (neq (c4 rfl rfl rfl rfl eA0) rfl) (neq (c4 rfl rfl rfl rfl e0B) rfl))) ?_;refine sq (Z6 (c3 rfl rfl rfl eF)) ?_;refine sq (gof (xo (xn (xb (c2 rfl rfl (tup sF)))) (xo (xb (o2 rfl rfl (inn sF))) (neq (c4 rfl rfl rfl rfl eAQ) rfl)))) ?_;exact ret (ep (ea (eqt (c3 rfl rfl rfl eBQ) rfl) (eqt (c3 rfl rfl rfl e00) rfl)))
end PW
namespace PW
open PySem L2 VL
theorem all_mk{P:bQ}{w:bu}{K:aJ}{mg:bH->Option aL}{fa:aN}(hfa:mg "law" = aA (.ref fa))(B:WM mg)
  (d0:Def K mg "_law_houses" SX)
  (d1:Def K mg "_law_square" SY)
  (d2:Def K mg "ties_of" QW)
  (d3:Def K mg "tie_to_look_at" Wo)
  (d4:Def K mg "walked" NF)
  (d5:Def K mg "still_by" S1)
  (d6:Def K mg "reduced" QX)
  (d7:Def K mg "evened" NG)
  (d8:Def K mg "determinant" Ua)
  (d9:Def K mg "ties_at" QY)
  (d10:Def K mg "row_of" NJ)
  (d11:Def K mg "square_without" Wq)
  (d12:Def K mg "square_of" TX)
  (d13:Def K mg "tree_count" U3)
  (d14:Def K mg "pieces_of" TY)
  (d15:Def K mg "is_between" U4)
  (d16:Def K mg "grown" KC)
  (d17:JT K mg "trees" Og 300)
  (d18:JT K mg "stills" NK 300)
  (d19:Def K mg "in_debt" QZ)
  (d20:Def K mg "ties_to" Q0)
  (d21:Def K mg "house_to_burn" WR)
  (d22:Def K mg "burnt" KD)
  (d23:Def K mg "is_settled" U5)
  (d24:Def K mg "refuse_unstill" Wr)
  (d25:Def K mg "solved_below" Vw)
  (d26:Def K mg "nearing" Q2)
  (d27:Def K mg "gain" HX)
  (d28:Def K mg "run" Bz)
  (d29:Def K mg "borrowing" TZ)
  (d30:Def K mg "plus" HY)
  (d31:Def K mg "least" KI)
  (d32:Def K mg "settle" NL)
  (d33:Def K mg "stilled" Q3)
  (d34:Def K mg "joined" NM)
  (d35:Def K mg "minus" KJ)
  (d36:Def K mg "back" H9)
  (d37:Def K mg "_law_cell" NN)
  (d38:Def K mg "_law_renamed" T1)
  (d39:Def K mg "_law_read_times" Vx)
  (d40:Def K mg "_law_times" S5)
  (d41:Def K mg "_law_whole" Q4)
  (d42:Def K mg "_law_tuple" Q5)
  (d43:Def K mg "alike" KO)
  (d44:Def K mg "_law_gone" NO)
  (d45:Def K mg "_law_led" KP)
  (d46:Def K mg "law" BF)
  : ∃fd:fX,(∀(s:aQ)(u:aL),mC s fd ⟨[u],[]⟩ [("_law_script",u)])/\∀base:ba,K.In base->base.Ns cJ mg->Qq P w K mg base LJ 8 fa fd ["_law_script"] (Xd K D_law 1):=by
 refine CO d46 hfa (λ_ _ _ _ _ _ _=>rfl) λbase f fd _ _ F=>?_;have C_l_houses:SS P w K mg base:=J3 d0 B;have C_l_square:SU P w K mg base:=J4 d1 B;have C_ties_of:Um P w K mg base:=HL d2 B;have C_tie_to_look_at:Wn P w K mg base:=R3 d3 B;have C_walked:Nz P w K mg base:=E7 d4 B C_ties_of C_tie_to_look_at;have C_still_by:SV P w K mg base:=J5 d5 B C_walked;have C_reduced:QR P w K mg base:=HN d6 B;have C_evened:RZ P w K mg base:=E8 d7 B C_reduced;have C_determinant:V9 P w K mg base:=NI d8 B C_evened;have C_ties_at:QS P w K mg base:=HQ d9 B;have C_row_of:NA P w K mg base:=Dc d10 B C_ties_at;have C_square_without:Xn P w K mg base:=R4 d11 B C_row_of;have C_square_of:TQ P w K mg base:=Kz d12 B C_square_without;have C_tree_count:W7 P w K mg base:=Mw d13 B C_determinant C_square_of;have C_pieces_of:TR P w K mg base:=KA d14 B;have C_is_between:U1 P w K mg base:=My d15 B;have C_grown:Oc P w K mg base:=Bw d16 B C_pieces_of C_is_between;have C_trees:=Bx (P:=P) (w:=w) (base:=base) d17 B C_tree_count C_ties_of C_grown;have CF_trees:=Dd (P:=P) (w:=w) (base:=base) d17 B C_tree_count C_ties_of C_grown;have C_stills:=Dg (P:=P) (w:=w) (base:=base) d18 B C_still_by CF_trees;have C_in_debt:Sg P w K mg base:=HS d19 B;have C_ties_to:QT P w K mg base:=HV d20 B;have C_house_to_burn:WQ P w K mg base:=Q1 d21 B C_ties_to;have C_burnt:Od P w K mg base:=By d22 B C_house_to_burn;have C_is_settled:U2 P w K mg base:=MA d23 B C_burnt C_in_debt;have C_refuse_unstill:Xo P w K mg base:=R6 d24 B C_is_settled;have C_solved_below:Vu P w K mg base:=PX d25 B C_evened;have C_nearing:QU P w K mg base:=HW d26 B C_solved_below C_square_without;have C_gain:HJ P w K mg base:=Za6 d27 B;have C_run:Bv P w K mg base:=Ze6 d28 B C_gain;have C_borrowing:TU P w K mg base:=KH d29 B;have C_plus:NB P w K mg base:=Za8 d30 B;have C_least:Oe P w K mg base:=BA d31 B;have C_settle:R0 P w K mg base:=Dh d32 B C_nearing C_run C_in_debt C_borrowing C_plus C_burnt C_least;have C_stilled:Sh P w K mg base:=HZ d33 B C_settle;have C_joined:NC P w K mg base:=Dj d34 B C_refuse_unstill C_stilled C_plus;have C_minus:Of P w K mg base:=BC d35 B;have C_back:HK P w K mg base:=Zba d36 B C_refuse_unstill C_stilled C_minus;have C_l_cell:R1 P w K mg base:=Dl d37 B;have C_l_renamed:TV P w K mg base:=KN d38 B;have C_l_read_times:Vv P w K mg base:=PY d39 B;have C_l_timesL:SW P w K mg base:=J6 d40 B C_l_cell C_l_read_times C_l_renamed;have C_l_whole:QV P w K mg base:=Gb d41 B;have C_l_tuple:Si P w K mg base:=Ge d42 B C_l_whole;have C_alike:Kw P w K mg base:=BD d43 B C_settle C_least C_minus;have C_l_gone:ND P w K mg base:=Dm d44 B;have C_l_led:Kx P w K mg base:=BE d45 B C_plus C_alike C_l_gone C_l_tuple;exact Ze7 F B C_l_houses C_l_cell C_l_square C_l_timesL C_stills C_joined C_l_led C_l_tuple C_back
end PW
namespace PySem.W.Fast
def tw9482718143392713373:=()
def tw5260643797775287070:=()
def tw9870020226213128950:=()
def tw4985552976718407352:=()
def tw4606802583295325481:=()
def tw898603308638273877:=()
def tw17020390494387350927:=()
def tw11355319240249747767:=()
def tw16940913414188998586:=()
def tw18420773752429293456:=()
def tw5092872209726720098:=()
def tw6883584586682821842:=()
def tw18061268246046480705:=()
def tw2029462618650537628:=()
def tw8332158426640237212:=()
def tw7794639450904263863:=()
def tw5981624672772133788:=()
def tw17927697568770415419:=()
def tw11127993799741697723:=()
def tw1242170620594697441:=()
def tw924331921299291782:=()
def tw10042182532578506774:=()
def tw2200949785849579770:=()
def tw5162358686284601222:=()
def tw8341719222722071123:=()
def tw6968040753906097800:=()
def tw6032271479223769537:=()
def tw5072631575172134637:=()
def tw613369824082389795:=()
def tw6576851909857593592:=()
def tw6390346931214160392:=()
def tw15516680225248079879:=()
def tw10485292615778561865:=()
def tw5270762952809178396:=()
def tw3307831301249246312:=()
def tw377305986370115833:=()
def tw17233242400233028395:=()
def tw15063817537589819832:=()
def tw5440608024509549933:=()
def tw6812152195633213019:=()
def tw7213985724663954816:=()
def tw2839586890345114317:=()
def tw7111055270678042421:=()
def tw10144115645235311350:=()
def tw12162335326871572025:=()
def tw5644788627067855650:=()
def tw5210240626199946843:=()
def tw10155911263730985817:=()
def tw11714620438266775836:=()
def tw16155892257033219978:=()
def tw16389630712050646066:=()
def tw7784224206695809841:=()
def tw18195609003324159094:=()
def tw16773143591120458250:=()
def tw13522907586574264567:=()
def tw9669089037409280808:=()
def tw15478146482820628220:=()
def tw8579970150515758747:=()
def tw15602784534427634855:=()
def tw16576159126271857454:=()
def tw18391287703535809433:=()
def tw14136338440130143293:=()
def tw10389128805032065980:=()
def tw18343390910867562326:=()
def tw13762511783328500640:=()
def tw16126456859386952701:=()
def tw86451642380259607:=()
def tw2391197247664161544:=()
def tw11879219887460077660:=()
def tw11923597923872859769:=()
def tw2998258777859223245:=()
def tw16440594990669244833:=()
def tw13454575026765356814:=()
def tw14694976289071389135:=()
def tw2760219337740463254:=()
def tw7263777440434378359:=()
def tw12025259758921557441:=()
def tw470373384754807324:=()
def tw6380494500792637466:=()
def tw10337546410115697302:=()
def tw1890055668675347114:=()
def tw5780854283184185888:=()
def tw16931869809377899674:=()
def tw4790714653125611606:=()
def tw5185031688721023680:=()
def tw11743579063223005188:=()
def tw15865173099434553515:=()
def tw3208788789124055326:=()
def tw6161682690740865832:=()
def tw1507223112116271829:=()
def tw2632806411071919495:=()
def tw10912672449531559003:=()
def tw4596262945896481186:=()
def tw9516896015162638614:=()
def tw9297633962206680240:=()
def tw2708305852250086109:=()
def tw11531849276537111059:=()
def tw11391825842096011457:=()
def tw13698428820109917675:=()
def tw17313939195976441737:=()
def tw13344227986574991364:=()
def tw17831387445294794901:=()
def tw17290747167413217373:=()
def tw14836209750457377421:=()
def tw1132356001204561437:=()
end PySem.W.Fast
open PySem PySem.W PyProof.Rows
set_option maxRecDepth 100000 in
set_option maxHeartbeats 0 in
theorem PySem.Challenge.cw_purseweb_k55_whole_joined_and_back_holds : PySem.Challenge.rw_purseweb_k55_whole_joined_and_back.Holds := by
 w_on;o_law;k_head;(case hw=>w_witness2)
 k_fill
 refine VL.law_walkT (l:=jF) (D:=PW.D_law) (x:="_law_script") 8 rfl rfl ⟨rfl,by decide,by decide,rfl⟩ (λw=>by kernel_rfl) PW.law_true (λw h Y=>PySem.W.km_in_of Y) ?F
 case F=>
  intro w mg fa h KX G hmg
  refine' PW.all_mk hmg ?B ?d0 ?d1 ?d2 ?d3 ?d4 ?d5 ?d6 ?d7 ?d8 ?d9 ?d10 ?d11 ?d12 ?d13 ?d14 ?d15 ?d16 ?d17 ?d18 ?d19 ?d20 ?d21 ?d22 ?d23 ?d24 ?d25 ?d26 ?d27 ?d28 ?d29 ?d30 ?d31 ?d32 ?d33 ?d34 ?d35 ?d36 ?d37 ?d38 ?d39 ?d40 ?d41 ?d42 ?d43 ?d44 ?d45 ?d46
  case B=>constructor<;>(refine PySem.W.mg_none_of KX G ?_;k_is)
  case d0 | d1 | d2 | d3 | d4 | d5 | d6 | d7 | d8 | d9 | d10 | d11 | d12 | d13 | d14 | d15 | d16 | d19 | d20 | d21 | d22 | d23 | d24 | d25 | d26 | d27 | d28 | d29 | d30 | d31 | d32 | d33 | d34 | d35 | d36 | d37 | d38 | d39 | d40 | d41 | d42 | d43 | d44 | d45 | d46=>(refine' L2.def_mk KX G ?a ?l ?c ?k;(case a=>k_is);(case l=>k_is);(case c=>k_is);(case k=>k_is))
  case d17 | d18=>(refine' VL.defD_mk KX G ?a ?l ?c ?k ?lt ?d;(case a=>k_is);(case l=>k_is);(case c=>k_is);(case k=>k_is);(case lt=>k_is);(case d=>rfl))
