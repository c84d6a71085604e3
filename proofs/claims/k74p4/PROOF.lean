import PyProof.Rows.All
import Wide.All
import OpenK.AllK
import Wide.FinOn
import Lean
import PyProof.EqAt
import PyProof.EqKinds
import PyProof.TupleCall
import PyProof.NeKinds
import PyProof.ListMulRoad
import PyProof.WalkInts
import PyProof.ListRange
import KE.KRevIter
import KE.KSortTup
import KE.KDictSum
import PyProof.Rows.SortWalk
import PyProof.ExcInit
import PyProof.InstStoreFacts
import OpenK.KMake
import OpenK.KCls
import PyProof.FString2
import PyProof.TupleOfSeq
import KE.KUnpack
import KE.KMinKey
import PySem.Challenge.RW_purseweb_k74_whole_one_break_purse_alike
open Option renaming none → aA,bind_some → aL,isSome_iff_exists → cI,map_some → cQ,bind → eK,map_eq_some_iff → jK,isSome_some → kM,isSome_map → k7,getD_none → kl,none → mK
open Bool renaming false → aB,true → aC,false_ne_true → au,and_eq_true → av,false_eq_true → dB,eq_iff_iff → g9,or_eq_true → jY,and_eq_true_iff → jh,not_eq_true' → kb,not_eq_true → kq,false_or → lz,not_true → mE,true_and → mF
open List renaming range → aD,getD_eq_getElem?_getD → aE,getElem?_eq_getElem → aF,length_map → aH,replicate → aN,mem_singleton → aO,getElem?_map → aR,mem_cons_of_mem → aS,size_toArray → aT,getElem?_eq_some_iff → aU,mem_range → aW,length_append → aX,mem_append_right → aY,mem_append → aa,mem_cons → af,map_cons → ag,mem_cons_self → ah,getElem?_append_left → aj,map_congr_left → ak,length_cons → bA,map_append → bB,mem_append_left → bC,getElem?_append_right → bF,nodup_cons → bG,getElem?_set → bJ,length_drop → bK,all_eq_true → bM,map_map → bS,lookup_cons → bT,length_take → bU,getElem?_replicate → bV,getElem_mem → bY,mem_map → b7,mem_of_getElem? → b8,sum_cons → bc,take_of_length_le → bg,find?_cons → bh,getElem?_range → bq,not_mem_nil → cD,nodup_nil → cE,replicate_succ → cK,mem_filter → cN,nodup_append → cU,length_range → cV,length_replicate → cW,getElem?_eq_none → cX,length_set → cZ,append_nil → cu,length_singleton → cz,zip_cons_cons → dC,flatten_cons → dH,sum_append → dI,getElem_of_mem → dM,map_nil → dN,mem_of_find?_eq_some → dZ,range_succ → di,append_assoc → dm,getElem?_take_of_lt → du,length_eq_zero_iff → eJ,getElem?_drop → eR,mem_of_mem_drop → fB,mem_of_mem_take → fC,mem_flatMap → fJ,nodup_range → fK,ext_getElem → fL,exists_mem_of_ne_nil → fO,length_flatMap → fV,set_eq_of_length_le → fY,map_take → fZ,map_drop → fg,of_mem_zip → fj,mem_filterMap → gC,find?_eq_none → gD,drop_eq_nil_of_le → gK,range_succ_eq_map → gL,take_succ_eq_append_getElem → gQ,eraseIdx_eq_take_drop_succ → gR,cons_append → gX,mem_iff_getElem → g0,count_cons → gg,filterMap_cons → gj,filter_eq_self → gk,map_set → gv,getElem?_zip_eq_some → iK,length → iP,ext_getElem? → iR,all_cons → iW,length_erase_of_mem → i6,any_eq_true → ik,getElem?_set_self → jB,foldl → jJ,all_map → jO,length_pos_of_mem → jQ,filter_eq_nil_iff → jS,nil_append → jU,length_nil → jV,forIn_cons → jW,find?_some → jZ,getElem?_set_ne → j6,forIn_nil → jd,getElem?_zipIdx → jf,mem_erase_of_ne → ji,filter → jk,length_pos_iff → kC,any_cons → kG,filter_append → kR,map_replicate → kS,mem_replicate → kT,ne_nil_of_mem → kW,flatMap_cons → ka,getElem_inj → kd,zipIdx_cons → kn,take_length → ko,map_flatMap → ky,zipIdx_nil → lI,lookup_nil → lJ,take_zero → l9,drop_zero → lx,take_nil → mC,drop_nil → mD
open PySem.W renaming Frag → aG,kia_one → cP,codeIn → cg,kitOne → cj,fnOf → ck,keepIn → eZ,kla_fn → fA,tabObj → fD,tabIn → gY,nsIn → gq,envX → gu,methodObj → iN,cellsFrom_some → jC,mem_of_lookupK → jP,instObj → jT,CodeHd → j5,lookIn → j8,callWith_K → kK,kitx_list → kX,kitx_dict → kY,plainGet → kf,findIn → lY,noTabs → lu,mg_of → mB
open PySem renaming Value → aI,Addr → aK,wpAny_bind → aM,Shared → aP,starEach → aQ,Str → aq,wpAny_pure → aw,wpAny → ay,Expr → bH,Program → bN,Heap → b9,foldedSetIterable → ba,wpAny_mono → bj,Stmt → bp,Around → bt,World → bu,mainGlobals → cB,mem_of_lookup → cJ,behindInMarks → cO,bootBuiltins → cS,wpAny_field → cT,wpAny_newObj_type → cq,Obj → cx,binaryOp → cy,wpAny_Call_Name_kw → dA,backTo → dD,wpAny_truthy_bool → dE,wpAny_callSpecial?_slot → dG,wpAny_seqItems → dW,wpAny_setField_rec → dX,Pos → da,compareOp → dc,wpAny_passesOwn → df,cLine → dj,NameKind → dk,IsPair → dz,Scope → eB,FuncData → eF,sysModules → eM,call_meets → eQ,wpAny_call_entry → fH,wpAny_comprehension_free → fX,wpAny_ite_false → fu,swapsWith → gF,sliceBounds → gH,rawInt → gV,wpAny_updateSeq_pair → gZ,wpAny_execs_nil → g6,letOwnedTupleGo → g7,wpAny_loadPart' → g8,codeAny → gm,codeAny_mono → gn,codeAmong → gy,builtinsNs → gz,assignEach → hW,bindArgs → iA,tupleKind_room_in1 → iC,closureFor → iD,compEnvC → iE,newFunctionEnv → iG,IsZip → iH,wpAny_binaryOp_repeat_ref → iJ,sizeLine_eq → iO,wpAny_holding → iU,wpAny_onRaise → iV,noFill_tuple_add → ig,concat_meets → jD,getItem → jE,typeIs_int → jI,notedBy → jL,codeAny_compStart_list → jM,wpAny_isTrue_Compare1 → j3,wpAny_loadName_local → j7,fitsIndex_both → ja,wpAny_newFunctionEnv → jc,tupleKind → jr,PassesOwn → js,Arguments → ju,valueAt → jv,Builtin → jw,Env → jx,wpAny_loadName_cell → jy,wpAny_standAt → kD,seq_tuple_add → kE,isTrue → kH,wpAny_pyIter_tuple → kI,IsPart → kL,BindsTo → k3,seqIndex_neg → k5,callerA → k9,pyNext → ke,cellsFrom → kg,seqIndex? → kj,keywordEach → kz,seqIndex_of → lA,atKey → lC,wpAny_letGo → lH,standAt → lK,Keyword → lM,wpAny_Name → lR,CmpOp → lT,Operator → lU,wpAny_call → lZ,bindL → l3,bindC → l5,wpAny_rule → l8,defaultsOf → lj,Within → mH
open PySem.Heap renaming get?_push_of_some → aJ,lt_size → aV,get?_push_size → ao,size_push → cC,SameBut → cL,get?_update_other → jH,get?_update_self → j4,ExtBut → lE
open Nat renaming le_refl → aZ,lt_of_lt_of_le → ar,ne_of_lt → bQ,le_trans → bX,le_of_lt → cF,lt_irrefl → cH,mod_eq_of_lt → dR,lt_of_le_of_lt → dU,min_eq_left → dh,lt_succ_of_lt → dq,lt_succ_self → eG,le_add_right → eI,ne_of_gt → eO,zero_le → eu,mul_le_mul → fE,mul_le_mul_right → fF,le_succ_of_le → gM,mod_eq_sub_mod → iI,le_succ → iQ,lt_succ_iff_lt_or_eq → ie,min_eq_right → ij,mod_lt → jR,zero_lt_one → j0,add_left_cancel → kA,and_one_is_mod → kU,mul_comm → k6
open Option.some renaming inj → az
open Ne renaming symm → bO
open PySem.F renaming plainAttrs_list → bP,slot_list_append → bx,type_list_append → bz,args_tuple_add_2 → fW,entry_tuple_add → gG,slot_tuple_add → gJ,slot_list_insert → iX,type_list_insert → iY,slot_list_extend → iZ,type_list_extend → i5
open Int renaming toNat_natCast → bR,mul_comm → cG,mul_assoc → cR,le_refl → cw,zero_mul → dO,neg_mul → dQ,fdiv_eq_ediv_of_nonneg → dS,mul_left_comm → eV,mul_zero → fI,emod_lt_of_pos → gE,natAbs_mul → gO,emod_nonneg → gh,add_zero → gx,eq_of_mul_eq_mul_left → iM,mul_sub → iS,one_mul → iT,mul_fdiv_cancel_left → i7,lt_mul_ediv_self_add → i8,ofNat_inj → i9,add_mul → je,mul_add → jj,mul_nonneg → jm,mul_ediv_self_le → jn,toNat_of_nonneg → kB,natCast_emod → ku,toNat → mG,fdiv → mL
open True renaming intro → bW
open PySem.NameKind renaming free → bZ,cell → dP
open PySem.Builtin.SmallTypes renaming nextOf → br,ownedTupleIsFree → cY,ownedTupleHandOut → fS
open Or renaming inl → bw,inr → jb
open PyProof.Rows renaming callWith_type1 → cA,slot_tuple_getitem → eD,envOfC → gW,AllBare → jA,subscriptTail_builtinR → jF,subscriptTail → kF,IntsAre → k4,boot_range → lV,Subscript_ → l6
open PySem.Value renaming ref → cM,int → eU,none → eY,str → kc,bool → lN,type → lO,isStrOf → ly
open False renaming elim → c9
open Array renaming length_toList → dJ,toList_append → fR,toArray_toList → jg,toList_push → k8,toList → mI
open PySem.Builtin.Slice renaming slicePlaces → dY,sliceAdjust → fM,sliceApplied → iB
open PySem.Builtin renaming bitAnd → dt,bitNot → fG,bitAnd → lW
open PySem.Builtin.Tuple renaming tupleExact → dw
open PySem.Builtin.List renaming listTooLong → dy
open ForInStep renaming yield → eT
open Classical renaming byContradiction → fQ,axiomOfChoice → iu
open PySem.Builtin.Int renaming intBits → fU
open PySem.PassesOwn renaming never → gA
open PySem.Challenge renaming pw_purseweb_k74_whole_one_break_purse_alike → gS,rw_purseweb_k74_whole_one_break_purse_alike → gU
open PySem.Str renaming ofString → gp
open PySem.Calls renaming Name_function_global → hU,spliced_cons → kJ,spliced_nil → kZ
open PySem.W.WData renaming weightAll → ip,int → km
open PySem.Obj renaming mapSeq → jG,data_mapFields → kO
open PySem.SeqAt renaming EqAt → jN
open PySem.SeqAt.EqAt renaming same → jX,int_int → kP,of_refs → kQ
open PySem.Around renaming frames_deeper → j9
open Sum renaming inl → jo,inr → jq
open PySem.Heap.SameBut renaming update → jz
open PyProof.Rows.IsTup renaming new → kh
open PySem.Shared renaming heap → lG
open PySem.IsRange renaming new → mJ
theorem mM.{u}{c:Prop}{h:Decidable c}(hc:c){α:Sort u}{t e:α}:ite c t e=t:=if_pos hc
theorem mN.{u}{c:Prop}{h:Decidable c}(hc:Not c){α:Sort u}{t e:α}:ite c t e=e:=if_neg hc
noncomputable section
set_option Elab.async false
set_option linter.all false
set_option maxRecDepth 100000
namespace L2
open PySem PySem.Spec PyProof.Rows
abbrev Xl:=Sum Int aq
noncomputable def Nu:Xl->aI->Bool
 | .inl k,v=>aI.isInt k v
 | .inr x,v=>ly x v
noncomputable def Zfa(w:bu):Xl->Int
 | .inl k=>hashInt k
 | .inr x=>hashStr w x
theorem YE:∀{k:Xl}{v:aI},Nu k v=aC->(∃i t,k=jo i/\v=eU i t)\/(∃x t,k=jq x/\v=kc x t)
 | .inl i,v,h=>by obtain⟨t,e⟩:=aI.isInt_shape (k:=i) (v:=v) h;exact .inl ⟨i,t,rfl,e⟩
 | .inr x,v,h=>by obtain⟨t,e⟩:=aI.isStrOf_shape (x:=x) (v:=v) h;exact .inr ⟨x,t,rfl,e⟩
theorem HU(i:Int)(t:Tok):Nu (.inl i) (.int i t)=aC:=by simp[Nu,aI.isInt]
theorem HV(x:aq)(t:Tok):Nu (.inr x) (.str x t)=aC:=by simp[Nu,ly]
theorem A1(a b:Int):decide ((jo a:Xl)=jo b)=(a==b):=by
 by_cases e:a=b
 ·subst e;simp
 ·have h:¬(jo a:Xl)=jo b:=λq=>e (jo.inj q);rw[decide_eq_false h];exact(beq_eq_false_iff_ne.mpr e).symm
theorem A2(a b:aq):decide ((jq a:Xl)=jq b)=decide (a=b):=by
 by_cases e:a=b
 ·subst e;simp
 ·have h:¬(jq a:Xl)=jq b:=λq=>e (jq.inj q);rw[decide_eq_false h,decide_eq_false e]
theorem A3(a:Int)(b:aq):decide ((jo a:Xl)=jq b)=aB:=decide_eq_false (λq=>nomatch q)
theorem A4(a:aq)(b:Int):decide ((jq a:Xl)=jo b)=aB:=decide_eq_false (λq=>nomatch q)
noncomputable def YV(prog:bN)(w:bu):PySem.KeyKind prog w Xl where
 is:=Nu
 hash:=Zfa w
 inj:=λv a b ha hb=>by
  rcases YE ha with⟨i,t,rfl,rfl⟩ | ⟨x,t,rfl,rfl⟩
  ·rcases YE hb with⟨j,u,rfl,e⟩ | ⟨y,u,rfl,e⟩
   ·injection e with e1 _;rw[e1]
   ·exact nomatch e
  ·rcases YE hb with⟨j,u,rfl,e⟩ | ⟨y,u,rfl,e⟩
   ·exact nomatch e
   ·injection e with e1 _;rw[e1]
 byValue:=λk v h=>by rcases YE h with⟨i,t,rfl,rfl⟩ | ⟨x,t,rfl,rfl⟩<;>rfl
 pyHash:=λhv h=>by
  rcases YE hv with⟨i,t,rfl,rfl⟩ | ⟨x,t,rfl,rfl⟩
  ·exact wpAny_pyHash_int h
  ·exact wpAny_pyHash_str h
 eqBool:=λhu hv h=>by
  rcases YE hu with⟨i,t,rfl,rfl⟩ | ⟨x,t,rfl,rfl⟩
  ·rcases YE hv with⟨j,u,rfl,rfl⟩ | ⟨y,u,rfl,rfl⟩
   ·rw[A1] at h;exact wpAny_eqBool_int h
   ·rw[A3] at h;exact jN.int_str i t y u _ _ _ _ h
  ·rcases YE hv with⟨j,u,rfl,rfl⟩ | ⟨y,u,rfl,rfl⟩
   ·rw[A4] at h;exact jN.str_int x t j u _ _ _ _ h
   ·rw[A2] at h;exact wpAny_eqBool_str h
 «strs»:=λk x t v h=>by
  rcases YE h with⟨i,u,rfl,e⟩ | ⟨y,u,rfl,e⟩
  ·exact nomatch e
  ·injection e with e1 _;subst e1;cases v<;>rfl
theorem Ls(prog:bN)(w:bu)(i:Int)(t:Tok):(YV prog w).is (.inl i) (.int i t)=aC:=HU i t
theorem Lu(prog:bN)(w:bu)(x:aq)(t:Tok):(YV prog w).is (.inr x) (.str x t)=aC:=HV x t
inductive V where
 | non | bl (b:Bool) | int (i:Int) | str (x:aq) | byt (b:Array UInt8) | flt (b:UInt64) | ref (a:aK) | ty (n:String)
 deriving DecidableEq
noncomputable def RelV:V->aI->Prop
 | .non,u=>u=eY
 | .bl b,u=>u=lN b
 | .int i,u=>∃t,u=eU i t
 | .str x,u=>∃t,u=kc x t
 | .byt b,u=>∃t,u=aI.bytes b t
 | .flt b,u=>∃t,u=aI.float b t
 | .ref a,u=>u=cM a
 | .ty n,u=>u=lO n
abbrev Vals:List V->List aI->Prop:=Paired RelV
theorem Vals.length{xs:List V}{us:List aI}(r:Vals xs us):xs.length=us.length:=Paired.length r
theorem Vals.get:∀{xs:List V}{us:List aI}{i:Nat}{x:V},Vals xs us->xs[i]?=some x->∃u,us[i]?=some u/\RelV x u
 | _,_,_,_,.nil,e=>by simp at e
 | _,_,0,_,.cons r _,e=>by simp at e;subst e;exact⟨_,rfl,r⟩
 | _,_,i+1,x,.cons _ t,e=>by obtain⟨u,h1,h2⟩:=Vals.get (i:=i) (x:=x) t (by simpa using e);exact⟨u,by simpa using h1,h2⟩
theorem Vals.set{x:V}{u:aI}(r:RelV x u):∀{xs:List V}{us:List aI}(i:Nat),Vals xs us->Vals (xs.set i x) (us.set i u)
 | _,_,_,.nil=>.nil
 | _,_,0,.cons _ t=>.cons r t
 | _,_,i+1,.cons q t=>.cons q (Vals.set r i t)
theorem Vals.append:∀{xs ys:List V}{us ws:List aI},Vals xs us->Vals ys ws->Vals (xs++ys) (us++ws)
 | _,_,_,_,.nil,s=>s
 | _,_,_,_,.cons r t,s=>.cons r (Vals.append t s)
theorem Vals.take:∀{xs:List V}{us:List aI}(n:Nat),Vals xs us->Vals (xs.take n) (us.take n)
 | _,_,0,_=>.nil
 | _,_,_+1,.nil=>.nil
 | _,_,n+1,.cons r t=>.cons r (Vals.take n t)
theorem Vals.drop:∀{xs:List V}{us:List aI}(n:Nat),Vals xs us->Vals (xs.drop n) (us.drop n)
 | _,_,0,r=>r
 | _,_,_+1,.nil=>.nil
 | _,_,n+1,.cons _ t=>Vals.drop n t
noncomputable def RelO:Option V->Option aI->Prop
 | some v,some u=>RelV v u
 | none,aA=>True
 | _,_=>False
noncomputable def KV{κ:Type}:List (κ×V)->List (κ×aI)->Prop:=Paired λ(p:κ×V) (q:κ×aI)=>p.1=q.1/\RelV p.2 q.2
noncomputable def kV:Xl->V
 | .inl i=>.int i
 | .inr x=>.str x
inductive HO where
 /-- a list -/
 | lst (xs:List V)
 /-- a tuple (never changes) -/
 | tup (xs:List V)
 /-- a dict whose keys are ints and texts;one whose keys are tuples of ints and texts (the empty one is both) -/
 | dK (m5:List (Xl×V)) | dT (m5:List (List Xl×V))
 /-- a set of ints: m9 members,m9 size -/
 | set (S:Int->Bool) (n:Nat)
 /-- an instance of the class at C,m9 dict at dx,m9 attributes -/
 | ins (C dx:aK) (fs:List (aq×V))
 /-- the dict of the instance at x -/
 | own (x:aK)
 /-- the dict of an exception -/
 | xd (fs:List (aq×V))
 /-- a bound method,f of x -/
 | met (f x:aK)
 /-- a range object lo,lo+1,.. below hi -/
 | rng (lo hi:Int)
 /-- a thing that is known to the object (the script;a dict while a loop walks it): read,never written while it is so -/
 | frz (o:cx) (u:HO)
 /-- a code object's table -/
 | tbl (ps:Array aI)
 /-- any other thing,by what is aC of m9 one object (a def of one's own: SetO a S n:=HO.ext λh=>..) -/
 | ext (φ:b9->Prop)
abbrev Hp:=aK->Option HO
noncomputable def upd(H:Hp)(a:aK)(o:HO):Hp:=λb=>if b=a then some o else H b
theorem Zp{H:Hp}{a:aK}{o:HO}:upd H a o a=some o:=by unfold upd;rw[mM rfl]
theorem upd_ne{H:Hp}{a b:aK}{o:HO}(h:b≠a):upd H a o b=H b:=by unfold upd;rw[mN h]
theorem Zc0{H:Hp}{a b:aK}{o u:HO}(h:H a=some o)(h':H b=some u)(d:o≠u):a≠b:=by intro e;subst e;rw[h] at h';exact d (az h')
theorem Zr{H:Hp}{a b:aK}{o:HO}(h:H a=some o)(h':H b=aA):a≠b:=by intro e;subst e;rw[h] at h';cases h'
noncomputable def QB(x:aq):Bool:=x=="tree_of" || x=="still_by" || x=="made_of"
noncomputable def Q9(x:aq):aq:=x++".<locals>."++"<lambda>"
noncomputable def KZ(o:cx)(q:aq):Prop:=∃vs t,o.data = .fields vs/\vs[1]?=some (.str q t)
noncomputable def Zc1(q:aq)(H:Hp)(ps:List aI):Prop:=TriplesOk ps/\∀pos v,gy pos ps=some v->∃c o,v = .ref c/\H c=some (.frz o (.own 0))/\KZ o q
theorem Pa{h:b9}{T:aI}{xs:Array aI}{n:Nat}{o:cx}(e:(h.push { cls:=T,data:=.seq xs n }).get? h.objs.size=some o):o.dict=aA:=by rw[ao _ rfl] at e;cases e;rfl
section
variable (P:bN) (w:bu)
noncomputable def ObjOk(H:Hp)(h:b9)(a:aK):HO->Prop
 | .lst xs=>xs.length<=sizeLine/\∃(m9:List aI) (n:Nat),Vals xs m9/\h.get? a=some { cls:=.type "list",data:=.seq m9.toArray n }
 | .tup xs=>(xs.length<=sizeLine/\∀o,h.get? a=some o->o.dict=aA)/\∃m9:List aI,Vals xs m9/\IsTup h a m9.toArray
 | .dK m5=>m5.length<=sizeLine/\(a==eM)=aB/\∃vs,KV m5 vs/\h.DictOf (YV P w) a vs
 | .dT m5=>m5.length<=sizeLine/\(a==eM)=aB/\∃xs:List (List Xl×aK×aI),
   Paired (λ(p:List Xl×V) (q:List Xl×aK×aI)=>p.1=q.1/\H q.2.1=some (.tup (p.1.map kV))/\RelV p.2 q.2.2) m5 xs/\
   ∃o es ep,h.get? a=some o/\o.ExactDict/\o.data = .dict es ep/\es.toList=xs.map (entryOfKey (jr (YV P w)))/\(xs.map (·.1)).Nodup
 | .set S n=>h.SetOf (intKind P w) a S n
 | .ins C dx fs=>H dx=some (.own a)/\fs.length<=1000/\dx≠a/\h.get? a=some (jT C dx)/\
   ∃mA,h.Ns1 dx mA/\(∀f,RelO (fs.lookup f) (mA f))/\mH mA (fs.map (·.1))
 | .own _=>∃o,h.get? a=some o
 | .xd fs=>∃mA,h.Ns1 a mA/\∀f,RelO (fs.lookup f) (mA f)
 | .rng lo hi=>∃t u v,h.get? a=some { cls:=.type "range",data:=.fields #[.int lo t,.int hi u,.int 1 v] }
 | .frz o u=>h.get? a=some o/\ObjOk H h a u
 | .tbl ps=>∃(q:aq) (t:Tok) (ps':Array aI),ps[0]?=some (.str q t)/\h.get? a=some { cls:=.none,data:=.fields ps' }/\Zc1 q H ps'.toList
 | .met f x=>h.get? a=some (iN (.ref f) (.ref x))
 | .ext φ=>φ h/\(∃o,h.get? a=some o)/\∀h1 h2:b9,φ h1->(∀o,h1.get? a=some o->h2.get? a=some o)->φ h2
noncomputable def HOk(H:Hp)(h:b9):Prop:=∀a o,H a=some o->ObjOk P w H h a o
end
section
variable {P:bN} {w:bu} {H H':Hp} {h h':b9} {a:aK} {o:HO}
theorem ObjOk.lt(x:ObjOk P w H h a o):a<h.objs.size:=by
 cases o with
 | lst xs=>obtain⟨_,_,_,_,e⟩:=x;exact aV e
 | tup xs=>obtain⟨_,_,_,p⟩:=x;exact p.lt
 | dK m5=>obtain⟨_,_,_,_,o,_,_,e,_⟩:=x;exact aV e
 | dT m5=>obtain⟨_,_,_,_,o,_,_,e,_⟩:=x;exact aV e
 | set S n=>obtain⟨o,_,_,_,e,_⟩:=x;exact aV e
 | ins C dx fs=>obtain⟨_,_,_,e,_⟩:=x;exact aV e
 | own y=>obtain⟨_,e⟩:=x;exact aV e
 | xd fs=>obtain⟨_,⟨_,_,_,e,_⟩,_⟩:=x;exact aV e
 | rng lo hi=>obtain⟨_,_,_,e⟩:=x;exact aV e
 | frz ob u=>obtain⟨e,_⟩:=x;exact aV e
 | tbl ps=>obtain⟨_,_,_,_,e,_⟩:=x;exact aV e
 | met f y=>exact aV (show h.get? a=some _ from x)
 | ext φ=>obtain⟨_,⟨_,e⟩,_⟩:=x;exact aV e
theorem Paired.mapP{α β:Type}{F G:α->β->Prop}:∀{l₁:List α}{l₂:List β},Paired F l₁ l₂->(∀a b,F a b->G a b)->Paired G l₁ l₂
 | _,_,.nil,_=>.nil
 | _,_,.cons r t,f=>.cons (f _ _ r) (Paired.mapP t f)
theorem ObjOk.stay(x:ObjOk P w H h a o)(k:∀b u,(b=a\/H b=some (.own a))->h.get? b=some u->h'.get? b=some u)
  (ho:∀b,H b=some (.own a)->H' b=some (.own a)) (ht:∀b xs,H b=some (.tup xs)->H' b=some (.tup xs)) (hf:∀b u,H b=some (.frz u (.own 0))->H' b=some (.frz u (.own 0))):ObjOk P w H' h' a o:=by
 induction o with
 | lst xs=>obtain⟨z,m9,n,r,e⟩:=x;exact⟨z,m9,n,r,k _ _ (.inl rfl) e⟩
 | tup xs=>obtain⟨z,m9,r,ob,e,c⟩:=x;exact⟨⟨z.1,λo q=>by rw[k _ _ (.inl rfl) e] at q;cases q;exact z.2 _ e⟩,m9,r,ob,k _ _ (.inl rfl) e,c⟩
 | dK m5=>obtain⟨z,y,vs,r,ob,es,ep,e,c⟩:=x;exact⟨z,y,vs,r,ob,es,ep,k _ _ (.inl rfl) e,c⟩
 | dT m5=>
  obtain⟨z,y,xs,r,ob,es,ep,e,c⟩:=x;exact⟨z,y,xs,Paired.mapP r λp q z=>⟨z.1,ht _ _ z.2.1,z.2.2⟩,ob,es,ep,k _ _ (.inl rfl) e,c⟩
 | set S n=>obtain⟨ob,es,ep,t,e,c⟩:=x;exact⟨ob,es,ep,t,k _ _ (.inl rfl) e,c⟩
 | ins C dx fs=>
  obtain⟨d,z,ne,e,mA,⟨od,es,ep,e2,c⟩,r⟩:=x;exact⟨ho _ d,z,ne,k _ _ (.inl rfl) e,mA,⟨od,es,ep,k _ _ (.inr d) e2,c⟩,r⟩
 | own y=>obtain⟨ob,e⟩:=x;exact⟨ob,k _ _ (.inl rfl) e⟩
 | xd fs=>obtain⟨mA,⟨od,es,ep,e,c⟩,r⟩:=x;exact⟨mA,⟨od,es,ep,k _ _ (.inl rfl) e,c⟩,r⟩
 | rng lo hi=>obtain⟨t,u,v,e⟩:=x;exact⟨t,u,v,k _ _ (.inl rfl) e⟩
 | frz ob u ih=>obtain⟨e,q⟩:=x;exact⟨k _ _ (.inl rfl) e,ih q⟩
 | tbl ps=>
  obtain⟨q,t,ps',e0,e,t1,t2⟩:=x;refine⟨q,t,ps',e0,k a _ (.inl rfl) e,t1,λpos v hv=>?_⟩;obtain⟨c,o,e1,e2,e3⟩:=t2 pos v hv;exact⟨c,o,e1,hf c o e2,e3⟩
 | met f y=>
  have e:h.get? a=some (iN (.ref f) (.ref y)):=x;show h'.get? a=some (iN (.ref f) (.ref y));exact k a _ (.inl rfl) e
 | ext φ=>obtain⟨p,⟨o,e⟩,st⟩:=x;exact⟨st _ _ p λo q=>k _ _ (.inl rfl) q,⟨o,k _ _ (.inl rfl) e⟩,st⟩
theorem HOk.lt(x:HOk P w H h)(e:H a=some o):a<h.objs.size:=(x a o e).lt
theorem HOk.fresh(x:HOk P w H h)(e:h.objs.size<=a):H a=aA:=by
 cases q:H a with
 | none=>rfl
 | some u=>exact absurd (ar (x.lt q) e) (cH _)
theorem HOk.kept(x:HOk P w H h)(k:∀b u,h.get? b=some u->h'.get? b=some u):HOk P w H h':=λa o e=>
 (x a o e).stay (λb u _ q=>k b u q) (λ_ q=>q) (λ_ _ q=>q) λ_ _ q=>q
theorem HOk.laid(x:HOk P w H h)(k:∀b u,h.get? b=some u->h'.get? b=some u)(hp:h.objs.size<=a)(new:ObjOk P w (upd H a o) h' a o):HOk P w (upd H a o) h':=λb u e=>by
 have hn:=x.fresh hp;by_cases hb:b=a
 ·subst hb;rw[Zp] at e;cases e;exact new
 ·rw[upd_ne hb] at e;exact(x b u e).stay (λc v _ q=>k c v q) (λc q=>by rw[upd_ne (Zr q hn)];exact q) (λc xs q=>by rw[upd_ne (Zr q hn)];exact q) λc u q=>by rw[upd_ne (Zr q hn)];exact q
end
noncomputable def Rd(H:Hp)(a:aK)(u:HO):Prop:=H a=some u\/∃o,H a=some (.frz o u)
theorem Rd.ok{P:bN}{w:bu}{H:Hp}{h:b9}{a:aK}{u:HO}(r:Rd H a u)(x:HOk P w H h):ObjOk P w H h a u:=by
 rcases r with r | ⟨o,r⟩
 ·exact x a u r
 ·obtain⟨_,q⟩:=x a _ r;exact q
noncomputable def V4:Option HO->Prop
 | some (.lst _)=>True
 | some (.dK _)=>True
 | some (.dT _)=>True
 | some (.set _ _)=>True
 | some (.ins _ _ _)=>True
 | some (.ext _)=>True
 | _=>False
section
variable {P:bN} {w:bu} {H:Hp} {h h':b9} {x e:aK} {o':HO}
theorem HOk.write(ok:HOk P w H h)(mu:V4 (H x))(he:e=x\/H e=some (.own x))(k:∀b u,b≠e->h.get? b=some u->h'.get? b=some u)(heo:∃u,h'.get? e=some u)
  (new:ObjOk P w (upd H x o') h' x o'):HOk P w (upd H x o') h':=λb u q=>by
 have nown:∀c y,H c=some (.own y)->c≠x:=λc y r z=>by subst z;rw[r] at mu;exact mu
 have ntup:∀c xs,H c=some (.tup xs)->c≠x:=λc xs r z=>by subst z;rw[r] at mu;exact mu
 by_cases hb:b=x
 ·subst hb;rw[Zp] at q;cases q;exact new
 ·rw[upd_ne hb] at q;by_cases hbe:b=e
  ·have q':H b=some (.own x):=by
    rcases he with z | z
    ·exact absurd (hbe.trans z) hb
    ·rw[hbe];exact z
   rw[q] at q';cases q';obtain⟨v,hv⟩:=heo;exact⟨v,by rw[hbe];exact hv⟩
  ·refine(ok b u q).stay (λc v hc r=>k c v ?_ r) (λc r=>by rw[upd_ne (nown c b r)];exact r) (λc xs r=>by rw[upd_ne (ntup c xs r)];exact r) λc v r=>by rw[upd_ne (λz=>by subst z;rw[r] at mu;exact mu)];exact r
   rcases hc with rfl | hc
   ·exact hbe
   ·rintro rfl;rcases he with z | z
    ·exact nown c b hc z
    ·rw[hc] at z;cases z;exact hb rfl
end
structure Un(fs ex:List aK)(H H':Hp)(h h':b9):Prop where
 keep:∀b o,h.get? b=some o->H b=aA->b∉fs->b∉ex->h'.get? b=some o
 slot:∀b o,h.get? b=some o->H b=aA->b∈fs->b∉ex->∃sl,h'.get? b=some { o with slots:=sl }
 free:∀b o,h.get? b=some o->H b=aA->b∉ex->H' b=aA
 there:∀b o,h.get? b=some o->b∉ex->∃o',h'.get? b=some o'
 tups:∀b xs,H b=some (.tup xs)->H' b=some (.tup xs)
 frzs:∀b o u,H b=some (.frz o u)->H' b=some (.frz o u)
 tbls:∀b ps,H b=some (.tbl ps)->∃more,H' b=some (.tbl (ps++more))
section
variable {fs fs' ex ex':List aK} {H H1 H2:Hp} {h h1 h2 h':b9} {a x e:aK} {o:HO}
theorem Un.any(u:Un fs ex H H1 h h1){b:aK}{ob:cx}(q:h.get? b=some ob)(n:H b=aA)(hx:b∉ex):∃sl,h1.get? b=some { ob with slots:=sl }:=by
 by_cases hb:b∈fs
 ·exact u.slot b ob q n hb hx
 ·exact⟨ob.slots,u.keep b ob q n hb hx⟩
theorem Un.kept(k:∀b u,h.get? b=some u->h'.get? b=some u):Un fs ex H H h h':=
 ⟨λb ob q _ _ _=>k b ob q,λb ob q _ _ _=>⟨ob.slots,k b ob q⟩,λ_ _ _ n _=>n,λb ob q _=>⟨ob,k b ob q⟩,λ_ _ q=>q,λ_ _ _ q=>q,λ_ ps q=>⟨#[],by rw[q];simp⟩⟩
theorem Un.refl:Un fs ex H H h h:=Un.kept λ_ _ q=>q
theorem Un.laid(k:∀b u,h.get? b=some u->h'.get? b=some u)(hp:h.objs.size<=a)(hn:H a=aA):Un fs ex H (upd H a o) h h' where
 keep:=λb u q _ _ _=>k b u q
 slot:=λb u q _ _ _=>⟨u.slots,k b u q⟩
 free:=λb u q n _=>by rw[upd_ne (bQ (ar (aV q) hp))];exact n
 there:=λb u q _=>⟨u,k b u q⟩
 tups:=λb xs q=>by rw[upd_ne (Zr q hn)];exact q
 frzs:=λb u xs q=>by rw[upd_ne (Zr q hn)];exact q
 tbls:=λb ps q=>⟨#[],by rw[upd_ne (Zr q hn),q];simp⟩
theorem Un.write(mu:V4 (H x))(he:e=x\/H e=some (.own x))(k:∀b u,b≠e->h.get? b=some u->h'.get? b=some u)(heo:∃u,h'.get? e=some u):Un fs ex H (upd H x o) h h':=by
 have hx:∀b,H b=aA->b≠x:=λb n z=>by subst z;rw[n] at mu;exact mu
 have hb:∀b,H b=aA->b≠e:=λb n z=>by
  subst z;rcases he with r | r
  ·exact hx b n r
  ·rw[n] at r;cases r
 have hm:∀b u,H b=some u->¬V4 (some u)->b≠x:=λb u q nm z=>by subst z;rw[q] at mu;exact nm mu
 refine⟨λb u q n _ _=>k b u (hb b n) q,λb u q n _ _=>⟨u.slots,k b u (hb b n) q⟩,λb u q n _=>by rw[upd_ne (hx b n)];exact n,λb u q _=>?_,
  λb xs q=>by rw[upd_ne (hm b _ q λz=>z)];exact q,λb u xs q=>by rw[upd_ne (hm b _ q λz=>z)];exact q,λb ps q=>⟨#[],by rw[upd_ne (hm b _ q λz=>z),q];simp⟩⟩
 by_cases hbe:b=e
 ·subst hbe;exact heo
 ·exact⟨u,k b u hbe q⟩
end
noncomputable def TabsH(K:aG)(mg:aq->Option aI)(base:b9)(H:Hp):Prop:=∀(q:aq)(c:aK),QB q=aC->cg K (.ref c) q=aC->
 ∃Pt ps t,j5 base c Pt/\H Pt=some (.tbl ps)/\ps[0]?=some (.str (Q9 q) t)/\base.BuiltinsAt mg Pt
theorem TabsH.un{K:aG}{mg:aq->Option aI}{base:b9}{fs ex:List aK}{H H':Hp}{h h':b9}(t:TabsH K mg base H)(u:Un fs ex H H' h h'):TabsH K mg base H':=λq c hq hc=>by
 obtain⟨Pt,ps,tk,e1,e2,e3,e4⟩:=t q c hq hc;obtain⟨more,e5⟩:=u.tbls Pt ps e2
 have hlt:0<ps.size:=by
  cases z:ps.size with
  | zero=>rw[Array.getElem?_eq_none (by omega)] at e3;cases e3
  | succ n=>omega
 exact⟨Pt,_,tk,e1,e5,by rw[Array.getElem?_append_left hlt];exact e3,e4⟩
noncomputable def trk(h:b9)(H:Hp):List aK:=(aD h.objs.size).filter λa=>(H a).isSome
noncomputable def Nh(h:b9)(H:Hp):b9:=PySem.W.hideAll h (trk h H)
theorem HW(h:b9)(H:Hp):(Nh h H).objs.size=h.objs.size:=PySem.W.hideAll_size _ _
theorem FH{h:b9}{H:Hp}{b:aK}{o:cx}(e:h.get? b=some o)(n:H b=aA):(Nh h H).get? b=some o:=
 PySem.W.hideAll_get _ e λhm=>by have q:(H b).isSome=aC:=(cN.mp hm).2;rw[n] at q;simp at q
theorem CB{h:b9}{H:Hp}{b:aK}{o:cx}(e:(Nh h H).get? b=some o):h.get? b=some o/\H b=aA:=by
 have e':h.get? b=some o:=PySem.W.of_hideAll (trk h H) e;refine⟨e',?_⟩
 cases q:H b with
 | none=>rfl
 | some x=>
  have hm:b∈trk h H:=cN.mpr ⟨aW.mpr (aV e'),by simp[q]⟩;have z:(Nh h H).get? b=aA:=PySem.W.hideAll_none (trk h H) hm;rw[z] at e;cases e
noncomputable def CC(g h:b9)(L:aK):List (aK×cx):=(aD h.objs.size).filterMap λa=>if a=L\/(g.get? a).isSome=aC then aA else(h.get? a).map λo=>(a,o)
noncomputable def YN(g h:b9)(L d:aK):List (aK×cx):=(CC g h L).filter λp=>decide (p.1≠d)
structure Mod(K:aG)(mg:aq->Option aI)(base:b9):Prop where
 kin:K.In base
 glob:base.Ns cB mg
 blt:∃mb,base.Ns gz mb/\∀x:aq,x≠"__name__"->mb x=cS x
 nolimit:base.NoLimit
structure Cx where
 prog:bN
 w:bu
 K:aG
 mg:aq->Option aI
 base:b9
 A:bt
 N:List aq
 s₀:aP
 H₀:Hp
 env:jx
 outer:List jx
 stack:List jx
 ex:List aK
 fn:aq->Bool
 calm:Bool
 pn:List (aK×cx)
 xe:aI->aP->Prop
noncomputable def Ni(l:List jx):List aK:=l.filterMap (·.frame)
abbrev Cx.fs(X:Cx):List aK:=Ni X.outer
noncomputable def Vis(sc:eB)(x:aq):Prop:=sc.names.lookup x=some .local\/sc.names.lookup x=some .cell\/sc.names.lookup x=some .free
noncomputable def Cz(sc:eB)(x:aq):Prop:=sc.names.lookup x=some .local\/sc.names.lookup x=some .cell
noncomputable def Zfb(env:jx)(h:b9)(m:aq->Option aI)(x:aq)(u:aI):Prop:=
 (env.kindOf x=some .local/\m x=some u)\/((env.kindOf x=some .cell\/env.kindOf x=some .free)/\∃c,env.cells.lookup x=some c/\h.IsCell c (some u))
structure Cx.Ok(X:Cx):Prop where
 mod:Mod X.K X.mg X.base
 kind:X.env.scope.kind = .function
 glob:X.env.globals=cB
 blt:X.env.builtins=gz
 above:X.s₀.heap.objs.size<=X.env.locals
 inj:∀x y c,X.env.cells.lookup x=some c->X.env.cells.lookup y=some c->x=y
 has:∀x,(X.env.kindOf x=some .cell\/X.env.kindOf x=some .free)->∃c,X.env.cells.lookup x=some c
 cab:∀x c,X.fn x=aC->X.env.cells.lookup x=some c->X.s₀.heap.objs.size<=c
 hd:X.calm=aC->X.A.handled=aA
 frames:X.A.frames=some X.stack
 stk:X.stack=X.outer\/(X.stack=X.env::X.outer/\X.env.frame=some X.env.locals)
 exf:∀b∈X.ex,b≠X.env.locals/\∀x c,X.env.cells.lookup x=some c->c≠b
 bs:∀b o,X.base.get? b=some o->X.s₀.heap.get? b=some o/\X.H₀ b=aA
 bsz:X.base.objs.size<=X.s₀.heap.objs.size
 noex:∀b o,X.base.get? b=some o->b∉X.ex
 exfs:∀b∈X.ex,b∉X.fs
 funs:X.s₀.heap.FunFrames X.base X.outer
 frf:∀b∈X.fs,X.H₀ b=aA
 tab:TabsH X.K X.mg X.base X.H₀
 cod:∀q:aq,X.env.func≠aA->X.env.qual=q++".<locals>."->QB q=aC->cg X.K X.env.code q=aC
structure Inv(X:Cx)(m4:List (aK×cx))(σ:List (Option V))(H:Hp)(s:aP):Prop where
 ok:X.Ok
 os:s.os=X.s₀.os
 bare:jA s.gens
 base:Un X.fs X.ex X.H₀ H X.s₀.heap s.heap
 loc:∃m,s.heap.Ns X.env.locals m/\∀(i:Nat)(x:aq)(v:V),X.N[i]?=some x->σ[i]?=some (some v)->Vis X.env.scope x->∃u,RelV v u/\Zfb X.env s.heap m x u
 cell:∀x c,X.env.cells.lookup x=some c->∃v,s.heap.IsCell c v
 free:H X.env.locals=aA
 freeC:∀x c,X.env.cells.lookup x=some c->H c=aA
 pin:∀p∈X.pn++m4,s.heap.get? p.1=some p.2/\H p.1=aA/\p.1≠X.env.locals/\p.1∉X.fs/\∀v,p.2.data≠.cell v
 hok:HOk X.prog X.w H s.heap
 len:σ.length=X.N.length
section
variable {X:Cx} {m4:List (aK×cx)} {σ:List (Option V)} {H H':Hp} {s:aP} {h':b9}
theorem Cx.Ok.nofr(ok:X.Ok){b:aK}{o:cx}(e:X.base.get? b=some o):b∉X.fs:=λhb=>by have:=(ok.funs.mem hb).1;rw[e] at this;cases this
theorem Inv.bs(I:Inv X m4 σ H s):∀b o,X.base.get? b=some o->s.heap.get? b=some o/\H b=aA:=λb o e=>
 ⟨I.base.keep b o (I.ok.bs b o e).1 (I.ok.bs b o e).2 (I.ok.nofr e) (I.ok.noex b o e),I.base.free b o (I.ok.bs b o e).1 (I.ok.bs b o e).2 (I.ok.noex b o e)⟩
theorem Inv.bk(I:Inv X m4 σ H s):∀b o,X.base.get? b=some o->s.heap.get? b=some o:=λb o e=>(I.bs b o e).1
theorem Inv.mod(I:Inv X m4 σ H s):Mod X.K X.mg X.base:=I.ok.mod
theorem Inv.kIn(I:Inv X m4 σ H s):X.K.In s.heap:=I.ok.mod.kin.keeps I.bk
theorem Inv.fr(I:Inv X m4 σ H s):∃m,Fr X.base X.env.locals s.heap m:=
 let⟨m,hn,_⟩:=I.loc
 ⟨m,hn,I.bk,bX I.ok.bsz I.ok.above⟩
theorem Inv.lt(I:Inv X m4 σ H s):X.env.locals<s.heap.objs.size:=let⟨_,hn,_⟩:=I.loc;hn.lt
theorem Inv.sz(I:Inv X m4 σ H s):X.s₀.heap.objs.size<=s.heap.objs.size:=bX I.ok.above (cF I.lt)
theorem Inv.nofs(I:Inv X m4 σ H s){a:aK}(h:s.heap.objs.size<=a):a∉X.fs:=λhb=>by obtain⟨_,o,ho,_⟩:=I.ok.funs.mem hb;exact absurd (ar (aV ho) (bX I.sz h)) (cH _)
theorem Inv.cne(I:Inv X m4 σ H s):∀x c,X.env.cells.lookup x=some c->c≠X.env.locals:=λx c e z=>by obtain⟨v,o,ho,hd⟩:=I.cell x c e;obtain⟨m,⟨o',es,ep,ho',hd',_⟩,_⟩:=I.loc;rw[z,ho'] at ho;cases ho;rw[hd'] at hd;cases hd
theorem Inv.funs(I:Inv X m4 σ H s):s.heap.FunFrames X.base X.outer:=by
 have all:∀(l:List jx),(∀b∈Ni l,b∈X.fs)->X.s₀.heap.FunFrames X.base l->s.heap.FunFrames X.base l:=by
  intro l
  induction l with
  | nil=>intro _ _;trivial
  | cons env r ih=>
   intro hs hl;obtain⟨hk,⟨L,o,hf,hn,ho,hd⟩,hr⟩:=hl;have hL:L∈X.fs:=hs L (by unfold Ni;rw[gj,hf];exact ah);obtain⟨sl,e⟩:=I.base.slot L o ho (I.ok.frf L hL) hL λz=>I.ok.exfs L z hL;exact⟨hk,⟨L,_,hf,hn,e,hd⟩,ih (λb hb=>hs b (by unfold Ni;rw[gj,hf];exact aS _ hb)) hr⟩
 exact all X.outer (λ_ hb=>hb) I.ok.funs
theorem Inv.stack(I:Inv X m4 σ H s):s.heap.FunFrames X.base X.stack:=by
 rcases I.ok.stk with e | ⟨e,hf⟩
 ·rw[e];exact I.funs
 ·rw[e];obtain⟨m,hn,_⟩:=I.loc;refine .cons (by rw[I.ok.kind];decide) hf hn ?_ I.funs;exact b9.get?_none_of_le (bX I.ok.bsz I.ok.above)
theorem Inv.stkSub(I:Inv X m4 σ H s):∀b∈Ni X.stack,b∈X.env.locals::X.fs:=λb hb=>by
 rcases I.ok.stk with e | ⟨e,hf⟩
 ·rw[e] at hb;exact aS _ hb
 ·rw[e] at hb;unfold Ni at hb;rw[gj,hf] at hb;exact hb
theorem Inv.stkFree(I:Inv X m4 σ H s):∀b∈Ni X.stack,H b=aA:=λb hb=>by
 rcases af.mp (I.stkSub b hb) with e | hb
 ·rw[e];exact I.free
 ·obtain⟨_,o,ho,_⟩:=I.ok.funs.mem hb;exact I.base.free b o ho (I.ok.frf b hb) λz=>I.ok.exfs b z hb
theorem Inv.step{g':Array GenState}{t':Nat}{d':Drawn}{ch:List aK}(I:Inv X m4 σ H s)
  (hch:∀b∈ch,(b∈X.ex\/X.s₀.heap.objs.size<=b)/\b≠X.env.locals/\(∀x c,X.env.cells.lookup x=some c->c≠b)/\∀p∈X.pn++m4,p.1≠b)
  (keep:∀b o,b≠X.env.locals->b∉X.fs->b∉ch->s.heap.get? b=some o->H b=aA->h'.get? b=some o)
  (slot:∀b o,b≠X.env.locals->b∈X.fs->b∉ch->s.heap.get? b=some o->H b=aA->∃sl,h'.get? b=some { o with slots:=sl }) (free:∀b o,b∉ch->s.heap.get? b=some o->H b=aA->H' b=aA)
  (there:∀b o,b∉ch->s.heap.get? b=some o->∃o',h'.get? b=some o')
  (tups:∀b xs,H b=some (.tup xs)->H' b=some (.tup xs)) (frzs:∀b o u,H b=some (.frz o u)->H' b=some (.frz o u)) (tbls:∀b ps,H b=some (.tbl ps)->∃more,H' b=some (.tbl (ps++more)))
  (ns:∀m,s.heap.Ns X.env.locals m->h'.Ns X.env.locals m) (hok:HOk X.prog X.w H' h') (hg:jA g') :
  Inv X m4 σ H' { s with heap:=h',gens:=g',drawn:=d',toks:=t' }:=by
 have neL:∀b o,X.s₀.heap.get? b=some o->b≠X.env.locals:=λb o e=>bQ (ar (aV e) I.ok.above)
 have neC:∀b o,X.s₀.heap.get? b=some o->b∉X.ex->b∉ch:=λb o e hx hb=>by
  rcases(hch b hb).1 with z | z
  ·exact hx z
  ·exact absurd (ar (aV e) z) (cH _)
 have cellK:∀x c,X.env.cells.lookup x=some c->∀v,s.heap.IsCell c v->h'.IsCell c v:=λx c e v ⟨o,ho,hd⟩=>by
  have nch:c∉ch:=λz=>(hch c z).2.2.1 x c e rfl;by_cases hc:c∈X.fs
  ·obtain⟨sl,q⟩:=slot c o (I.cne x c e) hc nch ho (I.freeC x c e);exact⟨_,q,hd⟩
  ·exact⟨o,keep c o (I.cne x c e) hc nch ho (I.freeC x c e),hd⟩
 refine⟨I.ok,I.os,hg,⟨λb o e n hb hx=>?_,λb o e n hb hx=>?_,λb o e n hx=>?_,λb o e hx=>?_,λb xs e=>tups b xs (I.base.tups b xs e),λb o xs e=>frzs b o xs (I.base.frzs b o xs e),λb ps e=>?_⟩,?_,λx c e=>?_,?_,λx c e=>?_,λp hp=>?_,hok,I.len⟩
 ·exact keep b o (neL b o e) hb (neC b o e hx) (I.base.keep b o e n hb hx) (I.base.free b o e n hx)
 ·obtain⟨sl,e1⟩:=I.base.slot b o e n hb hx;obtain⟨sl',e2⟩:=slot b _ (neL b o e) hb (neC b o e hx) e1 (I.base.free b o e n hx);exact⟨sl',e2⟩
 ·obtain⟨o',e1⟩:=I.base.there b o e hx;exact free b o' (neC b o e hx) e1 (I.base.free b o e n hx)
 ·obtain⟨o',e1⟩:=I.base.there b o e hx;exact there b o' (neC b o e hx) e1
 ·obtain⟨m1,e1⟩:=I.base.tbls b ps e;obtain⟨m2,e2⟩:=tbls b _ e1;exact⟨m1++m2,by rw[e2,Array.append_assoc]⟩
 ·obtain⟨m,hn,hl⟩:=I.loc;refine⟨m,ns m hn,λi x v e1 e2 e3=>?_⟩;obtain⟨u,r,l⟩:=hl i x v e1 e2 e3;refine⟨u,r,?_⟩;rcases l with l | ⟨k,c,e,z⟩
  ·exact .inl l
  ·exact .inr ⟨k,c,e,cellK x c e _ z⟩
 ·obtain⟨v,z⟩:=I.cell x c e;exact⟨v,cellK x c e v z⟩
 ·obtain⟨m,⟨o,_,_,ho,_⟩,_⟩:=I.loc;exact free _ o (λz=>(hch _ z).2.1 rfl) ho I.free
 ·obtain⟨v,o,ho,hd⟩:=I.cell x c e;exact free c o (λz=>(hch c z).2.2.1 x c e rfl) ho (I.freeC x c e)
 ·obtain⟨e,n,ne,nf,d⟩:=I.pin p hp;have nch:p.1∉ch:=λz=>(hch p.1 z).2.2.2 p hp rfl;exact⟨keep p.1 p.2 ne nf nch e n,free p.1 p.2 nch e n,ne,nf,d⟩
theorem Inv.un{t':Nat}(I:Inv X m4 σ H s)(u:Un X.fs [] H H' s.heap h')(hok:HOk X.prog X.w H' h'):Inv X m4 σ H' { s with heap:=h',toks:=t' }:=by
 obtain⟨m,⟨o,es,ep,ho,r⟩,_⟩:=id I.loc;obtain⟨sl,hL⟩:=u.any ho I.free (by simp)
 exact I.step (g':=s.gens) (d':=s.drawn) (ch:=[]) (λ_ z=>nomatch z) (λb o _ hb _ e n=>u.keep b o e n hb (by simp)) (λb o _ hb _ e n=>u.slot b o e n hb (by simp)) (λb o _ e n=>u.free b o e n (by simp)) (λb o _ e=>u.there b o e (by simp)) u.tups u.frzs u.tbls (λm' hm=>by
  obtain⟨o',es',ep',ho',r'⟩:=hm;rw[ho] at ho';cases ho';exact⟨_,es',ep',hL,r'⟩) hok I.bare
theorem Inv.call{g':Array GenState}{t':Nat}{d':Drawn}{ch:List aK}(I:Inv X m4 σ H s)(u:Un (Ni X.stack) ch H H' s.heap h')(hok:HOk X.prog X.w H' h')(hg:jA g')
  (hch:∀b∈ch,(b∈X.ex\/X.s₀.heap.objs.size<=b)/\b≠X.env.locals/\(∀x c,X.env.cells.lookup x=some c->c≠b)/\∀p∈X.pn++m4,p.1≠b) :
  Inv X m4 σ H' { s with heap:=h',gens:=g',drawn:=d',toks:=t' }:=by
 obtain⟨m,⟨o,es,ep,ho,r⟩,_⟩:=id I.loc;obtain⟨sl,hL⟩:=u.any ho I.free λz=>(hch _ z).2.1 rfl
 exact I.step (ch:=ch) hch (λb o hL hb hc e n=>u.keep b o e n (λz=>(af.mp (I.stkSub b z)).elim hL hb) hc) (λb o _ _ hc e n=>u.any e n hc) (λb o hc e n=>u.free b o e n hc) (λb o hc e=>u.there b o e hc) u.tups u.frzs u.tbls (λm' hm=>by
  obtain⟨o',es',ep',ho',r'⟩:=hm;rw[ho] at ho';cases ho';exact⟨_,es',ep',hL,r'⟩) hok hg
theorem Inv.turned{t':Nat}{it:aK}(I:Inv X m4 σ H s)(k:∀b o,b≠it->s.heap.get? b=some o->h'.get? b=some o)(hn:H it=aA)(hL:it≠X.env.locals)
  (h1:it∈X.ex\/X.s₀.heap.objs.size<=it) (h2:∀x c,X.env.cells.lookup x=some c->c≠it) (h3:∀p∈X.pn++m4,p.1≠it):Inv X m4 σ H { s with heap:=h',toks:=t' }:=by
 have nit:∀b u,H b=some u->b≠it:=λb u e z=>by rw[z,hn] at e;cases e
 refine I.step (g':=s.gens) (d':=s.drawn) (ch:=[it]) (λb hb=>?_) (λb o _ _ hc e _=>k b o (λz=>hc (by simp[z])) e) (λb o _ _ hc e _=>⟨o.slots,k b o (λz=>hc (by simp[z])) e⟩) (λ_ _ _ _ n=>n)
  (λb o hc e=>⟨o,k b o (λz=>hc (by simp[z])) e⟩) (λ_ _ e=>e) (λ_ _ _ e=>e) (λb ps e=>⟨#[],by rw[e];simp⟩) (λm hm=>?_) (λb u e=>?_) I.bare
 ·have e:b=it:=by simpa using hb
  subst e;exact⟨h1,hL,h2,h3⟩
 ·obtain⟨o,es,ep,ho,r⟩:=hm;exact⟨o,es,ep,k _ o (bO hL) ho,r⟩
 ·refine(I.hok b u e).stay (λc v hc q=>k c v ?_ q) (λ_ q=>q) (λ_ _ q=>q) λ_ _ q=>q;rcases hc with z | z
  ·rw[z];exact nit b u e
  ·exact nit c _ z
theorem Inv.tok(I:Inv X m4 σ H s)(t:Nat):Inv X m4 σ H { s with toks:=t }:=I.un (h':=s.heap) (t':=t) Un.refl I.hok
theorem Inv.kept{t':Nat}(I:Inv X m4 σ H s)(k:∀b u,s.heap.get? b=some u->h'.get? b=some u):Inv X m4 σ H { s with heap:=h',toks:=t' }:=I.un (Un.kept k) (I.hok.kept k)
theorem Inv.laid{a:aK}{o:HO}{t':Nat}(I:Inv X m4 σ H s)(k:∀b u,s.heap.get? b=some u->h'.get? b=some u)(hp:s.heap.objs.size<=a)(new:ObjOk X.prog X.w (upd H a o) h' a o) :
  Inv X m4 σ (upd H a o) { s with heap:=h',toks:=t' }:=I.un (Un.laid k hp (I.hok.fresh hp)) (I.hok.laid k hp new)
theorem Inv.write{x e:aK}{o:HO}{t':Nat}(I:Inv X m4 σ H s)(mu:V4 (H x))(he:e=x\/H e=some (.own x))(k:∀b u,b≠e->s.heap.get? b=some u->h'.get? b=some u)(heo:∃u,h'.get? e=some u)
  (new:ObjOk X.prog X.w (upd H x o) h' x o):Inv X m4 σ (upd H x o) { s with heap:=h',toks:=t' }:=I.un (Un.write mu he k heo) (I.hok.write mu he k heo new)
theorem Inv.weak{σ':List (Option V)}(I:Inv X m4 σ H s)(hl:σ'.length=σ.length)(w:∀(i:Nat) v,σ'[i]?=some (some v)->σ[i]?=some (some v)):Inv X m4 σ' H s:=
 ⟨I.ok,I.os,I.bare,I.base,let⟨m,hn,hl'⟩:=I.loc;⟨m,hn,λi x v e1 e2 e3=>hl' i x v e1 (w i v e2) e3⟩,I.cell,I.free,I.freeC,I.pin,I.hok,hl.trans I.len⟩
theorem Inv.pins_of{pins':List (aK×cx)}(I:Inv X m4 σ H s)(h:∀p∈pins',s.heap.get? p.1=some p.2/\H p.1=aA/\p.1≠X.env.locals/\p.1∉X.fs/\∀v,p.2.data≠.cell v):Inv X pins' σ H s:=
 ⟨I.ok,I.os,I.bare,I.base,I.loc,I.cell,I.free,I.freeC,λp hp=>(aa.mp hp).elim (λz=>I.pin p (bC _ z)) (h p),I.hok,I.len⟩
theorem Lv{N:List aq}(hN:N.Nodup){i j:Nat}{x:aq}(a:N[i]?=some x)(b:N[j]?=some x):i=j:=by obtain⟨h1,e1⟩:=aU.mp a;obtain⟨h2,e2⟩:=aU.mp b;exact(kd hN).mp (e1.trans e2.symm)
theorem HX{M:Model}{A:bt}{E:aI->aP->Prop}{i:Nat}{x:aq}{v:V}{u:aI}{Q:Unit->aP->Prop}(I:Inv X m4 σ H s)(hN:X.N.Nodup)(hi:X.N[i]?=some x)(hx:Cz X.env.scope x)(r:RelV v u)
  (h:∀s',Inv X m4 (σ.set i (some v)) H s'->(∃a,cL a s.heap s'.heap/\(a=X.env.locals\/X.env.cells.lookup x=some a))->Q () s') (hf:X.fn x=aC\/X.env.scope.names.lookup x=some .local:=by first | exact .inl rfl | exact .inr rfl | assumption):ay M A (storeName X.env x u) Q E s:=by
 obtain⟨m,hn,hl⟩:=id I.loc;have hcls:(X.env.scope.kind==.class || (X.env.scope.kind==.module&&X.env.locals != X.env.globals))=aB:=by rw[I.ok.kind];rfl
 have hiσ:i<σ.length:=by rw[I.len];exact(aU.mp hi).1
 have cne:=I.cne
 have tracked:∀{a:aK}{h':b9},(∃o,s.heap.get? a=some o/\H a=aA)->cL a s.heap h'->HOk X.prog X.w H h':=λ{a h'} ha hs b ob e=>by
  obtain⟨_,_,hfree⟩:=ha;refine(I.hok b ob e).stay (λc w' hc q=>(hs.2 c ?_).trans q) (λ_ q=>q) (λ_ _ q=>q) λ_ _ q=>q;rintro rfl;rcases hc with rfl | hc
  ·rw[hfree] at e;cases e
  ·rw[hfree] at hc;cases hc
 rcases hx with hk | hk
 ·refine wpAny_storeName_local hk hn (λh' hn' hs=>?_) hcls;obtain⟨oL,_,_,hoL,_⟩:=id hn;refine h _ ⟨I.ok,I.os,I.bare,⟨λb o e n hb hx=>?_,λb o e n hb hx=>?_,I.base.free,λb o e hx=>?_,I.base.tups,I.base.frzs,I.base.tbls⟩,⟨_,hn',λj y v' e1 e2 e3=>?_⟩,λy c e=>?_,I.free,I.freeC,λp hp=>?_,tracked ⟨oL,hoL,I.free⟩ hs,by simpa using I.len⟩ ⟨_,hs,.inl rfl⟩
  ·exact(hs.2 b (bQ (ar (aV e) I.ok.above))).trans (I.base.keep b o e n hb hx)
  ·obtain⟨sl,e1⟩:=I.base.slot b o e n hb hx;exact⟨sl,(hs.2 b (bQ (ar (aV e) I.ok.above))).trans e1⟩
  ·obtain⟨o',e1⟩:=I.base.there b o e hx;exact⟨o',(hs.2 b (bQ (ar (aV e) I.ok.above))).trans e1⟩
  ·by_cases hj:j=i
   ·subst hj;rw[hi] at e1;cases e1;rw[jB hiσ] at e2;cases e2;exact⟨u,r,.inl ⟨hk,by simp⟩⟩
   ·rw[j6 (bO hj)] at e2;obtain⟨u',r',q⟩:=hl j y v' e1 e2 e3;refine⟨u',r',?_⟩;rcases q with⟨k,e⟩ | ⟨k,c,e,z⟩
    ·refine .inl ⟨k,?_⟩;have:y≠x:=λe=>hj (Lv hN e1 (e▸hi));simp[this,e]
    ·exact .inr ⟨k,c,e,z.sameBut hs (cne y c e)⟩
  ·obtain⟨w',z⟩:=I.cell y c e;exact⟨w',z.sameBut hs (cne y c e)⟩
  ·obtain⟨e,n,ne,nf,d⟩:=I.pin p hp;exact⟨(hs.2 p.1 ne).trans e,n,ne,nf,d⟩
 ·have hfn:X.fn x=aC:=by
   rcases hf with z | z
   ·exact z
   ·rw[z] at hk;cases hk
  obtain⟨c,hc⟩:=I.ok.has x (.inl hk);obtain⟨w',z⟩:=I.cell x c hc;refine wpAny_storeName_cell I.ok.kind hk hc z (λh' hc' hs=>?_);obtain⟨oc,hoc,hocd⟩:=id z;refine h { s with heap:=h' } ⟨I.ok,I.os,I.bare,⟨λb o e n hb hx=>?_,λb o e n hb hx=>?_,I.base.free,λb o e hx=>?_,I.base.tups,I.base.frzs,I.base.tbls⟩,⟨m,hn.sameBut hs (bO (cne x c hc)),λj y v' e1 e2 e3=>?_⟩,λy c' e=>?_,I.free,I.freeC,λp hp=>?_,tracked ⟨oc,hoc,I.freeC x c hc⟩ hs,by simpa using I.len⟩ ⟨c,hs,.inr hc⟩
  ·exact(hs.2 b (bQ (ar (aV e) (I.ok.cab x c hfn hc)))).trans (I.base.keep b o e n hb hx)
  ·obtain⟨sl,e1⟩:=I.base.slot b o e n hb hx;exact⟨sl,(hs.2 b (bQ (ar (aV e) (I.ok.cab x c hfn hc)))).trans e1⟩
  ·obtain⟨o',e1⟩:=I.base.there b o e hx;exact⟨o',(hs.2 b (bQ (ar (aV e) (I.ok.cab x c hfn hc)))).trans e1⟩
  ·by_cases hj:j=i
   ·subst hj;rw[hi] at e1;cases e1;rw[jB hiσ] at e2;cases e2;exact⟨u,r,.inr ⟨.inl hk,c,hc,hc'⟩⟩
   ·rw[j6 (bO hj)] at e2;obtain⟨u',r',q⟩:=hl j y v' e1 e2 e3;refine⟨u',r',?_⟩;rcases q with q | ⟨k,c',e,z'⟩
    ·exact .inl q
    ·refine .inr ⟨k,c',e,z'.sameBut hs ?_⟩;rintro rfl;exact hj (Lv hN e1 (I.ok.inj _ _ _ e hc▸hi))
  ·by_cases hcc:c'=c
   ·subst hcc;exact⟨_,hc'⟩
   ·obtain⟨w2,z2⟩:=I.cell y c' e;exact⟨w2,z2.sameBut hs hcc⟩
  ·obtain⟨e,n,ne,nf,d⟩:=I.pin p hp;refine⟨(hs.2 p.1 ?_).trans e,n,ne,nf,d⟩;intro q;rw[q,hoc] at e;have q':oc=p.2:=az e;exact d w' (by rw[<-q'];exact hocd)
theorem Sw{M:Model}{A:bt}{E:aI->aP->Prop}{i:Nat}{x:aq}{v:V}{u:aI}{Q:Unit->aP->Prop}(I:Inv X m4 σ H s)(hN:X.N.Nodup)(hi:X.N[i]?=some x)(hx:Cz X.env.scope x)(r:RelV v u)
  (h:∀s',Inv X m4 (σ.set i (some v)) H s'->Q () s') (hf:X.fn x=aC\/X.env.scope.names.lookup x=some .local:=by first | exact .inl rfl | exact .inr rfl | assumption):ay M A (storeName X.env x u) Q E s:=
 HX I hN hi hx r (λs' I' _=>h s' I') hf
theorem Inv.call'{s':aP}{ch:List aK}(I:Inv X m4 σ H s)(ho:s'.os=s.os)(u:Un (Ni X.stack) ch H H' s.heap s'.heap)(hok:HOk X.prog X.w H' s'.heap)(hg:jA s'.gens)
  (hch:∀b∈ch,(b∈X.ex\/X.s₀.heap.objs.size<=b)/\b≠X.env.locals/\(∀x c,X.env.cells.lookup x=some c->c≠b)/\∀p∈X.pn++m4,p.1≠b):Inv X m4 σ H' s':=by
 obtain⟨h',g',d',t',o'⟩:=s';have e:o'=s.os:=ho;subst e;exact I.call (g':=g') (t':=t') (d':=d') u hok hg hch
end
abbrev XK:=aI->Option aK->Hp->Prop
abbrev St:=List (Option V)
abbrev VK:=V->Hp->Prop
abbrev TE:=St->Hp->VK->Prop
abbrev TT:=St->Hp->(Bool->Hp->Prop)->Prop
abbrev TA:=St->Hp->(List V->Hp->Prop)->Prop
structure Pb where
 nx:St->Hp->Prop
 rt:VK
 bk:St->Hp->Prop:=λ_ _=>False
 ct:St->Hp->Prop:=λ_ _=>False
abbrev TS:=Pb->St->Hp->Prop
noncomputable def EP(X:Cx)(m4:List (aK×cx))(σ:St)(Q:VK)(u:aI)(s':aP):Prop:=∃v H',Inv X m4 σ H' s'/\RelV v u/\Q v H'
noncomputable def TP(X:Cx)(m4:List (aK×cx))(σ:St)(Q:Bool->Hp->Prop)(b:Bool)(s':aP):Prop:=∃H',Inv X m4 σ H' s'/\Q b H'
noncomputable def AP(X:Cx)(m4:List (aK×cx))(σ:St)(Q:List V->Hp->Prop)(us:List aI)(s':aP):Prop:=∃vs H',Inv X m4 σ H' s'/\Vals vs us/\Q vs H'
noncomputable def SP(X:Cx)(m4:List (aK×cx))(D:Pb)(f:Flow)(s':aP):Prop:=
 match f with
 | .next=>∃σ' H',Inv X m4 σ' H' s'/\D.nx σ' H'
 | .brk=>∃σ' H',Inv X m4 σ' H' s'/\D.bk σ' H'
 | .cont=>∃σ' H',Inv X m4 σ' H' s'/\D.ct σ' H'
 | .ret u=>∃v σ' H',Inv X m4 σ' H' s'/\RelV v u/\D.rt v H'
noncomputable def PE(X:Cx)(e:bH)(t:TE):Prop:=
 ∀(m4:List (aK×cx))(s:aP)(σ:St)(H:Hp)(Q:VK),Inv X m4 σ H s->t σ H Q->ay (model X.prog X.w) X.A (eval e X.env) (EP X m4 σ Q) X.xe s
noncomputable def PT(X:Cx)(e:bH)(t:TT):Prop:=
 ∀(m4:List (aK×cx))(s:aP)(σ:St)(H:Hp)(Q:Bool->Hp->Prop),Inv X m4 σ H s->t σ H Q->ay (model X.prog X.w) X.A (kH e X.env (eval e X.env)) (TP X m4 σ Q) X.xe s
noncomputable def PW(X:Cx)(e:bH)(t:TT):Prop:=
 ∀(whole:Sem aI)(m4:List (aK×cx))(s:aP)(σ:St)(H:Hp)(Q:Bool->Hp->Prop),Inv X m4 σ H s->t σ H Q->ay (model X.prog X.w) X.A (kH e X.env whole) (TP X m4 σ Q) X.xe s
theorem PW.pt{X:Cx}{e:bH}{t:TT}(h:PW X e t):PT X e t:=h _
noncomputable def PA(X:Cx)(es:List bH)(t:TA):Prop:=
 ∀(pos:da)(m4:List (aK×cx))(s:aP)(σ:St)(H:Hp)(Q:List V->Hp->Prop),Inv X m4 σ H s->t σ H Q->ay (model X.prog X.w) X.A (spliced (dD pos (aQ es X.env))) (AP X m4 σ Q) X.xe s
noncomputable def PS(X:Cx)(st:bp)(t:TS):Prop:=
 ∀(m4:List (aK×cx))(s:aP)(σ:St)(H:Hp)(D:Pb),Inv X m4 σ H s->t D σ H->ay (model X.prog X.w) X.A (exec st X.env) (SP X m4 D) X.xe s
noncomputable def PSs(X:Cx)(st:List bp)(t:TS):Prop:=
 ∀(m4:List (aK×cx))(s:aP)(σ:St)(H:Hp)(D:Pb),Inv X m4 σ H s->t D σ H->ay (model X.prog X.w) X.A (execs st X.env) (SP X m4 D) X.xe s
theorem YO{α:Type}{t:Sem α}{Q Q':α->aP->Prop}{M:Model}{A:bt}{E:aI->aP->Prop}{s:aP}(h:ay M A t Q E s)(hQ:∀a s,Q a s->Q' a s):ay M A t Q' E s:=bj h hQ λ_ _ x=>x
section
variable {X:Cx}
theorem bin{a b:bH}{ta tb:TE}(ha:PE X a ta)(hb:PE X b tb){m4:List (aK×cx)}{s:aP}{σ:St}{H:Hp}{R:V->V->Hp->Prop}(I:Inv X m4 σ H s)(h:ta σ H λx H1=>tb σ H1 λy H2=>R x y H2)
  {α:Type} {Q:α->aP->Prop} {f:aI->aI->Sem α}
  (hf:∀v u s2 x y H2,Inv X m4 σ H2 s2->RelV x v->RelV y u->R x y H2->ay (model X.prog X.w) X.A (f v u) Q X.xe s2) :
  ay (model X.prog X.w) X.A (eval a X.env) (λv s₁=>ay (model X.prog X.w) X.A (eval b X.env) (λu s₂=>ay (model X.prog X.w) X.A (f v u) Q X.xe s₂) X.xe s₁) X.xe s:=by
 refine YO (ha m4 s σ H _ I h) λv s1 ⟨x,H1,I1,r1,q1⟩=>?_;refine YO (hb m4 s1 σ H1 _ I1 q1) λu s2 ⟨y,H2,I2,r2,q2⟩=>?_;exact hf v u s2 x y H2 I2 r1 r2 q2
noncomputable def QC(i:Nat):TE:=λσ H Q=>∃v,σ[i]?=some (some v)/\Q v H
noncomputable def tC(v:V):TE:=λ_ H Q=>Q v H
theorem FI{i:Nat}{x:aq}{pos:da}(hN:X.N[i]?=some x)(hv:Vis X.env.scope x)(hd:(x==("__debug__" : aq))=aB:=by decide)(hcd:(x==("__classdict__" : aq))=aB:=by decide):PE X (.Name x pos) (QC i):=by
 intro m4 s σ H Q I h;obtain⟨v,e,h⟩:=h;obtain⟨m,hn,hl⟩:=I.loc;obtain⟨u,r,l⟩:=hl i x v hN e hv;have fin:EP X m4 σ Q u s:=⟨v,H,I,r,h⟩;rcases l with⟨hk,hm⟩ | ⟨hk,c,hc,hcell⟩
 ·exact lR (j7 I.ok.kind hk hn hm fin) hd
 ·rcases hk with hk | hk
  ·exact lR (jy I.ok.kind hk hc hcell fin) hd
  ·exact lR (wpAny_loadName_free I.ok.kind hk hc hcell fin hcd) hd
theorem A5{i j pos}:PE X (.Constant (.int i) j pos) (tC (.int i)):=λ_ _ _ H _ I h=>wpAny_Constant_int ⟨.int i,H,I.tok _,⟨_,rfl⟩,h⟩
theorem Zc2{b j pos}:PE X (.Constant (.bool b) j pos) (tC (.bl b)):=λ_ _ _ H _ I h=>Constant_bool ⟨.bl b,H,I,rfl,h⟩
theorem A6{j pos}:PE X (.Constant .none j pos) (tC .non):=λ_ _ _ H _ I h=>Constant_none ⟨.non,H,I,rfl,h⟩
noncomputable def Gl(X:Cx)(x:aq):Prop:=X.env.kindOf x=some .globalImplicit
theorem QR{E:aI->aP->Prop}{m4:List (aK×cx)}{s:aP}{σ:St}{H:Hp}{x:aq}{u:aI}{pos:da}{Q:aI->aP->Prop}(I:Inv X m4 σ H s)(hg:Gl X x)(hm:X.mg x=some u)(h:Q u s)
  (hd:(x==("__debug__" : aq))=aB:=by decide):ay (model X.prog X.w) X.A (eval (.Name x pos) X.env) Q E s:=
 hU I.ok.kind hg (Calls.loadGlobal_global (by rw[I.ok.glob];exact I.mod.glob.keeps I.bk) hm h) hd
theorem Up{E:aI->aP->Prop}{m4:List (aK×cx)}{s:aP}{σ:St}{H:Hp}{x:aq}{u:aI}{pos:da}{Q:aI->aP->Prop}(I:Inv X m4 σ H s)(hg:Gl X x)(hm:X.mg x=aA)(hv:cS x=some u)(h:Q u s)
  (hn:x≠"__name__":=by decide) (hd:(x==("__debug__" : aq))=aB:=by decide):ay (model X.prog X.w) X.A (eval (.Name x pos) X.env) Q E s:=by
 obtain⟨mb,h1,h2⟩:=I.mod.blt;exact hU I.ok.kind hg (Calls.loadGlobal_builtin (by rw[I.ok.glob];exact I.mod.glob.keeps I.bk) hm (by rw[I.ok.blt];exact h1.keeps I.bk) ((h2 x hn).trans hv) h) hd
theorem CD{x:aq}{v:V}{u:aI}{pos:da}(hg:Gl X x)(hm:X.mg x=some u)(r:RelV v u)(hd:(x==("__debug__" : aq))=aB:=by decide):PE X (.Name x pos) (tC v):=
 λ_ _ _ H _ I h=>QR I hg hm ⟨v,H,I,r,h⟩ hd
theorem CF{x:aq}{v:V}{u:aI}{pos:da}(hg:Gl X x)(hm:X.mg x=aA)(hv:cS x=some u)(r:RelV v u)(hn:x≠"__name__":=by decide)(hd:(x==("__debug__" : aq))=aB:=by decide):PE X (.Name x pos) (tC v):=
 λ_ _ _ H _ I h=>Up I hg hm hv ⟨v,H,I,r,h⟩ hn hd
variable {a b:bH} {ta tb:TE} {pos:da}
noncomputable def PC(X:Cx)(op:lT)(a b:bH)(t:TE):Prop:=
 ∀(m4:List (aK×cx))(s:aP)(σ:St)(H:Hp)(Q:VK),Inv X m4 σ H s->t σ H Q->
  ay (model X.prog X.w) X.A (eval a X.env) (λv s₁=>ay (model X.prog X.w) X.A (eval b X.env) (λu s₂=>ay (model X.prog X.w) X.A (dc op v u) (EP X m4 σ Q) X.xe s₂) X.xe s₁) X.xe s
theorem FJ(b:bH){op:lT}(h:op≠.In)(h2:op≠.NotIn):cO op b=aB:=by
 have e1:(op==lT.In)=aB:=by cases op<;>first | rfl | exact absurd rfl h
 have e2:(op==lT.NotIn)=aB:=by cases op<;>first | rfl | exact absurd rfl h2
 cases b<;>simp[cO,e1,e2]
noncomputable def Ar(ta:TE):TE:=λσ H Q=>ta σ H λx H1=>Q (.bl (!decide (x = .non))) H1
theorem RelV.none_iff{x:V}{v:aI}(r:RelV x v):(v==eY)=decide (x = .non):=by
 cases x with
 | non=>cases r;rfl
 | bl _=>cases r;rfl
 | int _=>obtain⟨t,rfl⟩:=r;rfl
 | str _=>obtain⟨t,rfl⟩:=r;rfl
 | byt _=>obtain⟨t,rfl⟩:=r;rfl
 | flt _=>obtain⟨t,rfl⟩:=r;rfl
 | ref _=>cases r;rfl
 | ty _=>cases r;rfl
theorem CG{j pos'}(ha:PE X a ta):PC X .IsNot a (.Constant .none j pos') (Ar ta):=by intro m4 s σ H Q I h;refine YO (ha m4 s σ H _ I h) λv s1 ⟨x,H1,I1,r1,q1⟩=>?_;exact Constant_none (isnot_none_gen ⟨.bl _,H1,I1,by rw[r1.none_iff];rfl,q1⟩)
noncomputable def tB(t:TE):TT:=λσ H Q=>t σ H λx H1=>∃c,x = .bl c/\Q c H1
theorem FK{op:lT}{t:TE}(h:PC X op a b t)(h1:cO op b=aB:=by first | exact FJ _ (by decide) (by decide) | rfl):PT X (.Compare a [op] [b] pos) (tB t):=by intro m4 s σ H Q I hw;refine j3 (YO (h m4 s σ H _ I hw) λv s1 h1=>YO h1 λu s2 h2=>YO h2 λc s3 ⟨x,H1,I1,r1,q1⟩=>?_) h1;obtain⟨d,rfl,q⟩:=q1;cases r1;exact dE ⟨H1,I1,q⟩
theorem A7{e:bH}{t:TE}(h:PE X e t)(he:∀whole,kH e X.env whole=(do let v <-whole;lK e.pos;holding [v] (truthy v)):=by intro _;rfl):PT X e (tB t):=by intro m4 s σ H Q I hw;refine isTrue_plain (YO (h m4 s σ H _ I hw) λv s1 ⟨x,H1,I1,r1,q1⟩=>?_) (he _);obtain⟨d,rfl,q⟩:=q1;cases r1;exact dE ⟨H1,I1,q⟩
variable {tA tB':TT} {YN:List bH}
noncomputable def Zc3(t u:TT):TT:=λσ H Q=>t σ H λc H1=>if c=aC then u σ H1 Q else Q aB H1
noncomputable def tOr(t u:TT):TT:=λσ H Q=>t σ H λc H1=>if c=aC then Q aC H1 else u σ H1 Q
noncomputable def Zfc(t:TT):TT:=λσ H Q=>t σ H λc H1=>Q (!c) H1
theorem CH(ha:PT X a tA):PW X (.BoolOp .And [a] pos) tA:=by
 intro wh m4 s σ H Q I h;refine isTrue_and (YO (ha m4 s σ H Q I h) λc s1 e=>?_)
 cases c with
 | true=>exact isTrue_and_nil e
 | false=>exact e
theorem A8(ha:PT X a tA):PW X (.BoolOp .Or [a] pos) tA:=by
 intro wh m4 s σ H Q I h;refine isTrue_or (YO (ha m4 s σ H Q I h) λc s1 e=>?_)
 cases c with
 | false=>exact isTrue_or_nil e
 | true=>exact e
theorem A9(ha:PT X a tA)(hb:PW X (.BoolOp .And (b::YN) pos) tB'):PW X (.BoolOp .And (a::b::YN) pos) (Zc3 tA tB'):=by
 intro wh m4 s σ H Q I h;refine isTrue_and (YO (ha m4 s σ H _ I h) λc s1 ⟨H1,I1,q1⟩=>?_)
 cases c with
 | true=>exact hb wh m4 s1 σ H1 Q I1 q1
 | false=>exact⟨H1,I1,q1⟩
theorem Zc4(ha:PT X a tA)(hb:PW X (.BoolOp .Or (b::YN) pos) tB'):PW X (.BoolOp .Or (a::b::YN) pos) (tOr tA tB'):=by
 intro wh m4 s σ H Q I h;refine isTrue_or (YO (ha m4 s σ H _ I h) λc s1 ⟨H1,I1,q1⟩=>?_)
 cases c with
 | true=>exact⟨H1,I1,q1⟩
 | false=>exact hb wh m4 s1 σ H1 Q I1 q1
theorem Zaa(ha:PT X a tA):PT X (.UnaryOp .Not a pos) (Zfc tA):=by intro m4 s σ H Q I h;exact isTrue_not (ha m4 s σ H (λc H1=>Q (!c) H1) I h)
noncomputable def Zc5(ta tb:TE):TE:=λσ H Q=>ta σ H λx H1=>∃c,x = .bl c/\if c=aC then tb σ H1 Q else Q (.bl aB) H1
noncomputable def Zc6(ta:TE):TE:=λσ H Q=>ta σ H λx H1=>∃c,x = .bl c/\Q (.bl (!c)) H1
theorem Zab{op}{t:TE}(h:PE X a t):PE X (.BoolOp op [a] pos) t:=λm4 s σ H Q I hw=>BoolOp_one (h m4 s σ H Q I hw)
theorem Zac(ha:PE X a ta)(hb:PE X (.BoolOp .And (b::YN) pos) tb):PE X (.BoolOp .And (a::b::YN) pos) (Zc5 ta tb):=by
 intro m4 s σ H Q I h;refine BoolOp_and (YO (ha m4 s σ H _ I h) λv s1 ⟨x,H1,I1,r1,q1⟩=>?_);obtain⟨c,rfl,q1⟩:=q1;cases r1;refine dE ?_
 cases c with
 | true=>exact hb m4 s1 σ H1 Q I1 q1
 | false=>exact⟨.bl aB,H1,I1,rfl,q1⟩
theorem Zad(ha:PE X a ta):PE X (.UnaryOp .Not a pos) (Zc6 ta):=by intro m4 s σ H Q I h;refine UnaryOp_ (YO (ha m4 s σ H _ I h) λv s1 ⟨x,H1,I1,r1,q1⟩=>?_);obtain⟨c,rfl,q1⟩:=q1;cases r1;exact not_of (dE ⟨.bl (!c),H1,I1,rfl,q1⟩)
noncomputable def tIf(t:TT)(ta tb:TE):TE:=λσ H Q=>t σ H λc H1=>if c=aC then ta σ H1 Q else tb σ H1 Q
theorem FL{c:bH}(hc:PT X c tA)(ha:PE X a ta)(hb:PE X b tb):PE X (.IfExp c a b pos) (tIf tA ta tb):=by
 intro m4 s σ H Q I h;refine wpAny_IfExp (YO (hc m4 s σ H _ I h) λd s1 ⟨H1,I1,q1⟩=>?_)
 cases d with
 | true=>exact ha m4 s1 σ H1 Q I1 q1
 | false=>exact hb m4 s1 σ H1 Q I1 q1
end
noncomputable def SqL(K:aG)(H:Hp)(a:aK)(xs:List V):Prop:=
 Rd H a (.lst xs)\/
  ∃(o:cx) (m9:Array aI) (n:Nat),K.lookup a=some o/\o.cls = .type "list"/\o.dict=aA/\o.data = .seq m9 n/\m9.size<=sizeLine/\Vals xs m9.toList
noncomputable def SqT(K:aG)(H:Hp)(a:aK)(xs:List V):Prop:=
 Rd H a (.tup xs)\/
  ∃(o:cx) (m9:Array aI) (n:Nat),K.lookup a=some o/\o.cls = .type "tuple"/\o.data = .seq m9 n/\m9.size<=sizeLine/\Vals xs m9.toList
noncomputable def Zfd:aI->Option V
 | .none=>some .non
 | .bool b=>some (.bl b)
 | .int i _=>some (.int i)
 | .str x _=>some (.str x)
 | .bytes b _=>some (.byt b)
 | .float b _=>some (.flt b)
 | .ref a=>some (.ref a)
 | .type n=>some (.ty n)
 | _=>aA
theorem RelV.abs{x:V}{u:aI}(r:RelV x u):Zfd u=some x:=by
 cases x with
 | non=>cases r;rfl
 | bl _=>cases r;rfl
 | int _=>obtain⟨t,rfl⟩:=r;rfl
 | str _=>obtain⟨t,rfl⟩:=r;rfl
 | byt _=>obtain⟨t,rfl⟩:=r;rfl
 | flt _=>obtain⟨t,rfl⟩:=r;rfl
 | ref _=>cases r;rfl
 | ty _=>cases r;rfl
theorem RelV.inj{x y:V}{u:aI}(r:RelV x u)(q:RelV y u):x=y:=az (r.abs.symm.trans q.abs)
theorem Vals.inj:∀{xs ys:List V}{us:List aI},Vals xs us->Vals ys us->xs=ys
 | _,_,_,.nil,.nil=>rfl
 | _,_,_,.cons r t,.cons r' t'=>by rw[r.inj r',Vals.inj t t']
section
variable {X:Cx} {m4:List (aK×cx)} {σ:St} {H:Hp} {s:aP} {a:aK} {xs ys:List V}
theorem SqL.of{K:aG}(h:H a=some (.lst xs)):SqL K H a xs:=.inl (.inl h)
theorem SqT.of{K:aG}(h:H a=some (.tup xs)):SqT K H a xs:=.inl (.inl h)
theorem Inv.list(I:Inv X m4 σ H s)(h:SqL X.K H a xs):∃m9:List aI,Vals xs m9/\PlainL s.heap a m9.toArray/\xs.length<=sizeLine:=by
 rcases h with h | ⟨o,m9,n,hk,hc,hd,hs,hz,r⟩
 ·obtain⟨z,m9,n,r,e⟩:=h.ok I.hok;exact⟨m9,r,⟨_,n,e,rfl,rfl,rfl⟩,z⟩
 ·refine⟨m9.toList,r,⟨o,n,I.kIn a o hk,hc,hd,by simpa using hs⟩,?_⟩;have e:=r.length;simp only[dJ] at e;omega
theorem Inv.tuple(I:Inv X m4 σ H s)(h:SqT X.K H a xs):∃m9:List aI,Vals xs m9/\IsTup s.heap a m9.toArray/\xs.length<=sizeLine:=by
 rcases h with h | ⟨o,m9,n,hk,hc,hs,hz,r⟩
 ·obtain⟨z,m9,r,p⟩:=h.ok I.hok;exact⟨m9,r,p,z.1⟩
 ·refine⟨m9.toList,r,⟨o,I.kIn a o hk,hc,n,by simpa using hs⟩,?_⟩;have e:=r.length;simp only[dJ] at e;omega
theorem Inv.list_inj(I:Inv X m4 σ H s)(h:SqL X.K H a xs)(h':SqL X.K H a ys):xs=ys:=by
 obtain⟨m9,r,⟨o,n,e,_,_,d⟩,_⟩:=I.list h;obtain⟨its',r',⟨o',n',e',_,_,d'⟩,_⟩:=I.list h';rw[e] at e';cases e';rw[d] at d';injection d' with d1 _
 have:m9=its':=by simpa using congrArg mI d1
 subst this;exact r.inj r'
theorem Inv.tuple_inj(I:Inv X m4 σ H s)(h:SqT X.K H a xs)(h':SqT X.K H a ys):xs=ys:=by
 obtain⟨m9,r,⟨o,e,_,n,d⟩,_⟩:=I.tuple h;obtain⟨its',r',⟨o',e',_,n',d'⟩,_⟩:=I.tuple h';rw[e] at e';cases e';rw[d] at d';injection d' with d1 _
 have:m9=its':=by simpa using congrArg mI d1
 subst this;exact r.inj r'
end
abbrev Cx.wish(X:Cx)(E:aI->aP->Prop):Cx:={ X with xe:=E }
abbrev Cx.nox(X:Cx):Cx:=X.wish λ_ _=>False
theorem Cx.Ok.wish{X:Cx}(ok:X.Ok)(E:aI->aP->Prop):(X.wish E).Ok:=
 ⟨ok.mod,ok.kind,ok.glob,ok.blt,ok.above,ok.inj,ok.has,ok.cab,ok.hd,ok.frames,ok.stk,ok.exf,ok.bs,ok.bsz,ok.noex,ok.exfs,ok.funs,ok.frf,ok.tab,ok.cod⟩
theorem Cx.Ok.unwish{X:Cx}{E:aI->aP->Prop}(ok:(X.wish E).Ok):X.Ok:=
 ⟨ok.mod,ok.kind,ok.glob,ok.blt,ok.above,ok.inj,ok.has,ok.cab,ok.hd,ok.frames,ok.stk,ok.exf,ok.bs,ok.bsz,ok.noex,ok.exfs,ok.funs,ok.frf,ok.tab,ok.cod⟩
section
variable {X:Cx} {m4:List (aK×cx)} {σ:St} {H:Hp} {s:aP} {E:aI->aP->Prop}
theorem Inv.wish(I:Inv X m4 σ H s)(E:aI->aP->Prop):Inv (X.wish E) m4 σ H s:=⟨I.ok.wish E,I.os,I.bare,I.base,I.loc,I.cell,I.free,I.freeC,I.pin,I.hok,I.len⟩
theorem Inv.unwish(I:Inv (X.wish E) m4 σ H s):Inv X m4 σ H s:=⟨I.ok.unwish,I.os,I.bare,I.base,I.loc,I.cell,I.free,I.freeC,I.pin,I.hok,I.len⟩
theorem SP.unwish{D:Pb}{f:Flow}{s':aP}(h:SP (X.wish E) m4 D f s'):SP X m4 D f s':=by
 cases f with
 | next=>obtain⟨σ',H',I,q⟩:=h;exact⟨σ',H',I.unwish,q⟩
 | brk=>obtain⟨σ',H',I,q⟩:=h;exact⟨σ',H',I.unwish,q⟩
 | cont=>obtain⟨σ',H',I,q⟩:=h;exact⟨σ',H',I.unwish,q⟩
 | ret u=>obtain⟨v,σ',H',I,r,q⟩:=h;exact⟨v,σ',H',I.unwish,r,q⟩
theorem PSs.nox{st:List bp}{t:TS}(h:PSs X.nox st t):PSs X st t:=λm4 s σ H D I hw=>
 bj (h m4 s σ H D (I.wish _) hw) (λ_ _ q=>q.unwish) λ_ _ z=>c9 z
end
section
variable {X:Cx} {st:bp} {YN:List bp} {t u:TS} {e:bH} {te:TE} {pos:da}
noncomputable def As:TS:=λD σ H=>D.nx σ H
noncomputable def Zfe(t u:TS):TS:=λD σ H=>t { D with nx:=u D } σ H
theorem CI:PSs X [] As:=λ_ _ σ H _ I h=>g6 ⟨σ,H,I,h⟩
theorem Lw(h1:PS X st t)(h2:PSs X YN u):PSs X (st::YN) (Zfe t u):=by
 intro m4 s σ H D I h;refine wpAny_execs_cons (YO (h1 m4 s σ H { D with nx:=u D } I h) λf s1 q=>?_)
 cases f with
 | next=>
  obtain⟨σ',H',I',q⟩:=q;exact h2 m4 s1 σ' H' D I' q
 | ret v=>exact q
 | brk=>exact q
 | cont=>exact q
theorem CJ(h1:PS X st t):PSs X [st] t:=by
 intro m4 s σ H D I h;refine wpAny_execs_cons (YO (h1 m4 s σ H D I h) λf s1 q=>?_)
 cases f with
 | next=>exact g6 q
 | ret v=>exact q
 | brk=>exact q
 | cont=>exact q
theorem Inv.quiet{m4:List (aK×cx)}{σ:St}{H:Hp}{s:aP}(I:Inv X m4 σ H s):interactive X.env=aB:=by simp[interactive,I.ok.kind]
noncomputable def Il(te:TE):TS:=λD σ H=>te σ H λ_ H1=>D.nx σ H1
theorem Xm(he:PE X e te)(hs:gF e aA pos.line X.env=pure aB:=by rfl):PS X (.Expr e pos) (Il te):=by intro m4 s σ H D I h;exact wpAny_Expr_any (YO (he m4 s σ H _ I h) λv s1 ⟨x,H1,I1,r1,q1⟩=>⟨σ,H1,I1,q1⟩) I.quiet hs
noncomputable def Zff(te:TE):TS:=λD σ H=>te σ H D.rt
theorem K0(he:PE X e te):PS X (.Return (some e) pos) (Zff te):=by intro m4 s σ H D I h;exact wpAny_Return_some (YO (he m4 s σ H _ I h) λv s1 ⟨x,H1,I1,r1,q1⟩=>⟨x,σ,H1,I1,r1,q1⟩)
noncomputable def Zfg(c:TT)(t u:TS):TS:=λD σ H=>c σ H λb H1=>if b=aC then t D σ H1 else u D σ H1
theorem Zc7{c:bH}{a b:List bp}{tc:TT}(hc:PT X c tc)(ha:PSs X a t)(hb:PSs X b u):PS X (.If c a b pos) (Zfg tc t u):=by
 intro m4 s σ H D I h;refine wpAny_If (YO (hc m4 s σ H _ I h) λd s1 ⟨H1,I1,q1⟩=>?_)
 cases d with
 | true=>exact ha m4 s1 σ H1 D I1 q1
 | false=>exact hb m4 s1 σ H1 D I1 q1
end
abbrev TG:=V->St->Hp->(St->Hp->Prop)->Prop
abbrev Au:=List V->St->Hp->(St->Hp->Prop)->Prop
noncomputable def PG(X:Cx)(target:bH)(t:TG):Prop:=
 ∀(m4:List (aK×cx))(s:aP)(σ:St)(H:Hp)(v:V)(u:aI)(Q:St->Hp->Prop),Inv X m4 σ H s->RelV v u->t v σ H Q->
  ay (model X.prog X.w) X.A (assign target X.env u) (λ_ s'=>∃σ' H',Inv X m4 σ' H' s'/\Q σ' H') X.xe s
noncomputable def PGs(X:Cx)(ts:List bH)(t:Au):Prop:=
 ∀(m4:List (aK×cx))(s:aP)(σ:St)(H:Hp)(vs:List V)(us:List aI)(Q:St->Hp->Prop),Inv X m4 σ H s->Vals vs us->t vs σ H Q->
  ay (model X.prog X.w) X.A (assignInOrder ((hW ts X.env).map (·.2)) us) (λ_ s'=>∃σ' H',Inv X m4 σ' H' s'/\Q σ' H') X.xe s
abbrev Zae:=V->V->V->Hp->(Hp->Prop)->Prop
noncomputable def Zc8(X:Cx)(t:Zae):Prop:=
 ∀(m4:List (aK×cx))(s:aP)(σ:St)(H:Hp)(o i v:V)(ov iv u:aI)(Q:Hp->Prop),Inv X m4 σ H s->RelV o ov->RelV i iv->RelV v u->t o i v H Q->
  ay (model X.prog X.w) X.A (setItem ov iv u) (λ_ s'=>∃H',Inv X m4 σ H' s'/\Q H') X.xe s
abbrev TIp:=V->V->Hp->VK->Prop
noncomputable def PIp(X:Cx)(op:lU)(t:TIp):Prop:=
 ∀(m4:List (aK×cx))(s:aP)(σ:St)(H:Hp)(x y:V)(v u:aI)(Q:VK),Inv X m4 σ H s->RelV x v->RelV y u->t x y H Q->
  ay (model X.prog X.w) X.A (inplaceOp op v u) (EP X m4 σ Q) X.xe s
section
variable {X:Cx} {pos:da}
noncomputable def T2(i:Nat):TG:=λv σ H Q=>Q (σ.set i (some v)) H
theorem ZK{i:Nat}{x:aq}(hN:X.N.Nodup)(hi:X.N[i]?=some x)(hx:Cz X.env.scope x)(hf:X.fn x=aC\/X.env.scope.names.lookup x=some .local:=by first | exact .inl rfl | exact .inr rfl | assumption):PG X (.Name x pos) (T2 i):=by intro m4 s σ H v u Q I r h;exact wpAny_assign_Name (Sw I hN hi hx r (λs' I'=>⟨_,H,I',h⟩) hf)
noncomputable def Zc9:Au:=λvs σ H Q=>vs=[]/\Q σ H
noncomputable def Av(t:TG)(u:Au):Au:=λvs σ H Q=>∃v r,vs=v::r/\t v σ H λσ' H'=>u r σ' H' Q
theorem YF:PGs X [] Zc9:=by intro m4 s σ H vs us Q I r h;obtain⟨e,h⟩:=h;subst e;cases r;exact assignInOrder_nil ⟨σ,H,I,h⟩
theorem ZG{e:bH}{es:List bH}{t:TG}{u:Au}(h1:PG X e t)(h2:PGs X es u)
  (hs:(hW (e::es) X.env).map (·.2)=assign e X.env::(hW es X.env).map (·.2):=by rfl):PGs X (e::es) (Av t u):=by
 intro m4 s σ H vs us Q I r h;obtain⟨v,vr,e1,h⟩:=h;subst e1
 cases r with
 | cons r rr=>
  rw[hs];refine assignInOrder_cons (YO (h1 m4 s σ H _ _ _ I r h) λ_ s1 ⟨σ1,H1,I1,q1⟩=>?_);exact h2 m4 s1 σ1 H1 _ _ Q I1 rr q1
noncomputable def Zda(K:aG)(n:Nat)(t:Au):TG:=λv σ H Q=>∃a xs,v = .ref a/\SqT K H a xs/\xs.length=n/\t xs σ H Q
theorem Xb{es:List bH}{k:Nat}{t:Au}{n:Nat}(hc:X.calm=aC)(h:PGs X es t)
  (hn:(hW es X.env).length=n:=by rfl) (hst:(hW es X.env).findIdx? (·.1)=aA:=by rfl):PG X (.Tuple es k pos) (Zda X.K n t):=by
 intro m4 s σ H v u Q I r hw;obtain⟨a,xs,e1,hq,hl,hw⟩:=hw;subst e1;cases r;obtain⟨m9,rv,ht,hz⟩:=I.tuple hq;refine assign_Tuple_tuple (I.ok.hd hc) ht (by simp[hn,<-hl,rv.length]) hst λh' hx=>?_;have I1:Inv X m4 σ H { s with heap:=h' }:=I.kept (t':=s.toks) λb o e=>hx b o (bQ (aV e)) e;exact h m4 _ σ H xs _ Q I1 (by simpa using rv) hw
noncomputable def Zaf(to ti:TE)(t:Zae):TG:=λv σ H Q=>to σ H λo H1=>ti σ H1 λi H2=>t o i v H2 λH3=>Q σ H3
theorem RE{o i:bH}{to ti:TE}{t:Zae}(ho:PE X o to)(hi:PE X i ti)(hs:Zc8 X t)
  (ha:∀v,assign (.Subscript o i pos) X.env v=(do
   let ov <-holding [v] (eval o X.env);let iv <-holding [v,ov] (eval i X.env)
   lK pos
   holding [v,ov,iv] (setItem ov iv v)
   release [v,ov,iv] []):=by intro _;rfl):PG X (.Subscript o i pos) (Zaf to ti t):=by
 intro m4 s σ H v u Q I r h;rw[ha];refine aM (iU (YO (ho m4 s σ H _ I h) λov s1 ⟨x,H1,I1,r1,q1⟩=>?_));refine aM (iU (YO (hi m4 s1 σ H1 _ I1 q1) λiv s2 ⟨y,H2,I2,r2,q2⟩=>?_));refine aM (kD (aM (iU (YO (hs m4 s2 σ H2 x y v ov iv u _ I2 r1 r2 r q2) λ_ s3 ⟨H3,I3,q3⟩=>?_))));exact wpAny_release ⟨σ,H3,I3,q3⟩
noncomputable def Mc(te:TE)(g:TG):TS:=λD σ H=>te σ H λx H1=>g x σ H1 D.nx
theorem Sf{tg e:bH}{te:TE}{g:TG}(he:PE X e te)(hg:PG X tg g)(hs:swapsWithSole [tg] e pos.line X.env=pure aB:=by rfl)(hw:swappedStores [tg] e X.env=pure aA:=by rfl)
  (h1:(hW [tg] X.env).map (·.2)=[assign tg X.env]:=by rfl):PS X (.Assign [tg] e pos) (Mc te g):=by
 intro m4 s σ H D I h;refine wpAny_Assign_stores (YO (he m4 s σ H _ I h) λv s1 ⟨x,H1,I1,r1,q1⟩=>?_) hs hw;rw[h1];exact YO (hg m4 s1 σ H1 x v _ I1 r1 q1) λ_ s2 q=>q
theorem FN{i:Nat}{x:aq}{e:bH}{te:TE}{pos':da}(hN:X.N.Nodup)(hi:X.N[i]?=some x)(hx:Cz X.env.scope x)(he:PE X e te)(hs:gF e (some (.Name x pos')) pos.line X.env=pure aB:=by rfl)(hf:X.fn x=aC\/X.env.scope.names.lookup x=some .local:=by first | exact .inl rfl | exact .inr rfl | assumption) :
  PS X (.Assign [.Name x pos'] e pos) (Mc te (T2 i)):=by
 intro m4 s σ H D I h;refine wpAny_Assign_Name (YO (he m4 s σ H _ I h) λv s1 ⟨y,H1,I1,r1,q1⟩=>?_) hs;exact Sw I1 hN hi hx r1 (λs2 I2=>⟨_,H1,I2,q1⟩) hf
noncomputable def Zdb(i:Nat)(te:TE)(ti:TIp):TS:=λD σ H=>∃x,σ[i]?=some (some x)/\te σ H λy H1=>ti x y H1 λz H2=>D.nx (σ.set i (some z)) H2
theorem Zag{i:Nat}{x:aq}{e:bH}{te:TE}{op:lU}{ti:TIp}{pos':da}(hN:X.N.Nodup)(hi:X.N[i]?=some x)(hx:Cz X.env.scope x)(he:PE X e te)(ho:PIp X op ti)(hf:X.fn x=aC\/X.env.scope.names.lookup x=some .local:=by first | exact .inl rfl | exact .inr rfl | assumption) :
  PS X (.AugAssign (.Name x pos') op e pos) (Zdb i te ti):=by
 intro m4 s σ H D I h;obtain⟨v,e1,h⟩:=h;obtain⟨m,hn,hl⟩:=I.loc;have vis:Vis X.env.scope x:=by rcases hx with k | k;exact .inl k;exact .inr (.inl k)
 obtain⟨u,r,l⟩:=hl i x v hi e1 vis;refine wpAny_AugAssign_Name ?_;have go:ay (model X.prog X.w) X.A (eval e X.env) (λw s₂=>ay (model X.prog X.w) X.A (inplaceOp op u w) (λr s₃=>ay (model X.prog X.w) X.A (storeName X.env x r) (λ_=>SP X m4 D .next) X.xe s₃) X.xe s₂) X.xe s:=by refine YO (he m4 s σ H _ I h) λw s1 ⟨y,H1,I1,r1,q1⟩=>?_;refine YO (ho m4 s1 σ H1 v y u w _ I1 r r1 q1) λz s2 ⟨zv,H2,I2,r2,q2⟩=>?_;exact Sw I2 hN hi hx r2 (λs3 I3=>⟨_,H2,I3,q2⟩) hf
 rcases l with⟨hk,hm⟩ | ⟨hk,c,hc,hcell⟩
 ·exact j7 I.ok.kind hk hn hm go
 ·rcases hk with hk | hk
  ·exact jy I.ok.kind hk hc hcell go
  ·rcases hx with k | k
   ·have:X.env.scope.names.lookup x=some .free:=hk;rw[k] at this;cases this
   ·have:X.env.scope.names.lookup x=some .free:=hk;rw[k] at this;cases this
noncomputable def ipI(f:Int->Int->Int):TIp:=λx y H Q=>∃i j,x = .int i/\y = .int j/\Q (.int (f i j)) H
theorem Zah:PIp X .Add (ipI λi j=>i+j):=by intro m4 s σ H x y v u Q I r1 r2 h;obtain⟨i,j,e1,e2,q⟩:=h;subst e1;subst e2;obtain⟨t,rfl⟩:=r1;obtain⟨t',rfl⟩:=r2;exact iadd_int ⟨.int _,H,I.tok _,⟨_,rfl⟩,q⟩
end
section
variable {X:Cx} {pos:da}
noncomputable def Zai(c:TT)(tb:TS):TS:=λD σ H=>∃W:Nat->St->Hp->Prop,(∃m,W m σ H)/\∀m σ H,W m σ H->
 c σ H λb H1=>if b=aC then ∃N:St->Hp->Prop,(∀σ' H',N σ' H'->∃m',m'<m/\W m' σ' H')/\tb { D with nx:=N,ct:=N,bk:=D.nx } σ H1 else D.nx σ H1
theorem FO{c:bH}{body:List bp}{tc:TT}{tb:TS}(hp:js (model X.prog X.w) X.A X.env X.xe)(hc:PT X c tc)(hb:PSs X body tb):PS X (.While c body [] pos) (Zai tc tb):=by
 intro m4 s σ H D I h;obtain⟨W,⟨m0,w0⟩,turn⟩:=h;refine wpAny_While (codeAny_whileLoop (λn s'=>∃σ' H',Inv X m4 σ' H' s'/\W n σ' H') ?_ m0 ⟨σ,H,I,w0⟩);rintro n s1 ⟨σ1,H1,I1,w1⟩;refine df hp (YO (hc m4 s1 σ1 H1 _ I1 (turn n σ1 H1 w1)) λb s2 ⟨H2,I2,q2⟩=>?_)
 cases b with
 | true=>
  obtain⟨N,hN,q2⟩:=q2;rw[mM rfl];refine df hp (YO (hb m4 s2 σ1 H2 _ I2 q2) λf s3 q3=>?_)
  cases f with
  | next=>
   obtain⟨σ3,H3,I3,n3⟩:=q3;obtain⟨m',hm,w3⟩:=hN σ3 H3 n3;exact⟨m',hm,σ3,H3,I3,w3⟩
  | cont=>
   obtain⟨σ3,H3,I3,n3⟩:=q3;obtain⟨m',hm,w3⟩:=hN σ3 H3 n3;exact⟨m',hm,σ3,H3,I3,w3⟩
  | brk=>exact q3
  | ret v=>exact q3
 | false=>
  rw[mN au];exact g6 ⟨σ1,H2,I2,q2⟩
end
structure It where
 go:Nat->Hp->Prop
 yld:Nat->Hp->V->Hp->Prop
 stop:Nat->Hp->Prop
noncomputable def Uq(X:Cx)(m4:List (aK×cx))(H:Hp)(b:aK):Prop:=
 H b=aA/\b≠X.env.locals/\b∉X.fs/\(b∈X.ex\/X.s₀.heap.objs.size<=b)/\(∀x c,X.env.cells.lookup x=some c->c≠b)/\∀p∈X.pn++m4,p.1≠b
theorem Inv.fpOk{X:Cx}{m4:List (aK×cx)}{σ:St}{H H':Hp}{s:aP}{b:aK}(I:Inv X m4 σ H s)(hb:s.heap.objs.size<=b)(hn:H' b=aA):Uq X m4 H' b:=by
 refine⟨hn,eO (ar I.lt hb),I.nofs hb,.inr (bX I.sz hb),λx c e z=>?_,λp hp z=>?_⟩
 ·obtain⟨v,q⟩:=I.cell x c e;exact absurd (ar q.lt (by rw[z];exact hb)) (cH _)
 ·exact absurd (ar (aV (I.pin p hp).1) (by rw[z];exact hb)) (cH _)
structure Lx(P:bN)(w:bu)(K:aG)(tg:bH)(J:It)(fp:List aK)(it:aK)(tn:Nat->b9->Prop):Prop where
 mem:it∈fp
 obj:∀i h,tn i h->∀b∈fp,∃o,h.get? b=some o/\∀v,o.data≠.cell v
 keep:∀i h h',tn i h->(∀b∈fp,∀o,h.get? b=some o->h'.get? b=some o)->tn i h'
 item:∀(X:Cx),X.prog=P->X.w=w->X.K=K->X.calm=aC->∀(i:Nat)(m4:List (aK×cx))(s:aP)(σ:St)(H:Hp)(E:aI->aP->Prop),Inv X m4 σ H s->(∀b∈fp,Uq X m4 H b)->tn i s.heap->J.go i H->
  ay (model P w) X.A (ke (.ref it)) (λr s1=>∃u,r=some u/\
   ay (model P w) X.A (g7 tg (.ref it) u) (λ_ s2=>∃x H',Inv X m4 σ H' s2/\RelV x u/\J.yld i H x H'/\tn (i+1) s2.heap/\∀b∈fp,H' b=aA) E s1) E s
 done:∀(X:Cx),X.prog=P->X.w=w->X.K=K->X.calm=aC->∀(i:Nat)(m4:List (aK×cx))(s:aP)(σ:St)(H:Hp)(E:aI->aP->Prop),Inv X m4 σ H s->(∀b∈fp,Uq X m4 H b)->tn i s.heap->J.stop i H->
  ay (model P w) X.A (ke (.ref it)) (λr s1=>r=aA/\Inv X m4 σ H s1) E s
 self:∀(A:bt)(i:Nat)(s:aP)(Q:aI->aP->Prop)(E:aI->aP->Prop),tn i s.heap->Q (.ref it) s->ay (model P w) A (pyIter (.ref it)) Q E s
abbrev TI:=St->Hp->(It->Hp->Prop)->Prop
noncomputable def PIE(X:Cx)(m4:List (aK×cx))(σ:St)(tg:bH)(R:It->Hp->Prop)(itv:aI)(s2:aP):Prop:=
 ∃(it:aK) (fp:List aK) (tn:Nat->b9->Prop) (J:It) (H':Hp),itv = .ref it/\Inv X m4 σ H' s2/\Lx X.prog X.w X.K tg J fp it tn/\tn 0 s2.heap/\(∀b∈fp,Uq X m4 H' b)/\R J H'
noncomputable def PI(X:Cx)(tg iter:bH)(wi:TI):Prop:=
 ∀(m4:List (aK×cx))(s:aP)(σ:St)(H:Hp)(R:It->Hp->Prop),Inv X m4 σ H s->wi σ H R->
  ay (model X.prog X.w) X.A (eval iter X.env) (λv s1=>ay (model X.prog X.w) X.A (pyIter v) (PIE X m4 σ tg R) X.xe s1) X.xe s
theorem FP{M:Model}{A:bt}{E:aI->aP->Prop}{s:aP}{tg:bH}{it:aK}{u:aI}{o:cx}{n:String}{vs:Array aI}{Q:Unit->aP->Prop}(ho:s.heap.get? it=some o)(hc:o.cls = .type n)(hd:o.data = .fields vs)
    (hn:["enumerate","zip","dict_itemiterator","dict_reverseitemiterator","odict_iterator","itertools.zip_longest","itertools.pairwise"].contains n=aB) (hQ:Q () s):ay M A (g7 tg (.ref it) u) Q E s:=by
  unfold g7
  cases tg<;>first
    | exact aw hQ
    | (cases u<;>first
        | exact aw hQ
        | (refine aM (wpAny_load ho ?_)
           rw[hc,hd];show ay M A (if(["enumerate","zip","dict_itemiterator","dict_reverseitemiterator","odict_iterator","itertools.zip_longest","itertools.pairwise"].contains n&&vs[0]?==some (gV _))=aC then _ else _) Q E s;rw[mN (by intro h;rw[hn,Bool.false_and] at h;cases h)];exact aw hQ))
noncomputable def Itl(K:aG)(a:aK):It:=
 ⟨λi H=>∃xs x,SqL K H a xs/\xs[i]?=some x,λi H x H'=>H'=H/\∀xs,SqL K H a xs->xs[i]?=some x,λi H=>∃xs,SqL K H a xs/\xs.length<=i⟩
noncomputable def Itt(K:aG)(a:aK):It:=
 ⟨λi H=>∃xs x,SqT K H a xs/\xs[i]?=some x,λi H x H'=>H'=H/\∀xs,SqT K H a xs->xs[i]?=some x,λi H=>∃xs,SqT K H a xs/\xs.length<=i⟩
noncomputable def Itr(lo:Int)(n:Nat):It:=⟨λi _=>i<n,λi H x H'=>H'=H/\x = .int (lo+i),λi _=>n<=i⟩
theorem HY{P:bN}{w:bu}{K:aG}{tg:bH}(a it:aK):Lx P w K tg (Itl K a) [it] it (λi h=>h.IsListIter it a i) where
 mem:=by simp
 obj:=λi h st b hb=>by
  have e:b=it:=by simpa using hb
  subst e;obtain⟨o,e,c,d⟩:=st;exact⟨o,e,λv z=>by rw[d] at z;cases z⟩
 keep:=λi h h' st k=>st.at λo e=>k it (by simp) o e
 item:=by intro X hP hw hK hc i m4 s σ H E I hf st hg;subst hP hw hK;obtain⟨xs,x,hq,hx⟩:=hg;obtain⟨m9,rv,p,hz⟩:=I.list hq;obtain⟨u,hu,ru⟩:=rv.get hx;obtain⟨f0,f1,f2,f3,f4,f5⟩:=hf it (by simp);refine wpAny_pyNext_list_item st p.isList (x:=u) (by simpa using hu) λh' st' sb=>?_;have I1:Inv X m4 σ H { s with heap:=h' }:=I.turned (t':=s.toks) (λb o hb e=>(sb.2 b hb).trans e) f0 f1 f3 f4 f5;obtain⟨o,e,c,d⟩:=id st';exact⟨u,rfl,FP (s:={ s with heap:=h' }) e c d (by decide) ⟨x,H,I1,ru,⟨rfl,λys hy=>by rw[I.list_inj hy hq];exact hx⟩,st',λb hb=>(hf b hb).1⟩⟩
 done:=by intro X hP hw hK hc i m4 s σ H E I hf st hg;subst hP hw hK;obtain⟨xs,hq,hx⟩:=hg;obtain⟨m9,rv,p,hz⟩:=I.list hq;obtain⟨f0,f1,f2,f3,f4,f5⟩:=hf it (by simp);have hl:=rv.length;exact wpAny_pyNext_list_end (I.ok.hd hc) st p.isList (by simp;omega) λh' eb=>⟨rfl,I.turned (t':=s.toks) (λb o hb e=>eb b o hb e) f0 f1 f3 f4 f5⟩
 self:=λ_ _ _ _ _ st h=>wpAny_pyIter_listiter st h
theorem K1{P:bN}{w:bu}{K:aG}{tg:bH}(a it:aK):Lx P w K tg (Itt K a) [it] it (λi h=>h.IsTupleIter it a i) where
 mem:=by simp
 obj:=λi h st b hb=>by
  have e:b=it:=by simpa using hb
  subst e;obtain⟨o,e,c,d⟩:=st;exact⟨o,e,λv z=>by rw[d] at z;cases z⟩
 keep:=λi h h' st k=>st.at λo e=>k it (by simp) o e
 item:=by intro X hP hw hK hc i m4 s σ H E I hf st hg;subst hP hw hK;obtain⟨xs,x,hq,hx⟩:=hg;obtain⟨m9,rv,p,hz⟩:=I.tuple hq;obtain⟨u,hu,ru⟩:=rv.get hx;obtain⟨f0,f1,f2,f3,f4,f5⟩:=hf it (by simp);refine wpAny_pyNext_tuple_item st (show s.heap.IsTuple a m9.toArray from p) (x:=u) (by simpa using hu) λh' st' sb=>?_;have I1:Inv X m4 σ H { s with heap:=h' }:=I.turned (t':=s.toks) (λb o hb e=>(sb.2 b hb).trans e) f0 f1 f3 f4 f5;obtain⟨o,e,c,d⟩:=id st';exact⟨u,rfl,FP (s:={ s with heap:=h' }) e c d (by decide) ⟨x,H,I1,ru,⟨rfl,λys hy=>by rw[I.tuple_inj hy hq];exact hx⟩,st',λb hb=>(hf b hb).1⟩⟩
 done:=by intro X hP hw hK hc i m4 s σ H E I hf st hg;subst hP hw hK;obtain⟨xs,hq,hx⟩:=hg;obtain⟨m9,rv,p,hz⟩:=I.tuple hq;obtain⟨f0,f1,f2,f3,f4,f5⟩:=hf it (by simp);have hl:=rv.length;exact wpAny_pyNext_tuple_end (I.ok.hd hc) st (show s.heap.IsTuple a m9.toArray from p) (by simp;omega) λh' eb=>⟨rfl,I.turned (t':=s.toks) (λb o hb e=>eb b o hb e) f0 f1 f3 f4 f5⟩
 self:=λ_ _ _ _ _ st h=>wpAny_pyIter_tupleiter st h
theorem K2{P:bN}{w:bu}{K:aG}{tg:bH}(it:aK)(lo:Int)(n:Nat):Lx P w K tg (Itr lo n) [it] it (λi h=>IsRangeIter h it (lo+(i:Nat)*1) ((n:Int)-(i:Nat)) 1) where
 mem:=by simp
 obj:=λi h st b hb=>by
  have e:b=it:=by simpa using hb
  subst e
  exact⟨_,st,λv z=>by
   have z':Data.fields _=Data.cell v:=z;cases z'⟩
 keep:=λi h h' st k=>k it (by simp) _ st
 item:=by intro X hP hw hK hc i m4 s σ H E I hf st hg;subst hP hw hK;obtain⟨f0,f1,f2,f3,f4,f5⟩:=hf it (by simp);have W:=Walks.range (prog:=X.prog) (w:=X.w) (I.ok.hd hc) it lo 1 n;refine W.item i s _ _ hg st λv h' tk hv st' kk=>?_;obtain⟨t,rfl⟩:=hv;have I1:Inv X m4 σ H { s with heap:=h',toks:=tk }:=I.turned (λb o hb e=>kk b o (by simpa using hb) e) f0 f1 f3 f4 f5;refine⟨_,rfl,FP (s:={ s with heap:=h',toks:=tk }) (n:="range_iterator") st' rfl rfl (by decide) ⟨.int (lo+i),H,I1,⟨t,?_⟩,⟨rfl,rfl⟩,st',λb hb=>(hf b hb).1⟩⟩;rw[Int.mul_one]
 done:=by intro X hP hw hK hc i m4 s σ H E I hf st hg;subst hP hw hK;obtain⟨f0,f1,f2,f3,f4,f5⟩:=hf it (by simp);exact wpAny_pyNext_range_end (I.ok.hd hc) st (by have:n<=i:=hg;omega) λh' eb=>⟨rfl,I.turned (t':=s.toks) (λb o hb e=>eb b o hb e) f0 f1 f3 f4 f5⟩
 self:=λ_ _ _ _ _ st h=>wpAny_pyIter_rangeiter st h
section
variable {X:Cx} {tg:bH}
noncomputable def Zdd(K:aG)(tl:TE):TI:=λσ H R=>tl σ H λx H1=>∃a,x = .ref a/\(∃xs,SqL K H1 a xs)/\R (Itl K a) H1
noncomputable def Zfi(K:aG)(tl:TE):TI:=λσ H R=>tl σ H λx H1=>∃a,x = .ref a/\(∃xs,SqT K H1 a xs)/\R (Itt K a) H1
theorem CK{l:bH}{tl:TE}(hl:PE X l tl):PI X tg l (Zdd X.K tl):=by
 intro m4 s σ H R I h;refine YO (hl m4 s σ H _ I h) λv s1 ⟨x,H1,I1,r1,q1⟩=>?_;obtain⟨a,e,⟨xs,hq⟩,q⟩:=q1;subst e;cases r1;obtain⟨m9,rv,p,hz⟩:=I1.list hq;refine wpAny_pyIter_list p.isList ?_;refine⟨s1.heap.objs.size,[s1.heap.objs.size],_,_,H1,rfl,I1.kept (t':=s1.toks) λb o e=>aJ _ e,HY a _,⟨_,ao _ rfl,rfl,rfl⟩,λb hb=>?_,q⟩;have e:b=s1.heap.objs.size:=by simpa using hb
 subst e;exact I1.fpOk (aZ _) (I1.hok.fresh (aZ _))
theorem Zaj{l:bH}{tl:TE}(hl:PE X l tl):PI X tg l (Zfi X.K tl):=by
 intro m4 s σ H R I h;refine YO (hl m4 s σ H _ I h) λv s1 ⟨x,H1,I1,r1,q1⟩=>?_;obtain⟨a,e,⟨xs,hq⟩,q⟩:=q1;subst e;cases r1;obtain⟨m9,rv,p,hz⟩:=I1.tuple hq;refine kI (show s1.heap.IsTuple a m9.toArray from p) ?_;refine⟨s1.heap.objs.size,[s1.heap.objs.size],_,_,H1,rfl,I1.kept (t':=s1.toks) λb o e=>aJ _ e,K1 a _,⟨_,ao _ rfl,rfl,rfl⟩,λb hb=>?_,q⟩;have e:b=s1.heap.objs.size:=by simpa using hb
 subst e;exact I1.fpOk (aZ _) (I1.hok.fresh (aZ _))
theorem Ly{m4:List (aK×cx)}{σ:St}{H:Hp}{s:aP}{R:It->Hp->Prop}{E:aI->aP->Prop}{lo hi:Int}{t u v:Tok}{tk:Nat}(I:Inv X m4 σ H s)(h1 : -(2^62)<=lo)(h2:lo<2^62)(h3 : -(2^62)<=hi)(h4:hi<2^62)
  (q:R (Itr lo (hi-lo).toNat) H):ay (model X.prog X.w) X.A (pyIter (.ref s.heap.objs.size)) (PIE X m4 σ tg R) E { s with heap:=s.heap.push { cls:=.type "range",data:=.fields #[.int lo t,.int hi u,.int 1 v] },toks:=tk }:=by
 refine wpAny_pyIter_range (mJ ..) (small_one h1 h2 h3 h4) ?_;have I1:Inv X m4 σ H { s with heap:=s.heap.push { cls:=.type "range",data:=.fields #[.int lo t,.int hi u,.int 1 v] },toks:=tk }:=I.kept λb o e=>aJ _ e
 refine⟨(s.heap.push { cls:=.type "range",data:=.fields #[.int lo t,.int hi u,.int 1 v] }).objs.size,[(s.heap.push { cls:=.type "range",data:=.fields #[.int lo t,.int hi u,.int 1 v] }).objs.size],_,_,H,rfl,
  I1.kept (t':=tk) λb o e=>aJ _ e,K2 _ lo (hi-lo).toNat,?_,λb hb=>?_,q⟩
 ·have e1:lo+((0:Nat):Int)*1=lo:=by simp
  have e2:(((hi-lo).toNat:Nat):Int)-((0:Nat):Int)=jw.Range.rangeSize lo hi 1:=by rw[rangeSize_one];split<;>omega
  show IsRangeIter _ _ (lo+((0:Nat):Int)*1) ((((hi-lo).toNat:Nat):Int)-((0:Nat):Int)) 1;rw[e1,e2];exact ao _ rfl
 ·have e:b=(s.heap.push { cls:=.type "range",data:=.fields #[.int lo t,.int hi u,.int 1 v] }).objs.size:=by simpa using hb
  subst e;exact I1.fpOk (aZ _) (I1.hok.fresh (aZ _))
noncomputable def Zde(ta:TA):TI:=λσ H R=>ta σ H λvs H1=>∃j:Int,vs=[.int j]/\-(2^62)<=j/\j<2^62/\R (Itr 0 j.toNat) H1
noncomputable def Zdf(ta:TA):TI:=λσ H R=>ta σ H λvs H1=>∃i j:Int,vs=[.int i,.int j]/\(-(2^62)<=i/\i<2^62/\-(2^62)<=j/\j<2^62)/\R (Itr i (j-i).toNat) H1
theorem HZ{a:bH}{ta:TA}{p pos:da}(hg:Gl X "range")(hm:X.mg "range" = aA)(ha:PA X [a] ta)(hs:aQ [a] X.env=[(aB,eval a X.env)]:=by rfl):PI X tg (.Call (.Name "range" p) [a] [] pos) (Zde ta):=by
 intro m4 s σ H R I h;refine Call_ (Up I hg hm lV (cA (YO (ha pos m4 s σ H _ I h) λus s1 ⟨vs,H1,I1,r1,q1⟩=>?_) hs rfl));obtain⟨j,e,q1,q2,q⟩:=q1;subst e
 cases r1 with
 | cons r rr=>
  cases rr;obtain⟨t,rfl⟩:=r;exact call_range_1 (Ly I1 (by omega) (by omega) q1 q2 (by simpa using q))
theorem H9{a b:bH}{ta:TA}{p pos:da}(hg:Gl X "range")(hm:X.mg "range" = aA)(ha:PA X [a,b] ta)(hs:aQ [a,b] X.env=[(aB,eval a X.env),(aB,eval b X.env)]:=by rfl)(hs2:aQ [b] X.env=[(aB,eval b X.env)]:=by rfl) :
  PI X tg (.Call (.Name "range" p) [a,b] [] pos) (Zdf ta):=by
 intro m4 s σ H R I h;refine Call_ (Up I hg hm lV (cA (YO (ha pos m4 s σ H _ I h) λus s1 ⟨vs,H1,I1,r1,q1⟩=>?_) (by rw[hs,hs2]) (by rw[hs2];rfl)));obtain⟨i,j,e,⟨q1,q2,q3,q4⟩,q⟩:=q1;subst e
 cases r1 with
 | cons r rr=>
  cases rr with
  | cons r' rr=>
   cases rr;obtain⟨t,rfl⟩:=r;obtain⟨t',rfl⟩:=r';exact call_range_2 (Ly I1 q1 q2 q3 q4 q)
noncomputable def Zfj(wi:TI)(g:TG)(tb:TS):TS:=λD σ H=>wi σ H λJ H1=>∃W:Nat->Nat->St->Hp->Prop,(∃m,W 0 m σ H1)/\∀i m σ H,W i m σ H->
 (J.stop i H/\D.nx σ H)\/(J.go i H/\∃N:St->Hp->Prop,(∀σ' H',N σ' H'->∃m',m'<m/\W (i+1) m' σ' H')/\∀x H',J.yld i H x H'->g x σ H' λσ2 H2=>tb { D with nx:=N,ct:=N,bk:=D.nx } σ2 H2)
noncomputable def UQ(fp:List aK)(h:b9):List (aK×cx):=fp.filterMap λb=>(h.get? b).map λo=>(b,o)
theorem Wb{fp:List aK}{h:b9}{b:aK}{o:cx}(hb:b∈fp)(e:h.get? b=some o):(b,o)∈UQ fp h:=gC.mpr ⟨b,hb,by rw[e];rfl⟩
theorem Ga{fp:List aK}{h:b9}{p:aK×cx}(hp:p∈UQ fp h):p.1∈fp/\h.get? p.1=some p.2:=by
 obtain⟨b,hb,e⟩:=gC.mp hp
 cases q:h.get? b with
 | none=>rw[q] at e;cases e
 | some o=>
  rw[q] at e;have e':(b,o)=p:=az e;subst e';exact⟨hb,q⟩
theorem Inv.pinned{m4:List (aK×cx)}{σ:St}{H:Hp}{s:aP}{fp:List aK}(I:Inv X m4 σ H s)(hf:∀b∈fp,Uq X m4 H b)(ho:∀b∈fp,∃o,s.heap.get? b=some o/\∀v,o.data≠.cell v):Inv X (m4++UQ fp s.heap) σ H s:=
 I.pins_of λp hp=>(aa.mp hp).elim (λz=>I.pin p (aY _ z)) λz=>by obtain⟨hb,e⟩:=Ga z;obtain⟨f0,f1,f2,_⟩:=hf p.1 hb;obtain⟨o,e',d⟩:=ho p.1 hb;rw[e] at e';cases e';exact⟨e,f0,f1,f2,d⟩
theorem Inv.unpinned{m4 pl:List (aK×cx)}{σ:St}{H:Hp}{s:aP}(I:Inv X (m4++pl) σ H s):Inv X m4 σ H s:=I.pins_of λp hp=>I.pin p (aY _ (bC _ hp))
theorem Zak{iter:bH}{body:List bp}{wi:TI}{g:TG}{tb:TS}{pos:da}(hp:js (model X.prog X.w) X.A X.env X.xe)(hc:X.calm=aC)(hi:PI X tg iter wi)(hg:PG X tg g)(hb:PSs X body tb)
  (hs:∀x,ba iter X.env x=pure x:=by intro _;rfl):PS X (.For tg iter body [] pos) (Zfj wi g tb):=by
 intro m4 s σ H D I h;refine wpAny_For (YO (hi m4 s σ H _ I h) λv s1 h1=>YO h1 λitv s2 h2=>?_) hs;obtain⟨it,fp,tn,J,H2,e,I2,T,st2,f2,W,⟨m0,w0⟩,turn⟩:=h2;subst e
 -- what stays aC of the iterator's objects through the loop
 have stat:∀{H':Hp},(∀b∈fp,H' b=aA)->∀b∈fp,Uq X m4 H' b:=λhn b hb=>⟨hn b hb,(f2 b hb).2⟩;refine codeAny_forLoop_any (λn s'=>∃i σ' H',Inv X m4 σ' H' s'/\tn i s'.heap/\(∀b∈fp,H' b=aA)/\W i n σ' H') ?_ m0 ⟨0,σ,H2,I2,st2,λb hb=>(f2 b hb).1,w0⟩;rintro n s3 ⟨i,σ3,H3,I3,st3,fr3,w3⟩;rcases turn i n σ3 H3 w3 with⟨stop,qn⟩ | ⟨go,N,hN,step⟩
 ·refine df hp (YO (T.done X rfl rfl rfl hc i m4 s3 σ3 H3 X.xe I3 (stat fr3) st3 stop) λr s4 ⟨hr,I4⟩=>?_);subst hr;exact g6 ⟨σ3,H3,I4,qn⟩
 ·refine df hp (YO (T.item X rfl rfl rfl hc i m4 s3 σ3 H3 X.xe I3 (stat fr3) st3 go) λr s4 ⟨u,hr,h4⟩=>?_);subst hr;refine df hp (YO h4 λ_ s5 ⟨x,H5,I5,r5,y5,st5,fr5⟩=>?_);have I5':=I5.pinned (stat fr5) (T.obj _ _ st5);refine df hp (YO (hg _ s5 σ3 H5 x u _ I5' r5 (step x H5 y5)) λ_ s6 ⟨σ6,H6,I6,q6⟩=>?_);refine df hp (YO (hb _ s6 σ6 H6 _ I6 q6) λf s7 q7=>?_);have again:∀{σ7:St}{H7:Hp},Inv X (m4++UQ fp s5.heap) σ7 H7 s7->N σ7 H7->∃m,m<n/\∃i σ' H',Inv X m4 σ' H' s7/\tn i s7.heap/\(∀b∈fp,H' b=aA)/\W i m σ' H':=λ{σ7 H7} I7 n7=>by obtain⟨m',hm,w7⟩:=hN σ7 H7 n7;refine⟨m',hm,i+1,σ7,H7,I7.unpinned,T.keep _ _ _ st5 λb hb o e=>(I7.pin (b,o) (aY _ (aY _ (Wb hb e)))).1,λb hb=>?_,w7⟩;obtain⟨o,e,d⟩:=T.obj _ _ st5 b hb;exact(I7.pin (b,o) (aY _ (aY _ (Wb hb e)))).2.1
  cases f with
  | next=>obtain⟨σ7,H7,I7,n7⟩:=q7;exact again I7 n7
  | cont=>obtain⟨σ7,H7,I7,n7⟩:=q7;exact again I7 n7
  | brk=>obtain⟨σ7,H7,I7,q7⟩:=q7;exact⟨σ7,H7,I7.unpinned,q7⟩
  | ret v=>obtain⟨x7,σ7,H7,I7,r7,q7⟩:=q7;exact⟨x7,σ7,H7,I7.unpinned,r7,q7⟩
end
abbrev R2:=V->V->Hp->VK->Prop
noncomputable def T3(X:Cx)(f:aI->aI->Sem aI)(r:R2):Prop:=
 ∀(m4:List (aK×cx))(s:aP)(σ:St)(H:Hp)(x y:V)(v u:aI)(Q:VK),Inv X m4 σ H s->RelV x v->RelV y u->r x y H Q->
  ay (model X.prog X.w) X.A (f v u) (EP X m4 σ Q) X.xe s
noncomputable def UnR(X:Cx)(f:aI->Sem aI)(r:V->Hp->VK->Prop):Prop:=
 ∀(m4:List (aK×cx))(s:aP)(σ:St)(H:Hp)(x:V)(v:aI)(Q:VK),Inv X m4 σ H s->RelV x v->r x H Q->
  ay (model X.prog X.w) X.A (f v) (EP X m4 σ Q) X.xe s
noncomputable def X6(X:Cx)(f:aI)(r:List V->Hp->VK->Prop):Prop:=
 ∀(m4:List (aK×cx))(s:aP)(σ:St)(H:Hp)(xs:List V)(us:List aI)(Q:VK),Inv X m4 σ H s->Vals xs us->r xs H Q->
  ay (model X.prog X.w) X.A (call f us) (EP X m4 σ Q) X.xe s
noncomputable def Zfl(X:Cx)(r:V->Hp->(Bool->Hp->Prop)->Prop):Prop:=
 ∀(m4:List (aK×cx))(s:aP)(σ:St)(H:Hp)(x:V)(v:aI)(Q:Bool->Hp->Prop),Inv X m4 σ H s->RelV x v->r x H Q->
  ay (model X.prog X.w) X.A (truthy v) (TP X m4 σ Q) X.xe s
noncomputable def tOp(r:R2)(ta tb:TE):TE:=λσ H Q=>ta σ H λx H1=>tb σ H1 λy H2=>r x y H2 Q
noncomputable def tUn(r:V->Hp->VK->Prop)(ta:TE):TE:=λσ H Q=>ta σ H λx H1=>r x H1 Q
noncomputable def rI(C:Int->Int->Prop)(g:Int->Int->V):R2:=λx y H Q=>∃i j,x = .int i/\y = .int j/\C i j/\Q (g i j) H
noncomputable def CA(g:Int->Int->V):R2:=λx y H Q=>∃i j,x = .int i/\y = .int j/\Q (g i j) H
noncomputable def rU(g:Int->V):V->Hp->VK->Prop:=λx H Q=>∃i,x = .int i/\Q (g i) H
section
variable {X:Cx} {a b c:bH} {ta tb tc:TE} {pos:da}
theorem Zal(ha:PE X a ta)(hb:PE X b tb){m4:List (aK×cx)}{s:aP}{σ:St}{H:Hp}{R:V->V->Hp->Prop}(I:Inv X m4 σ H s)
  (h:ta σ H λx H1=>tb σ H1 λy H2=>R x y H2) {Q:aI->aP->Prop} {f:aI->aI->Sem aI}
  (hf:∀v u s2 x y H2,Inv X m4 σ H2 s2->RelV x v->RelV y u->R x y H2->ay (model X.prog X.w) X.A (f v u) Q X.xe s2) :
  ay (model X.prog X.w) X.A (eval a X.env) (λv s₁=>ay (model X.prog X.w) X.A (eval b X.env) (λu s₂=>ay (model X.prog X.w) X.A (f v u) Q X.xe s₂) X.xe s₁) X.xe s:=by
 refine YO (ha m4 s σ H _ I h) λv s1 ⟨x,H1,I1,r1,q1⟩=>?_;refine YO (hb m4 s1 σ H1 _ I1 q1) λu s2 ⟨y,H2,I2,r2,q2⟩=>?_;exact hf v u s2 x y H2 I2 r1 r2 q2
theorem Im{op:lU}{r:R2}(ho:T3 X (cy op) r)(ha:PE X a ta)(hb:PE X b tb):PE X (.BinOp a op b pos) (tOp r ta tb):=by intro m4 s σ H Q I h;exact wpAny_BinOp (Zal ha hb I h λv u s2 x y H2 I2 rx ry q=>ho m4 s2 σ H2 x y v u Q I2 rx ry q)
theorem Zdg{op:UnaryOp}{r:V->Hp->VK->Prop}(ho:UnR X (unaryOp op) r)(ha:PE X a ta):PE X (.UnaryOp op a pos) (tUn r ta):=by intro m4 s σ H Q I h;exact UnaryOp_ (YO (ha m4 s σ H _ I h) λv s1 ⟨x,H1,I1,r1,q1⟩=>ho m4 s1 σ H1 x v Q I1 r1 q1)
theorem opI{f:aI->aI->Sem aI}{C:Int->Int->Prop}{g:Int->Int->Int}
  (rule:∀(i j:Int)(t u:Tok)(s:aP)(Q:aI->aP->Prop)(E:aI->aP->Prop),C i j->Q (.int (g i j) s.toks) { s with toks:=s.toks+1 }->ay (model X.prog X.w) X.A (f (.int i t) (.int j u)) Q E s) :
  T3 X f (rI C λi j=>.int (g i j)):=by
 intro m4 s σ H x y v u Q I rx ry h;obtain⟨i,j,rfl,rfl,hc,q⟩:=h;obtain⟨t,rfl⟩:=rx;obtain⟨t',rfl⟩:=ry;exact rule i j t t' s _ _ hc ⟨.int (g i j),H,I.tok _,⟨_,rfl⟩,q⟩
theorem Zan{f:aI->aI->Sem aI}{g:Int->Int->Int}
  (rule:∀(i j:Int)(t u:Tok)(s:aP)(Q:aI->aP->Prop)(E:aI->aP->Prop),Q (.int (g i j) s.toks) { s with toks:=s.toks+1 }->ay (model X.prog X.w) X.A (f (.int i t) (.int j u)) Q E s) :
  T3 X f (CA λi j=>.int (g i j)):=by
 intro m4 s σ H x y v u Q I rx ry h;obtain⟨i,j,rfl,rfl,q⟩:=h;obtain⟨t,rfl⟩:=rx;obtain⟨t',rfl⟩:=ry;exact rule i j t t' s _ _ ⟨.int (g i j),H,I.tok _,⟨_,rfl⟩,q⟩
theorem Zao{f:aI->aI->Sem aI}{g:Int->Int->Bool}
  (rule:∀(i j:Int)(t u:Tok)(s:aP)(Q:aI->aP->Prop)(E:aI->aP->Prop),Q (.bool (g i j)) s->ay (model X.prog X.w) X.A (f (.int i t) (.int j u)) Q E s) :
  T3 X f (CA λi j=>.bl (g i j)):=by
 intro m4 s σ H x y v u Q I rx ry h;obtain⟨i,j,rfl,rfl,q⟩:=h;obtain⟨t,rfl⟩:=rx;obtain⟨t',rfl⟩:=ry;exact rule i j t t' s _ _ ⟨.bl (g i j),H,I,rfl,q⟩
noncomputable def UM(i j:Int):Prop:=0<j/\j<1073741824
noncomputable def Aw(i j:Int):Prop:=j≠0/\j.natAbs<1073741824
noncomputable def FQ(i j:Int):Prop:=0<=j/\j<=1000000/\i.natAbs<2^64
noncomputable def CMul(i j:Int):Prop:=(-(2^64)<i/\i<2^64)\/(-(2^64)<j/\j<2^64)
theorem CMul.ok{i j:Int}(h:CMul i j):IntMulOk i j:=by
 rcases h with⟨h1,h2⟩ | ⟨h1,h2⟩
 ·exact .of_left (intBits_le_64 h1 h2)
 ·exact .of_right (intBits_le_64 h1 h2)
theorem K3(k:Nat):(0:Int)<=2^k:=by rw[two_pow_cast];exact Int.natCast_nonneg _
theorem Zap:T3 X (cy .Add) (CA λi j=>.int (i+j)):=Zan λ_ _ _ _ _ _ _ q=>add_int q
theorem Zaq:T3 X (cy .Sub) (CA λi j=>.int (i-j)):=Zan λ_ _ _ _ _ _ _ q=>sub_int q
theorem Zar:T3 X (cy .Mult) (rI CMul λi j=>.int (i*j)):=opI λ_ _ _ _ _ _ _ hc q=>mul_int q hc.ok
theorem CM:T3 X (cy .FloorDiv) (rI UM λi j=>.int (i/j)):=opI λi j _ _ _ _ _ hc q=>by have h1:(0:Int)<j:=hc.1;have h2:j<1073741824:=hc.2;exact floordiv_int (by omega) (by rw[dS i (by omega)];exact q) (.inl (PyProof.noPylong_small (by omega)))
theorem Zas:T3 X (cy .Mod) (rI (λ_ j=>0<j) λi j=>.int (i%j)):=opI λi j _ _ _ _ _ hc q=>by have h1:(0:Int)<j:=hc;exact mod_int' (by omega) (by rw[Int.fmod_eq_emod_of_nonneg i (by omega)];exact q)
theorem Zat:T3 X (cy .Pow) (rI FQ λi j=>.int (i^j.toNat)):=opI λ_ _ _ _ _ _ _ hc q=>pow_int_small hc.1 hc.2.1 hc.2.2 q
theorem Zau:T3 X (cy .RShift) (rI (λ_ j=>0<=j) λi j=>.int (i/2^j.toNat)):=opI λi j _ _ _ _ _ hc q=>
 rshift_int hc (by rw[dS i (K3 _)];exact q)
theorem Zav:T3 X (cy .BitAnd) (CA λi j=>.int (lW i j)):=Zan λ_ _ _ _ _ _ _ q=>and_int q
theorem unI{f:aI->Sem aI}{g:Int->Int}
  (rule:∀(i:Int)(t:Tok)(s:aP)(Q:aI->aP->Prop)(E:aI->aP->Prop),Q (.int (g i) s.toks) { s with toks:=s.toks+1 }->ay (model X.prog X.w) X.A (f (.int i t)) Q E s) :
  UnR X f (rU λi=>.int (g i)):=by
 intro m4 s σ H x v Q I rx h;obtain⟨i,rfl,q⟩:=h;obtain⟨t,rfl⟩:=rx;exact rule i t s _ _ ⟨.int (g i),H,I.tok _,⟨_,rfl⟩,q⟩
theorem Zaw:UnR X (unaryOp .USub) (rU λi=>.int (-i)):=unI λ_ _ _ _ _ q=>neg_int q
end
section
variable {X:Cx} {a b c:bH} {ta tb tc:TE} {pos:da}
theorem Ax:T3 X (dc .Lt) (CA λi j=>.bl (decide (i<j))):=Zao λ_ _ _ _ _ _ _ q=>lt_int q
theorem Ay:T3 X (dc .Gt) (CA λi j=>.bl (decide (j<i))):=Zao λ_ _ _ _ _ _ _ q=>gt_int q
theorem Zdh:T3 X (dc .GtE) (CA λi j=>.bl (decide (j<=i))):=Zao λ_ _ _ _ _ _ _ q=>ge_int q
theorem Ur(b:bH){op:lT}(h:op≠.In:=by decide)(h2:op≠.NotIn:=by decide):cO op b=aB:=by
 have e1:(op==lT.In)=aB:=by cases op<;>first | rfl | exact absurd rfl h
 have e2:(op==lT.NotIn)=aB:=by cases op<;>first | rfl | exact absurd rfl h2
 cases b<;>simp[cO,e1,e2]
theorem CN{op:lT}{r:R2}(ho:T3 X (dc op) r)(ha:PE X a ta)(hb:PE X b tb)(hm:cO op b=aB):PE X (.Compare a [op] [b] pos) (tOp r ta tb):=by intro m4 s σ H Q I h;exact wpAny_Compare1 (Zal ha hb I h λv u s2 x y H2 I2 rx ry q=>ho m4 s2 σ H2 x y v u Q I2 rx ry q) hm
noncomputable def Io(t:TE):TT:=λσ H Q=>t σ H λx H'=>∃k,x = .bl k/\Q k H'
theorem CO{op:lT}{r:R2}(ho:T3 X (dc op) r)(ha:PE X a ta)(hb:PE X b tb)(hm:cO op b=aB):PT X (.Compare a [op] [b] pos) (Io (tOp r ta tb)):=by
 intro m4 s σ H Q I h
 refine j3 (YO (ha m4 s σ H _ I h) λv s1 ⟨x,H1,I1,r1,q1⟩=>YO (hb m4 s1 σ H1 _ I1 q1) λu s2 ⟨y,H2,I2,r2,q2⟩=>
  YO (ho m4 s2 σ H2 x y v u _ I2 r1 r2 q2) λc s3 ⟨z,H3,I3,r3,k,e,q3⟩=>?_) hm
 subst e;cases r3;exact dE ⟨H3,I3,q3⟩
noncomputable def Zdi(K:aG)(x:V)(H:Hp)(k:Bool):Prop:=
 match x with
 | .non=>k=aB
 | .bl b=>k=b
 | .int i=>k=(i != 0)
 | .str y=>y.length<=sizeLine/\k=((y.length:Int) != 0)
 | .byt y=>y.size<=sizeLine/\k=((y.size:Int) != 0)
 | .ref p=>(∃xs,SqL K H p xs/\k = !xs.isEmpty)\/(∃xs,SqT K H p xs/\k = !xs.isEmpty)\/∃m5,H p=some (.dK m5)/\k = !m5.isEmpty
 | _=>False
theorem K4{κ:Type}{m5:List (κ×V)}{vs:List (κ×aI)}(r:KV m5 vs):(!vs.isEmpty) = !m5.isEmpty:=by cases r<;>rfl
theorem Pc{xs:List V}{m9:List aI}(r:Vals xs m9):(!m9.toArray.isEmpty) = !xs.isEmpty:=by cases r<;>simp
theorem RF:(sizeLine:Nat)<2^63:=by rw[iO];decide
theorem Zax:Zfl X (λx H Q=>∃k,Zdi X.K x H k/\Q k H):=by
 intro m4 s σ H x v Q I rx h;obtain⟨k,e,q⟩:=h;have hl:=RF;have hs:sizeLine=16777216:=iO
 cases x with
 | non=>
  cases rx;have e':k=aB:=e;subst e';exact truthy_none ⟨H,I,q⟩
 | bl b=>
  cases rx;have e':k=b:=e;subst e';exact dE ⟨H,I,q⟩
 | int i=>
  obtain⟨t,rfl⟩:=rx;have e':k=(i != 0):=e;subst e';exact PySem.P.truthy_int ⟨H,I,q⟩
 | str y=>
  obtain⟨t,rfl⟩:=rx;obtain⟨hy,e'⟩:y.length<=sizeLine/\k=((y.length:Int) != 0):=e;subst e';exact PySem.P.truthy_str (by omega) ⟨H,I.tok _,q⟩
 | byt y=>
  obtain⟨t,rfl⟩:=rx;obtain⟨hy,e'⟩:y.size<=sizeLine/\k=((y.size:Int) != 0):=e;subst e';exact PySem.W.truthy_bytes (by omega) ⟨H,I.tok _,q⟩
 | ref p=>
  cases rx;have e':(∃xs,SqL X.K H p xs/\k = !xs.isEmpty)\/(∃xs,SqT X.K H p xs/\k = !xs.isEmpty)\/∃m5,H p=some (.dK m5)/\k = !m5.isEmpty:=e;rcases e' with⟨xs,hx,e'⟩ | ⟨xs,hx,e'⟩ | ⟨m5,hx,e'⟩
  ·subst e';obtain⟨m9,r,pl,hz⟩:=I.list hx;have hlen:=r.length;exact wpAny_truthy_list pl.isList (by simp only[aT];omega) ⟨H,I.tok _,by rw[Pc r];exact q⟩
  ·subst e';obtain⟨m9,r,pl,hz⟩:=I.tuple hx;have hlen:=r.length;exact truthy_tuple pl (by simp only[aT];omega) ⟨H,I.tok _,by rw[Pc r];exact q⟩
  ·subst e';obtain⟨hz,hS,vs,r,m⟩:m5.length<=sizeLine/\(p==eM)=aB/\∃vs,KV m5 vs/\s.heap.DictOf (YV X.prog X.w) p vs:=I.hok p _ hx;have hlen:m5.length=vs.length:=Paired.length r;exact wpAny_truthy_dict hS m (by omega) ⟨H,I.tok _,by rw[K4 r];exact q⟩
 | _=>exact(show False from e).elim
theorem FR(ha:PE X a ta)(he:∀whole,kH a X.env whole=(do let v <-whole;lK a.pos;holding [v] (truthy v))) :
  PT X a (λσ H Q=>ta σ H λx H'=>∃k,Zdi X.K x H' k/\Q k H'):=by
 intro m4 s σ H Q I h;exact isTrue_plain (YO (ha m4 s σ H _ I h) λv s1 ⟨x,H1,I1,r1,q1⟩=>Zax m4 s1 σ H1 x v Q I1 r1 q1) (he _)
theorem T4{x:V}{us:List aI}(r:Vals [x] us):∃u,us=[u]/\RelV x u:=by
 cases r with
 | cons r1 r2=>cases r2;exact⟨_,rfl,r1⟩
theorem Az{x y:V}{us:List aI}(r:Vals [x,y] us):∃u w',us=[u,w']/\RelV x u/\RelV y w':=by
 cases r with
 | cons r1 r2=>
  cases r2 with
  | cons r3 r4=>cases r4;exact⟨_,_,rfl,r1,r3⟩
theorem Gb(hc:X.calm=aC):X6 X (.builtin "max") (λxs H Q=>∃i j,xs=[.int i,.int j]/\Q (.int (if j>i then j else i)) H):=by
 intro m4 s σ H xs us Q I r h;obtain⟨i,j,rfl,q⟩:=h;obtain⟨u,w',rfl,⟨t,rfl⟩,⟨t',rfl⟩⟩:=Az r;refine max_two_ints (I.ok.hd hc) λh' tk k=>⟨_,H,I.kept k,?_,q⟩;by_cases hj:j>i
 ·rw[mM hj,mM hj];exact⟨_,rfl⟩
 ·rw[mN hj,mN hj];exact⟨_,rfl⟩
theorem Nv:X6 X (.type "int") (λxs H Q=>(∃i,xs=[.int i]/\Q (.int i) H)\/∃k,xs=[.bl k]/\Q (.int (if k then 1 else 0)) H):=by
 intro m4 s σ H xs us Q I r h;rcases h with⟨i,rfl,q⟩ | ⟨k,rfl,q⟩
 ·obtain⟨u,rfl,t,rfl⟩:=T4 r;exact call_int_int ⟨.int i,H,I,⟨_,rfl⟩,q⟩
 ·obtain⟨u,rfl,r1⟩:=T4 r;cases r1;exact call_int_bool ⟨.int (if k then 1 else 0),H,I.tok _,⟨_,rfl⟩,q⟩
noncomputable def Zdj(K:aG)(x:V)(H:Hp)(n:Nat):Prop:=
 match x with
 | .str y=>y.length<=sizeLine/\n=y.length
 | .byt y=>y.size<=sizeLine/\n=y.size
 | .ref p=>(∃xs,SqL K H p xs/\n=xs.length)\/∃xs,SqT K H p xs/\n=xs.length
 | _=>False
theorem FT:X6 X (.builtin "len") (λxs H Q=>∃x n,xs=[x]/\Zdj X.K x H n/\Q (.int n) H):=by
 intro m4 s σ H xs us Q I r h;obtain⟨x,n,rfl,e,q⟩:=h;obtain⟨u,rfl,rx⟩:=T4 r;have hl:=RF;have hs:sizeLine=16777216:=iO
 cases x with
 | str y=>
  obtain⟨t,rfl⟩:=rx;obtain⟨hy,e'⟩:y.length<=sizeLine/\n=y.length:=e;subst e';exact len_str (by omega) ⟨.int _,H,I.tok _,⟨_,rfl⟩,q⟩
 | byt y=>
  obtain⟨t,rfl⟩:=rx;obtain⟨hy,e'⟩:y.size<=sizeLine/\n=y.size:=e;subst e';exact PySem.W.len_bytes (by omega) ⟨.int _,H,I.tok _,⟨_,rfl⟩,q⟩
 | ref p=>
  cases rx;have e':(∃xs,SqL X.K H p xs/\n=xs.length)\/∃xs,SqT X.K H p xs/\n=xs.length:=e;rcases e' with⟨xs,hx,e'⟩ | ⟨xs,hx,e'⟩
  ·subst e';obtain⟨m9,r',pl,hz⟩:=I.list hx;have hlen:=r'.length;exact Calls.call_len_list pl.isList (by simp only[aT];omega) ⟨.int xs.length,H,I.tok _,⟨_,by simp only[aT];rw[hlen]⟩,q⟩
  ·subst e';obtain⟨m9,r',pl,hz⟩:=I.tuple hx;have hlen:=r'.length;exact len_tuple pl (by simp only[aT];omega) ⟨.int xs.length,H,I.tok _,⟨_,by simp only[aT];rw[hlen]⟩,q⟩
 | _=>exact(show False from e).elim
end
structure ObjM(h:b9)(x dx C:aK)(mA:aq->Option aI):Prop where
 obj:h.get? x=some (jT C dx)
 ns:h.Ns1 dx mA
 ne:dx≠x
theorem Gd{h:b9}{dx:aK}{mA:aq->Option aI}(n:h.Ns1 dx mA):∃od,h.get? dx=some od/\∀name,j8 name od=some (mA name):=by
 obtain⟨o,es,ep,ho,hd,hk,_,hm⟩:=n;refine⟨o,ho,λname=>?_⟩;have e:=hm name;unfold nsFind findBy at e;rw[<-Array.find?_toList] at e;unfold j8;rw[hd]
 dsimp only
 split
 ·rename_i y q;rw[q] at e;exact congrArg some e
 ·rename_i q;rw[q] at e;have a:es.toList.any (·.refKey)=aB:=by rw[List.any_eq_false];intro y hy;obtain⟨z,t,hkey⟩:=hk y (Array.mem_toList_iff.mp hy);simp[DictEntry.refKey,hkey]
  have a':¬es.toList.any (·.refKey)=aC:=by rw[a];exact au
  rw[mN a'];exact congrArg some e
theorem ObjM.look{h:b9}{x dx C:aK}{mA:aq->Option aI}(I:ObjM h x dx C mA):∃od,PySem.W.InstAt h x (jT C dx) C (some od)/\∀name,j8 name od=some (mA name):=
 let⟨od,ho,hl⟩:=Gd I.ns
 ⟨od,⟨I.obj,rfl,rfl,ho⟩,hl⟩
theorem RelO.some_of{v:V}{o:Option aI}(r:RelO (some v) o):∃u,o=some u/\RelV v u:=by
 cases o with
 | none=>exact(show False from r).elim
 | some u=>exact⟨u,rfl,r⟩
section
variable {P:bN} {w:bu} {H H':Hp} {h h':b9} {a C dx:aK} {fs fs':List (aq×V)}
theorem CP(hok:HOk P w H h)(e:H a=some (.ins C dx fs)):∃mA,ObjM h a dx C mA/\(∀f,RelO (fs.lookup f) (mA f))/\mH mA (fs.map (·.1))/\fs.length<=1000/\H dx=some (.own a):=by obtain⟨d,z,ne,ob,mA,n,r,q⟩:=(show ObjOk P w H h a (.ins C dx fs) from hok a _ e);exact⟨mA,⟨ob,n,ne⟩,r,q,z,d⟩
end
structure Cls(K:aG)(C:aK):Prop where
 pg:kf K C aq.empty=aC
 hd:PySem.W.hasDictIn K C=aC
 po:PySem.W.plainOver K C=aC
 sa:lY K (.ref C) "__setattr__" = some (some (.builtin "object.__setattr__"))
theorem Cls.get{K:aG}{C:aK}(c:Cls K C)(f:aq):kf K C f=aC:=c.pg
section
variable {X:Cx} {m4:List (aK×cx)} {σ:St} {H:Hp} {s:aP} {A:bt} {E:aI->aP->Prop} {Q:aI->aP->Prop} {c:aI} {b:Bool}
inductive TyOf(K:aG)(H:Hp):V->aI->Prop where
 | non:TyOf K H .non (.type "NoneType")
 | bl (x:Bool):TyOf K H (.bl x) (.type "bool")
 | int (i:Int):TyOf K H (.int i) (.type "int")
 | str (x:aq):TyOf K H (.str x) (.type "str")
 | flt (x:UInt64):TyOf K H (.flt x) (.type "float")
 | lst {a:aK} {xs:List V} (e:H a=some (.lst xs)):TyOf K H (.ref a) (.type "list")
 | frz {a:aK} {o:cx} {xs:List V} (e:H a=some (.frz o (.lst xs))):TyOf K H (.ref a) (.type "list")
 | tup {a:aK} {xs:List V} (e:H a=some (.tup xs)):TyOf K H (.ref a) (.type "tuple")
 | dK {a:aK} {m5:List (Xl×V)} (e:H a=some (.dK m5)):TyOf K H (.ref a) (.type "dict")
 | dT {a:aK} {m5:List (List Xl×V)} (e:H a=some (.dT m5)):TyOf K H (.ref a) (.type "dict")
 | ins {a C dx:aK} {fs:List (aq×V)} (e:H a=some (.ins C dx fs)) (cl:Cls K C) (ha:lY K (.ref C) "__class__" = some (some (.builtin "object.__class__")))
   (hn:PySem.W.specialIn K (.builtin "object.__class__") "__get__" = some (some (.builtin "getset_descriptor.__get__"))) (htk:PySem.W.takesIn K (.builtin "object.__class__")=some aC)
   (hm:PySem.W.mroIn K C (.type "object")=some aC):TyOf K H (.ref a) (.ref C)
theorem Ge{x:V}{u t:aI}(I:Inv X m4 σ H s)(rx:RelV x u)(ty:TyOf X.K H x t)(e:cj X.K t c=some b)(h:∀tk,Q (.bool b) { s with toks:=tk }) :
  ay (model X.prog X.w) A (call (.builtin "isinstance") [u,c]) Q E s:=by
 cases ty with
 | non=>cases (show u=eY from rx);exact cP PySem.W.kitx_none I.kIn bW e (λz=>nomatch z) h
 | bl y=>cases (show u=lN y from rx);exact cP PySem.W.kitx_bool I.kIn bW e (λz=>nomatch z) h
 | int i=>obtain⟨t,q⟩:=(show ∃t,u=eU i t from rx);cases q;exact cP PySem.W.kitx_int I.kIn bW e (λz=>nomatch z) h
 | str y=>obtain⟨t,q⟩:=(show ∃t,u=kc y t from rx);cases q;exact cP PySem.W.kitx_str I.kIn bW e (λz=>nomatch z) h
 | flt y=>obtain⟨t,q⟩:=(show ∃t,u=aI.float y t from rx);cases q;exact cP PySem.W.kitx_float I.kIn bW e (λz=>nomatch z) h
 | @lst a xs ea=>
  cases (show u=cM a from rx);obtain⟨_,_,n,_,h1⟩:=(show ObjOk X.prog X.w H s.heap a (.lst xs) from I.hok a _ ea);exact cP kX I.kIn ⟨_,h1,rfl⟩ e (λz=>nomatch z) h
 | @frz a ob xs ea=>
  cases (show u=cM a from rx);obtain⟨_,_,_,n,_,h1⟩:=(show ObjOk X.prog X.w H s.heap a (.frz ob (.lst xs)) from I.hok a _ ea);exact cP kX I.kIn ⟨_,h1,rfl⟩ e (λz=>nomatch z) h
 | @tup a xs ea=>
  cases (show u=cM a from rx);obtain⟨_,_,_,p⟩:=(show ObjOk X.prog X.w H s.heap a (.tup xs) from I.hok a _ ea);obtain⟨o,h1,h2,_⟩:=p;exact cP PySem.W.kitx_tuple I.kIn ⟨o,h1,h2⟩ e (λz=>nomatch z) h
 | @dK a m5 ea=>
  cases (show u=cM a from rx);obtain⟨_,_,vs,_,p⟩:=(show ObjOk X.prog X.w H s.heap a (.dK m5) from I.hok a _ ea);obtain⟨o,es,ep,h1,h2,_⟩:=p;exact cP kY I.kIn ⟨o,h1,h2.1⟩ e (λz=>nomatch z) h
 | @dT a m5 ea=>
  cases (show u=cM a from rx);obtain⟨_,_,xs,_,o,es,ep,h1,h2,_⟩:=(show ObjOk X.prog X.w H s.heap a (.dT m5) from I.hok a _ ea);exact cP kY I.kIn ⟨o,h1,h2.1⟩ e (λz=>nomatch z) h
 | @ins a C dx fs ea cl ha hn htk hm=>
  cases (show u=cM a from rx);obtain⟨mA,O,_⟩:=CP I.hok ea;obtain⟨od,J,_⟩:=O.look;exact cP (PySem.W.kitx_own (cl.get _) cl.hd ha hn htk hm) I.kIn J e (λz=>nomatch z) h
end
structure Room(k:Nat)(A:bt):Prop where
 hd:A.handled=aA
 dp:A.depth+3*k+5<recursionLimit
 un:A.units+16*k+200<dj
 gd:A.guards=some []
theorem Room.mono{j k:Nat}{A:bt}(r:Room k A)(h:j<=k):Room j A:=⟨r.hd,by have:=r.dp;omega,by have:=r.un;omega,r.gd⟩
theorem Room.deeper{k:Nat}{A:bt}(r:Room (k+1) A)(env:jx):Room k (A.deeper env):=
 ⟨r.hd,by have:=r.dp;show A.depth+1+3*k+5<_;omega,by have:=r.un;show A.units+3+16*k+200<_;omega,r.gd⟩
theorem Room.depth{k:Nat}{A:bt}(r:Room k A):A.depth<recursionLimit:=by have:=r.dp;omega
theorem Room.units{k:Nat}{A:bt}(r:Room k A):A.units+64<dj:=by have:=r.un;omega
noncomputable def K5:TA:=λ_ H Q=>Q [] H
noncomputable def Qr(ta:TE)(tr:TA):TA:=λσ H Q=>ta σ H λx H1=>tr σ H1 λxs H2=>Q (x::xs) H2
section
variable {X:Cx} {e:bH} {es:List bH} {te:TE} {t:TA} {pos:da}
theorem Xc:PA X [] K5:=λ_ _ _ _ H Q I h=>kZ ⟨[],H,I,.nil,h⟩
theorem Yc(ha:PE X e te)(hr:PA X es t)(hs:aQ (e::es) X.env=(aB,eval e X.env)::aQ es X.env:=by rfl):PA X (e::es) (Qr te t):=by intro pos m4 s σ H Q I h;rw[hs];show ay _ _ (spliced ((aB,eval e X.env)::dD pos (aQ es X.env))) _ _ s;refine kJ (YO (ha m4 s σ H _ I h) λu s1 ⟨x,H1,I1,r1,q1⟩=>?_);exact YO (hr pos m4 s1 σ H1 _ I1 q1) λus s2 ⟨xs,H2,I2,r2,q2⟩=>⟨x::xs,H2,I2,.cons r1 r2,q2⟩
noncomputable def Zdk(t:TA):TE:=λσ H Q=>t σ H λxs H1=>xs.length<=sizeLine/\∀p,H1 p=aA->Q (.ref p) (upd H1 p (.tup xs))
noncomputable def Zfm(t:TA):TE:=λσ H Q=>t σ H λxs H1=>xs.length<=sizeLine/\∀p,H1 p=aA->Q (.ref p) (upd H1 p (.lst xs))
theorem FU{x1}(h:PA X es t):PE X (.Tuple es x1 pos) (Zdk t):=by intro m4 s σ H Q I hq;refine wpAny_Tuple_spliced (YO (h pos m4 s σ H _ I hq) λus s1 ⟨xs,H1,I1,r,z,q⟩=>⟨by rw[<-r.length];exact z,?_⟩);have hf:H1 s1.heap.objs.size=aA:=I1.hok.fresh (aZ _);refine⟨.ref s1.heap.objs.size,upd H1 s1.heap.objs.size (.tup xs),I1.laid (t':=s1.toks) (λb u e=>aJ _ e) (aZ _) ?_,rfl,q _ hf⟩;exact⟨⟨z,λo e=>Pa e⟩,us,r,⟨_,ao _ rfl,rfl,_,rfl⟩⟩
theorem FV(h:PA X es t):PE X (.List es pos) (Zfm t):=by intro m4 s σ H Q I hq;refine wpAny_List_spliced (YO (h pos m4 s σ H _ I hq) λus s1 ⟨xs,H1,I1,r,z,q⟩=>⟨by rw[<-r.length];exact z,?_⟩);have hf:H1 s1.heap.objs.size=aA:=I1.hok.fresh (aZ _);refine⟨.ref s1.heap.objs.size,upd H1 s1.heap.objs.size (.lst xs),I1.laid (t':=s1.toks) (λb u e=>aJ _ e) (aZ _) ?_,rfl,q _ hf⟩;exact⟨z,us,0,r,ao _ rfl⟩
end
abbrev Sp:=List V->Hp->VK->XK->Prop
abbrev AA:=List jx->Hp->aP->XK->aI->aP->Prop
structure Env0(P:bN)(w:bu)(K:aG)(mg:aq->Option aI)(base:b9)(A:bt)(outer:List jx)(s:aP)(H:Hp):Prop where
 frames:A.frames=some outer
 mod:Mod K mg base
 bs:∀b o,base.get? b=some o->s.heap.get? b=some o/\H b=aA
 bsz:base.objs.size<=s.heap.objs.size
 funs:s.heap.FunFrames base outer
 frf:∀b∈Ni outer,H b=aA
 tab:TabsH K mg base H
 hok:HOk P w H s.heap
 bare:jA s.gens
noncomputable def CE(outer:List jx)(P:bN)(w:bu)(H:Hp)(s:aP)(Q:VK)(u:aI)(s':aP):Prop:=
 ∃v H',s'.os=s.os/\jA s'.gens/\Un (Ni outer) [] H H' s.heap s'.heap/\HOk P w H' s'.heap/\RelV v u/\Q v H'
noncomputable def CR(CX:AA)(outer:List jx)(P:bN)(w:bu)(H:Hp)(s:aP)(Q:VK)(E:XK)(r:Result)(s':aP):Prop:=
 match r with
 | .ok (.ret u)=>CE outer P w H s Q u s'
 | .ok _=>False
 | .error e=>CX outer H s E e s'
structure RG(P:bN)(w:bu)(K:aG)(mg:aq->Option aI)(base:b9)(CX:AA)(k:Nat)(f:aK)(fd:eF)(ps:List aq)(sp:Sp):Prop where
 len:∀vs H Q E,sp vs H Q E->vs.length=ps.length
 run:∀(A:bt)(outer:List jx)(s:aP)(H:Hp)(args:Args)(us:List aI)(vs:List V)(Q:VK)(E:XK),Room k A->Env0 P w K mg base A outer s H->k3 s fd args (ps.zip us)->Vals vs us->sp vs H Q E->
  gm (model P w) A (.call (.ref f) args) (CR CX outer P w H s Q E) s
section
variable {X:Cx} {m4:List (aK×cx)} {σ:St} {H:Hp} {s s':aP}
theorem Inv.env0(I:Inv X m4 σ H s):Env0 X.prog X.w X.K X.mg X.base X.A X.stack s H:=
 ⟨I.ok.frames,I.ok.mod,I.bs,bX I.ok.bsz I.sz,I.stack,I.stkFree,I.ok.tab.un I.base,I.hok,I.bare⟩
theorem Inv.after{Q:VK}{u:aI}(I:Inv X m4 σ H s)(h:CE X.stack X.prog X.w H s Q u s'):EP X m4 σ Q u s':=by obtain⟨v,H',os,bare,un,hok,r,q⟩:=h;obtain⟨hh,g,d,t,os'⟩:=s';obtain rfl:os'=s.os:=os;exact⟨v,H',I.call (h':=hh) (g':=g) (d':=d) (t':=t) (ch:=[]) un hok bare (λb z=>absurd z (by simp)),r,q⟩
end
noncomputable def FW(sp:Sp)(dvs:List V)(E:XK)(t:TA):TE:=λσ H Q=>t σ H λvs H1=>sp (vs++dvs) H1 Q E
noncomputable def Binds(K:aG)(fd:eF)(ps:List aq)(ds:List aI):Prop:=
 ∀(s:aP)(us:List aI),K.In s.heap->(us++ds).length=ps.length->k3 s fd ⟨us,[]⟩ (ps.zip (us++ds))
theorem Binds.all{K:aG}{fd:eF}{ps:List aq}(h:∀us:List aI,us.length=ps.length->iA fd ⟨us,[]⟩=pure (ps.zip us)):Binds K fd ps []:=λs us _ hl=>by rw[cu] at hl ⊢;exact .of_eq (h us hl)
noncomputable def Md(CX:AA)(X:Cx)(E:XK):Prop:=∀(m4:List (aK×cx))(σ:St)(H:Hp)(s:aP)(e:aI)(s':aP),Inv X m4 σ H s->CX X.stack H s E e s'->X.xe e s'
section
variable {X:Cx} {CX:AA} {k:Nat} {f C:aK} {fd:eF} {ps:List aq} {sp:Sp} {dvs:List V} {ds:List aI} {E:XK} {x m:aq} {p pos apos:da} {e o:bH} {es:List bH} {ta:TE} {t:TA}
theorem FX{m4:List (aK×cx)}{σ:St}{H:Hp}{s:aP}{Q:VK}{us:List aI}{vs:List V}(F:RG X.prog X.w X.K X.mg X.base CX k f fd ps sp)(hr:Room k X.A)(hb:Binds X.K fd ps ds)(hd:Vals dvs ds)(hx:Md CX X E)
  (I:Inv X m4 σ H s) (r:Vals vs us) (h:sp (vs++dvs) H Q E):ay (model X.prog X.w) X.A (call (.ref f) us) (EP X m4 σ Q) X.xe s:=by
 have r2:Vals (vs++dvs) (us++ds):=r.append hd;have hl:(us++ds).length=ps.length:=by rw[<-r2.length];exact F.len _ _ _ _ h
 refine lZ (gn (F.run X.A X.stack s H ⟨us,[]⟩ (us++ds) (vs++dvs) Q E hr I.env0 (hb s us I.kIn hl) r2 h) λr s' hq=>?_)
 cases r with
 | error e=>exact hx m4 σ H s e s' I hq
 | ok fl=>
  cases fl with
  | ret u=>exact I.after hq
  | next=>exact c9 hq
  | brk=>exact c9 hq
  | cont=>exact c9 hq
theorem CQ(F:RG X.prog X.w X.K X.mg X.base CX k f fd ps sp)(hr:Room k X.A)(hg:Gl X x)(hm:X.mg x=some (.ref f))(hk:eZ X.K (.ref f)=aC)(hb:Binds X.K fd ps ds)(hd:Vals dvs ds)(hx:Md CX X E)
  (ha:PA X (e::es) t) (hdb:(x==("__debug__" : aq))=aB:=by decide) (he:aQ (e::es) X.env=(aB,eval e X.env)::aQ es X.env:=by rfl) (hpl:(dD pos (aQ es X.env)).any (·.1)=aB:=by rfl) :
  PE X (.Call (.Name x p) (e::es) [] pos) (FW sp dvs E t):=by
 intro m4 s σ H Q I h;refine dA (QR I hg hm ?_ hdb);refine kK (h₀:=X.base) I.ok.mod.kin hk (YO (ha pos m4 s σ H _ I h) λus s1 ⟨vs,H1,I1,r,q⟩=>⟨I1.kIn,?_⟩) he hpl;exact FX F hr hb hd hx I1 r q
theorem FY(F:RG X.prog X.w X.K X.mg X.base CX k f fd ps sp)(hr:Room k X.A)(hg:Gl X x)(hm:X.mg x=some (.ref f))(hk:eZ X.K (.ref f)=aC)(hb:Binds X.K fd ps ds)(hd:Vals dvs ds)(hx:Md CX X E)
  (hdb:(x==("__debug__" : aq))=aB:=by decide):PE X (.Call (.Name x p) [] [] pos) (FW sp dvs E K5):=by
 intro m4 s σ H Q I h;refine dA (QR I hg hm ?_ hdb);exact PySem.W.callWith_K0 I.kIn hk (FX (us:=[]) F hr hb hd hx I .nil h)
end
noncomputable def PK(X:Cx)(kws:List lM)(t:TA):Prop:=
 ∀(pos:da)(m4:List (aK×cx))(s:aP)(σ:St)(H:Hp)(Q:List V->Hp->Prop),Inv X m4 σ H s->t σ H Q->ay (model X.prog X.w) X.A (evalAll ((backToKw pos (kz kws X.env)).map (·.2))) (AP X m4 σ Q) X.xe s
structure Zw(N P:List aq)(sc:eB):Prop where
 kind:sc.kind = .function
 co:sc.isCoroutine=aB
 gen:sc.isGenerator=aB
 nd:N.Nodup
 pre:N.take P.length=P
 par:∀x∈P,sc.names.lookup x=some .local\/sc.names.lookup x=some .cell
 nofree:∀y∈sc.names,y.2≠.free
theorem Nw{kindOf:aq->Option dk}{x:aq}:∀{binds:List (aq×aI)}{m:aq->Option aI},(∀v,(x,v)∉binds)->l3 kindOf binds m x=m x
 | [],_,_=>rfl
 | (n,v)::r,m,h=>by
  unfold l3;rw[Nw λw hw=>h w (aS _ hw)];split
  ·have:x≠n:=by rintro rfl;exact h v ah
   simp[this]
  ·rfl
theorem Nx{kindOf:aq->Option dk}{x:aq}:∀{binds:List (aq×aI)}{m:aq->Option aI},(∀v,(x,v)∉binds)->l5 kindOf binds m x=m x
 | [],_,_=>rfl
 | (n,v)::r,m,h=>by
  unfold l5;rw[Nx λw hw=>h w (aS _ hw)];split
  ·rfl
  ·have:x≠n:=by rintro rfl;exact h v ah
   simp[this]
theorem Ny{kindOf:aq->Option dk}{x:aq}{v:aI}:∀{P:List aq}{vs:List aI}{i:Nat}{m:aq->Option aI},P.Nodup->P[i]?=some x->vs[i]?=some v->kindOf x=some .local->
  l3 kindOf (P.zip vs) m x=some v
 | [],_,_,_,_,h,_,_=>by simp at h
 | _::_,[],_,_,_,_,h,_=>by simp at h
 | p::P,w::vs,0,m,nd,h1,h2,hk=>by simp at h1 h2;subst h1;subst h2;show l3 kindOf ((p,w)::P.zip vs) m p=_;unfold l3;rw[Nw λv hv=>(bG.mp nd).1 (fj hv).1,mM hk];simp
 | p::P,w::vs,i+1,m,nd,h1,h2,hk=>by show l3 kindOf ((p,w)::P.zip vs) m x=_;unfold l3;exact Ny (i:=i) (bG.mp nd).2 (by simpa using h1) (by simpa using h2) hk
theorem Nz{kindOf:aq->Option dk}{x:aq}{v:aI}:∀{P:List aq}{vs:List aI}{i:Nat}{m:aq->Option aI},P.Nodup->P[i]?=some x->vs[i]?=some v->kindOf x≠some .local->
  l5 kindOf (P.zip vs) m x=some v
 | [],_,_,_,_,h,_,_=>by simp at h
 | _::_,[],_,_,_,_,h,_=>by simp at h
 | p::P,w::vs,0,m,nd,h1,h2,hk=>by simp at h1 h2;subst h1;subst h2;show l5 kindOf ((p,w)::P.zip vs) m p=_;unfold l5;rw[Nx λv hv=>(bG.mp nd).1 (fj hv).1,mN hk];simp
 | p::P,w::vs,i+1,m,nd,h1,h2,hk=>by show l5 kindOf ((p,w)::P.zip vs) m x=_;unfold l5;exact Nz (i:=i) (bG.mp nd).2 (by simpa using h1) (by simpa using h2) hk
noncomputable def start(N:List aq)(vs:List V):St:=vs.map some++aN (N.length-vs.length) aA
noncomputable def Pd(CX:AA)(P:bN)(w:bu)(K:aG)(mg:aq->Option aI)(base:b9)(N:List aq)(qual:aq)(scope:eB)(f:aK)(cd:aI)(A:bt)(outer:List jx)(s:aP)(H:Hp)(E:XK):Cx where
 prog:=P
 w:=w
 K:=K
 mg:=mg
 base:=base
 A:=A.deeper (gW qual scope s.heap.objs.size f cd)
 N:=N
 s₀:=s
 H₀:=H
 env:=gW qual scope s.heap.objs.size f cd
 outer:=outer
 stack:=gW qual scope s.heap.objs.size f cd::outer
 ex:=[]
 calm:=aC
 fn:=λ_=>aC
 pn:=[]
 xe:=λe s'=>ay (model P w) (A.deeper (gW qual scope s.heap.objs.size f cd)) (leaving (gW qual scope s.heap.objs.size f cd) e) (λ_ s''=>CX outer H s E e s'') (λe' s''=>CX outer H s E e' s'') s'
theorem Lz{sc:eB}{n:Nat}{x:aq}(h:sc.names.lookup x=some .cell):∃c,(kg n sc.names []).lookup x=some c:=by have q:=jC sc.names n [] (.inl h);exact cI.mp q
theorem Ip{a b c:aq}(h:a++c=b++c):a=b:=by
 obtain⟨a⟩:=a;obtain⟨b⟩:=b;have h2:a++c.cps=b++c.cps:=congrArg aq.cps h;have h3:a.toList++c.cps.toList=b.toList++c.cps.toList:=by rw[<-fR,<-fR,h2]
 have h4:a=b:=Array.toList_inj.mp (List.append_cancel_right h3);rw[h4]
theorem Gf{CX:AA}{P:bN}{w:bu}{K:aG}{mg:aq->Option aI}{base:b9}{N ps:List aq}{qual:aq}{scope:eB}{f:aK}{cd:aI}{A:bt}{outer:List jx}{s s1:aP}{H:Hp}{E:XK}{us:List aI}{vs:List V}
  (hcd:cg K cd qual=aC) (S:Zw N ps scope) (hd:A.handled=aA) (e0:Env0 P w K mg base A outer s H) (hl:vs.length=ps.length) (r:Vals vs us)
  (x:InCallC s s.heap.objs.size (l3 (gW qual scope s.heap.objs.size f cd).kindOf (ps.zip us) λ_=>aA) (kg (s.heap.objs.size+1) scope.names []) (l5 (gW qual scope s.heap.objs.size f cd).kindOf (ps.zip us) λ_=>aA) s1) :
  Inv (Pd CX P w K mg base N qual scope f cd A outer s H E) [] (start N vs) H s1:=by
 have hpl:ps.length<=N.length:=by have:=congrArg iP S.pre;rw[bU] at this;omega
 obtain⟨h1,tk,rfl,hk⟩:=x.done;have noA:∀b:aK,b∉(Pd CX P w K mg base N qual scope f cd A outer s H E).ex:=λb z=>absurd (show b∈([]:List aK) from z) (by simp)
 refine⟨⟨e0.mod,S.kind,rfl,rfl,aZ _,λy z c h1 h2=>?_,λy hy=>?_,λy c _ h=>?_,λ_=>hd,j9 e0.frames,.inr ⟨rfl,rfl⟩,λb z=>absurd z (noA b),e0.bs,e0.bsz,λb _ _=>noA b,λb z=>absurd z (noA b),e0.funs,e0.frf,e0.tab,λq _ hq _=>by rw[<-Ip hq];exact hcd⟩,
  rfl,e0.bare,Un.kept hk,⟨_,x.toInCall.ns,λi y v h1 h2 h3=>?_⟩,λy c h=>⟨_,x.cell y c h⟩,e0.hok.fresh (aZ _),λy c h=>?_,λp hp=>absurd (show p∈([]:List (aK×cx)) from hp) (by simp),e0.hok.kept hk,?_⟩
 ·exact name_of_addr x.apart (cJ h1) (cJ h2)
 ·have hy:scope.names.lookup y=some .cell\/scope.names.lookup y=some .free:=hy;rcases hy with hy | hy
  ·exact Lz hy
  ·exact absurd rfl (S.nofree _ (cJ hy))
 ·exact cF (x.above y c (cJ h))
 ·have hi:i<vs.length:=by
   unfold start at h2;by_cases hi:i<vs.length
   ·exact hi
   ·rw[bF (by simpa using hi)] at h2;rw[bV] at h2;split at h2<;>cases h2
  have ha:vs[i]?=some v:=by
   unfold start at h2;rw[aj (by simpa using hi),aR] at h2
   cases e:vs[i]? with
   | none=>rw[e] at h2;cases h2
   | some a=>rw[e] at h2;cases h2;rfl
  obtain⟨u,hu,rv⟩:=r.get ha;have hp:ps[i]?=some y:=by rw[<-S.pre,du (by omega)];exact h1
  have ndP:ps.Nodup:=by rw[<-S.pre];exact S.nd.sublist (List.take_sublist _ _)
  refine⟨u,rv,?_⟩;rcases S.par y (b8 hp) with k | k
  ·exact .inl ⟨k,Ny ndP hp hu k⟩
  ·obtain⟨c,e⟩:=Lz (n:=s.heap.objs.size+1) k;refine .inr ⟨.inl k,c,e,?_⟩;have q:=x.cell y c e;rw[Nz ndP hp hu (by show scope.names.lookup y≠_;rw[k];decide)] at q;exact q
 ·exact e0.hok.fresh (cF (x.above y c (cJ h)))
 ·unfold start;show _=N.length;rw[aX,aH,cW];omega
theorem UR{CX:AA}{P:bN}{w:bu}{K:aG}{mg:aq->Option aI}{base:b9}{k:Nat}{f:aK}{name qual:aq}{params:ju}{body:List bp}{scope:eB}{dV kV doc pm cdv ct oc:aI}{an od:Option aK}
  {osl:Array (Option aI)} {N ps:List aq} {sp:Sp} (lk:K.lookup f=some ⟨oc,od,.func (ck name qual params body scope dV kV doc pm an cdv ct),osl⟩) (hcd:cg K cdv qual=aC) (S:Zw N ps scope)
  (len:∀vs H Q E,sp vs H Q E->vs.length=ps.length)
  (hbody:∀(A:bt)(outer:List jx)(s:aP)(H:Hp)(vs:List V)(Q:VK)(E:XK),Room k (A.deeper (gW qual scope s.heap.objs.size f cdv))->sp vs H Q E->
   ∃t,PSs (Pd CX P w K mg base N qual scope f cdv A outer s H E) body t/\t { nx:=λ_ H'=>Q .non H',rt:=Q } (start N vs) H) :
  RG P w K mg base CX (k+1) f (ck name qual params body scope dV kV doc pm an cdv ct) ps sp:=by
 refine⟨len,λA outer s H args us vs Q E hr e0 hb r hsp=>?_⟩;have hl:=len _ _ _ _ hsp;have KX:K.In s.heap:=e0.mod.kin.keeps λb o e=>(e0.bs b o e).1;have lim:s.heap.NoLimit:=e0.mod.nolimit.keeps λb o e=>(e0.bs b o e).1
 have hkind:∀y∈ps.zip us,scope.names.lookup y.1=some .local\/(scope.names.lookup y.1=some .cell/\((kg (s.heap.objs.size+1) scope.names []).lookup y.1).isSome=aC):=λ⟨n,v⟩ hy=>by
  rcases S.par n (fj hy).1 with q | q
  ·exact .inl q
  ·exact .inr ⟨q,jC _ _ _ (.inl q)⟩
 refine codeAny_call_function hr.depth (KX _ _ lk) rfl S.co S.gen rfl (PySem.W.codeRec_of KX hcd) (hb _ _ _ _ ?_);refine wpAny_newFunctionEnv_cells S.kind hkind λenv he s1 x=>?_;subst he;refine⟨lim.keeps x.toInCall.keep,codeAny_func ?_⟩;obtain⟨t,ht,hq⟩:=hbody A outer s H vs Q E (hr.deeper _) hsp;have I:Inv (Pd CX P w K mg base N qual scope f cdv A outer s H E) [] (start N vs) H s1:=Gf hcd S hr.hd e0 hl r x;refine bj (ht [] s1 (start N vs) H _ I hq) (λfl s' hs=>?_) λe s' hs=>hs
 have fin:∀{σ':St}{H':Hp}{v:V}{u:aI},Inv (Pd CX P w K mg base N qual scope f cdv A outer s H E) [] σ' H' s'->RelV v u->Q v H'->CE outer P w H s Q u s':=
  λ{σ' H' v u} J rv q=>⟨v,H',J.os,J.bare,J.base,J.hok,rv,q⟩
 cases fl with
 | ret u=>
  obtain⟨v,σ',H',J,rv,q⟩:=hs;exact fin J rv q
 | next=>
  obtain⟨σ',H',J,q⟩:=hs;exact fin (v:=V.non) (u:=eY) J rfl q
 | brk=>
  obtain⟨_,_,_,q⟩:=hs;exact c9 q
 | cont=>
  obtain⟨_,_,_,q⟩:=hs;exact c9 q
section
variable {X:Cx} {x:aq} {p pos:da} {e:bH} {es:List bH} {t:TA} {id T:String} {r:List V->Hp->VK->Prop}
noncomputable def tCB(r:List V->Hp->VK->Prop)(t:TA):TE:=λσ H Q=>t σ H λvs H1=>r vs H1 Q
theorem LA(hc:X6 X (.builtin id) r)(hg:Gl X x)(hm:X.mg x=aA)(hv:cS x=some (.builtin id))(ha:PA X (e::es) t)(hn:x≠"__name__":=by decide)(hdb:(x==("__debug__" : aq))=aB:=by decide)
  (he:aQ (e::es) X.env=(aB,eval e X.env)::aQ es X.env:=by rfl) (hpl:(dD pos (aQ es X.env)).any (·.1)=aB:=by rfl):PE X (.Call (.Name x p) (e::es) [] pos) (tCB r t):=by
 intro m4 s σ H Q I h;refine dA (Up I hg hm hv ?_ hn hdb);exact PyProof.Rows.callWith_builtin1 (YO (ha pos m4 s σ H _ I h) λus s1 ⟨vs,H1,I1,r1,q1⟩=>hc m4 s1 σ H1 vs us Q I1 r1 q1) he hpl
theorem NA(hc:X6 X (.type T) r)(hg:Gl X x)(hm:X.mg x=aA)(hv:cS x=some (.type T))(ha:PA X (e::es) t)(hn:x≠"__name__":=by decide)(hdb:(x==("__debug__" : aq))=aB:=by decide)
  (he:aQ (e::es) X.env=(aB,eval e X.env)::aQ es X.env:=by rfl) (hpl:(dD pos (aQ es X.env)).any (·.1)=aB:=by rfl):PE X (.Call (.Name x p) (e::es) [] pos) (tCB r t):=by
 intro m4 s σ H Q I h;refine dA (Up I hg hm hv ?_ hn hdb);exact cA (YO (ha pos m4 s σ H _ I h) λus s1 ⟨vs,H1,I1,r1,q1⟩=>hc m4 s1 σ H1 vs us Q I1 r1 q1) he hpl
end
end L2
namespace HT
open PySem PyProof.Rows
section
variable {prog:bN} {w:bu} {A:bt} {E:aI->aP->Prop} {s:aP}
theorem cat_tup{t b:aK}{vs ws:List aI}{Q:aI->aP->Prop}(ht:IsTup s.heap t vs.toArray)(hb:IsTup s.heap b ws.toArray)(hv:vs≠[])
  (h1:ws=[]->Q (.ref t) s) (h2:ws≠[]->Q (.ref s.heap.objs.size) { s with heap:=s.heap.push { cls:=.type "tuple",data:=.seq (vs++ws).toArray } })
  (hsz:vs.length+ws.length<=sizeLine):ay (model prog w) A (cy .Add (.ref t) (.ref b)) Q E s:=by
 obtain⟨⟨cls,dd,data,sl⟩,ho,hc,n,hd⟩:=id ht;obtain⟨⟨cls2,dd2,data2,sl2⟩,ho2,hc2,n2,hd2⟩:=id hb;simp only at hc hd hc2 hd2;subst hc hd hc2 hd2;have e:vs.toArray++ws.toArray=(vs++ws).toArray:=by simp
 by_cases hw:ws=[]
 ·exact jD ⟨_,ho,rfl⟩ ⟨_,ho2,rfl⟩ ig kE gJ gG (fW _ _)
   (tuple_addW1 t b vs.toArray ws.toArray n n2 dd dd2 sl sl2 (by simpa using hv) (by simp[hw])) ⟨ho,ho2,h1 hw⟩
 ·refine jD ⟨_,ho,rfl⟩ ⟨_,ho2,rfl⟩ ig kE gJ gG (fW _ _)
   (tuple_addW2 t b vs.toArray ws.toArray n n2 dd dd2 sl sl2 (by simpa using hv) (by simpa using hw) (by rw[aT,aT];exact hsz)) ⟨ho,ho2,?_⟩
  rw[e];exact h2 hw
noncomputable def sIx(n d:Nat):Option Int->Nat
 | none=>d
 | some v=>if v<0 then(v+(n:Int)).toNat else min v.toNat n
theorem sIx_none(n d:Nat):sIx n d aA=d:=rfl
theorem sIx_nat(n d k:Nat):sIx n d (some (k:Int))=min k n:=by show(if(k:Int)<0 then((k:Int)+(n:Int)).toNat else min (k:Int).toNat n)=min k n;rw[mN (by omega),bR]
theorem Zay(n d:Nat)(hd:d<=n)(o:Option Int):sIx n d o<=n:=by
 cases o with
 | none=>exact hd
 | some v=>
  show(if v<0 then(v+(n:Int)).toNat else min v.toNat n)<=n;by_cases hv:v<0
  ·rw[mM hv];omega
  ·rw[mN hv];exact Nat.min_le_right _ _
theorem Iq(v:Int)(n d:Nat):(if v<0 then max (v+(n:Int)) 0 else min v (n:Int))=((sIx n d (some v):Nat):Int):=by
 show(if v<0 then max (v+(n:Int)) 0 else min v (n:Int))=(((if v<0 then(v+(n:Int)).toNat else min v.toNat n):Nat):Int);by_cases hv:v<0
 ·simp only[mM hv];omega
 ·simp only[mN hv];omega
theorem K8(lo hi:Option Int)(n:Nat):fM lo hi 1 (n:Int)=(((sIx n 0 lo:Nat):Int),((sIx n n hi:Nat):Int)):=by
 have h1:¬((1:Int)<0):=by omega
 unfold fM;simp only[h1,if_false];refine Prod.ext ?_ ?_
 ·cases lo with
  | none=>rfl
  | some v=>exact Iq v n 0
 ·cases hi with
  | none=>rfl
  | some v=>exact Iq v n n
theorem K9(i j:Nat):dY (i:Int) (j:Int) 1=j-i:=by
 unfold dY;have h1:(1:Int)>0:=by omega
 simp only[h1,if_true,Int.ediv_one];split<;>omega
theorem Pe{v:aI}{o:Option Int}{Q:Option Int->aP->Prop}(p:kL v o)(h:Q o s):ay (model prog w) A (jw.Slice.slicePartIndex v) Q E s:=by
 cases p with
 | none=>exact slicePart_none h
 | int i t=>exact slicePart_int h
theorem RH{sl:aK}{vl vu:aI}{lo hi:Option Int}{n:Nat}{Q:Int×Int×Nat->aP->Prop}(hs:s.heap.IsSliceOf sl vl vu .none)(pl:kL vl lo)(pu:kL vu hi)
  (h:Q (((sIx n 0 lo:Nat):Int),1,sIx n n hi-sIx n 0 lo) s):ay (model prog w) A (iB (.ref sl) (pure (n:Int))) Q E s:=by
 obtain⟨os,hos,hcs,hds⟩:=id hs;unfold iB jw.Slice.sliceFields;refine aM (aM (cT hos hds (x:=vl) rfl (aM (cT hos hds (x:=vu) rfl (aM (cT hos hds (x:=.none) rfl (aw ?_)))))));refine aM (slicePart_none ?_);show ay _ _ (if((1:Int)==0)=aC then _ else _) _ _ s;rw[mN (by decide)];refine aM (Pe pl (aM (Pe pu (aM (aw ?_)))));show ay _ _ (match fM lo hi 1 (n:Int) with | (lo,hi)=>pure (lo,(1:Int),dY lo hi 1)) _ _ s;rw[K8 lo hi n];show ay _ _ (pure (((sIx n 0 lo:Nat):Int),(1:Int),dY ((sIx n 0 lo:Nat):Int) ((sIx n n hi:Nat):Int) 1)) _ _ s;rw[K9];exact aw h
theorem FZ(xs:Array aI)(i k:Nat):((aD k).filterMap λ(m:Nat)=>xs[((i:Int)+(m:Int)*1).toNat]?).toArray=((xs.toList.drop i).take k).toArray:=by
 have e:(λ(m:Nat)=>xs[((i:Int)+(m:Int)*1).toNat]?)=λm=>xs[i+m]?:=by
  funext m;have:((i:Int)+(m:Int)*1).toNat=i+m:=by omega
  rw[this]
 rw[e];have:=pick_run xs i k;rw[List.filterMap_map] at this;have e2:((λx=>xs[x]?) ∘ λx=>i+x)=λm=>xs[i+m]?:=rfl;rw[e2] at this;rw[this]
theorem getItem_tuple_cut{t sl:aK}{items:Array aI}{vl vu:aI}{lo hi:Option Int}{Q:aI->aP->Prop}(ht:IsTup s.heap t items)(hs:s.heap.IsSliceOf sl vl vu .none)(pl:kL vl lo)(pu:kL vu hi)
  (hw:¬(sIx items.size 0 lo=0/\sIx items.size items.size hi=items.size))
  (h:Q (.ref s.heap.objs.size) { s with heap:=s.heap.push { cls:=.type "tuple",data:=.seq ((items.toList.drop (sIx items.size 0 lo)).take (sIx items.size items.size hi-sIx items.size 0 lo)).toArray } })
  (hsz:items.size<=sizeLine):ay (model prog w) A (jE (.ref t) (.ref sl)) Q E s:=by
 have htake:sizeOk (.seq ((items.toList.drop (sIx items.size 0 lo)).take (sIx items.size items.size hi-sIx items.size 0 lo)).toArray):=by show((items.toList.drop (sIx items.size 0 lo)).take (sIx items.size items.size hi-sIx items.size 0 lo)).toArray.size<=sizeLine;rw[aT,bU,bK,dJ];omega
 have hj:sIx items.size items.size hi<=items.size:=Zay _ _ (aZ _) hi;obtain⟨os,hos,hcs,hds⟩:=id hs;have hTs:s.TypeIs (.ref sl) "slice":=⟨os,hos,hcs⟩;unfold jE
 try with_reducible refine iU ?_
 first | refine aM (aw ?_) | skip
 refine aM (wpAny_sequenceKey ht.typeIs (by decide) ?_)
 refine aM (dG (name:=gp "__getitem__") ht.typeIs eD
  (fH eD ht.typeIs entry_tuple_getitem ?_ (args_tuple_getitem _ _)))
 show ay _ _ (jw.Tuple.tupleItemsOf (.ref t) >>= _) _ _ s;refine aM (tupleItemsOf_ ht ?_);refine aM (wpAny_typeOf hTs ?_);rw[mM (by decide)];refine aM (RH hs pl pu ?_);have hno:¬((((sIx items.size 0 lo:Nat):Int)==0&&(1:Int)==1&&(sIx items.size items.size hi-sIx items.size 0 lo)==items.size)=aC):=by intro q;rw[av,av] at q;have q1:((sIx items.size 0 lo:Nat):Int)=0:=eq_of_beq q.1.1;have q2:sIx items.size items.size hi-sIx items.size 0 lo=items.size:=eq_of_beq q.2;exact hw ⟨by omega,by omega⟩
 show ay _ _ (if(((sIx items.size 0 lo:Nat):Int)==0&&(1:Int)==1&&(sIx items.size items.size hi-sIx items.size 0 lo)==items.size)=aC then _ else _) _ _ s;rw[mN hno,FZ]
 first
  | exact aM (m:=dw _) (cq (aw ⟨_,rfl,aw h⟩) htake)
  | exact aM (m:=dw _) (cq (aM (aw (aw ⟨_,rfl,aw h⟩))) htake)
  | exact aM (aM (m:=dw _) (cq (aw (aw ⟨_,rfl,aw h⟩)) htake))
  | exact aM (aM (m:=dw _) (cq (aw ⟨_,rfl,aw h⟩) htake))
end
end HT
namespace L2
open PySem PySem.Spec PyProof.Rows
abbrev TO:=St->Hp->(Option Int->Hp->Prop)->Prop
noncomputable def PO(X:Cx)(e:Option bH)(t:TO):Prop:=
 ∀(m4:List (aK×cx))(s:aP)(σ:St)(H:Hp)(Q:Option Int->Hp->Prop),Inv X m4 σ H s->t σ H Q->
  ay (model X.prog X.w) X.A (evalPart e X.env) (λu s'=>∃o H',Inv X m4 σ H' s'/\kL u o/\Q o H') X.xe s
noncomputable def CS:TO:=λ_ H Q=>Q aA H
noncomputable def Zdl(t:TE):TO:=λσ H Q=>t σ H λx H1=>∃i,x = .int i/\Q (some i) H1
theorem Ja{ns:List Int}:∀{us:List aI},Vals (ns.map V.int) us->k4 us ns:=by
 induction ns with
 | nil=>intro us r;rw[dN] at r;cases r;exact .nil
 | cons n ns ih=>
  intro us r;rw[ag] at r
  cases r with
  | cons r1 r2=>
   obtain⟨t,e⟩:=r1;subst e;exact .cons n t (ih r2)
section
variable {X:Cx} {e:bH} {te:TE} {lo hi:Option bH} {tl th:TO} {pos p2:da}
theorem CT:PO X aA CS:=by intro m4 s σ H Q I h;rw[evalPart_none];exact aw ⟨aA,H,I,.none,h⟩
theorem CU(h:PE X e te):PO X (some e) (Zdl te):=by intro m4 s σ H Q I hw;rw[evalPart_some];refine YO (h m4 s σ H _ I hw) λu s1 ⟨x,H1,I1,r1,q1⟩=>?_;obtain⟨i,rfl,q⟩:=q1;obtain⟨t,rfl⟩:=r1;exact⟨some i,H1,I1,.int i t,q⟩
noncomputable def SlR(X:Cx)(r:V->Option Int->Option Int->Hp->VK->Prop):Prop:=
 ∀(m4:List (aK×cx))(s:aP)(σ:St)(H:Hp)(x:V)(v vl vu:aI)(lo hi:Option Int)(sl:aK)(Q:VK),Inv X m4 σ H s->RelV x v->s.heap.IsSliceOf sl vl vu .none->kL vl lo->kL vu hi->r x lo hi H Q->
  ∃T id,typeLookup (.type T) "__getitem__" = pure (some (.builtin id))/\s.TypeIs v T/\ay (model X.prog X.w) X.A (jE v (.ref sl)) (EP X m4 σ Q) X.xe s
noncomputable def tSl(r:V->Option Int->Option Int->Hp->VK->Prop)(te:TE)(tl th:TO):TE:=λσ H Q=>te σ H λx H1=>tl σ H1 λl H2=>th σ H2 λu H3=>r x l u H3 Q
theorem LB{r:V->Option Int->Option Int->Hp->VK->Prop}(hr:SlR X r)(he:PE X e te)(hl:PO X lo tl)(hu:PO X hi th):PE X (.Subscript e (.Slice lo hi aA p2) pos) (tSl r te tl th):=by intro m4 s σ H Q I h;refine l6 (YO (he m4 s σ H _ I h) λv s1 ⟨x,H1,I1,r1,q1⟩=>?_);refine wpAny_Slice (YO (hl m4 s1 σ H1 _ I1 q1) λvl s2 ⟨l,H2,I2,pl,q2⟩=>YO (hu m4 s2 σ H2 _ I2 q2) λvu s3 ⟨u,H3,I3,pu,q3⟩=>?_);rw[evalPart_none];refine aw ?_;have I4:Inv X m4 σ H3 { s3 with heap:=s3.heap.push { cls:=.type "slice",data:=.fields #[vl,vu,.none] } }:=I3.kept (t':=s3.toks) λb ob q=>aJ _ q;obtain⟨T,id,hT,ht,hg⟩:=hr m4 { s3 with heap:=s3.heap.push { cls:=.type "slice",data:=.fields #[vl,vu,.none] } } σ H3 x v vl vu l u s3.heap.objs.size Q I4 r1 (b9.IsSliceOf.new ..) pl pu q3;show ay (model X.prog X.w) X.A (kF e (.Slice lo hi aA p2) v (.ref s3.heap.objs.size)) (EP X m4 σ Q) X.xe { s3 with heap:=s3.heap.push { cls:=.type "slice",data:=.fields #[vl,vu,.none] } };exact tail_any (ops:=[.ref s3.heap.objs.size,v]) ht hT hg (by with_unfolding_all rfl)
noncomputable def LC(xs:List V)(lo hi:Option Int):List V:=(xs.drop (HT.sIx xs.length 0 lo)).take (HT.sIx xs.length xs.length hi-HT.sIx xs.length 0 lo)
theorem Qs(xs:List V)(lo hi:Option Int):(LC xs lo hi).length<=xs.length:=by unfold LC;rw[bU,bK];omega
noncomputable def Zfo(K:aG):V->Option Int->Option Int->Hp->VK->Prop:=λx lo hi H Q=>∃a xs,x = .ref a/\SqT K H a xs/\
 ¬(HT.sIx xs.length 0 lo=0/\HT.sIx xs.length xs.length hi=xs.length)/\∀p,H p=aA->Q (.ref p) (upd H p (.tup (LC xs lo hi)))
theorem Zaz:SlR X (Zfo X.K):=by
 intro m4 s σ H x v vl vu lo hi sl Q I rx hs pl pu h;obtain⟨a,xs,rfl,hx,hw,q⟩:=h;cases rx;obtain⟨m9,r,ht,hz⟩:=I.tuple hx;have hlen:m9.toArray.size=xs.length:=by rw[aT];exact r.length.symm
 refine⟨"tuple",_,eD.lookup,ht.typeIs,?_⟩;refine HT.getItem_tuple_cut ht hs pl pu (by rw[hlen];exact hw) ?_ (by rw[hlen];exact hz);rw[hlen];refine⟨.ref s.heap.objs.size,_,I.laid (t':=s.toks) (o:=.tup (LC xs lo hi)) (λb ob q=>aJ _ q) (aZ _) ?_,rfl,q _ (I.hok.fresh (aZ _))⟩;exact⟨⟨bX (Qs xs lo hi) hz,λo e=>Pa e⟩,_,(r.drop (HT.sIx xs.length 0 lo)).take (HT.sIx xs.length xs.length hi-HT.sIx xs.length 0 lo),kh _ _⟩
noncomputable def Zdm(K:aG):R2:=λx y H Q=>∃a b xs ys,x = .ref a/\y = .ref b/\SqT K H a xs/\SqT K H b ys/\xs≠[]/\xs.length+ys.length<=sizeLine/\
 (ys=[]->Q (.ref a) H)/\(ys≠[]->∀p,H p=aA->Q (.ref p) (upd H p (.tup (xs++ys))))
theorem Vals.nil_iff{xs:List V}{us:List aI}(r:Vals xs us):us=[]↔xs=[]:=by
 cases r with
 | nil=>simp
 | cons _ _=>simp
theorem CV:T3 X (cy .Add) (Zdm X.K):=by intro m4 s σ H x y v u Q I rx ry h;obtain⟨a,b,xs,ys,rfl,rfl,ha,hb,hx,hz,q1,q2⟩:=h;cases rx;cases ry;obtain⟨m9,r1,p1,_⟩:=I.tuple ha;obtain⟨its2,r2,p2,_⟩:=I.tuple hb;refine HT.cat_tup p1 p2 (λz=>hx (r1.nil_iff.mp z)) (λz=>⟨.ref a,H,I,rfl,q1 (r2.nil_iff.mp z)⟩) (λz=>?_) (by rw[<-r1.length,<-r2.length];exact hz);refine⟨.ref s.heap.objs.size,_,I.laid (t':=s.toks) (o:=.tup (xs++ys)) (λb ob q=>aJ _ q) (aZ _) ?_,rfl,q2 (λw=>z (r2.nil_iff.mpr w)) _ (I.hok.fresh (aZ _))⟩;exact⟨⟨by rw[aX];exact hz,λo e=>Pa e⟩,_,r1.append r2,kh _ _⟩
end
noncomputable def Lq(n:Nat)(i:Int):Option Nat:=if 0<=i then(if i<n then some i.toNat else aA) else if -(n:Int)<=i then some (i+n).toNat else aA
noncomputable def Sx{α:Type}(xs:List α)(i:Int):Option α:=(Lq xs.length i).bind λj=>xs[j]?
theorem Ir{n:Nat}{i:Int}{j:Nat}(h:Lq n i=some j):kj i n=some j/\j<n/\-(n:Int)<=i/\i<n:=by
 unfold Lq at h;by_cases h0:0<=i
 ·rw[mM h0] at h;by_cases h1:i<n
  ·rw[mM h1] at h;have e:i.toNat=j:=az h;exact⟨by rw[lA h0 h1,e],by omega,by omega,h1⟩
  ·rw[mN h1] at h;cases h
 ·rw[mN h0] at h;by_cases h1 : -(n:Int)<=i
  ·rw[mM h1] at h;have e:(i+n).toNat=j:=az h;exact⟨by rw[k5 (by omega) h1,e],by omega,h1,by omega⟩
  ·rw[mN h1] at h;cases h
theorem Me{α:Type}{xs:List α}{i:Int}{v:α}(h:Sx xs i=some v):∃j,kj i xs.length=some j/\xs[j]?=some v/\j<xs.length/\-(xs.length:Int)<=i/\i<xs.length:=by
 unfold Sx at h
 cases e:Lq xs.length i with
 | none=>rw[e] at h;cases h
 | some j=>
  rw[e] at h;obtain⟨h1,h2,h3,h4⟩:=Ir e;exact⟨j,h1,h,h2,h3,h4⟩
theorem Tp{α:Type}{xs:List α}{j:Nat}{v:α}(h:xs[j]?=some v):Sx xs (j:Int)=some v:=by
 have hj:j<xs.length:=(aU.mp h).1;have e:Lq xs.length (j:Int)=some j:=by unfold Lq;rw[mM (by omega),mM (by omega)];simp
 unfold Sx;rw[e];exact h
noncomputable def Mf(b:bH):Prop:=∀o i,subscripted b aB o i=operate [o,i] (jE o i)
noncomputable def IxR(X:Cx)(r:R2):Prop:=
 ∀(value slice:bH)(m4:List (aK×cx))(s:aP)(σ:St)(H:Hp)(x y:V)(v u:aI)(Q:VK),Inv X m4 σ H s->RelV x v->RelV y u->r x y H Q->
  subscripted slice aB v u=operate [v,u] (jE v u)->ay (model X.prog X.w) X.A (kF value slice v u) (EP X m4 σ Q) X.xe s
noncomputable def MtR(X:Cx)(id:String)(r:V->List V->Hp->VK->Prop):Prop:=
 ∀(m4:List (aK×cx))(s:aP)(σ:St)(H:Hp)(x:V)(xs:List V)(v:aI)(us:List aI)(Q:VK),Inv X m4 σ H s->RelV x v->Vals xs us->r x xs H Q->
  ay (model X.prog X.w) X.A (call (.builtin id) (v::us)) (EP X m4 σ Q) X.xe s
section
variable {X:Cx} {a b:bH} {ta tb:TE} {pos:da}
theorem IxR.or{r r':R2}(h:IxR X r)(h':IxR X r'):IxR X (λx y H Q=>r x y H Q\/r' x y H Q):=by
 intro value slice m4 s σ H x y v u Q I rx ry q hs;rcases q with q | q
 ·exact h value slice m4 s σ H x y v u Q I rx ry q hs
 ·exact h' value slice m4 s σ H x y v u Q I rx ry q hs
theorem LD{r:R2}(hr:IxR X r)(ha:PE X a ta)(hb:PE X b tb)(hs:Mf b):PE X (.Subscript a b pos) (tOp r ta tb):=by intro m4 s σ H Q I h;exact l6 (Zal ha hb I h λv u s2 x y H2 I2 rx ry q=>hr a b m4 s2 σ H2 x y v u Q I2 rx ry q (hs _ _))
noncomputable def Za0(K:aG):R2:=λx y H Q=>∃p xs i v,x = .ref p/\y = .int i/\SqL K H p xs/\Sx xs i=some v/\Q v H
noncomputable def Zdn(K:aG):R2:=λx y H Q=>∃p xs i v,x = .ref p/\y = .int i/\SqT K H p xs/\Sx xs i=some v/\Q v H
noncomputable def Zdo:R2:=λx y H Q=>∃z i c,x = .str z/\y = .int i/\z.length<=sizeLine/\Sx z.cps.toList i=some c/\Q (.str ⟨#[c]⟩) H
theorem ix_list:IxR X (Za0 X.K):=by
 intro value slice m4 s σ H x y v u Q I rx ry h hs;obtain⟨p,xs,i,z,rfl,rfl,hq,he,q⟩:=h;cases rx;obtain⟨t,rfl⟩:=ry;obtain⟨m9,r,pl,hz⟩:=I.list hq;obtain⟨j,h1,h2,h3,h4,h5⟩:=Me he;obtain⟨w,ew,Z7⟩:=r.get h2;have hl:=r.length;have hn:=RF;have fin:EP X m4 σ Q w s:=⟨z,H,I,Z7,q⟩;by_cases h0:0<=i
 ·have hj:i.toNat=j:=by rw[lA h0 h5] at h1;exact az h1
  exact item_listR pl.isList h0 (by omega) (by rw[hj];simpa using ew) fin hs
 ·have hj:(i+(m9.toArray.size:Int)).toNat=j:=by rw[k5 (by omega) h4] at h1;rw[aT,<-hl];exact az h1
  exact jF (x:=w) pl.isList.typeIs slot_list_getitem.lookup
   (wpAny_getItem_list_neg (Q:=λr s'=>r=w/\EP X m4 σ Q r s') pl.isList (by omega) (by rw[aT]<;>omega) (by omega) (by rw[hj];simpa using ew) ⟨rfl,fin⟩) hs
theorem ix_tup:IxR X (Zdn X.K):=by
 intro value slice m4 s σ H x y v u Q I rx ry h hs;obtain⟨p,xs,i,z,rfl,rfl,hq,he,q⟩:=h;cases rx;obtain⟨t,rfl⟩:=ry;obtain⟨m9,r,pl,hz⟩:=I.tuple hq;obtain⟨j,h1,h2,h3,h4,h5⟩:=Me he;obtain⟨w,ew,Z7⟩:=r.get h2;have hl:=r.length;have hn:=RF;have fin:EP X m4 σ Q w s:=⟨z,H,I,Z7,q⟩
 exact jF (x:=w) pl.typeIs slot_tuple_getitem.lookup
  (getItem_tuple (j:=j) (Q:=λr s'=>r=w/\EP X m4 σ Q r s') pl (by omega) (by omega) (by rw[aT,<-hl];exact h1) (by simpa using ew) ⟨rfl,fin⟩) hs
theorem Za1:IxR X Zdo:=by
 intro value slice m4 s σ H x y v u Q I rx ry h hs;obtain⟨z,i,c,rfl,rfl,hz,he,q⟩:=h;obtain⟨t,rfl⟩:=rx;obtain⟨t',rfl⟩:=ry;obtain⟨j,h1,h2,h3,h4,h5⟩:=Me he;have hl:z.cps.toList.length=z.length:=by simp[aq.length]
 rw[hl] at h1 h4 h5;have hn:=RF
 exact tail_any (typeIs_str s z t) slot_str_getitem.lookup (getItem_str (c:=c) (by
  have e1:decide (i < -(2^63:Int))=aB:=decide_eq_false (by omega);have e2:decide (i ≥ 2^63)=aB:=decide_eq_false (by omega);rw[e1,e2,Bool.or_false]) (by rw[h1];simpa using h2) ⟨.str ⟨#[c]⟩,H,I.tok _,⟨_,rfl⟩,q⟩) hs
noncomputable def rIx(K:aG):R2:=λx y H Q=>Za0 K x y H Q\/Zdn K x y H Q\/Zdo x y H Q
theorem Za2:IxR X (rIx X.K):=ix_list.or (ix_tup.or Za1)
theorem Jb(m9:List aI)(n j:Nat)(u:aI):jG (·.setIfInBounds j u) { cls:=.type "list",data:=.seq m9.toArray n }={ cls:=.type "list",data:=.seq (m9.set j u).toArray n }:=by simp[jG]
theorem Inv.lst{m4:List (aK×cx)}{σ:St}{H:Hp}{s:aP}{p:aK}{xs:List V}(I:Inv X m4 σ H s)(h:H p=some (.lst xs)) :
  ∃(m9:List aI) (n:Nat),Vals xs m9/\s.heap.get? p=some { cls:=.type "list",data:=.seq m9.toArray n }/\xs.length<=sizeLine:=by
 obtain⟨z,m9,n,r,e⟩:=I.hok p _ h;exact⟨m9,n,r,e,z⟩
theorem Inv.lstUpd{m4:List (aK×cx)}{σ:St}{H:Hp}{s:aP}{p:aK}{xs ys:List V}{m9 its':List aI}{n n':Nat}{f:cx->cx}(I:Inv X m4 σ H s)(h:H p=some (.lst xs))
  (ho:s.heap.get? p=some { cls:=.type "list",data:=.seq m9.toArray n }) (hf:f { cls:=.type "list",data:=.seq m9.toArray n }={ cls:=.type "list",data:=.seq its'.toArray n' }) (r:Vals ys its') (hz:ys.length<=sizeLine) (t:Nat) :
  Inv X m4 σ (upd H p (.lst ys)) { s with heap:=s.heap.update p f,toks:=t }:=by
 have e:(s.heap.update p f).get? p=some { cls:=.type "list",data:=.seq its'.toArray n' }:=by rw[j4 f ho (by rw[hf]<;>rfl),hf]
 refine I.write (x:=p) (e:=p) (by rw[h];trivial) (.inl rfl) (λb u hb q=>(jH _ _ (bO hb)).trans q) ⟨_,e⟩ ?_;exact⟨hz,its',n',r,e⟩
noncomputable def F0:V->V->V->Hp->(Hp->Prop)->Prop:=λo i v H Q=>∃p xs k j,o = .ref p/\i = .int k/\H p=some (.lst xs)/\Lq xs.length k=some j/\Q (upd H p (.lst (xs.set j v)))
theorem V5:Zc8 X F0:=by
 intro m4 s σ H o i v ov iv u Q I ro ri rv h;obtain⟨p,xs,k,j,rfl,rfl,hp,hj,q⟩:=h;cases ro;obtain⟨t,rfl⟩:=ri;obtain⟨m9,n,r,ho,hz⟩:=I.lst hp;obtain⟨h1,h2,h3,h4⟩:=Ir hj;have hl:=r.length;have hn:=RF
 have I':Inv X m4 σ (upd H p (.lst (xs.set j v))) { s with heap:=s.heap.update p (jG (·.setIfInBounds j u)) }:=
  I.lstUpd hp ho (Jb m9 n j u) (r.set rv j) (by rw[cZ];exact hz) s.toks
 by_cases h0:0<=k
 ·have hk:k.toNat=j:=by rw[lA h0 h4] at h1;exact az h1
  exact PySem.W.ki_setAt ho h0 (by omega) (by rw[aT,<-hl];exact h4) (by rw[hk];exact⟨_,I',q⟩)
 ·have hk:(k+(m9.toArray.size:Int)).toNat=j:=by rw[k5 (by omega) h3] at h1;rw[aT,<-hl];exact az h1
  exact PySem.W.ki_setBack ho (by omega) (by rw[aT,<-hl];exact h3) (by omega) (by rw[hk];exact⟨_,I',q⟩)
theorem Mg(lo hi:Option Int)(n:Nat):(gH lo hi aA n).1=((HT.sIx n 0 lo:Nat):Int)/\(gH lo hi aA n).2.1=((HT.sIx n n hi:Nat):Int)/\(gH lo hi aA n).2.2=1:=by
 refine⟨?_,?_,rfl⟩
 ·cases lo with
  | none=>simp[gH,HT.sIx]
  | some i=>
   simp only[gH,HT.sIx,kl,show(1:Int)>0 by decide,if_true];by_cases h:i<0
   ·simp only[h,if_true]<;>omega
   ·simp only[h,if_false]<;>omega
 ·cases hi with
  | none=>simp[gH,HT.sIx]
  | some i=>
   simp only[gH,HT.sIx,kl,show(1:Int)>0 by decide,if_true];by_cases h:i<0
   ·simp only[h,if_true]<;>omega
   ·simp only[h,if_false]<;>omega
theorem Nj(m9:List aI)(lo hi:Option Int):slicePick m9.toArray lo hi aA=((m9.drop (HT.sIx m9.length 0 lo)).take (HT.sIx m9.length m9.length hi-HT.sIx m9.length 0 lo)).toArray:=by
 obtain⟨h1,h2,h3⟩:=Mg lo hi m9.toArray.size;unfold slicePick;rw[h1,h2,h3];simp only[sliceRange_one,pick_run,aT]<;>rfl
noncomputable def Zfp(K:aG):V->Option Int->Option Int->Hp->VK->Prop:=λx lo hi H Q=>∃a xs,x = .ref a/\SqL K H a xs/\∀p,H p=aA->Q (.ref p) (upd H p (.lst (LC xs lo hi)))
theorem CW:SlR X (Zfp X.K):=by intro m4 s σ H x v vl vu lo hi sl Q I rx hs pl pu h;obtain⟨a,xs,rfl,hx,q⟩:=h;cases rx;obtain⟨m9,r,ht,hz⟩:=I.list hx;have hlen:=r.length;refine⟨"list",_,slot_list_getitem.lookup,ht.isList.typeIs,?_⟩;refine wpAny_getItem_list_slice ht.isList hs pl pu .none (by simp) ?_ (by rw[aT]<;>omega);rw[Nj,<-hlen];refine⟨.ref s.heap.objs.size,_,I.laid (t':=s.toks) (o:=.lst (LC xs lo hi)) (λb ob q=>aJ _ q) (aZ _) ?_,rfl,q _ (I.hok.fresh (aZ _))⟩;exact⟨bX (Qs xs lo hi) hz,_,0,(r.drop (HT.sIx xs.length 0 lo)).take (HT.sIx xs.length xs.length hi-HT.sIx xs.length 0 lo),ao _ rfl⟩
theorem Mh:X6 X (.type "list") (λxs H Q=>∃p ys,xs=[.ref p]/\(SqL X.K H p ys\/SqT X.K H p ys)/\∀l,H l=aA->Q (.ref l) (upd H l (.lst ys))):=by
 intro m4 s σ H xs us Q I r h;obtain⟨p,ys,rfl,hq,q⟩:=h;obtain⟨u,rfl,rx⟩:=T4 r;cases rx
 have fin:∀(m9:List aI),Vals ys m9->ys.length<=sizeLine->∀(h':b9)(c':Nat),(∀b o',s.heap.get? b=some o'->h'.get? b=some o')->
   h'.get? s.heap.objs.size=some { cls:=.type "list",dict:=aA,data:=.seq m9.toArray c',slots:=#[] }->EP X m4 σ Q (.ref s.heap.objs.size) { s with heap:=h' }:=λm9 r' hz h' c' kp e=>
  ⟨.ref s.heap.objs.size,_,I.laid (t':=s.toks) kp (aZ _) (show ObjOk X.prog X.w _ h' _ (.lst ys) from⟨hz,m9,c',r',e⟩),rfl,q _ (I.hok.fresh (aZ _))⟩
 rcases hq with hq | hq
 ·obtain⟨m9,r',pl,hz⟩:=I.list hq;have hlen:=r'.length;obtain⟨o,ho,hc,n,hd⟩:=pl.isList;exact call_list_seq p (.inl rfl) ho hc hd (λh' c' kp e=>fin m9 r' hz h' c' kp e) (by simp only[aT]<;>omega)
 ·obtain⟨m9,r',pl,hz⟩:=I.tuple hq;have hlen:=r'.length;obtain⟨o,ho,hc,n,hd⟩:=pl;exact call_list_seq p (.inr rfl) ho hc hd (λh' c' kp e=>fin m9 r' hz h' c' kp e) (by simp only[aT]<;>omega)
theorem Zy:X6 X (.type "tuple") (λxs H Q=>∃p ys,xs=[.ref p]/\((SqL X.K H p ys/\∀l,H l=aA->Q (.ref l) (upd H l (.tup ys)))\/(SqT X.K H p ys/\Q (.ref p) H))):=by
 intro m4 s σ H xs us Q I r h;obtain⟨p,ys,rfl,h⟩:=h;obtain⟨u,rfl,rx⟩:=T4 r;cases rx;rcases h with⟨hq,q⟩ | ⟨hq,q⟩
 ·obtain⟨m9,r',pl,hz⟩:=I.list hq;have hlen:=r'.length;refine call_tuple_list pl.isList (λh' kp=>?_) (by simp only[aT]<;>omega);have I1:Inv X m4 σ H { s with heap:=h' }:=I.kept (t':=s.toks) kp
  have I2:Inv X m4 σ (upd H h'.objs.size (.tup ys)) { s with heap:=h'.push { cls:=.type "tuple",data:=.seq m9.toArray } }:=
   I1.laid (t':=s.toks) (λb o e=>aJ _ e) (aZ _) (show ObjOk X.prog X.w _ _ _ (.tup ys) from⟨⟨hz,λo e=>Pa e⟩,m9,r',kh _ _⟩)
  exact⟨.ref h'.objs.size,_,I2,rfl,q _ (I1.hok.fresh (aZ _))⟩
 ·obtain⟨m9,r',pl,hz⟩:=I.tuple hq;exact call_tuple_same pl ⟨.ref p,H,I,rfl,q⟩
noncomputable def tyV(K:aG)(T:String)(x:V)(H:Hp):Prop:=match x with
 | .str _=>T = "str"
 | .int _=>T = "int"
 | .ref p=>(T = "list"/\∃xs,SqL K H p xs)\/(T = "tuple"/\∃o,K.lookup p=some o/\o.cls = .type "tuple"/\o.dict=aA)\/
   (T = "dict"/\((∃m5,H p=some (.dK m5))\/∃m5,H p=some (.dT m5)))\/(T = "set"/\∃S n,H p=some (.set S n))\/(T = "tuple"/\∃xs,H p=some (.tup xs))
 | _=>False
theorem Za3{m4:List (aK×cx)}{σ:St}{H:Hp}{s:aP}{T:String}{x:V}{v:aI}(I:Inv X m4 σ H s)(r:RelV x v)(ty:tyV X.K T x H) :
  s.TypeIs v T/\∀a,v = .ref a->∃ob,s.heap.get? a=some ob/\ob.dict=aA:=by
 cases x with
 | str z=>
  obtain⟨t,rfl⟩:=r;cases (show T = "str" from ty);exact⟨typeIs_str s z t,λ_ e=>nomatch e⟩
 | int i=>
  obtain⟨t,rfl⟩:=r;cases (show T = "int" from ty);exact⟨jI s i t,λ_ e=>nomatch e⟩
 | ref p=>
  cases r;rcases ty with⟨rfl,xs,hq⟩ | ⟨rfl,o,hk,hc,hd⟩ | ⟨rfl,hk⟩ | ⟨rfl,S,n,hk⟩ | ⟨rfl,xs,hk⟩;rotate_left 4
  ·obtain⟨z,m9,_,o,e1,e2,_⟩:=(show ObjOk X.prog X.w H s.heap p (.tup xs) from I.hok p _ hk);refine⟨⟨o,e1,e2⟩,λa e=>?_⟩;cases e;exact⟨o,e1,z.2 o e1⟩
  ·obtain⟨m9,_,pl,_⟩:=I.list hq;refine⟨pl.isList.typeIs,λa e=>?_⟩;cases e;obtain⟨o,n,e,c,hd,_⟩:=pl;exact⟨o,e,hd⟩
  ·refine⟨⟨o,I.kIn p o hk,hc⟩,λa e=>?_⟩;cases e;exact⟨o,I.kIn _ o hk,hd⟩
  ·have z:∃o,s.heap.get? p=some o/\o.ExactDict:=by
    rcases hk with⟨m5,hk⟩ | ⟨m5,hk⟩
    ·obtain⟨_,_,_,_,o,_,_,e,ex,_⟩:=I.hok p _ hk;exact⟨o,e,ex⟩
    ·obtain⟨_,_,_,_,o,_,_,e,ex,_⟩:=I.hok p _ hk;exact⟨o,e,ex⟩
   obtain⟨o,e,ex⟩:=z;refine⟨⟨o,e,ex.1⟩,λa e2=>?_⟩;cases e2;exact⟨o,e,ex.2.1⟩
  ·obtain⟨o,_,_,_,e,ex,_⟩:=I.hok p _ hk;refine⟨⟨o,e,ex.1⟩,λa e2=>?_⟩;cases e2;exact⟨o,e,ex.2.1⟩
 | _=>exact c9 ty
noncomputable def tBM(K:aG)(T:String)(r:V->List V->Hp->VK->Prop)(to:TE)(t:TA):TE:=λσ H Q=>to σ H λx H1=>tyV K T x H1/\t σ H1 λxs H2=>r x xs H2 Q
variable {o e:bH} {es:List bH} {to:TE} {t:TA} {name:aq} {apos cpos:da} {T id:String} {r:V->List V->Hp->VK->Prop}
theorem Vt(pa:PlainAttrs T)(slot:Slot T name id)(hty:typeOf (.builtin id)=pure (.type "method_descriptor"))(hm:MtR X id r)(ho:PE X o to)(ha:PA X (e::es) t)
  (hbase:attributeBase o name X.env (eval o X.env)=eval o X.env:=by rfl)
  (hfew:((dD cpos (aQ (e::es) X.env)).all (λx=>!x.1)&&(backToKw cpos (kz [] X.env)).all (λx=>x.1.isSome)
   &&decide ((e::es).length+([]:List lM).length+(if([]:List lM).isEmpty then 0 else 1)<30))=aC:=by rfl)
  (hline:(apos.endLine==cpos.line)=aC:=by rfl) (hs:aQ (e::es) X.env=(aB,eval e X.env)::aQ es X.env:=by rfl) (hplain:(dD cpos (aQ es X.env)).any (·.1)=aB:=by rfl) :
  PE X (.Call (.Attribute o name apos) (e::es) [] cpos) (tBM X.K T r to t):=by
 intro m4 s σ H Q I h;refine wpAny_Call_method_late hbase hfew hline rfl (YO (ho m4 s σ H _ I h) λv s1 ⟨x,H1,I1,r1,ty,q1⟩=>?_);obtain⟨h1,h2⟩:=Za3 I1 r1 ty;refine⟨T,id,pa,slot,hty,h1,h2,?_⟩;have hA:=ha cpos m4 s1 σ H1 _ I1 q1;rw[hs] at hA ⊢;refine Calls.callWith_builtin (by show(aB || (dD cpos (aQ es X.env)).any (·.1))=aB;rw[hplain]<;>rfl) (Calls.evalArgs_plain ?_);exact YO hA λus s2 ⟨vs,H2,I2,r2,q2⟩=>hm m4 s2 σ H2 x vs v us Q I2 r1 r2 q2
end
noncomputable def MtM(X:Cx)(id:String)(r:V->List V->Hp->VK->Prop):Prop:=
 ∀(m4:List (aK×cx))(s:aP)(σ:St)(H:Hp)(x:V)(xs:List V)(v:aI)(us:List aI)(Q:VK),Inv X m4 σ H s->RelV x v->Vals xs us->r x xs H Q->
  ay (model X.prog X.w) X.A (call (.builtin id) (v::us)) (EP X m4 σ Q) X.xe s
theorem Vals.one:∀{x:V}{us:List aI},Vals [x] us->∃u,us=[u]/\RelV x u
 | _,_,.cons r .nil=>⟨_,rfl,r⟩
theorem Vals.two:∀{x y:V}{us:List aI},Vals [x,y] us->∃u v,us=[u,v]/\RelV x u/\RelV y v
 | _,_,_,.cons r (.cons q .nil)=>⟨_,_,rfl,r,q⟩
theorem Vals.dropLast{xs:List V}{us:List aI}(h:Vals xs us):Vals xs.dropLast us.dropLast:=by
 induction h with
 | nil=>exact .nil
 | cons r t ih=>
  cases t with
  | nil=>exact .nil
  | cons q t'=>exact .cons r ih
theorem Vals.eraseIdx:∀{xs:List V}{us:List aI}(i:Nat),Vals xs us->Vals (xs.eraseIdx i) (us.eraseIdx i)
 | _,_,_,.nil=>.nil
 | _,_,0,.cons _ t=>t
 | _,_,i+1,.cons r t=>.cons r (Vals.eraseIdx i t)
theorem Vals.rep{xs:List V}{us:List aI}(h:Vals xs us):∀k:Nat,Vals (aN k xs).flatten (aN k us).flatten
 | 0=>.nil
 | k+1=>by rw[cK,cK,dH,dH];exact Vals.append h (Vals.rep h k)
theorem NB{α:Type}:∀(l:List α)(i:Nat),(l.eraseIdx i).length<=l.length
 | [],_=>aZ _
 | _::_,0=>iQ _
 | _::r,i+1=>Nat.succ_le_succ (NB r i)
theorem RI(m9:List aI):∀(k:Nat)(acc:List aI),
  jJ (λx1 x2=>x1++x2) acc.toArray (aN k m9.toArray)=(acc++(aN k m9).flatten).toArray
 | 0,acc=>by simp
 | k+1,acc=>by
  have e:acc.toArray++m9.toArray=(acc++m9).toArray:=by simp
  have e2:(acc++m9)++(aN k m9).flatten=acc++(aN (k+1) m9).flatten:=by rw[cK,dH,dm]
  rw[<-e2,<-RI m9 k (acc++m9),<-e,cK,List.foldl_cons]
section
variable {X:Cx} {m4:List (aK×cx)} {σ:St} {H:Hp} {s:aP} {l b:aK} {xs ys zs:List V}
theorem Inv.lset{m9 its':List aI}{n:Nat}{f:Array aI->Array aI}{t':Nat}(I:Inv X m4 σ H s)(hH:H l=some (.lst xs))
  (e:s.heap.get? l=some { cls:=.type "list",data:=.seq m9.toArray n }) (hf:f m9.toArray=its'.toArray) (hv:Vals ys its') (hz:ys.length<=sizeLine) :
  Inv X m4 σ (upd H l (.lst ys)) { s with heap:=s.heap.update l (jG f),toks:=t' }:=by
 have q:=PySem.IsL.update e f;rw[hf] at q;refine I.write (x:=l) (e:=l) (by rw[hH];exact trivial) (.inl rfl) (λb' u hb hu=>(jH s.heap (jG f) (bO hb)).trans hu) ⟨_,q⟩ ?_;exact⟨hz,its',_,hv,q⟩
theorem Inv.lnew{m9:List aI}{t':Nat}(I:Inv X m4 σ H s)(hv:Vals ys m9)(hz:ys.length<=sizeLine) :
  Inv X m4 σ (upd H s.heap.objs.size (.lst ys)) { s with heap:=s.heap.push { cls:=.type "list",data:=.seq m9.toArray },toks:=t' }:=
 I.laid (λ_ _ q=>aJ _ q) (aZ _) ⟨hz,m9,0,hv,ao _ rfl⟩
theorem Inv.fresh(I:Inv X m4 σ H s):H s.heap.objs.size=aA:=I.hok.fresh (aZ _)
theorem Inv.lstM(I:Inv X m4 σ H s)(hH:H l=some (.lst xs)):xs.length<=sizeLine/\∃(m9:List aI) (n:Nat),Vals xs m9/\xs.length=m9.length/\s.heap.get? l=some { cls:=.type "list",data:=.seq m9.toArray n }:=by obtain⟨z,m9,n,r,e⟩:=I.hok l _ hH;exact⟨z,m9,n,r,r.length,e⟩
theorem LF{n:Nat}(h:n<=sizeLine):dy n=aB:=by unfold dy;exact decide_eq_false (by omega)
end
section
variable {X:Cx}
noncomputable def Iu:V->List V->Hp->VK->Prop:=λx vs H Q=>∃l xs y,x = .ref l/\vs=[y]/\H l=some (.lst xs)/\xs.length<sizeLine/\Q .non (upd H l (.lst (xs++[y])))
theorem XH:MtM X "list.append" Iu:=by intro m4 s σ H x vs v us Q I rx rv h;obtain⟨l,xs,y,rfl,rfl,hH,hz,q⟩:=h;cases rx;obtain⟨u,rfl,ru⟩:=rv.one;obtain⟨z,m9,n,r,hl,e⟩:=I.lstM hH;refine eQ F.slot_list_append ⟨_,e,rfl⟩ F.entry_list_append (F.args_list_append_2 _ _) (PySem.list_append l m9.toArray n u (by rw[aT];omega)) ⟨e,?_⟩;refine⟨.non,_,I.lset (its':=m9++[u]) hH e (by simp) (r.append (.cons ru .nil)) ?_,rfl,q⟩;rw[aX,cz];omega
noncomputable def Iv:V->List V->Hp->VK->Prop:=λx vs H Q=>∃l b xs zs,x = .ref l/\vs=[.ref b]/\H l=some (.lst xs)/\H b=some (.lst zs)/\xs.length+zs.length<=sizeLine/\Q .non (upd H l (.lst (xs++zs)))
theorem NC:MtM X "list.extend" Iv:=by
 intro m4 s σ H x vs v us Q I rx rv h;obtain⟨l,b,xs,zs,rfl,rfl,hH,hB,hz,q⟩:=h;cases rx;obtain⟨u,rfl,ru⟩:=rv.one;cases ru;obtain⟨z,m9,n,r,hl,e⟩:=I.lstM hH;obtain⟨z2,its2,n2,r2,hl2,e2⟩:=I.lstM hB;have hsz:m9.toArray.size+its2.toArray.size<=sizeLine:=by rw[aT,aT];omega
 have hlong:¬(!m9.toArray.isEmpty&&dy (m9.toArray.size+its2.toArray.size))=aC:=by rw[LF hsz,Bool.and_false];exact au
 refine eQ F.slot_list_extend ⟨_,e,rfl⟩ F.entry_list_extend (F.args_list_extend_2 _ _)
  (AutoSeq1.list_extend_list_list_0 l m9.toArray n b its2.toArray n2 hlong (by rw[aT];omega) (by omega)) ⟨e,e2,?_⟩
 refine⟨.non,_,I.lset (its':=m9++its2) hH e (by simp) (r.append r2) ?_,rfl,q⟩;rw[aX];omega
noncomputable def F1:V->List V->Hp->VK->Prop:=λx vs H Q=>∃l xs i k y,x = .ref l/\vs=[.int i]/\H l=some (.lst xs)/\-(2^63)<=i/\i<2^63/\kj i xs.length=some k/\xs[k]?=some y/\Q y (upd H l (.lst (xs.eraseIdx k)))
theorem F2:MtM X "list.pop" F1:=by
 intro m4 s σ H x vs v us Q I rx rv h;obtain⟨l,xs,i,k,y,rfl,rfl,hH,h1,h2,hk,hy,q⟩:=h;cases rx;obtain⟨u,rfl,ru⟩:=rv.one;obtain⟨t,rfl⟩:=ru;obtain⟨z,m9,n,r,hl,e⟩:=I.lstM hH;obtain⟨w,hw,Z7⟩:=r.get hy
 refine eQ F.slot_list_pop ⟨_,e,rfl⟩ F.entry_list_pop (F.args_list_pop_2 _ _)
  (MeetsSeq.list_pop_at l m9.toArray n i t k w (ja h1 h2) (by rw[aT,<-hl];exact hk) (by rw[<-Array.getElem?_toList];exact hw) (by rw[aT];omega)) ⟨e,?_⟩
 refine⟨y,_,I.lset (its':=m9.eraseIdx k) hH e ?_ (r.eraseIdx k) ?_,Z7,q⟩
 ·show m9.toArray.eraseIdxIfInBounds k=(m9.eraseIdx k).toArray;rw[List.eraseIdxIfInBounds_toArray]
 ·have:=NB xs k;omega
noncomputable def Zdq:R2:=λx y H Q=>∃l b xs zs,x = .ref l/\y = .ref b/\H l=some (.lst xs)/\H b=some (.lst zs)/\xs.length+zs.length<=sizeLine/\∀p,H p=aA->Q (.ref p) (upd H p (.lst (xs++zs)))
theorem F3:T3 X (cy .Add) Zdq:=by
 intro m4 s σ H x y v u Q I rx ry h;obtain⟨l,b,xs,zs,rfl,rfl,hH,hB,hz,q⟩:=h;cases rx;cases ry;obtain⟨z,m9,n,r,hl,e⟩:=I.lstM hH;obtain⟨z2,its2,n2,r2,hl2,e2⟩:=I.lstM hB;refine PySem.P.add_list e e2 ?_ (by rw[aT,aT];omega);have ea:m9.toArray++its2.toArray=(m9++its2).toArray:=by simp
 rw[ea];exact⟨.ref _,_,I.lnew (t':=s.toks) (r.append r2) (by rw[aX];omega),rfl,q _ I.fresh⟩
noncomputable def Zfr:R2:=λx y H Q=>∃l k xs,x = .ref l/\y = .int k/\H l=some (.lst xs)/\-(2^63)<=k/\k<2^63/\xs.length*k.toNat<=sizeLine/\
 ∀p,H p=aA->Q (.ref p) (upd H p (.lst (aN k.toNat xs).flatten))
theorem Mi{α:Type}(xs:List α)(k:Nat):(aN k xs).flatten.length=k*xs.length:=by
 induction k with
 | zero=>simp
 | succ k ih=>rw[cK,dH,aX,ih,Nat.succ_mul,Nat.add_comm]
theorem Za4:T3 X (cy .Mult) Zfr:=by
 intro m4 s σ H x y v u Q I rx ry h;obtain⟨l,k,xs,rfl,rfl,hH,h1,h2,hz,q⟩:=h;cases rx;obtain⟨t,rfl⟩:=ry;obtain⟨z,m9,n,r,hl,e⟩:=I.lstM hH;have hlen:m9.toArray.size*k.toNat<=sizeLine:=by rw[aT,<-hl];exact hz
 have hcap:¬m9.toArray.size*k.toNat>(2^63-1)/8:=by
  have:(sizeLine:Nat)<=(2^63-1)/8:=by decide
  omega
 have hfit:¬(!Builtin.List.listFitsIndex k)=aC:=by rw[ja h1 h2];exact au
 have hlong:¬dy (m9.toArray.size*k.toNat)=aC:=by rw[LF hlen];exact au
 have hnew:jJ (λx1 x2=>x1++x2) #[] (aN (if m9.toArray.isEmpty=aC then 0 else k.toNat) m9.toArray)=(aN k.toNat m9).flatten.toArray:=by
  have f0:∀m:Nat,jJ (λx1 x2=>x1++x2) #[] (aN m m9.toArray)=(aN m m9).flatten.toArray:=λm=>by have:=RI m9 m [];rw[jU] at this;exact this
  rw[f0]
  cases m9 with
  | nil=>simp
  | cons a r'=>rw[mN (by simp)]
 refine iJ (T:="list") (U:="int") (by decide) ⟨_,e,rfl⟩ (λs'=>jI s' k t) noFill_list_mul F.fills_int_mul F.slot_int_rmul repeat_list F.slot_int_index.lookup
  (eQ F.slot_int_rmul (jI s k t) F.entry_int_rmul (F.args_int_rmul_2 _ _) (int___rmul___int_list k t l m9.toArray n)
   ⟨e,rfl,⟨_,e,rfl⟩,eQ F.slot_list_mul ⟨_,e,rfl⟩ F.entry_list_mul (F.args_list_mul_2 _ _) (AutoListH.list___mul___list_int_3 l m9.toArray n k t hfit hcap hlong) ⟨e,?_⟩⟩)
 rw[hnew];exact⟨.ref _,_,I.lnew (t':=s.toks) (r.rep k.toNat) (by rw[Mi,k6];exact hz),rfl,q _ I.fresh⟩
end
end L2
namespace Att
open PySem PySem.W PySem.Calls PyProof.Rows
theorem QD{P:Params}{h:b9}:∀(ns:List Int)(vs:List aI),WellAll P h vs (ns.map km)->k4 vs ns:=by
 intro ns
 induction ns with
 | nil=>
  intro vs w;rw[dN] at w;cases w;exact .nil
 | cons n ns ih=>
  intro vs w;rw[ag] at w
  cases w with
  | cons a b=>
   cases a;exact .cons _ _ (ih _ b)
theorem script_of{l:OpenLaw}{n:Nat}(hn:l.most=some n){P:Params}{h:b9}{args:List WData}{vals:List aI}
  (hpre:l.row.toRowW.claim.pre args=aC) (hwl:WellAll P h vals args) :
  ∃a vs ns,vals=[cM a]/\args=[WData.list (ns.map km)]/\h.get? a=some { cls:=.type "list",data:=.seq vs.toArray }/\k4 vs ns/\ns.length<=n:=by
 have hsh:WShape.hasAll [] args [.list .int]=aC:=(pre_splitW hpre).1;have hc:l.pre.holds [] { args:=args }=aC:=(pre_splitW hpre).2;obtain⟨d,r,rfl,h1,h2⟩:=hasAllW_cons hsh;obtain rfl:=hasAllW_nil h2;obtain⟨xs,rfl,h3⟩:=hasW_list h1;obtain⟨ns,rfl⟩:=items_int h3
 have hlen:ns.length<=n:=by
  unfold OpenLaw.pre at hc;have h4:(WTm.not (.lt (.lit (.int (n:Int))) (.len (.arg 0)))).holds [] { args:=[.list (ns.map .int)] }=aC:=by have h4:=(holds_andW hc).1;rw[hn] at h4;exact h4
  have h5:=condW_of h4 (w_not (w_lt w_lit (w_len_list (w_arg rfl))));rw[aH] at h5;refine Nat.le_of_not_lt λq=>?_;have q':(n:Int)<((ns.length:Nat):Int):=by omega
  first
   | (rw[decide_eq_true q'] at h5;exact absurd h5 (by decide))
   | (simp at h5;omega)
 cases hwl with
 | cons w1 w2=>
  cases w2
  cases w1 with
  | list ho hall=>exact⟨_,_,ns,rfl,rfl,ho,QD ns _ hall,hlen⟩
theorem post_true(l:OpenLaw)(args:List WData):l.row.toRowW.claim.post args (.bool aC) args=aC:=
 postW_of (r:=l.row.toRowW) (X:=(aC==aC))
  (show WShape.has [] (.bool aC) .bool=aC by first | rfl | decide | simp[WShape.has,WShape.arms,WShape.armsAll])
  (show(WTm.eq .res (.lit (.bool aC))).value [] { args:=args,res:=some (.bool aC),after:=args }=some (.bool (aC==aC)) from w_eq_bool (w_res rfl) w_lit) rfl
end Att
namespace L2
open PySem PySem.Spec PyProof.Rows
section
variable {κ:Type} [DecidableEq κ]
noncomputable def Sy(m5:List (κ×V))(k:κ):Option V:=(m5.find? λkv=>decide (kv.1=k)).map (·.2)
noncomputable def V6(m5:List (κ×V))(k:κ)(v:V):List (κ×V):=
 if(m5.any λkv=>decide (kv.1=k))=aC then m5.map (λkv=>if kv.1=k then(kv.1,v) else kv) else m5++[(k,v)]
theorem Sz{p:κ×V}{r:List (κ×V)}{k:κ}(e:p.1=k):Sy (p::r) k=some p.2:=by simp[Sy,bh,e]
theorem SA{p:κ×V}{r:List (κ×V)}{k:κ}(e:¬p.1=k):Sy (p::r) k=Sy r k:=by simp[Sy,bh,e]
theorem LH(k:κ):∀m5:List (κ×V),(m5.any λkv=>decide (kv.1=k))=(Sy m5 k).isSome
 | []=>rfl
 | p::r=>by
  rw[kG];by_cases e:p.1=k
  ·simp only[Sz e,decide_eq_true e,Bool.true_or,kM]
  ·rw[SA e,decide_eq_false e,lz];exact LH k r
theorem US(m5:List (κ×V))(k:κ)(v:V):(V6 m5 k v).length<=m5.length+1:=by
 unfold V6;split
 ·rw[aH];omega
 ·rw[aX,bA,jV];omega
theorem RelO.isSome_eq{o:Option V}{u:Option aI}(r:RelO o u):o.isSome=u.isSome:=by
 cases o with
 | none=>cases u with
  | none=>rfl
  | some _=>exact(show False from r).elim
 | some _=>cases u with
  | none=>exact(show False from r).elim
  | some _=>rfl
theorem KV.val{m5:List (κ×V)}{vs:List (κ×aI)}(r:KV m5 vs)(k:κ):RelO (Sy m5 k) (jv vs k):=by
 unfold KV at r
 induction r with
 | nil=>exact bW
 | @cons p q ps qs h t ih=>
  obtain⟨h1,h2⟩:=h;by_cases e:p.1=k
  ·have e':q.1=k:=h1.symm.trans e;have b:jv (q::qs) k=some q.2:=by simp[jv,bh,e']
   rw[Sz e,b];exact h2
  ·have e':¬q.1=k:=λz=>e (h1.trans z);have b:jv (q::qs) k=jv qs k:=by simp[jv,bh,e']
   rw[SA e,b];exact ih
theorem KV.any{m5:List (κ×V)}{vs:List (κ×aI)}(r:KV m5 vs)(k:κ):(m5.any λkv=>decide (kv.1=k))=vs.any λkv=>decide (kv.1=k):=by
 unfold KV at r
 induction r with
 | nil=>rfl
 | cons h t ih=>rw[kG,kG,ih,h.1]
theorem KV.repl{m5:List (κ×V)}{vs:List (κ×aI)}(r:KV m5 vs)(k:κ){y:V}{u:aI}(ry:RelV y u) :
  KV (m5.map λkv=>if kv.1=k then(kv.1,y) else kv) (vs.map λkv=>if kv.1=k then(kv.1,u) else kv):=by
 unfold KV at r ⊢
 induction r with
 | nil=>exact .nil
 | @cons p q ps qs h t ih=>
  rw[ag,ag];refine .cons ?_ ih;obtain⟨h1,h2⟩:=h;by_cases e:p.1=k
  ·rw[mM e,mM (h1.symm.trans e)];exact⟨h1,ry⟩
  ·rw[mN e,mN (λz=>e (h1.trans z))];exact⟨h1,h2⟩
theorem KV.put{m5:List (κ×V)}{vs:List (κ×aI)}(r:KV m5 vs)(k:κ){y:V}{u:aI}(ry:RelV y u):KV (V6 m5 k y) (stored vs k u):=by
 unfold V6 stored;rw[r.any k];by_cases e:(vs.any λkv=>decide (kv.1=k))=aC
 ·rw[mM e,mM e];exact r.repl k ry
 ·rw[mN e,mN e];exact Paired.snoc r ⟨rfl,ry⟩
theorem KV.length{m5:List (κ×V)}{vs:List (κ×aI)}(r:KV m5 vs):m5.length=vs.length:=Paired.length r
end
theorem LI{P:bN}{w:bu}{k:Xl}{u:aI}(r:RelV (kV k) u):(YV P w).is k u=aC:=by
 cases k with
 | inl i=>obtain⟨t,e⟩:=(show ∃t,u=eU i t from r);subst e;exact Ls P w i t
 | inr x=>obtain⟨t,e⟩:=(show ∃t,u=kc x t from r);subst e;exact Lu P w x t
theorem ND{P:bN}{w:bu}:∀{ks:List Xl}{us:List aI},Vals (ks.map kV) us->ItemsAre (YV P w) ks us
 | [],_,r=>by rw[dN] at r;cases r;exact .nil
 | k::ks,_,r=>by
  rw[ag] at r
  cases r with
  | cons h t=>exact .cons (LI h) (ND t)
abbrev KT(H:Hp):List (List Xl×V)->List (List Xl×aK×aI)->Prop:=Paired λp q=>p.1=q.1/\H q.2.1=some (.tup (p.1.map kV))/\RelV p.2 q.2.2
theorem KT.val{H:Hp}{m5:List (List Xl×V)}{xs:List (List Xl×aK×aI)}(r:KT H m5 xs)(k:List Xl):RelO (Sy m5 k) ((lC xs k).map (·.2)):=by
 induction r with
 | nil=>exact bW
 | @cons p q ps qs h t ih=>
  obtain⟨h1,_,h2⟩:=h;by_cases e:p.1=k
  ·have e':q.1=k:=h1.symm.trans e;have b:lC (q::qs) k=some q.2:=by simp[lC,bh,e']
   rw[Sz e,b];exact h2
  ·have e':¬q.1=k:=λz=>e (h1.trans z);have b:lC (q::qs) k=lC qs k:=by simp[lC,bh,e']
   rw[SA e,b];exact ih
theorem KT.repl{H:Hp}{m5:List (List Xl×V)}{xs:List (List Xl×aK×aI)}(r:KT H m5 xs)(k:List Xl){y:V}{u:aI}(ry:RelV y u) :
  KT H (m5.map λkv=>if kv.1=k then(kv.1,y) else kv) (xs.map (putAt k u)):=by
 induction r with
 | nil=>exact .nil
 | @cons p q ps qs h t ih=>
  rw[ag,ag];refine .cons ?_ ih;obtain⟨h1,h2,h3⟩:=h;unfold putAt;by_cases e:p.1=k
  ·rw[mM e,mM (h1.symm.trans e)];exact⟨h1,h2,ry⟩
  ·rw[mN e,mN (λz=>e (h1.trans z))];exact⟨h1,h2,h3⟩
theorem KT.put{H:Hp}{m5:List (List Xl×V)}{xs:List (List Xl×aK×aI)}(r:KT H m5 xs)(k:List Xl){b:aK}{y:V}{u:aI}(hb:H b=some (.tup (k.map kV)))(ry:RelV y u) :
  KT H (V6 m5 k y) (storedH xs k b u):=by
 have e:(m5.any λkv=>decide (kv.1=k))=(lC xs k).isSome:=by rw[LH,(r.val k).isSome_eq,k7]
 unfold V6 storedH;rw[e];by_cases q:(lC xs k).isSome=aC
 ·rw[mM q,mM q];exact r.repl k ry
 ·rw[mN q,mN q];exact Paired.snoc r ⟨rfl,hb,ry⟩
theorem KT.keeps{H H':Hp}{m5:List (List Xl×V)}{xs:List (List Xl×aK×aI)}(r:KT H m5 xs)(ht:∀b ys,H b=some (.tup ys)->H' b=some (.tup ys)):KT H' m5 xs:=
 Paired.mapP r λ_ _ z=>⟨z.1,ht _ _ z.2.1,z.2.2⟩
section
variable {P:bN} {w:bu} {H:Hp} {h:b9} {a:aK}
theorem AB{u:HO}(ok:HOk P w H h)(e:Rd H a u):ObjOk P w H h a u:=e.ok ok
theorem Iw{m5:List (Xl×V)}(ok:HOk P w H h)(e:Rd H a (.dK m5)):m5.length<=sizeLine/\(a==eM)=aB/\∃vs,KV m5 vs/\h.DictOf (YV P w) a vs:=
 show ObjOk P w H h a (.dK m5) from AB ok e
theorem AD{m5:List (Xl×V)}(ok:HOk P w H h)(e:H a=some (.dK m5)):m5.length<=sizeLine/\(a==eM)=aB/\∃vs,KV m5 vs/\h.DictOf (YV P w) a vs:=Iw ok (.inl e)
theorem Mj{ks:List Xl}(ok:HOk P w H h)(e:H a=some (.tup (ks.map kV))):(jr (YV P w)).is h ks a:=by obtain⟨_,m9,r,o,h1,h2,n,h3⟩:=(show ObjOk P w H h a (.tup (ks.map kV)) from ok a _ e);exact⟨o,m9.toArray,n,h1,h2,h3,by simpa using ND r⟩
theorem Iy{m5:List (List Xl×V)}(ok:HOk P w H h)(e:Rd H a (.dT m5)):m5.length<=sizeLine/\(a==eM)=aB/\
  ∃xs,KT H m5 xs/\h.DictOfH (jr (YV P w)) a xs:=by
 obtain⟨z,y,xs,r,o,es,ep,h1,h2,h3,h4,h5⟩:=(show ObjOk P w H h a (.dT m5) from AB ok e);refine⟨z,y,xs,r,o,es,ep,h1,h2,h3,h4,λx hx=>?_,h5⟩
 have all:∀{l:List (List Xl×V)}{m:List (List Xl×aK×aI)},KT H l m->∀x∈m,(jr (YV P w)).is h x.1 x.2.1:=by
  intro l m q
  induction q with
  | nil=>intro x hx;exact nomatch hx
  | @cons p q ps qs hq t ih=>
   intro x hx;rcases af.mp hx with e | hx
   ·subst e;exact Mj ok (by rw[<-hq.1];exact hq.2.1)
   ·exact ih x hx
 exact all r x hx
theorem Zdr{m5:List (List Xl×V)}(ok:HOk P w H h)(e:H a=some (.dT m5)):m5.length<=sizeLine/\(a==eM)=aB/\
  ∃xs,KT H m5 xs/\h.DictOfH (jr (YV P w)) a xs:=Iy ok (.inl e)
end
noncomputable def Gg(H:Hp)(a:aK)(y:V)(r:Option V):Prop:=
 (∃m5 k,Rd H a (.dK m5)/\y=kV k/\r=Sy m5 k)\/∃m5 k b,Rd H a (.dT m5)/\y = .ref b/\H b=some (.tup (k.map kV))/\r=Sy m5 k
noncomputable def Zds(H:Hp)(a:aK)(y v:V)(H':Hp):Prop:=
 (∃m5 k,H a=some (.dK m5)/\y=kV k/\m5.length<sizeLine/\H'=upd H a (.dK (V6 m5 k v)))\/
 ∃m5 k b,H a=some (.dT m5)/\y = .ref b/\H b=some (.tup (k.map kV))/\m5.length<sizeLine/\H'=upd H a (.dT (V6 m5 k v))
section
variable {X:Cx} {m4:List (aK×cx)} {σ:St} {H:Hp} {s:aP} {a:aK} {y v:V} {u r:aI} {o:Option V} {A:bt} {E:aI->aP->Prop}
theorem Inv.big(I:Inv X m4 σ H s):eM<s.heap.objs.size:=by have h:cB<s.heap.objs.size:=(I.mod.glob.keeps I.bk).lt;exact Nat.lt_trans (by decide) h
theorem Gh{Q:aI->aP->Prop}(hu:A.units+1<dj)(I:Inv X m4 σ H s)(g:Gg H a y (some v))(ry:RelV y u)(h:∀w' s',Inv X m4 σ H s'->RelV v w'->Q w' s') :
  ay (model X.prog X.w) A (jE (.ref a) u) Q E s:=by
 rcases g with⟨m5,k,e,ey,l⟩ | ⟨m5,k,b,e,ey,eb,l⟩
 ·subst ey;obtain⟨z,hd,vs,rel,dd⟩:=Iw I.hok e;obtain⟨w',hw,Z7⟩:=RelO.some_of (v:=v) (o:=jv vs k) (by rw[l];exact rel.val k);exact wpAny_getItem_of (LI ry) dd.mapOf hw (h w' _ (I.tok _) Z7)
 ·subst ey;cases (show u=cM b from ry);obtain⟨z,hd,xs,rel,dd⟩:=Iy I.hok e;obtain⟨w',hw,Z7⟩:=RelO.some_of (v:=v) (o:=(lC xs k).map (·.2)) (by rw[l];exact rel.val k);obtain⟨p,hp,hp2⟩:=jK.mp hw;refine wpAny_getItem_heap (iC hu) (Mj I.hok eb) dd hp ?_;rw[hp2];exact h w' _ (I.tok _) Z7
theorem CY{Q:aI->aP->Prop}(hu:A.units+1<dj)(I:Inv X m4 σ H s)(g:Gg H a y o)(ry:RelV y u)(h:∀s',Inv X m4 σ H s'->Q (.bool (!o.isSome)) s') :
  ay (model X.prog X.w) A (dc .NotIn u (.ref a)) Q E s:=by
 rcases g with⟨m5,k,e,ey,l⟩ | ⟨m5,k,b,e,ey,eb,l⟩
 ·subst ey;obtain⟨z,hd,vs,rel,dd⟩:=Iw I.hok e;refine wpAny_notIn_of (LI ry) hd dd.mapOf ?_;rw[<-(rel.val k).isSome_eq,<-l];exact h _ (I.tok _)
 ·subst ey;cases (show u=cM b from ry);obtain⟨z,hd,xs,rel,dd⟩:=Iy I.hok e;refine wpAny_notIn_heap (iC hu) (Mj I.hok eb) hd dd ?_;have q:=(rel.val k).isSome_eq;rw[k7] at q;rw[<-q,<-l];exact h _ (I.tok _)
theorem Mk{h':b9}{t':Nat}{ob:HO}(I:Inv X m4 σ H s)(mu:V4 (H a))(hs:cL a s.heap h')(he:∃q,h'.get? a=some q)(new:ObjOk X.prog X.w (upd H a ob) h' a ob) :
  Inv X m4 σ (upd H a ob) { s with heap:=h',toks:=t' }:=
 I.write (x:=a) (e:=a) mu (.inl rfl) (λb q hb z=>(hs.2 b hb).trans z) he new
theorem F4{P:bN}{w:bu}{H':Hp}{h':b9}{m5:List (Xl×V)}{vs:List (Xl×aI)}(z:m5.length<=sizeLine)(hd:(a==eM)=aB)(rel:KV m5 vs)(dd:h'.DictOf (YV P w) a vs) :
  ObjOk P w H' h' a (.dK m5):=⟨z,hd,vs,rel,dd⟩
theorem Gi{H':Hp}{Q:Unit->aP->Prop}(hu:A.units+1<dj)(I:Inv X m4 σ H s)(g:Zds H a y v H')(ry:RelV y u)(rv:RelV v r)(h:∀s',Inv X m4 σ H' s'->Q () s') :
  ay (model X.prog X.w) A (setItem (.ref a) u r) Q E s:=by
 rcases g with⟨m5,k,e,ey,l,eH⟩ | ⟨m5,k,b,e,ey,eb,l,eH⟩
 ·subst ey eH;obtain⟨z,hd,vs,rel,dd⟩:=AD I.hok e;have hz:vs.length<=sizeLine:=by rw[<-rel.length];exact z
  have hl:(V6 m5 k v).length<=sizeLine:=by have:=US m5 k v;omega
  refine wpAny_setItem_pairs (hsz:=hz) (LI ry) dd λh' dd' hs=>h _ ?_;have he:∃q,h'.get? a=some q:=let⟨q,_,_,hq,_⟩:=dd';⟨q,hq⟩;exact Mk I (by rw[e];exact bW) hs he (F4 hl hd (rel.put k rv) dd')
 ·subst ey eH;cases (show u=cM b from ry);obtain⟨z,hd,xs,rel,dd⟩:=Zdr I.hok e;have hz:xs.length<=sizeLine:=by rw[<-Paired.length rel];exact z
  have hl:(V6 m5 k v).length<=sizeLine:=by have:=US m5 k v;omega
  refine wpAny_setItem_heap (hsz:=hz) (iC hu) (Mj I.hok eb) dd λh' dd' hs=>h _ ?_;obtain⟨q,es,ep,hq,h2,h3,h4,_,h5⟩:=dd';refine Mk I (by rw[e];exact bW) hs ⟨q,hq⟩ ⟨hl,hd,_,(rel.put k eb rv).keeps λc ys ec=>?_,q,es,ep,hq,h2,h3,h4,h5⟩;rw[upd_ne (Zc0 ec e (λz=>nomatch z))];exact ec
end
noncomputable def Za5(i:bH):Prop:=∀ov iv,subscripted i aB ov iv=operate [ov,iv] (jE ov iv)
theorem CZ{prog:bN}{w:bu}{A:bt}{E:aI->aP->Prop}{s:aP}{env:jx}{value slice:bH}{pos:da}{T id:String}{Q:aI->aP->Prop}
  (hl:typeLookup (.type T) "__getitem__" = pure (some (.builtin id))) (hs:Za5 slice)
  (h:ay (model prog w) A (eval value env) (λo s₁=>ay (model prog w) A (eval slice env) (λi s₂=>s₂.TypeIs o T/\ay (model prog w) A (jE o i) Q E s₂) E s₁) E s) :
  ay (model prog w) A (eval (.Subscript value slice pos) env) Q E s:=by
 refine l6 (bj h (λo s₁ h₁=>bj h₁ (λi s₂ h₂=>?_) λ_ _ x=>x) λ_ _ x=>x);obtain⟨hT,h₂⟩:=h₂;unfold kF;refine aM ?_;rw[getitemInPython_of_ne hT.not_modules];refine aM (wpAny_specialOf hT hl ?_);have fin:ay (model prog w) A (subscripted slice aB o i) (λr s₃=>ay (model prog w) A (letTemporaryGo value o r >>= λ_=>pure r) Q E s₃) E s₂:=by rw[hs o i];exact wpAny_operating (bj h₂ (λr s₃ h₃=>aM (wpAny_letTemporaryGo (aw h₃))) λ_ _ x=>x)
 first
  | exact aw (aM fin)
  | exact aM (aw (aM fin))
  | exact aM fin
theorem LJ{X:Cx}{m4:List (aK×cx)}{σ:St}{H:Hp}{s:aP}{a:aK}{y:V}{o:Option V}(I:Inv X m4 σ H s)(g:Gg H a y o):s.TypeIs (.ref a) "dict":=by
 rcases g with⟨m5,k,e,_,_⟩ | ⟨m5,k,b,e,_,_,_⟩
 ·obtain⟨_,_,vs,_,dd⟩:=Iw I.hok e;exact dd.typeIs
 ·obtain⟨_,_,xs,_,dd⟩:=Iy I.hok e;exact dd.typeIs
noncomputable def AE(td ty:TE):TE:=λσ H Q=>td σ H λx H1=>ty σ H1 λy H2=>∃a v,x = .ref a/\Gg H2 a y (some v)/\Q v H2
noncomputable def Iz(ty td:TE):TE:=λσ H Q=>ty σ H λy H1=>td σ H1 λx H2=>∃a o,x = .ref a/\Gg H2 a y o/\Q (.bl (!o.isSome)) H2
noncomputable def sDPut(td ty tv:TE):TS:=λD σ H=>tv σ H λv H1=>td σ H1 λx H2=>ty σ H2 λy H3=>∃a H4,x = .ref a/\Zds H3 a y v H4/\D.nx σ H4
section
variable {X:Cx} {o i e value:bH} {pos pos' tpos:da} {td ty tv:TE}
theorem C0(hu:X.A.units+1<dj)(ho:PE X o td)(hi:PE X i ty)(hs:Za5 i):PE X (.Subscript o i pos) (AE td ty):=by intro m4 s σ H Q I h;refine CZ PySem.F.slot_dict_getitem.lookup hs (YO (ho m4 s σ H _ I h) λu s1 ⟨x,H1,I1,rx,q1⟩=>YO (hi m4 s1 σ H1 _ I1 q1) λiv s2 ⟨y,H2,I2,ry,a,v,ex,g,q2⟩=>?_);subst ex;obtain rfl:u=cM a:=rx;exact⟨LJ I2 g,Gh hu I2 g ry λw' s3 I3 Z7=>⟨v,H2,I3,Z7,q2⟩⟩
theorem Gj(hu:X.A.units+1<dj)(hi:PE X i ty)(ho:PE X o td):PC X .NotIn i o (Iz ty td):=by intro m4 s σ H Q I h;refine YO (hi m4 s σ H _ I h) λiv s1 ⟨y,H1,I1,ry,q1⟩=>YO (ho m4 s1 σ H1 _ I1 q1) λu s2 ⟨x,H2,I2,rx,a,ov,ex,g,q2⟩=>?_;subst ex;obtain rfl:u=cM a:=rx;exact CY hu I2 g ry λs3 I3=>⟨.bl (!ov.isSome),H2,I3,rfl,q2⟩
theorem C1(hu:X.A.units+1<dj)(ho:PE X o td)(hi:PE X i ty)(hv:PE X value tv)(hs:gF value (some (.Subscript o i pos')) pos.line X.env=pure aB) :
  PS X (.Assign [.Subscript o i pos'] value pos) (sDPut td ty tv):=by
 intro m4 s σ H D I h;refine wpAny_Assign_Subscript (YO (hv m4 s σ H _ I h) λr s1 ⟨v,H1,I1,rv,q1⟩=>YO (ho m4 s1 σ H1 _ I1 q1) λu s2 ⟨x,H2,I2,rx,q2⟩=>YO (hi m4 s2 σ H2 _ I2 q2) λiv s3 ⟨y,H3,I3,ry,a,H4,ex,g,q3⟩=>?_) hs;subst ex;obtain rfl:u=cM a:=rx;exact Gi hu I3 g ry rv λs4 I4=>⟨σ,H4,I4,q3⟩
end
theorem F5{P:bN}{w:bu}{H:Hp}(h:b9)(hb:eM<h.objs.size):ObjOk P w H (h.push { cls:=.type "dict",data:=.dict #[] }) h.objs.size (.dK []):=
 ⟨eu _,beq_eq_false_iff_ne.mpr (bO (bQ hb)),[],.nil,b9.DictOf.new h⟩
noncomputable def Jc:List (TE×TE)->St->Hp->(List (V×V)->Hp->Prop)->Prop
 | [],_,H,Q=>Q [] H
 | (tk,tv)::r,σ,H,Q=>tk σ H λx H1=>tv σ H1 λy H2=>Jc r σ H2 λps H3=>Q ((x,y)::ps) H3
abbrev VV:List (V×V)->List (aI×aI)->Prop:=Paired λp q=>RelV p.1 q.1/\RelV p.2 q.2
noncomputable def PPs(X:Cx)(pos:da)(keys:List (Option bH))(values:List bH)(trs:List (TE×TE)):Prop:=
 ∀(m4:List (aK×cx))(s:aP)(σ:St)(H:Hp)(Q:List (V×V)->Hp->Prop),Inv X m4 σ H s->Jc trs σ H Q->
  ay (model X.prog X.w) X.A (evalPairs (pairTrees keys values X.env pos)) (λvs s'=>∃ps H',Inv X m4 σ H' s'/\VV ps vs/\Q ps H') X.xe s
theorem C2{X:Cx}{pos:da}:PPs X pos [] [] []:=λm4 s σ H Q I h=>pairTrees_nil_walk ⟨[],H,I,.nil,h⟩
theorem F6{X:Cx}{pos:da}{k v:bH}{ks:List (Option bH)}{vs:List bH}{tk tv:TE}{trs:List (TE×TE)}(hk:PE X k tk)(hv:PE X v tv)(hr:PPs X pos ks vs trs) :
  PPs X pos (some k::ks) (v::vs) ((tk,tv)::trs):=λm4 s σ H Q I h=>
 pairTrees_cons_walk (YO (hk m4 s σ H _ I h) λu s1 ⟨x,H1,I1,rx,q1⟩=>YO (hv m4 s1 σ H1 _ I1 q1) λw2 s2 ⟨y,H2,I2,ry,q2⟩=>
  YO (hr m4 s2 σ H2 _ I2 q2) λws s3 ⟨ps,H3,I3,rel,q3⟩=>⟨(x,y)::ps,H3,I3,.cons ⟨rx,ry⟩ rel,q3⟩)
noncomputable def Pf(m5 more:List (Xl×V)):List (Xl×V):=more.foldl (λacc kv=>V6 acc kv.1 kv.2) m5
theorem KV.merge:∀{more:List (Xl×V)}{rs:List (Xl×aI)}{m5:List (Xl×V)}{vs:List (Xl×aI)},KV more rs->KV m5 vs->KV (Pf m5 more) (merged vs rs):=by
 intro more rs m5 vs r;unfold KV at r
 induction r generalizing m5 vs with
 | nil=>intro q;exact q
 | @cons p q ps qs h t ih=>
  intro r0;have e:KV (V6 m5 p.1 p.2) (stored vs q.1 q.2):=by have:=r0.put p.1 h.2;rw[<-h.1];exact this
  exact ih e
theorem T5:∀(more m5:List (Xl×V)),(Pf m5 more).length<=m5.length+more.length
 | [],m5=>by show m5.length<=m5.length+0;omega
 | p::r,m5=>by have h1:=T5 r (V6 m5 p.1 p.2);have h2:=US m5 p.1 p.2;show(Pf (V6 m5 p.1 p.2) r).length<=_;rw[bA];omega
theorem Pg{P:bN}{w:bu}:∀{m5:List (Xl×V)}{ws:List (aI×aI)},VV (m5.map λkv=>(kV kv.1,kv.2)) ws->∃rs,Carries (YV P w) ws rs/\KV m5 rs
 | [],_,r=>by rw[dN] at r;cases r;exact⟨[],bW,.nil⟩
 | p::m5,_,r=>by
  rw[ag] at r
  cases r with
  | @cons a b as bs h t=>
   obtain⟨rs,c,q⟩:=Pg (P:=P) (w:=w) t;obtain⟨b1,b2⟩:=b;exact⟨(p.1,b2)::rs,⟨LI h.1,rfl,c⟩,.cons ⟨rfl,h.2⟩ q⟩
noncomputable def Zdt(trs:List (TE×TE)):TE:=λσ H Q=>∀p,H p=aA->Jc trs σ (upd H p (.dK [])) λps H2=>H2 p=some (.dK [])/\∃m5:List (Xl×V),ps=m5.map (λkv=>(kV kv.1,kv.2))/\m5.length<=15/\Q (.ref p) (upd H2 p (.dK (Pf [] m5)))
theorem C3{X:Cx}{pos:da}{keys:List (Option bH)}{values:List bH}{trs:List (TE×TE)}(h:PPs X pos keys values trs)(hall:keys.all (·.isSome)=aC)(hl:keys.length=values.length)(h0:keys≠[])
  (h15:keys.length<=15):PE X (.Dict keys values pos) (Zdt trs):=by
 intro m4 s σ H Q I q;have hn:=I.hok.fresh (aZ s.heap.objs.size);have I1:=I.laid (a:=s.heap.objs.size) (o:=.dK []) (h':=s.heap.push { cls:=.type "dict",data:=.dict #[] }) (t':=s.toks) (λ_ _ q=>aJ _ q) (aZ _) (F5 s.heap I.big);refine wpAny_Dict_walk (knd:=YV X.prog X.w) hall hl h0 h15 (YO (h m4 _ σ _ _ I1 (q _ hn)) λws s2 ⟨ps,H2,I2,rel,e,m5,ep,lk,q2⟩=>?_);subst ep;obtain⟨rs,c,rk⟩:=Pg (P:=X.prog) (w:=X.w) rel;obtain⟨z,hd,vs0,r0,dd⟩:=AD I2.hok e;cases r0;refine⟨rs,c,dd,λh' dd' hs=>⟨.ref s.heap.objs.size,_,?_,rfl,q2⟩⟩;have hz:(Pf [] m5).length<=sizeLine:=by have h1:=T5 m5 [];rw[jV] at h1;rw[iO];omega
 have he:∃q,h'.get? s.heap.objs.size=some q:=let⟨q,_,_,hq,_⟩:=dd';⟨q,hq⟩;exact Mk I2 (by rw[e];exact bW) hs he (F4 hz hd (rk.merge .nil) dd')
theorem NF:∀{vs:List aI}{ns:List Int},k4 vs ns->Vals (ns.map V.int) vs
 | _,_,.nil=>.nil
 | _,_,.cons n t h=>.cons ⟨t,rfl⟩ (NF h)
noncomputable def Xy(s:bp):ju:=match s with
 | .FunctionDef _ a _ _ _ _ _ _ _ _=>a
 | _=>{ posonlyargs:=[],args:=[],vararg:=aA,kwonlyargs:=[],kw_defaults:=[],kwarg:=aA,defaults:=[] }
noncomputable def YG(s:bp):List bp:=match s with
 | .FunctionDef _ _ b _ _ _ _ _ _ _=>b
 | _=>[]
noncomputable def Zh(s:bp):eB:=match s with
 | .FunctionDef _ _ _ _ _ _ sc _ _ _=>sc
 | _=>{ kind:=.function,names:=[],isGenerator:=aB,isCoroutine:=aB }
abbrev LK:AA:=λ_ _ _ _ _ _=>False
abbrev E0:XK:=λ_ _ _=>False
theorem AF{X:Cx}:Md LK X E0:=λ_ _ _ _ _ _ _ h=>h.elim
structure Fun(K:aG)(x qual:aq)(st:bp)(f:aK)(fd:eF):Prop where
 ex:∃(oc:aI) (od:Option aK) (kV doc pm:aI) (an:Option aK) (cdv ct:aI) (osl:Array (Option aI)),
  fd=ck x qual (Xy st) (YG st) (Zh st) .none kV doc pm an cdv ct/\K.lookup f=some ⟨oc,od,.func fd,osl⟩/\cg K cdv qual=aC
 kp:eZ K (.ref f)=aC
section
variable {P:bN} {w:bu} {K:aG} {mg:aq->Option aI} {base:b9}
theorem Fun.ok{x qual:aq}{st:bp}{f:aK}{fd:eF}{N ps:List aq}{k:Nat}{sp:Sp}(F:Fun K x qual st f fd)(S:Zw N ps (Zh st))(len:∀vs H Q E,sp vs H Q E->vs.length=ps.length)
  (hbody:∀(cdv:aI)(A:bt)(outer:List jx)(s:aP)(H:Hp)(vs:List V)(Q:VK)(E:XK),Room k (A.deeper (gW qual (Zh st) s.heap.objs.size f cdv))->sp vs H Q E->
   ∃t,PSs (Pd LK P w K mg base N qual (Zh st) f cdv A outer s H E).nox (YG st) t/\t { nx:=λ_ H'=>Q .non H',rt:=Q } (start N vs) H):RG P w K mg base LK (k+1) f fd ps sp:=by
 obtain⟨oc,od,kV,doc,pm,an,cdv,ct,osl,rfl,lk,hcd⟩:=F.ex;refine UR lk hcd S len λA outer s H vs Q E hr hsp=>?_;obtain⟨t,h,q⟩:=hbody cdv A outer s H vs Q E hr hsp;exact⟨t,h.nox,q⟩
theorem Fun.binds{x qual:aq}{st:bp}{f:aK}{fd:eF}{ps:List aq}(F:Fun K x qual st f fd)
  (h:∀(kV doc pm:aI)(an:Option aK)(cdv ct:aI)(us:List aI),us.length=ps.length->iA (ck x qual (Xy st) (YG st) (Zh st) .none kV doc pm an cdv ct) ⟨us,[]⟩=pure (ps.zip us)):Binds K fd ps []:=by
 obtain⟨oc,od,kV,doc,pm,an,cdv,ct,osl,rfl,lk,hcd⟩:=F.ex;exact .all (h kV doc pm an cdv ct)
theorem Za6{x qual:aq}{st:bp}{f:aK}{oc:aI}{od an:Option aK}{osl:Array (Option aI)}{kV doc pm cdv ct:aI}(l:K.lookup f=some ⟨oc,od,.func (ck x qual (Xy st) (YG st) (Zh st) .none kV doc pm an cdv ct),osl⟩)
  (c:cg K cdv qual=aC) (k:eZ K (.ref f)=aC):Fun K x qual st f (ck x qual (Xy st) (YG st) (Zh st) .none kV doc pm an cdv ct):=⟨⟨oc,od,kV,doc,pm,an,cdv,ct,osl,rfl,l,c⟩,k⟩
end
theorem IA{A:bt}{k:Nat}(hr:Room k A):A.units+1<dj:=dU (Nat.add_le_add_left (by decide:1<=64) _) hr.units
section
variable {X:Cx}
theorem pv(i:Nat){x:aq}{pos:da}(hN:X.N[i]?=some x:=by rfl)(hv:Vis X.env.scope x:=by first | exact bw rfl | exact jb (bw rfl) | exact jb (jb rfl))(hd:(x==("__debug__" : aq))=aB:=by decide)
  (hcd:(x==("__classdict__" : aq))=aB:=by decide):PE X (.Name x pos) (QC i):=FI hN hv hd hcd
end
theorem Zdu{A B:Prop}(h:B):if aB=aC then A else B:=by rw[mN au];exact h
theorem Zdv{A B:Prop}(h:A):if aC=aC then A else B:=by rw[mM rfl];exact h
noncomputable def Same(H H':Hp):Prop:=∀b o,H b=some o->H' b=some o
theorem Same.refl(H:Hp):Same H H:=λ_ _ h=>h
theorem Same.trans{H H1 H2:Hp}(a:Same H H1)(b:Same H1 H2):Same H H2:=λc o h=>b c o (a c o h)
theorem Same.free{H H':Hp}(e:Same H H'){l:aK}(h:H' l=mK):H l=mK:=by
 cases q:H l with
 | none=>rfl
 | some o=>
  rw[e l o q] at h;cases h
end L2
set_option maxHeartbeats 4000000
namespace L2
open PySem PySem.Spec PyProof.Rows
noncomputable def Y7(cells:List (aq×aK)):List (aq×dk)->List (aq×aK)->List (aq×aK)
 | [],acc=>acc
 | (n,k)::r,acc=>Y7 cells r (if(k==bZ)=aC then(n,(cells.lookup n).getD 0)::acc else acc)
theorem T6{env:jx}:∀(names:List (aq×dk))(acc:List (aq×aK)),(∀y∈names,y.2 = .free->(env.cells.lookup y.1).isSome=aC)->
  (forIn (m:=Sem) names acc λ(x:aq×dk) (cs:List (aq×aK))=>
   match x with
   | (name,kind)=>if(kind==bZ)=aC then do
     let c <-cellOf env name
     pure (eT ((name,c)::cs))
    else pure (eT cs))=pure (Y7 env.cells names acc)
 | [],acc,_=>rfl
 | (n,k)::r,acc,h=>by
  rw[jW];have ih:=λacc'=>T6 r acc' λy hy=>h y (aS _ hy)
  cases hk:(k==bZ) with
  | true=>
   have hs:=h (n,k) ah (by simpa using hk);obtain⟨c,hc⟩:=cI.mp hs;have hc:env.cells.lookup n=some c:=hc;have e1:cellOf env n=pure c:=by unfold cellOf;rw[hc]
   dsimp only
   rw[hk,mM rfl,e1];refine Eq.trans (ih ((n,c)::acc)) ?_;show _=pure (Y7 env.cells r (if(k==bZ)=aC then(n,(env.cells.lookup n).getD 0)::acc else acc));rw[mM hk,hc];rfl
  | false=>
   dsimp only
   rw[hk,mN au];refine Eq.trans (ih acc) ?_;show _=pure (Y7 env.cells r (if(k==bZ)=aC then(n,(env.cells.lookup n).getD 0)::acc else acc));rw[mN (by rw[hk];exact au)]
theorem VQ{scope:eB}{env:jx}(h:∀y∈scope.names,y.2 = .free->(env.cells.lookup y.1).isSome=aC):iD scope env=pure (Y7 env.cells scope.names []):=by
 have e:=T6 (env:=env) scope.names [] h;unfold iD
 dsimp only
 rw[e];rfl
theorem RJ{cells:List (aq×aK)}{x:aq}{c:aK}:∀(names:List (aq×dk))(acc:List (aq×aK)),(∀y∈names,y.2 = .free->(cells.lookup y.1).isSome=aC)->(acc.lookup x=some c->cells.lookup x=some c)->
  (Y7 cells names acc).lookup x=some c->cells.lookup x=some c
 | [],_,_,h,e=>h e
 | (n,k)::r,acc,hf,h,e=>by
  refine RJ r _ (λy hy=>hf y (aS _ hy)) ?_ e;intro q;by_cases hk:(k==bZ)=aC
  ·rw[mM hk,bT] at q
   cases hx:x==n with
   | true=>
    rw[hx] at q;have exn:x=n:=by simpa using hx
    obtain⟨d,hd⟩:=cI.mp (hf (n,k) ah (by simpa using hk));have hd:cells.lookup n=some d:=hd;rw[hd] at q;rw[exn,hd];exact q
   | false=>rw[hx] at q;exact h q
  ·rw[mN hk] at q;exact h q
theorem Ph{cells:List (aq×aK)}{x:aq}:∀(names:List (aq×dk))(acc:List (aq×aK)),(acc.lookup x).isSome=aC->((Y7 cells names acc).lookup x).isSome=aC
 | [],_,h=>h
 | (n,k)::r,acc,h=>by
  refine Ph r _ ?_;split
  ·rw[bT];split<;>simp_all
  ·exact h
theorem RK{cells:List (aq×aK)}{x:aq}:∀(names:List (aq×dk))(acc:List (aq×aK)),(x,bZ)∈names->((Y7 cells names acc).lookup x).isSome=aC
 | (n,k)::r,acc,h=>by
  rcases af.mp h with e | h
  ·cases e;refine Ph r _ ?_;rw[mM (by decide),bT];simp
  ·exact RK r _ h
structure CompScope(N:List aq)(around scope:eB)(own fr:List aq)(ix:List Nat):Prop where
 kind:scope.kind = .function
 nocell:∀y∈scope.names,y.2≠.cell
 names:∀y∈scope.names,y.2 = .local->scope.names.lookup y.1=some .local
 frees:∀y∈scope.names,y.2 = .free->(around.names.lookup y.1=some .cell\/around.names.lookup y.1=some .free)
 slots:fr.map some=ix.map (λi=>N[i]?)
 outs:∀x∈fr,(x,bZ)∈scope.names
 apart:∀x∈fr,scope.names.lookup x≠some .local
noncomputable def ZQ(X:Cx)(N':List aq)(scope:eB)(cl:List (aq×aK))(C:aK)(s:aP)(H:Hp)(ex:List aK):Cx:=
 { X with N:=N',s₀:=s,H₀:=H,env:=iE scope cl C X.env,outer:=X.stack,ex:=ex,fn:=λ_=>aB,pn:=[],xe:=λ_ _=>False }
noncomputable def Z9(n:Nat)(ix:List Nat)(σ:St):St:=aN n aA++ix.map (λi=>(σ[i]?).join)
theorem XW{env:jx}{x:aq}:∀{names:List (aq×dk)}{k:dk},names.lookup x=some k->
  (names.map λ(n,k)=>if(k==bZ&&env.scope.kind==.function&&env.kindOf n==some .cell) then(n,dP) else(n,k)).lookup x =
   some (if(k==bZ&&env.scope.kind==.function&&env.kindOf x==some .cell)=aC then dP else k)
 | [],_,h=>by simp at h
 | (n,k')::r,k,h=>by
  show List.lookup x ((if(k'==bZ&&env.scope.kind==.function&&env.kindOf n==some .cell)=aC then(n,dP) else(n,k'))::_)=_
  cases hx:x==n with
  | true=>
   simp only[bT,hx] at h;cases h;have e:x=n:=by simpa using hx
   subst e;split
   ·simp[bT]
   ·simp[bT]
  | false=>
   simp only[bT,hx] at h;split
   ·simp only[bT,hx];exact XW h
   ·simp only[bT,hx];exact XW h
theorem WK{env:jx}{x:aq}:∀{names:List (aq×dk)}{k':dk},
  (names.map λ(n,k)=>if(k==bZ&&env.scope.kind==.function&&env.kindOf n==some .cell) then(n,dP) else(n,k)).lookup x=some k'->∃k,names.lookup x=some k
 | [],_,h=>by simp at h
 | (n,k0)::r,k',h=>by
  have h:List.lookup x ((if(k0==bZ&&env.scope.kind==.function&&env.kindOf n==some .cell)=aC then(n,dP) else(n,k0))::_)=some k':=h
  cases hx:x==n with
  | true=>exact⟨k0,by simp[bT,hx]⟩
  | false=>
   have:∃k,r.lookup x=some k:=by
    apply WK (env:=env) (k':=k');split at h<;>simpa [bT,hx] using h
   obtain⟨k,e⟩:=this;exact⟨k,by simp[bT,hx,e]⟩
section
variable {X:Cx} {m4:List (aK×cx)} {σ:St} {H:Hp} {s:aP} {own fr:List aq} {ix:List Nat} {scope:eB}
theorem CompScope.clos(S:CompScope X.N X.env.scope scope own fr ix)(I:Inv X m4 σ H s):∀y∈scope.names,y.2 = .free->(X.env.cells.lookup y.1).isSome=aC:=λy hy hf=>by obtain⟨c,e⟩:=I.ok.has y.1 (S.frees y hy hf);rw[e];rfl
end
theorem SD{prog:bN}{w:bu}{A:bt}{R:Result->aP->Prop}{s:aP}{m8 target iter:bH}{m7:List bH}{scope:eB}{pos:da}{it acc:aI}{env:jx}(I:Nat->aP->Prop)
  (turn:∀n s,I n s->ay (model prog w) A (ke it) (λr s₁=>match r with
   | none=>R (.ok .next) s₁
   | some v=>ay (model prog w) A (g7 target it v) (λ_ s₁'=>ay (model prog w) A (assign target env v) (λ_ s₂=>
     ay (model prog w) A (forIn m7 aC λc r=>if r=aC then do let ok <-kH c env (eval c env);pure (eT ok) else pure (eT r)) (λok s₃=>
      if ok=aC then ay (model prog w) A (eval m8 env) (λx s₄=>
       ay (model prog w) A (call (.builtin "list.append") [acc,x]) (λ_ s₅=>∃m,m<n/\I m s₅) (jL (model prog w) A env λe s'=>R (.error e) s') s₄) (jL (model prog w) A env λe s'=>R (.error e) s') s₃
      else ∃m,m<n/\I m s₃) (jL (model prog w) A env λe s'=>R (.error e) s') s₂) (jL (model prog w) A env λe s'=>R (.error e) s') s₁') (jL (model prog w) A env λe s'=>R (.error e) s') s₁) (jL (model prog w) A env λe s'=>R (.error e) s') s)
  (n:Nat) (h:I n s) :
  gm (model prog w) A (.compLoop (.ListComp m8 [⟨target,iter,m7,0⟩] scope pos) 0 it acc env) R s:=by
 refine codeAny_loop rfl I (λn s hI=>?_) n h;show ay _ A ((compTurn (.ListComp m8 [⟨target,iter,m7,0⟩] scope pos) 0 it acc env).onRaise (λx=>do noteFrame x env;theTreesLotGoes x)) _ _ s;refine wpAny_noted ?_;rw[compTurn_list];refine aM (kD (aM (bj (turn n s hI) (λr s₁ h₁=>?_) λ_ _ h'=>h')))
 cases r with
 | none=>exact aw h₁
 | some v=>
  refine aM (bj h₁ (λ_ s₁' h₁'=>?_) λ_ _ h'=>h');refine aM (bj h₁' (λ_ s₂ h₂=>aM (bj h₂ (λok s₃ h₃=>?_) λ_ _ h'=>h')) λ_ _ h'=>h')
  cases ok with
  | false=>exact aw ⟨rfl,h₃⟩
  | true=>
   exact aM (aM (bj h₃ (λx s₄ h₄=>aM (bj h₄ (λ_ s₅ h₅=>aw (aw ⟨rfl,h₅⟩)) λ_ _ h'=>h')) λ_ _ h'=>h'))
noncomputable def IB(X:Cx)(m7:List bH)(t:TT):Prop:=
 ∀(m4:List (aK×cx))(s:aP)(σ:St)(H:Hp)(Q:Bool->Hp->Prop),Inv X m4 σ H s->t σ H Q->
  ay (model X.prog X.w) X.A (forIn m7 aC λc r=>if r=aC then do let ok <-kH c X.env (eval c X.env);pure (eT ok) else pure (eT r)) (TP X m4 σ Q) X.xe s
noncomputable def Zdw:TT:=λ_ H Q=>Q aC H
theorem C4{X:Cx}:IB X [] Zdw:=λ_ _ _ H _ I h=>wpAny_tests_nil ⟨H,I,h⟩
theorem C5{X:Cx}{c:bH}{t:TT}(h:PT X c t):IB X [c] t:=λm4 s σ H Q I hq=>wpAny_tests_one (h m4 s σ H Q I hq)
noncomputable def Zdx(n:Nat)(ix:List Nat)(g:TG)(tt:TT)(te:TE)(σ:St)(Q:VK)(J:It)(H1:Hp):Prop:=
 ∃W:Nat->Nat->List V->Hp->Prop,(∃m,W 0 m [] H1)/\∀i m ys H,W i m ys H->ys.length<=sizeLine/\
  ((J.stop i H/\∀p,H p=aA->Q (.ref p) (upd H p (.lst ys)))\/
   (J.go i H/\∃N:List V->Hp->Prop,(∀ys' H',N ys' H'->∃m',m'<m/\W (i+1) m' ys' H')/\
    ∀x H',J.yld i H x H'->g x (Z9 n ix σ) H' λσ2 H2=>σ2.drop n=(Z9 n ix σ).drop n/\tt σ2 H2 λb H3=>if b=aC then te σ2 H3 λy H4=>N (ys++[y]) H4 else N ys H3))
noncomputable def Pj(n:Nat)(ix:List Nat)(wi:TI)(g:TG)(tt:TT)(te:TE):TE:=λσ H Q=>wi σ H λJ H1=>Zdx n ix g tt te σ Q J H1
theorem NG{n:Nat}{ix:List Nat}{σ σ2:St}(hd:σ2.drop n=(Z9 n ix σ).drop n):∀(i:Nat) v,(Z9 n ix σ)[i]?=some (some v)->σ2[i]?=some (some v):=λi v e=>by
 by_cases hi:i<n
 ·unfold Z9 at e;rw[aj (by simpa using hi),bV] at e;rw[mM hi] at e;cases e
 ·have q:=congrArg (λl=>l[i-n]?) hd;simp only[eR] at q;rw[show n+(i-n)=i by omega] at q;rw[q];exact e
section
variable {X:Cx} {tg m8 iter:bH} {m7:List bH} {scope:eB} {pos:da} {own fr:List aq} {ix:List Nat} {wi:TI} {g:TG} {tt:TT} {te:TE}
theorem F7{m4:List (aK×cx)}{σ:St}{H2:Hp}{s2:aP}{fp:List aK}{h₁:b9}{tk:Nat}{C:aK}(S:CompScope X.N X.env.scope scope own fr ix)(I2:Inv X m4 σ H2 s2)(f2:∀b∈fp,Uq X m4 H2 b)(hfp:∀b∈fp,b<s2.heap.objs.size)
  (hC:s2.heap.objs.size<=C) (hns:h₁.Ns C λ_=>aA) (old:∀b o,s2.heap.get? b=some o->h₁.get? b=some o) :
  Inv (ZQ X (own++fr) scope (Y7 X.env.cells scope.names []) C s2 H2 fp) [] (Z9 own.length ix σ) H2 { s2 with heap:=h₁,toks:=tk }:=by
 have cs:=S.clos I2;have sub:∀x c,(Y7 X.env.cells scope.names []).lookup x=some c->X.env.cells.lookup x=some c:=λx c e=>RJ scope.names [] cs (λh=>by simp at h) e;have stk:=I2.stkSub
 have okk:(ZQ X (own++fr) scope (Y7 X.env.cells scope.names []) C s2 H2 fp).Ok:=by
  refine⟨I2.ok.mod,S.kind,I2.ok.glob,I2.ok.blt,hC,λx y c h1 h2=>I2.ok.inj x y c (sub x c h1) (sub y c h2),λx hx=>?_,λx c h _=>?_,I2.ok.hd,I2.ok.frames,.inl rfl,λb hb=>⟨?_,λx c e=>?_⟩,I2.bs,?_,λb o e hb=>?_,λb hb z=>?_,I2.stack,I2.stkFree,I2.ok.tab.un I2.base,λ_ z=>absurd rfl z⟩
  ·-- the cells of the block's free names
   have hx:(relabel scope X.env).names.lookup x=some .cell\/(relabel scope X.env).names.lookup x=some .free:=hx
   have key:(x,bZ)∈scope.names:=by
    have:∃k',(relabel scope X.env).names.lookup x=some k'/\(k' = .cell\/k' = .free):=by
     rcases hx with h | h
     ·exact⟨_,h,.inl rfl⟩
     ·exact⟨_,h,.inr rfl⟩
    obtain⟨k',e,hk'⟩:=this;obtain⟨k,e0⟩:=WK e;have e1:=XW (env:=X.env) e0;have e:(scope.names.map λ(n,k)=>if(k==bZ&&X.env.scope.kind==.function&&X.env.kindOf n==some .cell) then(n,dP) else(n,k)).lookup x=some k':=e;rw[e1] at e;have m:=cJ e0
    cases k with
    | free=>exact m
    | cell=>exact absurd rfl (S.nocell _ m)
    | _=>simp at e;subst e;rcases hk' with z | z<;>cases z
   exact cI.mp (RK _ _ key)
  ·cases h
  ·-- fp differs from the frame
   exact bQ (ar (hfp b hb) hC)
  ·exact(f2 b hb).2.2.2.2.1 x c (sub x c e)
  ·exact bX I2.ok.bsz I2.sz
  ·rcases(f2 b hb).2.2.2.1 with z | z
   ·exact I2.ok.noex b o e z
   ·exact absurd (ar (aV (I2.ok.bs b o e).1) z) (cH _)
  ·rcases af.mp (stk b z) with e | e
   ·exact(f2 b hb).2.1 e
   ·exact(f2 b hb).2.2.1 e
 have sl:fr.length=ix.length:=by simpa using congrArg iP S.slots
 refine⟨okk,rfl,I2.bare,Un.kept old,⟨_,hns,λi x v h1 h2 h3=>?_⟩,λx c e=>?_,I2.hok.fresh hC,λx c e=>I2.freeC x c (sub x c e),λp hp=>absurd (show p∈([]:List (aK×cx)) from hp) (by simp),I2.hok.kept old,?_⟩
 ·-- a name of the def around
  have h1:(own++fr)[i]?=some x:=h1;have hi:¬i<own.length:=λhi=>by unfold Z9 at h2;rw[aj (by simpa using hi),bV,mM hi] at h2;cases h2
  rw[bF (by omega)] at h1;unfold Z9 at h2;rw[bF (by simpa using hi),cW,aR] at h2
  cases ej:ix[i-own.length]? with
  | none=>rw[ej] at h2;cases h2
  | some j=>
   rw[ej] at h2;have h2:(σ[j]?).join=some v:=by simpa using h2
   have h2:σ[j]?=some (some v):=by
    cases q:σ[j]? with
    | none=>rw[q] at h2;cases h2
    | some z=>rw[q] at h2;exact congrArg some h2
   have hN:X.N[j]?=some x:=by have q:=congrArg (λl=>l[i-own.length]?) S.slots;simp only[aR,h1,ej,cQ] at q;exact(az q).symm
   have hm:=S.outs x (b8 h1);have hk:=S.frees _ hm rfl;have hk:X.env.scope.names.lookup x=some .cell\/X.env.scope.names.lookup x=some .free:=hk;obtain⟨m,hn,hl⟩:=I2.loc;obtain⟨u,r,l⟩:=hl j x v hN h2 (by rcases hk with k | k;exact .inr (.inl k);exact .inr (.inr k));refine⟨u,r,?_⟩;rcases l with⟨k,_⟩ | ⟨_,c,hc,hcell⟩
   ·have k:X.env.scope.names.lookup x=some .local:=k;rcases hk with q | q<;>rw[k] at q<;>cases q
   ·obtain⟨c',hc'⟩:=cI.mp (RK (cells:=X.env.cells) _ [] hm);have ec:=sub x c' hc';rw[hc] at ec;cases ec;refine .inr ⟨?_,c,hc',?_⟩
    ·have h3:(relabel scope X.env).names.lookup x=some .local\/(relabel scope X.env).names.lookup x=some .cell\/(relabel scope X.env).names.lookup x=some .free:=h3;rcases h3 with h3 | h3
     ·obtain⟨k0,e0⟩:=WK h3;have e1:=XW (env:=X.env) e0;have h3:(scope.names.map λ(n,k)=>if(k==bZ&&X.env.scope.kind==.function&&X.env.kindOf n==some .cell) then(n,dP) else(n,k)).lookup x=some .local:=h3;rw[e1] at h3
      have k0l:k0 = .local:=by
       cases k0<;>simp at h3 ⊢
       split at h3<;>cases h3
      subst k0l;exact absurd e0 (S.apart x (b8 h1))
     ·exact h3
    ·obtain⟨o,ho,hd⟩:=hcell;exact⟨o,old _ _ ho,hd⟩
 ·obtain⟨v,o,ho,hd⟩:=I2.cell x c (sub x c e);exact⟨v,o,old _ _ ho,hd⟩
 ·show(Z9 own.length ix σ).length=(own++fr).length;unfold Z9;rw[aX,cW,aH,aX,sl]
theorem Pk{m4:List (aK×cx)}{σ:St}{H2:Hp}{s2:aP}{fp:List aK}{it:aK}{tn:Nat->b9->Prop}{J:It}{Fin:List V->Hp->Prop}{RR:aI->aK->Result->aP->Prop}{E:aI->aP->Prop}
  (hcalm:X.calm=aC) (S:CompScope X.N X.env.scope scope own fr ix)
  (hg:∀cl C s H ex,PG (ZQ X (own++fr) scope cl C s H ex) tg g) (ht:∀cl C s H ex,IB (ZQ X (own++fr) scope cl C s H ex) m7 tt) (he:∀cl C s H ex,PE (ZQ X (own++fr) scope cl C s H ex) m8 te)
  (I2:Inv X m4 σ H2 s2) (T:Lx X.prog X.w X.K tg J fp it tn) (st2:tn 0 s2.heap) (f2:∀b∈fp,Uq X m4 H2 b)
  {W:Nat->Nat->List V->Hp->Prop} {m0:Nat} (w0:W 0 m0 [] H2)
  (turn:∀i m ys H,W i m ys H->ys.length<=sizeLine/\
   ((J.stop i H/\Fin ys H)\/
    (J.go i H/\∃N:List V->Hp->Prop,(∀ys' H',N ys' H'->∃m',m'<m/\W (i+1) m' ys' H')/\
     ∀x H',J.yld i H x H'->g x (Z9 own.length ix σ) H' λσ2 H2=>σ2.drop own.length=(Z9 own.length ix σ).drop own.length/\tt σ2 H2 λb H3=>if b=aC then te σ2 H3 λy H4=>N (ys++[y]) H4 else N ys H3)))
  (hRR:∀(D C:aK)(oC:cx)(m:aq->Option aI)(s':aP)(H':Hp)(ys:List V),Inv X (m4++[(C,oC)]) σ (upd H' D (.lst ys)) s'->s'.heap.get? C=some oC->s'.heap.Ns C m->Uq X m4 (upd H' D (.lst ys)) C->H' D=aA->Fin ys H'->RR (.ref D) C (.ok .next) s') :
  ay (model X.prog X.w) X.A (newList []) (λacc s₃=>ay (model X.prog X.w) X.A (iG scope X.env.globals (Y7 X.env.cells scope.names []) [] X.env.qual aA .none (some X.env)) (λcenv s₄=>
   gm (model X.prog X.w) X.A (.compStart (.ListComp m8 [⟨tg,iter,m7,0⟩] scope pos) 0 (.ref it) acc { cenv with scope:=relabel scope X.env }) (RR acc cenv.locals) s₄) E s₃) E s2:=by
 have hfp:∀b∈fp,b<s2.heap.objs.size:=λb hb=>by obtain⟨o,e,_⟩:=T.obj 0 s2.heap st2 b hb;exact aV e
 refine cq (jc S.nocell (by intro y hy;simp at hy) (λh₁ hns₁ hsb₁=>?_) S.kind)
 dsimp only at hns₁ hsb₁ ⊢
 generalize hH2:s2.heap.push { cls:=.type "list",dict:=aA,data:=.seq ([]:List aI).toArray }=G2 at hns₁ hsb₁ ⊢;have hC:G2.objs.size=s2.heap.objs.size+1:=by rw[<-hH2,cC]
 generalize hCC:G2.objs.size=C at hns₁ hsb₁ hC ⊢;generalize hDD:s2.heap.objs.size=D at hC ⊢;have hDC:D≠C:=by omega
 have below:∀b,b<s2.heap.objs.size->b≠C/\b≠D:=λb hb=>by rw[hDD] at hb;exact⟨bQ (by omega),bQ hb⟩
 have old:∀b o,s2.heap.get? b=some o->h₁.get? b=some o:=λb o e=>hsb₁.extBut b o (below b (aV e)).1 (aJ _ (hH2▸aJ _ e))
 have hacc:h₁.get? D=some { cls:=.type "list",data:=.seq ([]:List aI).toArray 0 }:=by
  have e0:G2.get? D=some { cls:=.type "list",data:=.seq ([]:List aI).toArray 0 }:=by rw[<-hH2,<-hDD];exact ao _ rfl
  exact hsb₁.extBut _ _ hDC (aJ _ e0)
 have hns₁':h₁.Ns C λ_=>aA:=by simpa using hns₁
 have I0:=λtk=>F7 (tk:=tk) S I2 f2 hfp (C:=C) (by omega) hns₁' old
 -- what stays aC of the iterator's objects in the block
 have loop:∀s₃:aP,s₃={ s2 with heap:=h₁,toks:=s2.toks+([]:List (aq×aI)).length }->
   gm (model X.prog X.w) X.A (.compLoop (.ListComp m8 [⟨tg,iter,m7,0⟩] scope pos) 0 (.ref it) (.ref D) (iE scope (Y7 X.env.cells scope.names []) C X.env)) (RR (.ref D) C) s₃:=by
  rintro s₃ rfl;generalize hY:ZQ X (own++fr) scope (Y7 X.env.cells scope.names []) C s2 H2 fp=Y at I0
  have stat:∀{H':Hp}{pn:List (aK×cx)},(∀b∈fp,H' b=aA)->(∀p∈pn,∀b∈fp,p.1≠b)->∀b∈fp,Uq Y pn H' b:=λ{H' pn} hn hp b hb=>by
   subst hY;refine⟨hn b hb,(below b (hfp b hb)).1,λz=>?_,.inl hb,λx c e=>?_,λp hp'=>hp p hp' b hb⟩
   ·exact(I0 0).ok.exfs b hb z
   ·exact((I0 0).ok.exf b hb).2 x c e
  have dfp:∀b∈fp,D≠b:=λb hb=>bO (below b (hfp b hb)).2;have hcellD:∀x c,Y.env.cells.lookup x=some c->c≠D:=λx c e z=>by subst hY;have e:(Y7 X.env.cells scope.names []).lookup x=some c:=e;have e':=RJ scope.names [] (S.clos I2) (λh=>by simp at h) e;obtain⟨v,q⟩:=I2.cell x c e';exact(below c q.lt).2 z
  have hfsD:D∉Y.fs:=λz=>by subst hY;obtain⟨_,o,ho,_⟩:=(I0 0).ok.funs.mem z;have:=aV ho;have:D<s2.heap.objs.size:=this;omega
  have eL:Y.env.locals=C:=by subst hY;rfl
  have eS:Y.s₀=s2:=by subst hY;rfl
  have eP:Y.pn=[]:=by subst hY;rfl
  refine SD (λn s'=>∃i ys m9 nn H',Inv Y [] (Z9 own.length ix σ) H' s'/\tn i s'.heap/\(∀b∈fp,H' b=aA)/\s'.heap.get? D=some { cls:=.type "list",data:=.seq m9 nn }/\Vals ys m9.toList/\H' D=aA/\W i n ys H') ?_ m0
   ⟨0,[],#[],0,H2,I0 _,T.keep _ _ _ st2 λb _ o e=>old b o e,λb hb=>(f2 b hb).1,hacc,.nil,I2.hok.fresh (by omega),w0⟩
  rintro n s3 ⟨i,ys,m9,nn,H3,I3,st3,fr3,oD,vD,nD,w3⟩;obtain⟨hlen,cases3⟩:=turn i n ys H3 w3;have hsize:m9.size<=sizeLine:=by have:=vD.length;simp only[dJ] at this;omega
  have pD:Inv Y [(D,{ cls:=.type "list",data:=.seq m9 nn })] (Z9 own.length ix σ) H3 s3:=I3.pins_of λp hp=>by rw[aO.mp hp];exact⟨oD,nD,by rw[eL];exact hDC,hfsD,λv z=>by cases z⟩
  have YP:Y.prog=X.prog:=by subst hY;rfl
  have Yw:Y.w=X.w:=by subst hY;rfl
  have YK:Y.K=X.K:=by subst hY;rfl
  have YA:Y.A=X.A:=by subst hY;rfl
  have Yx:Y.xe=λ_ _=>False:=by subst hY;rfl
  have Ye:Y.env=iE scope (Y7 X.env.cells scope.names []) C X.env:=by subst hY;rfl
  have ne1:∀p∈[((D,{ cls:=.type "list",data:=.seq m9 nn }):aK×cx)],∀b∈fp,p.1≠b:=λp hp b hb=>by rw[aO.mp hp];exact dfp b hb
  rcases cases3 with⟨stop,qn⟩ | ⟨go,N,hN,step⟩
  ·have d:=T.done Y YP Yw YK (by subst hY;exact hcalm) i _ s3 _ H3 (jL (model X.prog X.w) X.A (iE scope (Y7 X.env.cells scope.names []) C X.env) λe s'=>RR (.ref D) C (.error e) s') pD (stat fr3 ne1) st3 stop;rw[YA] at d;refine YO d λr s4 ⟨hr,I4⟩=>?_;subst hr;show RR (.ref D) C (.ok .next) s4;obtain⟨oD4,nD4,_⟩:=I4.pin (D,_) (by rw[eP];exact ah);obtain⟨m,hn,_⟩:=I4.loc;rw[eL] at hn;obtain⟨oC,es,ep,hoC,hdC,hrest⟩:=id hn;have hfreeC:H3 C=aA:=by have:=I4.free;rw[eL] at this;exact this
   have un:Un (Ni X.stack) fp H2 H3 s2.heap s4.heap:=by have:=I4.base;subst hY;exact this
   have lt2:∀b o,s2.heap.get? b=some o->b≠D:=λb o e=>(below b (aV e)).2
   have un':Un (Ni X.stack) fp H2 (upd H3 D (.lst ys)) s2.heap s4.heap:=by
    refine⟨un.keep,un.slot,λb o e n hx=>?_,un.there,λb xs e=>?_,λb o u e=>?_,λb ps e=>?_⟩
    ·rw[upd_ne (lt2 b o e)];exact un.free b o e n hx
    ·have q:=un.tups b xs e;rw[upd_ne (Zr q nD4)];exact q
    ·have q:=un.frzs b o u e;rw[upd_ne (Zr q nD4)];exact q
    ·obtain⟨more,q⟩:=un.tbls b ps e;exact⟨more,by rw[upd_ne (Zr q nD4)];exact q⟩
   have hok4:HOk X.prog X.w H3 s4.heap:=by have:=I4.hok;rw[YP,Yw] at this;exact this
   have hok':HOk X.prog X.w (upd H3 D (.lst ys)) s4.heap:=λb u q=>by
    by_cases hb:b=D
    ·subst hb;rw[Zp] at q;cases q;exact⟨hlen,m9.toList,nn,vD,by simpa using oD4⟩
    ·rw[upd_ne hb] at q;exact(hok4 b u q).stay (λc v _ z=>z) (λc z=>by rw[upd_ne (Zr z nD4)];exact z) (λc xs z=>by rw[upd_ne (Zr z nD4)];exact z) λc u z=>by rw[upd_ne (Zr z nD4)];exact z
   have os4:s4.os=s2.os:=by rw[I4.os,eS]
   have I5:Inv X m4 σ (upd H3 D (.lst ys)) s4:=I2.call' os4 un' hok' I4.bare λb hb=>⟨(f2 b hb).2.2.2.1,(f2 b hb).2.1,(f2 b hb).2.2.2.2.1,(f2 b hb).2.2.2.2.2⟩;have CL:C≠X.env.locals:=λz=>by exact(below _ I2.lt).1 z.symm
   have fpC:Uq X m4 (upd H3 D (.lst ys)) C:=I2.fpOk (by omega) (by rw[upd_ne (bO hDC)];exact hfreeC);refine hRR D C oC m s4 H3 ys (I5.pins_of λp hp=>?_) hoC hn fpC nD4 qn;rcases aa.mp hp with z | z
   ·exact I5.pin p (aY _ z)
   ·rw[aO.mp z];exact⟨hoC,fpC.1,fpC.2.1,fpC.2.2.1,λv z=>by rw[hdC] at z;cases z⟩
  ·have d:=T.item Y YP Yw YK (by subst hY;exact hcalm) i _ s3 _ H3 (λ_ _=>False) pD (stat fr3 ne1) st3 go;rw[YA] at d;refine bj d (λr s4 ⟨u,hr,h4⟩=>?_) λ_ _ z=>z.elim;subst hr;refine bj h4 (λ_ s5 ⟨x,H5,I5,r5,y5,st5,fr5⟩=>?_) λ_ _ z=>z.elim;have I5':=I5.pinned (stat fr5 ne1) (T.obj _ _ st5);have hg':=hg (Y7 X.env.cells scope.names []) C s2 H2 fp;have ht':=ht (Y7 X.env.cells scope.names []) C s2 H2 fp;have he':=he (Y7 X.env.cells scope.names []) C s2 H2 fp;rw[hY] at hg' ht' he';have a6:=hg' _ s5 _ H5 x u _ I5' r5 (step x H5 y5);rw[YP,Yw,YA,Ye,Yx] at a6;refine bj a6 (λ_ s6 ⟨σ6,H6,I6,dr,q6⟩=>?_) λ_ _ z=>z.elim;have a7:=ht' _ s6 σ6 H6 _ I6 q6;rw[YP,Yw,YA,Ye,Yx] at a7;refine bj a7 (λok s7 ⟨H7,I7,q7⟩=>?_) λ_ _ z=>z.elim
   have back:∀{H8:Hp}{s8:aP},Inv Y ([((D,{ cls:=.type "list",data:=.seq m9 nn }):aK×cx)]++UQ fp s5.heap) σ6 H8 s8->
     s8.heap.get? D=some { cls:=.type "list",data:=.seq m9 nn }/\H8 D=aA/\tn (i+1) s8.heap/\(∀b∈fp,H8 b=aA):=λ{H8 s8} I8=>by
    obtain⟨e1,e2,_⟩:=I8.pin (D,{ cls:=.type "list",data:=.seq m9 nn }) (by rw[eP];exact ah);refine⟨e1,e2,T.keep _ _ _ st5 λb hb o e=>(I8.pin (b,o) (by rw[eP];exact aS _ (Wb hb e))).1,λb hb=>?_⟩;obtain⟨o,e,_⟩:=T.obj _ _ st5 b hb;exact(I8.pin (b,o) (by rw[eP];exact aS _ (Wb hb e))).2.1
   have unp:∀{H8:Hp}{s8:aP},Inv Y ([((D,{ cls:=.type "list",data:=.seq m9 nn }):aK×cx)]++UQ fp s5.heap) σ6 H8 s8->Inv Y [] (Z9 own.length ix σ) H8 s8:=λ{H8 s8} I8=>
    (I8.pins_of (pins':=[]) λp hp=>absurd hp (by simp)).weak (by
     have e1:=(I0 0).len;have e2:=I8.len;rw[e1,e2]) (NG dr)
   cases ok with
   | false=>
    rw[mN au] at q7;show ∃m,m<n/\_;obtain⟨e1,e2,e3,e4⟩:=back I7;obtain⟨m',hm,w7⟩:=hN _ _ q7;exact⟨m',hm,i+1,ys,m9,nn,H7,unp I7,e3,e4,e1,vD,e2,w7⟩
   | true=>
    rw[mM rfl] at q7;show ay _ _ _ _ _ _;have a8:=he' _ s7 σ6 H7 _ I7 q7;rw[YP,Yw,YA,Ye,Yx] at a8;refine bj a8 (λyv s8 ⟨y,H8,I8,ry,q8⟩=>?_) λ_ _ z=>z.elim;obtain⟨e1,e2,e3,e4⟩:=back I8;obtain⟨m',hm,w8⟩:=hN _ _ q8;refine append_at e1 (λh9 hs9 hD9=>?_) hsize;have I9:Inv Y [] (Z9 own.length ix σ) H8 { s8 with heap:=h9 }:=(unp I8).turned (t':=s8.toks) (it:=D) (λb o hb e=>hs9.extBut b o hb e) e2 (by rw[eL];exact hDC) (.inr (by rw[eS];omega)) hcellD (λp hp=>absurd (show p∈([]:List (aK×cx)) by rw[eP] at hp;exact hp) (by simp));refine⟨m',hm,i+1,ys++[y],m9.push yv,nn+1,H8,I9,T.keep _ _ _ e3 λb hb o e=>hs9.extBut b o (bO (dfp b hb)) e,e4,hD9,?_,e2,w8⟩;rw[k8];exact vD.append (.cons ry .nil)
 exact jM (loop _ rfl) (T.self X.A 0 _ _ _ (T.keep _ _ _ st2 λb _ o e=>old b o e) (loop _ rfl))
theorem C6(hcalm:X.calm=aC)(hi:PI X tg iter wi)(S:CompScope X.N X.env.scope scope own fr ix)
  (hg:∀cl C s H ex,PG (ZQ X (own++fr) scope cl C s H ex) tg g) (ht:∀cl C s H ex,IB (ZQ X (own++fr) scope cl C s H ex) m7 tt) (he:∀cl C s H ex,PE (ZQ X (own++fr) scope cl C s H ex) m8 te)
  (hs:∀x,ba iter X.env x=pure x:=by intro _;rfl):PE X (.ListComp m8 [⟨tg,iter,m7,0⟩] scope pos) (Pj own.length ix wi g tt te):=by
 intro m4 s σ H Q I h;rw[eval_ListComp];refine fX (use:=aA) (cl:=Y7 X.env.cells scope.names []) rfl hs (VQ (S.clos I)) S.kind S.names (YO (hi m4 s σ H _ I h) λv s1 h1=>YO h1 λitv s2 h2=>?_);obtain⟨it,fp,tn,J,H2,e,I2,T,st2,f2,W,⟨m0,w0⟩,turn⟩:=h2;subst e;refine Pk (Fin:=λys H=>∀p,H p=aA->Q (.ref p) (upd H p (.lst ys))) (RR:=λacc C=>compPost (model X.prog X.w) X.A X.xe aA (EP X m4 σ Q) acc C) hcalm S hg ht he I2 T st2 f2 w0 turn ?_;intro D C oC m s' H' ys I5 hoC hn fpC nD fin;refine⟨m,hn,λh' hs'=>⟨.ref D,upd H' D (.lst ys),?_,rfl,fin D nD⟩⟩;exact(I5.unpinned (pl:=[(C,oC)])).turned (t':=s'.toks) (it:=C) (λb o hb e=>hs'.extBut b o hb e) fpC.1 fpC.2.1 fpC.2.2.2.1 fpC.2.2.2.2.1 fpC.2.2.2.2.2
theorem C8{i:Nat}{y:aq}{py spos:da}(hN:X.N.Nodup)(hy:X.N[i]?=some y)(hloc:X.env.scope.names.lookup y=some .local)(hcalm:X.calm=aC)(hi:PI X tg iter wi)(S:CompScope X.N X.env.scope scope own fr ix)
  (hg:∀cl C s H ex,PG (ZQ X (own++fr) scope cl C s H ex) tg g) (ht:∀cl C s H ex,IB (ZQ X (own++fr) scope cl C s H ex) m7 tt) (he:∀cl C s H ex,PE (ZQ X (own++fr) scope cl C s H ex) m8 te)
  (hsw:gF (.ListComp m8 [⟨tg,iter,m7,0⟩] scope pos) (some (.Name y py)) spos.line X.env=pure aC:=by rfl)
  (hs:∀x,ba iter X.env x=pure x:=by intro _;rfl):PS X (.Assign [.Name y py] (.ListComp m8 [⟨tg,iter,m7,0⟩] scope pos) spos) (Mc (Pj own.length ix wi g tt te) (T2 i)):=by
 intro m4 s σ H D0 I h;rw[exec_Assign_Name_used _ _ _ _ hsw];refine aM (kD (aM ?_));show ay _ X.A (do let _ <-comprehension (.ListComp m8 [⟨tg,iter,m7,0⟩] scope pos) scope X.env _ (newList []) aB (eval iter X.env) (some (assign (.Name y py) X.env))) _ _ s
 refine aM (bj (fX (cl:=Y7 X.env.cells scope.names []) (use:=some (assign (.Name y py) X.env)) (Q:=λ_ s'=>SP X m4 D0 .next s') (E:=X.xe) rfl hs (VQ (S.clos I)) S.kind S.names
  (YO (hi m4 s σ H _ I h) λv s1 h1=>YO h1 λitv s2 h2=>?_)) (λ_ s' hq=>aw (aw hq)) λ_ _ e=>e)
 obtain⟨it,fp,tn,J,H2,e,I2,T,st2,f2,W,⟨m0,w0⟩,turn⟩:=h2;subst e;refine Pk (Fin:=λys H=>∀p,H p=aA->T2 i (.ref p) σ (upd H p (.lst ys)) D0.nx) (RR:=λacc C=>compPost (model X.prog X.w) X.A X.xe (some (assign (.Name y py) X.env)) (λ_ s'=>SP X m4 D0 .next s') acc C) hcalm S hg ht he I2 T st2 f2 w0 turn ?_;intro D C oC m s' H' ys I5 hoC hn fpC nD fin;show ay _ X.A (assign (.Name y py) X.env (.ref D)) _ _ _;refine wpAny_assign_Name (Sw I5 hN hy (.inl hloc) (v:=.ref D) rfl (λs6 I6=>?_) (.inr hloc));obtain⟨e6,_⟩:=I6.pin (C,oC) (aY _ (aY _ ah));obtain⟨o',es,ep,ho',r'⟩:=hn;rw[hoC] at ho';cases ho';refine⟨m,⟨oC,es,ep,e6,r'⟩,λh' hs'=>⟨_,upd H' D (.lst ys),?_,fin D nD⟩⟩;exact(I6.unpinned (pl:=[(C,oC)])).turned (t':=s6.toks) (it:=C) (λb o hb e=>hs'.extBut b o hb e) fpC.1 fpC.2.1 fpC.2.2.2.1 fpC.2.2.2.2.1 fpC.2.2.2.2.2
end
open AutoSeq1 (wpAny_loadPart')
section
variable {prog:bN} {w:bu} {A:bt} {E:aI->aP->Prop} {s:aP}
theorem SE{it l:aK}{i:Nat}{items}{x:aI}{Q:aI->aP->Prop}(hit:s.heap.IsTupleIter it l i)
  (hl:s.heap.IsTuple l items) (hx:items[i]?=some x)
  (hQ:∀h',h'.IsTupleIter it l (i+1)->cL it s.heap h'->Q x { s with heap:=h' }) :
  ay (model prog w) A (br (.ref it)) Q E s:=by
 obtain⟨o,ho,hc,hd⟩:=id hit;obtain⟨ol,hol,_,nl,hdl⟩:=hl;unfold br
 refine aM (dG (name:=gp "__next__") hit.typeIs F.slot_tuple_iterator_next
  (fH F.slot_tuple_iterator_next hit.typeIs F.entry_tuple_iterator_next ?_ (F.args_tuple_iterator_next_1 _)))
 show ay _ _ (field (.ref it) 0 >>= _) _ _ s;refine aM (cT ho hd (x:=.ref l) rfl ?_);show ay _ _ (if(cM l==eY)=aC then _ else _) _ _ s;rw[mN (show ¬((cM l==eY)=aC) from au)];show ay _ _ (field (.ref it) 1 >>= _) _ _ s;refine aM (cT ho hd (x:=.int i 0) rfl ?_);show ay _ _ (seqItems? (.ref l) >>= _) _ _ s;refine aM (dW hol hdl ?_);simp only[bR,hx];refine aM (wpAny_setField ho hd (by simp) (aw ⟨x,rfl,aw (hQ _ ?_ (jz ..))⟩));exact⟨_,j4 _ ho (cx.isFreed_of_fields (kO hd _)),(cx.cls_mapFields ..).trans hc,by rw[kO hd];simp[gV]⟩
theorem RL{it l:aK}{i:Nat}{items}{Q:aI->aP->Prop}(hh:A.handled=aA)
  (hit:s.heap.IsTupleIter it l i) (hl:s.heap.IsTuple l items) (hx:items[i]?=aA)
  (hE:∀h' e,lE it s.heap h'->(∃o,h'.get? e=some o/\o.cls = .type "StopIteration")->E (.ref e) { s with heap:=h' }) :
  ay (model prog w) A (br (.ref it)) Q E s:=by
 obtain⟨o,ho,hc,hd⟩:=id hit;obtain⟨ol,hol,_,nl,hdl⟩:=hl;unfold br
 refine aM (dG (name:=gp "__next__") hit.typeIs F.slot_tuple_iterator_next
  (fH F.slot_tuple_iterator_next hit.typeIs F.entry_tuple_iterator_next ?_ (F.args_tuple_iterator_next_1 _)))
 show ay _ _ (field (.ref it) 0 >>= _) _ _ s;refine aM (cT ho hd (x:=.ref l) rfl ?_);show ay _ _ (if(cM l==eY)=aC then _ else _) _ _ s;rw[mN (show ¬((cM l==eY)=aC) from au)];show ay _ _ (field (.ref it) 1 >>= _) _ _ s;refine aM (cT ho hd (x:=.int i 0) rfl ?_);show ay _ _ (seqItems? (.ref l) >>= _) _ _ s;refine aM (dW hol hdl ?_);simp only[bR,hx];refine aM (l8 (aM (wpAny_setField ho hd (by simp) ?_)));show ay _ _ (newExc (.type "StopIteration") [] >>= _) _ _ _;refine aM ?_;simp only[newExc,newTuple];refine aM (cq ?_ (by size_fits));refine aM (m:=firstArgMember _ _) (wpAny_of_eq (a:=eY) (by first | rfl | (simp only[firstArgMember];rfl)) ?_);refine cq ?_ (by size_fits);simp only[raiseNew];refine aM (wpAny_handled ?_)
 first | rw[show A.in1.handled=aA from hh] | rw[hh]
 refine aM (aw (wpAny_throw ?_));exact hE _ _ (((jz ..).extBut.push _).push _) ⟨_,ao _ rfl,rfl⟩
end
noncomputable def SeqB(b:Bool)(h:b9)(a:aK)(m9:Array aI):Prop:=if b=aC then h.IsList a m9 else h.IsTuple a m9
noncomputable def IterB(b:Bool)(h:b9)(it a:aK)(i:Nat):Prop:=if b=aC then h.IsListIter it a i else h.IsTupleIter it a i
noncomputable def Ng(b:Bool)(K:aG)(H:Hp)(a:aK)(xs:List V):Prop:=if b=aC then SqL K H a xs else SqT K H a xs
noncomputable def UL(b:Bool)(a:aK):cx:={ cls:=.type (if b=aC then "list_iterator" else "tuple_iterator"),data:=.fields #[.ref a,.int 0 0] }
theorem SeqB.at{b:Bool}{h h':b9}{a:aK}{m9:Array aI}(x:SeqB b h a m9)(k:∀o,h.get? a=some o->h'.get? a=some o):SeqB b h' a m9:=by
 cases b with
 | true=>obtain⟨o,e,r⟩:=(show h.IsList a m9 from x);exact⟨o,k o e,r⟩
 | false=>obtain⟨o,e,r⟩:=(show h.IsTuple a m9 from x);exact⟨o,k o e,r⟩
theorem SeqB.has{b:Bool}{h:b9}{a:aK}{m9:Array aI}(x:SeqB b h a m9):∃o,h.get? a=some o:=by
 cases b with
 | true=>obtain⟨o,e,r⟩:=(show h.IsList a m9 from x);exact⟨o,e⟩
 | false=>obtain⟨o,e,r⟩:=(show h.IsTuple a m9 from x);exact⟨o,e⟩
theorem IterB.at{b:Bool}{h h':b9}{it a:aK}{i:Nat}(x:IterB b h it a i)(k:∀o,h.get? it=some o->h'.get? it=some o):IterB b h' it a i:=by
 cases b with
 | true=>obtain⟨o,e,r⟩:=(show h.IsListIter it a i from x);exact⟨o,k o e,r⟩
 | false=>obtain⟨o,e,r⟩:=(show h.IsTupleIter it a i from x);exact⟨o,k o e,r⟩
theorem IterB.has{b:Bool}{h:b9}{it a:aK}{i:Nat}(x:IterB b h it a i):∃o,h.get? it=some o/\∀v,o.data≠.cell v:=by
 cases b with
 | true=>obtain⟨o,e,_,d⟩:=(show h.IsListIter it a i from x);exact⟨o,e,λv z=>by rw[d] at z;cases z⟩
 | false=>obtain⟨o,e,_,d⟩:=(show h.IsTupleIter it a i from x);exact⟨o,e,λv z=>by rw[d] at z;cases z⟩
theorem IterB.new{b:Bool}{h:b9}{it a:aK}(e:h.get? it=some (UL b a)):IterB b h it a 0:=by
 cases b with
 | true=>exact⟨_,e,rfl,rfl⟩
 | false=>exact⟨_,e,rfl,rfl⟩
section
variable {X:Cx} {m4:List (aK×cx)} {σ:St} {H:Hp} {s:aP} {a:aK} {xs ys:List V} {b:Bool}
theorem Inv.seqB(I:Inv X m4 σ H s)(h:Ng b X.K H a xs):∃m9:List aI,Vals xs m9/\SeqB b s.heap a m9.toArray/\xs.length<=sizeLine:=by
 cases b with
 | true=>
  obtain⟨m9,r,p,z⟩:=I.list (show SqL X.K H a xs from h);exact⟨m9,r,p.isList,z⟩
 | false=>
  obtain⟨m9,r,p,z⟩:=I.tuple (show SqT X.K H a xs from h);exact⟨m9,r,p,z⟩
theorem Inv.seqB_inj(I:Inv X m4 σ H s)(h:Ng b X.K H a xs)(h':Ng b X.K H a ys):xs=ys:=by
 cases b with
 | true=>exact I.list_inj (show SqL X.K H a xs from h) (show SqL X.K H a ys from h')
 | false=>exact I.tuple_inj (show SqT X.K H a xs from h) (show SqT X.K H a ys from h')
end
theorem Draws.seq{prog:bN}{w:bu}{A:bt}(b:Bool)(hh:A.handled=aA)(it l:aK)(hne:l≠it)(items:Array aI) :
  Draws prog w A it [it,l] items.size (λi v=>items[i]?=some v) (λi h=>IterB b h it l i/\SeqB b h l items) where
 live:=λ_ _ st=>let⟨o,ho,_⟩:=st.1.has;⟨o,ho⟩
 frame:=λ_ _ _ st hk=>⟨st.1.at λo e=>hk it (by simp) o e,st.2.at λo e=>hk l (by simp) o e⟩
 item:=λi s Q E hi st hQ=>by
  cases b with
  | true=>
   refine wpAny_nextOf_list_item (show s.heap.IsListIter it l i from st.1) (show s.heap.IsList l items from st.2) (x:=items[i]) (by simp[hi]) λh' hit' hs'=>?_;exact hQ _ h' s.toks (by simp[hi]) ⟨hit',st.2.at λo e=>hs'.extBut l o hne e⟩ hs'
  | false=>
   refine SE (show s.heap.IsTupleIter it l i from st.1) (show s.heap.IsTuple l items from st.2) (x:=items[i]) (by simp[hi]) λh' hit' hs'=>?_;exact hQ _ h' s.toks (by simp[hi]) ⟨hit',st.2.at λo e=>hs'.extBut l o hne e⟩ hs'
 done:=λs Q E st hE=>by
  cases b with
  | true=>exact wpAny_nextOf_list_end hh (show s.heap.IsListIter it l _ from st.1) (show s.heap.IsList l items from st.2) (by simp) hE
  | false=>exact RL hh (show s.heap.IsTupleIter it l _ from st.1) (show s.heap.IsTuple l items from st.2) (by simp) hE
theorem YZ{prog:bN}{w:bu}{A:bt}{E:aI->aP->Prop}{s:aP}{b:Bool}{a:aK}{m9:Array aI}{Q:aI->aP->Prop}(h:SeqB b s.heap a m9)
  (hQ:Q (.ref s.heap.objs.size) { s with heap:=s.heap.push (UL b a) }):ay (model prog w) A (pyIter (.ref a)) Q E s:=by
 cases b with
 | true=>exact wpAny_pyIter_list (show s.heap.IsList a m9 from h) hQ
 | false=>exact kI (show s.heap.IsTuple a m9 from h) hQ
set_option maxHeartbeats 4000000 in
theorem Pl(b:Bool)(l:aK)(items:Array aI) :
  Meets (jw.«enumerate.__new__» ⟨[.type "enumerate",.ref l],[]⟩) (λ_ R s=>SeqB b s.heap l items/\
   R (.ok (.ret (.ref (s.heap.push (UL b l)).objs.size)))
    { s with heap:=(s.heap.push (UL b l)).push { cls:=.type "enumerate",data:=.fields #[.none,.bool aB,.ref s.heap.objs.size,gV 0,.none,.none] } }):=
 .of_wp λprog w A R s h=>by
  obtain⟨hp,g,d,tk,os⟩:=s;obtain⟨hl,h⟩:=h;have hsub:=sub_enumerate;obtain⟨o,ho⟩:=hl.has;have hL:SeqB b (lG ⟨hp,g,d,tk,os⟩) l items:=hl
  wp_walk using g8 ho
  refine wpAny_stack_any λst=>aw ?_;split
  ·rename_i c _ _ _ _ _;cases (c==lO "enumerate")
   ·wp_walk using g8 ho,YZ hL
    exact⟨_,rfl,h⟩
   ·wp_walk using g8 ho,YZ hL
    exact⟨_,rfl,h⟩
  ·wp_walk using g8 ho,YZ hL
   exact⟨_,rfl,h⟩
section
variable {prog:bN} {w:bu} {A:bt} {E:aI->aP->Prop} {s:aP}
theorem Nk{b:Bool}{l:aK}{items:Array aI}{Q:aI->aP->Prop}(hL:SeqB b s.heap l items)
  (h:∀h',IsEnum h' (s.heap.objs.size+1) s.heap.objs.size 0 .none->IterB b h' s.heap.objs.size l 0->h'.objs.size=s.heap.objs.size+2->
   (∀b o,s.heap.get? b=some o->h'.get? b=some o)->Q (.ref (s.heap.objs.size+1)) { s with heap:=h' }) :
  ay (model prog w) A (call (.type "enumerate") [.ref l]) Q E s:=by
 refine callType_new F.called_enumerate (by decide) (F.typeCall_enumerate_1 _) (F.newCall_enumerate_1 _) (λobj=>F.args_object_init_2 obj _) F.entry_enumerate_new
  (Pl b l items) ⟨hL,?_⟩
 have hz:(s.heap.push (UL b l)).objs.size=s.heap.objs.size+1:=cC ..;show _/\_;rw[hz]
 have he:IsEnum ((s.heap.push (UL b l)).push
   { cls:=.type "enumerate",data:=.fields #[.none,.bool aB,.ref s.heap.objs.size,gV 0,.none,.none] }) (s.heap.objs.size+1) s.heap.objs.size 0 .none:=by
  have:=ao (s.heap.push (UL b l))
   (o:={ cls:=.type "enumerate",data:=.fields #[.none,.bool aB,.ref s.heap.objs.size,gV 0,.none,.none] }) rfl
  rw[hz] at this;exact this
 refine⟨⟨_,he,rfl⟩,h _ he (IterB.new (aJ _ (ao _ rfl))) (by rw[cC,hz]) λb o x=>aJ _ (aJ _ x)⟩
end
noncomputable def Ite(b:Bool)(K:aG)(a:aK):It:=
  ⟨λi H=>∃xs x,Ng b K H a xs/\xs[i]?=some x,
   λi H v H'=>∃p x,H p=aA/\v = .ref p/\H'=upd H p (.tup [.int i,x])/\∀xs,Ng b K H a xs->xs[i]?=some x,
   λi H=>∃xs,Ng b K H a xs/\xs.length=i⟩
theorem Gk{P:bN}{w:bu}{K:aG}{elts:List bH}{k:Nat}{pos:da}(b:Bool)(a e it:aK)(hei:e≠it) :
  Lx P w K (.Tuple elts k pos) (Ite b K a) [e,it] e (λi h=>(∃old,IsEnum h e it i old)/\IterB b h it a i) where
 mem:=by simp
 obj:=λi h st c hc=>by
  rcases af.mp hc with rfl | hc
  ·obtain⟨⟨old,q⟩,_⟩:=st;exact⟨_,q,λv z=>by cases z⟩
  ·rw[aO.mp hc];exact st.2.has
 keep:=λi h h' st kk=>⟨let⟨old,q⟩:=st.1;⟨old,kk e (by simp) _ q⟩,st.2.at λo q=>kk it (by simp) o q⟩
 item:=by
  intro X hP hw hK hc i m4 s σ H E I hf st hg;subst hP hw hK;obtain⟨xs,x,hq,hx⟩:=hg;obtain⟨m9,rv,p,hz⟩:=I.seqB hq;obtain⟨u,hu,ru⟩:=rv.get hx;obtain⟨⟨old,he⟩,hit⟩:=st;have fe:=hf e (by simp);have fi:=hf it (by simp);obtain⟨oa,hoa⟩:=p.has;have tra:H a=aA->a<X.s₀.heap.objs.size\/True:=λ_=>.inr trivial
  -- the sequence is neither record
  have ne_of_fp:∀c,Uq X m4 H c->(∃oc,s.heap.get? c=some oc/\∃n vs,oc.cls = .type n/\oc.data = .fields vs)->a≠c:=λc _ ⟨oc,hoc,n,vs,hn,hv⟩ z=>by
   subst z;rw[hoa] at hoc;cases hoc
   cases b with
   | true=>obtain⟨o,e1,_,m,d⟩:=(show s.heap.IsList a m9.toArray from p);rw[hoa] at e1;cases e1;rw[hv] at d;cases d
   | false=>obtain⟨o,e1,_,m,d⟩:=(show s.heap.IsTuple a m9.toArray from p);rw[hoa] at e1;cases e1;rw[hv] at d;cases d
  have ae:a≠e:=ne_of_fp e fe ⟨_,he,_,_,rfl,rfl⟩
  have ai:a≠it:=ne_of_fp it fi (by
   cases b with
   | true=>obtain⟨o,e1,c1,d1⟩:=(show s.heap.IsListIter it a i from hit);exact⟨o,e1,_,_,c1,d1⟩
   | false=>obtain⟨o,e1,c1,d1⟩:=(show s.heap.IsTupleIter it a i from hit);exact⟨o,e1,_,_,c1,d1⟩)
  have D:=Draws.seq (prog:=X.prog) (w:=X.w) (A:=X.A.in1) b (I.ok.hd hc) it a ai m9.toArray;have hlt:i<m9.toArray.size:=by have:=(aU.mp hu).1;simpa using this
  refine wpAny_pyNext_enum_itemD D he ⟨hit,p⟩ hlt hei (by simp[hei,bO ae]) λy h' tk hPy ho hs' hT hsz hk=>?_
  have ey:y=u:=by
   have q1:m9.toArray[i]?=some y:=hPy;have q2:m9.toArray[i]?=some u:=by simpa using hu
   rw[q1] at q2;exact az q2
  subst ey;refine⟨_,rfl,wpAny_letOwnedTupleGo_enum ho λh2 he2 hs2=>?_⟩;have hs2:cL e h' h2:=hs2;have Tne:s.heap.objs.size≠e:=eO (aV he);have hTn:H s.heap.objs.size=aA:=I.hok.fresh (aZ _);have kk:∀c o,c∉[e,it]->s.heap.get? c=some o->h2.get? c=some o:=λc o hc' q=>hs2.extBut c o (λz=>hc' (by simp[z])) (hk c o (λz=>hc' (by simp[z])) (λz=>hc' (by simp[z])) q);have hT2:h2.get? s.heap.objs.size=some { cls:=.type "tuple",data:=.seq #[.int i tk,y] }:=hs2.extBut _ _ Tne hT;have hcs:∀c∈[e,it],(c∈X.ex\/X.s₀.heap.objs.size<=c)/\c≠X.env.locals/\(∀x d,X.env.cells.lookup x=some d->d≠c)/\∀p∈X.pn++m4,p.1≠c:=λc hc'=>by have f:=hf c hc';exact⟨f.2.2.2.1,f.2.1,f.2.2.2.2.1,f.2.2.2.2.2⟩
  have nfp:∀c u',H c=some u'->c∉[e,it]:=λc u' q hc'=>by rw[(hf c hc').1] at q;cases q
  have hok0:HOk X.prog X.w H h2:=λc u' q=>(I.hok c u' q).stay (λd v hd q'=>kk d v (by
    rcases hd with z | z
    ·rw[z];exact nfp c u' q
    ·exact nfp d _ z) q') (λ_ z=>z) (λ_ _ z=>z) λ_ _ z=>z
  have new:ObjOk X.prog X.w (upd H s.heap.objs.size (.tup [.int i,x])) h2 s.heap.objs.size (.tup [.int i,x]):=
   ⟨⟨by show 2<=sizeLine;decide,λo e=>by rw[hT2] at e;cases e;rfl⟩,[.int i tk,y],.cons ⟨tk,rfl⟩ (.cons ru .nil),⟨_,hT2,rfl,_,rfl⟩⟩
  have hok1:HOk X.prog X.w (upd H s.heap.objs.size (.tup [.int i,x])) h2:=λc u' q=>by
   by_cases hb:c=s.heap.objs.size
   ·subst hb;rw[Zp] at q;cases q;exact new
   ·rw[upd_ne hb] at q;exact(hok0 c u' q).stay (λd v _ q'=>q') (λd z=>by rw[upd_ne (Zr z hTn)];exact z) (λd zs z=>by rw[upd_ne (Zr z hTn)];exact z) λd u z=>by rw[upd_ne (Zr z hTn)];exact z
  have un:Un (Ni X.stack) [e,it] H (upd H s.heap.objs.size (.tup [.int i,x])) s.heap h2:=by
   refine⟨λc o q _ _ hx'=>kk c o hx' q,λc o q _ _ hx'=>⟨o.slots,kk c o hx' q⟩,λc o q n _=>?_,λc o q hx'=>⟨o,kk c o hx' q⟩,λc zs q=>?_,λc o zs q=>?_,λc ps q=>⟨#[],?_⟩⟩
   ·rw[upd_ne (bQ (aV q))];exact n
   ·rw[upd_ne (Zr q hTn)];exact q
   ·rw[upd_ne (Zr q hTn)];exact q
   ·rw[upd_ne (Zr q hTn),q];simp
  have I2:Inv X m4 σ (upd H s.heap.objs.size (.tup [.int i,x])) { s with heap:=h2,toks:=tk+1 }:=I.call (g':=s.gens) (d':=s.drawn) un hok1 I.bare hcs;refine⟨.ref s.heap.objs.size,upd H s.heap.objs.size (.tup [.int i,x]),I2,rfl,⟨_,x,hTn,rfl,rfl,λzs hzs=>by rw[I.seqB_inj hzs hq];exact hx⟩,⟨⟨y,by simpa using he2⟩,?_⟩,λc hc'=>?_⟩
  ·exact hs'.1.at λo q=>hs2.extBut it o (bO hei) q
  ·rw[upd_ne (bQ (by
    rcases af.mp hc' with rfl | hc'
    ·exact aV he
    ·rw[aO.mp hc'];obtain⟨o,q,_⟩:=hit.has;exact aV q))]
   exact(hf c hc').1
 done:=by
  intro X hP hw hK hc i m4 s σ H E I hf st hg;subst hP hw hK;obtain⟨xs,hq,hx⟩:=hg;obtain⟨m9,rv,p,hz⟩:=I.seqB hq;obtain⟨⟨old,he⟩,hit⟩:=st;have fi:=hf it (by simp);obtain⟨oa,hoa⟩:=p.has
  have ai:a≠it:=λz=>by
   subst z
   cases b with
   | true=>
    obtain⟨o,e1,_,m,d⟩:=(show s.heap.IsList a m9.toArray from p);obtain⟨o',e2,_,d2⟩:=(show s.heap.IsListIter a a i from hit);rw[e1] at e2;cases e2;rw[d] at d2;cases d2
   | false=>
    obtain⟨o,e1,_,m,d⟩:=(show s.heap.IsTuple a m9.toArray from p);obtain⟨o',e2,_,d2⟩:=(show s.heap.IsTupleIter a a i from hit);rw[e1] at e2;cases e2;rw[d] at d2;cases d2
  have D:=Draws.seq (prog:=X.prog) (w:=X.w) (A:=X.A.in1) b (I.ok.hd hc) it a ai m9.toArray;have hl:=rv.length;have hi:i=m9.toArray.size:=by simp;omega
  refine wpAny_pyNext_enum_endD D he (by rw[<-hi];exact⟨hit,p⟩) λh' hx'=>⟨rfl,?_⟩;obtain⟨f0,f1,f2,f3,f4,f5⟩:=fi;exact I.turned (t':=s.toks) (λc o hb q=>hx' c o hb q) f0 f1 f3 f4 f5
 self:=λA i s Q E st hQ=>by obtain⟨⟨old,he⟩,_⟩:=st;exact wpAny_pyIter_enum he hQ
end L2
namespace L2
open PySem PySem.Spec PyProof.Rows
section
variable {X:Cx}
noncomputable def Zdy(b:Bool)(K:aG)(ta:TA):TI:=λσ H R=>ta σ H λvs H1=>∃a,vs=[.ref a]/\(∃xs,Ng b K H1 a xs)/\R (Ite b K a) H1
theorem C9{elts:List bH}{k:Nat}{tpos:da}(b:Bool){a:bH}{ta:TA}{p pos:da}(hg:Gl X "enumerate")(hm:X.mg "enumerate" = aA)(ha:PA X [a] ta)(hs:aQ [a] X.env=[(aB,eval a X.env)]:=by rfl) :
  PI X (.Tuple elts k tpos) (.Call (.Name "enumerate" p) [a] [] pos) (Zdy b X.K ta):=by
 intro m4 s σ H R I h;refine Call_ (Up I hg hm (by decide +kernel:cS "enumerate" = some (.type "enumerate")) (cA (YO (ha pos m4 s σ H _ I h) λus s1 ⟨vs,H1,I1,r1,q1⟩=>?_) hs rfl));obtain⟨a,e,⟨xs,hq⟩,q⟩:=q1;subst e
 cases r1 with
 | cons r rr=>
  cases rr;cases r;obtain⟨m9,rv,hseq,hz⟩:=I1.seqB hq;refine Nk hseq λh' he hit hsz hk=>?_;refine wpAny_pyIter_enum he ?_;have I2:Inv X m4 σ H1 { s1 with heap:=h' }:=I1.kept (t':=s1.toks) hk;have ne:s1.heap.objs.size+1≠s1.heap.objs.size:=eO (eG _);refine⟨s1.heap.objs.size+1,[s1.heap.objs.size+1,s1.heap.objs.size],_,_,H1,rfl,I2,Gk b a (s1.heap.objs.size+1) s1.heap.objs.size ne,⟨⟨.none,he⟩,hit⟩,λc hc=>?_,q⟩;rcases af.mp hc with rfl | hc
  ·exact I1.fpOk (iQ _) (I1.hok.fresh (iQ _))
  ·rw[aO.mp hc];exact I1.fpOk (aZ _) (I1.hok.fresh (aZ _))
end
section
variable {prog:bN} {w:bu} {A:bt} {E:aI->aP->Prop} {s:aP}
structure NH(z TI TO i1 i2:aK)(fp1 fp2:List aK):Prop where
 TIz:TI≠z
 TOz:TO≠z
 i1z:i1≠z
 i2z:i2≠z
 TITO:TI≠TO
 TIi1:TI≠i1
 TIi2:TI≠i2
 TOi1:TO≠i1
 TOi2:TO≠i2
 i12:i1≠i2
 z1:z∉fp1
 TO1:TO∉fp1
 i21:i2∉fp1
 z2:z∉fp2
 TO2:TO∉fp2
 i12':i1∉fp2
theorem F8{z TI TO i1 i2:aK}{fp1 fp2:List aK}{n1 n2 k:Nat}{P1 P2:Nat->aI->Prop}{St1 St2:Nat->b9->Prop}{a b:aI}{Q:aI->aP->Prop}(D:NH z TI TO i1 i2 fp1 fp2)
  (D1:Draws prog w A i1 fp1 n1 P1 St1) (D2:Draws prog w A i2 fp2 n2 P2 St2)
  (hz:iH s.heap z TI TO .none) (hTI:dz s.heap TI (.ref i1) (.ref i2)) (hTO:dz s.heap TO a b)
  (h1:St1 k s.heap) (h2:St2 k s.heap) (hx:k<n1) (hy:k<n2)
  (hQ:∀x y h' tk,P1 k x->P2 k y->iH h' z TI TO (gV s.heap.objs.size)->dz h' TO x y->St1 (k+1) h'->St2 (k+1) h'->dz h' s.heap.objs.size x y->h'.objs.size=s.heap.objs.size+1->
   (∀c o,c≠z->c≠TO->c≠i1->c≠i2->s.heap.get? c=some o->h'.get? c=some o)->Q (.ref s.heap.objs.size) { s with heap:=h',toks:=tk }) :
  ay (model prog w) A (jw.«zip.__next__» ⟨[.ref z],[]⟩) (λfin s'=>∃v,fin = .done (.ret v)/\Q v s') E s:=by
 show ay _ _ (field (.ref z) 2 >>= _) _ _ _;refine aM (cT hz rfl (x:=.bool aB) rfl ?_);show ay _ _ (field (.ref z) 3 >>= _) _ _ _;refine aM (cT hz rfl (x:=.ref TI) rfl ?_);refine aM (dW hTI rfl ?_);show ay _ _ (cY (.ref z) >>= _) _ _ _;refine aM ?_;unfold cY;refine aM (cT hz rfl (x:=.none) rfl (aw ?_));simp only[if_true];refine aM (l8 ?_);refine aM (cT hz rfl (x:=.ref TO) rfl ?_);refine aM (dX hz (by simp) λh₁ hz₁ hs₁=>?_)
 replace hz₁:iH h₁ z TI TO .ellipsis:=hz₁
 refine aM ?_;simp only[kn,lI,jW,jd];refine aM (aM (iV ?_));show ay _ _ (br (.ref i1) >>= _) _ _ _;have st1:St1 k h₁:=D1.frame _ _ _ h1 λc hc o e=>hs₁.extBut c o (λq=>D.z1 (q▸hc)) e;refine aM (D1.item k _ _ _ hx st1 λx h₂ tk₂ hPx h1₂ hs₂=>aw ?_)
 replace hs₂:cL i1 h₁ h₂:=hs₂
 have hTO₂:dz h₂ TO a b:=hs₂.extBut _ _ D.TOi1 (hs₁.extBut _ _ D.TOz hTO);refine aM (dW hTO₂ rfl ?_);refine aM (gZ hTO₂ λh₃ hTO₃ hs₃=>?_)
 replace hTO₃:dz h₃ TO x b:=hTO₃
 replace hs₃:cL TO h₂ h₃:=hs₃
 refine aM (lH (aw ?_));refine aM (aM (iV ?_));show ay _ _ (br (.ref i2) >>= _) _ _ _;have st2:St2 k h₃:=D2.frame _ _ _ h2 λc hc o e=>hs₃.extBut c o (λq=>D.TO2 (q▸hc)) (hs₂.extBut c o (λq=>D.i12' (q▸hc)) (hs₁.extBut c o (λq=>D.z2 (q▸hc)) e));refine aM (D2.item k _ _ _ hy st2 λy h₄ tk₄ hPy h2₄ hs₄=>aw ?_)
 replace hs₄:cL i2 h₃ h₄:=hs₄
 have hTO₄:dz h₄ TO x b:=hs₄.extBut _ _ D.TOi2 hTO₃;refine aM (dW hTO₄ rfl ?_);refine aM (gZ hTO₄ λh₅ hTO₅ hs₅=>?_)
 replace hTO₅:dz h₅ TO x y:=hTO₅
 replace hs₅:cL TO h₄ h₅:=hs₅
 refine aM (lH (aw (aw ?_)));refine aM (dW hTO₅ rfl ?_);refine aM (wpAny_newTuple ?_);have hsz:h₅.objs.size=s.heap.objs.size:=by rw[hs₅.1,hs₄.1,hs₃.1,hs₂.1,hs₁.1]
 have hz₅:iH h₅ z TI TO .ellipsis:=hs₅.extBut _ _ D.TOz.symm (hs₄.extBut _ _ D.i2z.symm (hs₃.extBut _ _ D.TOz.symm (hs₂.extBut _ _ D.i1z.symm hz₁)))
 have hk₅:∀c o,c≠z->c≠TO->c≠i1->c≠i2->s.heap.get? c=some o->h₅.get? c=some o:=λc o c1 c2 c3 c4 e=>
  hs₅.extBut _ _ c2 (hs₄.extBut _ _ c4 (hs₃.extBut _ _ c2 (hs₂.extBut _ _ c3 (hs₁.extBut _ _ c1 e))))
 have h1₅:St1 (k+1) h₅:=D1.frame _ _ _ h1₂ λc hc o e=>hs₅.extBut c o (λq=>D.TO1 (q▸hc)) (hs₄.extBut c o (λq=>D.i21 (q▸hc)) (hs₃.extBut c o (λq=>D.TO1 (q▸hc)) e));have h2₅:St2 (k+1) h₅:=D2.frame _ _ _ h2₄ λc hc o e=>hs₅.extBut c o (λq=>D.TO2 (q▸hc)) e;have hzlt:z<h₅.objs.size:=aV hz₅;have hTOlt:TO<h₅.objs.size:=aV hTO₅;show ay _ _ (fS (.ref z) (.ref h₅.objs.size) >>= _) _ _ _;refine aM ?_;unfold fS;have hz₆:iH (h₅.push { cls:=.type "tuple",data:=.seq #[x,y] }) z TI TO .ellipsis:=aJ _ hz₅;refine aM (dX hz₆ (by simp) λh₇ hz₇ hs₇=>?_)
 replace hz₇:iH h₇ z TI TO (gV h₅.objs.size):=hz₇
 refine dX hz₇ (by simp) λh₈ hz₈ hs₈=>?_
 replace hz₈:iH h₈ z TI TO (gV h₅.objs.size):=hz₈
 have up:∀c o,c≠z->h₅.get? c=some o->h₈.get? c=some o:=λc o c1 e=>hs₈.extBut _ _ c1 (hs₇.extBut _ _ c1 (aJ _ e));have hT₈:dz h₈ h₅.objs.size x y:=hs₈.extBut _ _ (eO hzlt) (hs₇.extBut _ _ (eO hzlt) (ao _ rfl));have hz8:h₈.objs.size=h₅.objs.size+1:=by rw[hs₈.1,hs₇.1,cC]
 rw[hsz] at hz₈ hT₈ hz8;refine aw ⟨_,rfl,?_⟩;show Q (.ref h₅.objs.size) _;rw[hsz];exact hQ x y h₈ tk₄ hPx hPy hz₈ (up _ _ D.TOz hTO₅) (D1.frame _ _ _ h1₅ λc hc o e=>up c o (λq=>D.z1 (q▸hc)) e) (D2.frame _ _ _ h2₅ λc hc o e=>up c o (λq=>D.z2 (q▸hc)) e) hT₈ hz8 λc o c1 c2 c3 c4 e=>up c o c1 (hk₅ c o c1 c2 c3 c4 e)
theorem Ba{z TI TO i1 i2:aK}{fp1 fp2:List aK}{n1 n2 k:Nat}{P1 P2:Nat->aI->Prop}{St1 St2:Nat->b9->Prop}{a b:aI}{Q:PySem.Fin->aP->Prop}(D:NH z TI TO i1 i2 fp1 fp2)
  (D1:Draws prog w A i1 fp1 n1 P1 St1) (D2:Draws prog w A i2 fp2 n2 P2 St2)
  (hz:iH s.heap z TI TO .none) (hTI:dz s.heap TI (.ref i1) (.ref i2)) (hTO:dz s.heap TO a b)
  (h1:St1 k s.heap) (h2:St2 k s.heap) (hend:k=n1\/(k<n1/\k=n2))
  (hE:∀h' tk e,(∀c o,c≠z->c≠TO->c≠i1->c≠i2->s.heap.get? c=some o->h'.get? c=some o)->(∃o,h'.get? e=some o/\o.cls = .type "StopIteration")->E (.ref e) { s with heap:=h',toks:=tk }) :
  ay (model prog w) A (jw.«zip.__next__» ⟨[.ref z],[]⟩) Q E s:=by
 show ay _ _ (field (.ref z) 2 >>= _) _ _ _;refine aM (cT hz rfl (x:=.bool aB) rfl ?_);show ay _ _ (field (.ref z) 3 >>= _) _ _ _;refine aM (cT hz rfl (x:=.ref TI) rfl ?_);refine aM (dW hTI rfl ?_);show ay _ _ (cY (.ref z) >>= _) _ _ _;refine aM ?_;unfold cY;refine aM (cT hz rfl (x:=.none) rfl (aw ?_));simp only[if_true];refine aM (l8 ?_);refine aM (cT hz rfl (x:=.ref TO) rfl ?_);refine aM (dX hz (by simp) λh₁ hz₁ hs₁=>?_)
 replace hz₁:iH h₁ z TI TO .ellipsis:=hz₁
 replace hs₁:cL z s.heap h₁:=hs₁
 refine aM ?_;simp only[kn,lI,jW,jd];refine aM (aM (iV ?_));show ay _ _ (br (.ref i1) >>= _) _ _ _;have st1:St1 k h₁:=D1.frame _ _ _ h1 λc hc o e=>hs₁.extBut c o (λq=>D.z1 (q▸hc)) e;rcases hend with hk | ⟨hx,hk⟩
 ·rw[hk] at st1;refine aM (D1.done _ _ _ st1 λh₂ e hs₂ he=>?_)
  replace hs₂:lE i1 h₁ h₂:=hs₂
  obtain⟨oe,hoe,hce⟩:=he;have hz₂:iH h₂ z TI TO .ellipsis:=hs₂ _ _ D.i1z.symm hz₁;have hez:e≠z:=λx=>by subst x;rw[hz₂] at hoe;cases hoe;simp at hce
  refine dX hz₂ (by simp) λh₃ _ hs₃=>?_
  replace hs₃:cL z h₂ h₃:=hs₃
  exact hE h₃ _ e (λc o c1 _ c3 _ x=>hs₃.extBut _ _ c1 (hs₂ _ _ c3 (hs₁.extBut _ _ c1 x))) ⟨oe,hs₃.extBut _ _ hez hoe,hce⟩
 ·refine aM (D1.item k _ _ _ hx st1 λx h₂ tk₂ hPx h1₂ hs₂=>aw ?_)
  replace hs₂:cL i1 h₁ h₂:=hs₂
  have hTO₂:dz h₂ TO a b:=hs₂.extBut _ _ D.TOi1 (hs₁.extBut _ _ D.TOz hTO);refine aM (dW hTO₂ rfl ?_);refine aM (gZ hTO₂ λh₃ hTO₃ hs₃=>?_)
  replace hs₃:cL TO h₂ h₃:=hs₃
  refine aM (lH (aw ?_));refine aM (aM (iV ?_));show ay _ _ (br (.ref i2) >>= _) _ _ _;have st2:St2 k h₃:=D2.frame _ _ _ h2 λc hc o e=>hs₃.extBut c o (λq=>D.TO2 (q▸hc)) (hs₂.extBut c o (λq=>D.i12' (q▸hc)) (hs₁.extBut c o (λq=>D.z2 (q▸hc)) e));rw[hk] at st2;refine aM (D2.done _ _ _ st2 λh₄ e hs₄ he=>?_)
  replace hs₄:lE i2 h₃ h₄:=hs₄
  obtain⟨oe,hoe,hce⟩:=he;have hz₄:iH h₄ z TI TO .ellipsis:=hs₄ _ _ D.i2z.symm (hs₃.extBut _ _ D.TOz.symm (hs₂.extBut _ _ D.i1z.symm hz₁));have hez:e≠z:=λx=>by subst x;rw[hz₄] at hoe;cases hoe;simp at hce
  refine dX hz₄ (by simp) λh₅ _ hs₅=>?_
  replace hs₅:cL z h₄ h₅:=hs₅
  exact hE h₅ _ e (λc o c1 c2 c3 c4 x=>hs₅.extBut _ _ c1 (hs₄ _ _ c4 (hs₃.extBut _ _ c2 (hs₂.extBut _ _ c3 (hs₁.extBut _ _ c1 x))))) ⟨oe,hs₅.extBut _ _ hez hoe,hce⟩
theorem QE{z TI TO i1 i2:aK}{fp1 fp2:List aK}{n1 n2 k:Nat}{P1 P2:Nat->aI->Prop}{St1 St2:Nat->b9->Prop}{a b:aI}{Q:Option aI->aP->Prop}(D:NH z TI TO i1 i2 fp1 fp2)
  (D1:Draws prog w A.in1 i1 fp1 n1 P1 St1) (D2:Draws prog w A.in1 i2 fp2 n2 P2 St2)
  (hz:iH s.heap z TI TO .none) (hTI:dz s.heap TI (.ref i1) (.ref i2)) (hTO:dz s.heap TO a b)
  (h1:St1 k s.heap) (h2:St2 k s.heap) (hx:k<n1) (hy:k<n2)
  (hQ:∀x y h' tk,P1 k x->P2 k y->iH h' z TI TO (gV s.heap.objs.size)->dz h' TO x y->St1 (k+1) h'->St2 (k+1) h'->dz h' s.heap.objs.size x y->h'.objs.size=s.heap.objs.size+1->
   (∀c o,c≠z->c≠TO->c≠i1->c≠i2->s.heap.get? c=some o->h'.get? c=some o)->Q (some (.ref s.heap.objs.size)) { s with heap:=h',toks:=tk }) :
  ay (model prog w) A (ke (.ref z)) Q E s:=by
 have hT:s.TypeIs (.ref z) "zip":=⟨_,hz,rfl⟩;unfold ke
 exact aM (wpAny_attempt (dG (name:=gp "__next__") hT F.slot_zip_next
  (fH F.slot_zip_next hT F.entry_zip_next
   (F8 D D1 D2 hz hTI hTO h1 h2 hx hy λx y h' tk p1 p2 a1 a2 a3 a4 a5 a6 a7=>aw (hQ x y h' tk p1 p2 a1 a2 a3 a4 a5 a6 a7)) (F.args_zip_next_1 _))))
theorem Pm{z TI TO i1 i2:aK}{fp1 fp2:List aK}{n1 n2 k:Nat}{P1 P2:Nat->aI->Prop}{St1 St2:Nat->b9->Prop}{a b:aI}{Q:Option aI->aP->Prop}(D:NH z TI TO i1 i2 fp1 fp2)
  (D1:Draws prog w A.in1 i1 fp1 n1 P1 St1) (D2:Draws prog w A.in1 i2 fp2 n2 P2 St2)
  (hz:iH s.heap z TI TO .none) (hTI:dz s.heap TI (.ref i1) (.ref i2)) (hTO:dz s.heap TO a b)
  (h1:St1 k s.heap) (h2:St2 k s.heap) (hend:k=n1\/(k<n1/\k=n2))
  (hQ:∀h' tk,(∀c o,c≠z->c≠TO->c≠i1->c≠i2->s.heap.get? c=some o->h'.get? c=some o)->Q aA { s with heap:=h',toks:=tk }):ay (model prog w) A (ke (.ref z)) Q E s:=by
 have hT:s.TypeIs (.ref z) "zip":=⟨_,hz,rfl⟩;unfold ke
 refine aM (wpAny_attempt (dG (name:=gp "__next__") hT F.slot_zip_next
  (fH F.slot_zip_next hT F.entry_zip_next (Ba D D1 D2 hz hTI hTO h1 h2 hend λh' tk e hk he=>?_) (F.args_zip_next_1 _))))
 obtain⟨o,ho,hc⟩:=he;refine aM (wpAny_isInstance (T:="StopIteration") (b:=aC) ⟨o,ho,hc⟩ isSubtype_stop ?_);exact aw (hQ _ tk hk)
end
abbrev zq1(h:b9)(b1:Bool)(l1:aK):b9:=h.push (UL b1 l1)
abbrev zq2(h:b9)(b1 b2:Bool)(l1 l2:aK):b9:=(zq1 h b1 l1).push (UL b2 l2)
abbrev zq3(h:b9)(b1 b2:Bool)(l1 l2:aK):b9:=(zq2 h b1 b2 l1 l2).push { cls:=.type "tuple",data:=.seq #[.ref h.objs.size,.ref (zq1 h b1 l1).objs.size] }
abbrev zq4(h:b9)(b1 b2:Bool)(l1 l2:aK):b9:=(zq3 h b1 b2 l1 l2).push { cls:=.type "tuple",data:=.seq #[.none,.none] }
abbrev zq5(h:b9)(b1 b2:Bool)(l1 l2:aK):b9:=(zq4 h b1 b2 l1 l2).push { cls:=.type "zip",data:=.fields #[.none,.bool aB,.bool aB,.ref (zq2 h b1 b2 l1 l2).objs.size,.ref (zq3 h b1 b2 l1 l2).objs.size] }
theorem Nl(b1 b2:Bool)(l1 l2:aK)(xs ys:Array aI) :
  Meets (jw.«zip.__new__» ⟨[.type "zip",.ref l1,.ref l2],[]⟩) (λ_ R s=>SeqB b1 s.heap l1 xs/\SeqB b2 s.heap l2 ys/\
   R (.ok (.ret (.ref (zq4 s.heap b1 b2 l1 l2).objs.size))) { s with heap:=zq5 s.heap b1 b2 l1 l2 }):=
 .of_wp λprog w A R s h=>by
  obtain⟨hp,g,d,tk,os⟩:=s;obtain⟨hl1,hl2,h⟩:=h;have hsub:=sub_zip;have hL1:SeqB b1 (lG ⟨hp,g,d,tk,os⟩) l1 xs:=hl1;have hL2:SeqB b2 (lG ⟨hp.push (UL b1 l1),g,d,tk,os⟩) l2 ys:=hl2.at λo e=>aJ _ e
  wp_walk using YZ hL1,YZ hL2
  exact⟨_,rfl,h⟩
section
variable {prog:bN} {w:bu} {A:bt} {E:aI->aP->Prop} {s:aP}
theorem Ml{b1 b2:Bool}{l1 l2:aK}{xs ys:Array aI}{Q:aI->aP->Prop}(hl1:SeqB b1 s.heap l1 xs)(hl2:SeqB b2 s.heap l2 ys)
  (h:∀h',iH h' (s.heap.objs.size+4) (s.heap.objs.size+2) (s.heap.objs.size+3) .none->dz h' (s.heap.objs.size+2) (.ref s.heap.objs.size) (.ref (s.heap.objs.size+1))->
   dz h' (s.heap.objs.size+3) .none .none->IterB b1 h' s.heap.objs.size l1 0->IterB b2 h' (s.heap.objs.size+1) l2 0->h'.objs.size=s.heap.objs.size+5->
   (∀c o,s.heap.get? c=some o->h'.get? c=some o)->Q (.ref (s.heap.objs.size+4)) { s with heap:=h' }) :
  ay (model prog w) A (call (.type "zip") [.ref l1,.ref l2]) Q E s:=by
 refine callType_new F.called_zip (by decide) (F.typeCall_zip_2 _ _) (F.newCall_zip_2 _ _) (λobj=>F.args_object_init_3 obj _ _) F.entry_zip_new
  (Nl b1 b2 l1 l2 xs ys) ⟨hl1,hl2,?_⟩
 have z1:(zq1 s.heap b1 l1).objs.size=s.heap.objs.size+1:=cC ..;have z2:(zq2 s.heap b1 b2 l1 l2).objs.size=s.heap.objs.size+2:=by rw[cC,z1]
 have z3:(zq3 s.heap b1 b2 l1 l2).objs.size=s.heap.objs.size+3:=by rw[cC,z2]
 have z4:(zq4 s.heap b1 b2 l1 l2).objs.size=s.heap.objs.size+4:=by rw[cC,z3]
 have z5:(zq5 s.heap b1 b2 l1 l2).objs.size=s.heap.objs.size+5:=by rw[cC,z4]
 have g5:(zq5 s.heap b1 b2 l1 l2).get? (zq4 s.heap b1 b2 l1 l2).objs.size=some _:=ao _ rfl;have g4:(zq5 s.heap b1 b2 l1 l2).get? (zq3 s.heap b1 b2 l1 l2).objs.size=some _:=aJ _ (ao _ rfl);have g3:(zq5 s.heap b1 b2 l1 l2).get? (zq2 s.heap b1 b2 l1 l2).objs.size=some _:=aJ _ (aJ _ (ao _ rfl));have g2:(zq5 s.heap b1 b2 l1 l2).get? (zq1 s.heap b1 l1).objs.size=some (UL b2 l2):=aJ _ (aJ _ (aJ _ (ao _ rfl)));have g1:(zq5 s.heap b1 b2 l1 l2).get? s.heap.objs.size=some (UL b1 l1):=aJ _ (aJ _ (aJ _ (aJ _ (ao _ rfl))));show _/\_;rw[z2,z3,z4] at g5;rw[z1,z2] at g3;rw[z3] at g4;rw[z1] at g2;rw[z4]
 exact⟨⟨_,g5,rfl⟩,h _ g5 g3 g4 (IterB.new g1) (IterB.new g2) z5 λc o x=>
  aJ _ (aJ _ (aJ _ (aJ _ (aJ _ x))))⟩
end
theorem Inv.newTup{X:Cx}{m4:List (aK×cx)}{σ:St}{H:Hp}{s:aP}{fp:List aK}{h2:b9}{tk n:Nat}{us:List aI}{xs:List V}(I:Inv X m4 σ H s)(hf:∀b∈fp,Uq X m4 H b)
  (kk:∀c o,c∉fp->s.heap.get? c=some o->h2.get? c=some o) (hT:h2.get? s.heap.objs.size=some { cls:=.type "tuple",data:=.seq us.toArray n }) (rv:Vals xs us) (hz:xs.length<=sizeLine) :
  Inv X m4 σ (upd H s.heap.objs.size (.tup xs)) { s with heap:=h2,toks:=tk }:=by
 have hTn:H s.heap.objs.size=aA:=I.hok.fresh (aZ _);have hcs:∀c∈fp,(c∈X.ex\/X.s₀.heap.objs.size<=c)/\c≠X.env.locals/\(∀x d,X.env.cells.lookup x=some d->d≠c)/\∀p∈X.pn++m4,p.1≠c:=λc hc'=>by have f:=hf c hc';exact⟨f.2.2.2.1,f.2.1,f.2.2.2.2.1,f.2.2.2.2.2⟩
 have nfp:∀c u',H c=some u'->c∉fp:=λc u' q hc'=>by rw[(hf c hc').1] at q;cases q
 have hok0:HOk X.prog X.w H h2:=λc u' q=>(I.hok c u' q).stay (λd v hd q'=>kk d v (by
   rcases hd with z | z
   ·rw[z];exact nfp c u' q
   ·exact nfp d _ z) q') (λ_ z=>z) (λ_ _ z=>z) λ_ _ z=>z
 have new:ObjOk X.prog X.w (upd H s.heap.objs.size (.tup xs)) h2 s.heap.objs.size (.tup xs):=
  ⟨⟨hz,λo e=>by rw[hT] at e;cases e;rfl⟩,us,rv,⟨_,hT,rfl,_,rfl⟩⟩
 have hok1:HOk X.prog X.w (upd H s.heap.objs.size (.tup xs)) h2:=λc u' q=>by
  by_cases hb:c=s.heap.objs.size
  ·subst hb;rw[Zp] at q;cases q;exact new
  ·rw[upd_ne hb] at q;exact(hok0 c u' q).stay (λd v _ q'=>q') (λd z=>by rw[upd_ne (Zr z hTn)];exact z) (λd zs z=>by rw[upd_ne (Zr z hTn)];exact z) λd u z=>by rw[upd_ne (Zr z hTn)];exact z
 have un:Un (Ni X.stack) fp H (upd H s.heap.objs.size (.tup xs)) s.heap h2:=by
  refine⟨λc o q _ _ hx'=>kk c o hx' q,λc o q _ _ hx'=>⟨o.slots,kk c o hx' q⟩,λc o q n _=>?_,λc o q hx'=>⟨o,kk c o hx' q⟩,λc zs q=>?_,λc o zs q=>?_,λc ps q=>⟨#[],?_⟩⟩
  ·rw[upd_ne (bQ (aV q))];exact n
  ·rw[upd_ne (Zr q hTn)];exact q
  ·rw[upd_ne (Zr q hTn)];exact q
  ·rw[upd_ne (Zr q hTn),q];simp
 exact I.call (g':=s.gens) (d':=s.drawn) un hok1 I.bare hcs
theorem Inv.turnedL{X:Cx}{m4:List (aK×cx)}{σ:St}{H:Hp}{s:aP}{fp:List aK}{h2:b9}{tk:Nat}(I:Inv X m4 σ H s)(hf:∀b∈fp,Uq X m4 H b)
  (kk:∀c o,c∉fp->s.heap.get? c=some o->h2.get? c=some o):Inv X m4 σ H { s with heap:=h2,toks:=tk }:=by
 have hcs:∀c∈fp,(c∈X.ex\/X.s₀.heap.objs.size<=c)/\c≠X.env.locals/\(∀x d,X.env.cells.lookup x=some d->d≠c)/\∀p∈X.pn++m4,p.1≠c:=λc hc'=>by have f:=hf c hc';exact⟨f.2.2.2.1,f.2.1,f.2.2.2.2.1,f.2.2.2.2.2⟩
 have nfp:∀c u',H c=some u'->c∉fp:=λc u' q hc'=>by rw[(hf c hc').1] at q;cases q
 have hok0:HOk X.prog X.w H h2:=λc u' q=>(I.hok c u' q).stay (λd v hd q'=>kk d v (by
   rcases hd with z | z
   ·rw[z];exact nfp c u' q
   ·exact nfp d _ z) q') (λ_ z=>z) (λ_ _ z=>z) λ_ _ z=>z
 have un:Un (Ni X.stack) fp H H s.heap h2:=
  ⟨λc o q _ _ hx'=>kk c o hx' q,λc o q _ _ hx'=>⟨o.slots,kk c o hx' q⟩,λc o q n _=>n,λc o q hx'=>⟨o,kk c o hx' q⟩,λc zs q=>q,λc o zs q=>q,λc ps q=>⟨#[],by rw[q];simp⟩⟩
 exact I.call (g':=s.gens) (d':=s.drawn) un hok0 I.bare hcs
theorem SeqB.ne_rec{b:Bool}{h:b9}{a c:aK}{m9:Array aI}{o:cx}{vs:Array aI}(p:SeqB b h a m9)(e:h.get? c=some o)(d:o.data = .fields vs):a≠c:=λz=>by
 subst z
 cases b with
 | true=>obtain⟨o',e1,_,m,d'⟩:=(show h.IsList a m9 from p);rw[e] at e1;cases e1;rw[d] at d';cases d'
 | false=>obtain⟨o',e1,_,m,d'⟩:=(show h.IsTuple a m9 from p);rw[e] at e1;cases e1;rw[d] at d';cases d'
theorem IterB.rec{b:Bool}{h:b9}{it a:aK}{i:Nat}(x:IterB b h it a i):∃o,h.get? it=some o/\∃vs,o.data = .fields vs:=by
 cases b with
 | true=>obtain⟨o,e,_,d⟩:=(show h.IsListIter it a i from x);exact⟨o,e,_,d⟩
 | false=>obtain⟨o,e,_,d⟩:=(show h.IsTupleIter it a i from x);exact⟨o,e,_,d⟩
structure Za8(a1 a2 TO TI:aK):Prop where
 a:a1≠TO
 b:a2≠TO
 c:a1≠TI
 d:a2≠TI
noncomputable def Itz(b1 b2:Bool)(K:aG)(a1 a2:aK):It:=
  ⟨λi H=>∃xs ys x y,Ng b1 K H a1 xs/\Ng b2 K H a2 ys/\xs[i]?=some x/\ys[i]?=some y,
   λi H v H'=>∃p x y,H p=aA/\v = .ref p/\H'=upd H p (.tup [x,y])/\(∀xs,Ng b1 K H a1 xs->xs[i]?=some x)/\∀ys,Ng b2 K H a2 ys->ys[i]?=some y,
   λi H=>∃xs ys,Ng b1 K H a1 xs/\Ng b2 K H a2 ys/\(i=xs.length\/(i<xs.length/\i=ys.length))⟩
theorem F9{P:bN}{w:bu}{K:aG}{elts:List bH}{k:Nat}{pos:da}(b1 b2:Bool)(a1 a2 z TI TO i1 i2:aK)(d:[z,TI,TO,i1,i2].Nodup) :
  Lx P w K (.Tuple elts k pos) (Itz b1 b2 K a1 a2) [z,TI,TO,i1,i2] z
   (λi h=>iH h z TI TO .none/\dz h TI (.ref i1) (.ref i2)/\(∃u v,dz h TO u v/\Za8 a1 a2 TO TI)/\IterB b1 h i1 a1 i/\IterB b2 h i2 a2 i) where
 mem:=by simp
 obj:=λi h st c hc=>by
  obtain⟨hz,hTI,⟨u,v,hTO,_⟩,h1,h2⟩:=st;simp only[af,cD,or_false] at hc;rcases hc with rfl | rfl | rfl | rfl | rfl
  ·exact⟨_,hz,λv q=>by cases q⟩
  ·exact⟨_,hTI,λv q=>by cases q⟩
  ·exact⟨_,hTO,λv q=>by cases q⟩
  ·exact h1.has
  ·exact h2.has
 keep:=λi h h' st kk=>by obtain⟨hz,hTI,⟨u,v,hTO,f⟩,h1,h2⟩:=st;exact⟨kk z (by simp) _ hz,kk TI (by simp) _ hTI,⟨u,v,kk TO (by simp) _ hTO,f⟩,h1.at λo q=>kk i1 (by simp) o q,h2.at λo q=>kk i2 (by simp) o q⟩
 item:=by
  intro X hP hw hK hc i m4 s σ H E I hf st hg;subst hP hw hK;obtain⟨xs,ys,x,y,hq1,hq2,hx,hy⟩:=hg;obtain⟨its1,rv1,p1,hz1⟩:=I.seqB hq1;obtain⟨its2,rv2,p2,hz2⟩:=I.seqB hq2;obtain⟨u,hu,ru⟩:=rv1.get hx;obtain⟨v,hv,rv⟩:=rv2.get hy;obtain⟨hz,hTI,⟨q1,q2,hTO,f⟩,h1,h2⟩:=st;obtain⟨o1,e1,vs1,d1⟩:=h1.rec;obtain⟨o2,e2,vs2,d2⟩:=h2.rec;have A1z:a1≠z:=p1.ne_rec hz rfl;have A2z:a2≠z:=p2.ne_rec hz rfl;have A11:a1≠i1:=p1.ne_rec e1 d1;have A12:a1≠i2:=p1.ne_rec e2 d2;have A21:a2≠i1:=p2.ne_rec e1 d1;have A22:a2≠i2:=p2.ne_rec e2 d2;simp only[bG,af,cD,or_false,not_or,cE,and_true,not_false_eq_true] at d;obtain⟨⟨dzTI,dzTO,dz1,dz2⟩,⟨dIO,dI1,dI2⟩,⟨dO1,dO2⟩,d12⟩:=d;obtain⟨f1,f2,f3,f4⟩:=f;have D:NH z TI TO i1 i2 [i1,a1] [i2,a2]:=⟨bO dzTI,bO dzTO,bO dz1,bO dz2,dIO,dI1,dI2,dO1,dO2,d12,by simp[dz1,bO A1z],by simp[dO1,bO f1],by simp[bO d12,bO A12],by simp[dz2,bO A2z],by simp[dO2,bO f2],by simp[d12,bO A21]⟩;have D1:=Draws.seq (prog:=X.prog) (w:=X.w) (A:=X.A.in1) b1 (I.ok.hd hc) i1 a1 A11 its1.toArray;have D2:=Draws.seq (prog:=X.prog) (w:=X.w) (A:=X.A.in1) b2 (I.ok.hd hc) i2 a2 A22 its2.toArray;have l1:i<its1.toArray.size:=by simpa using(aU.mp hu).1
  have l2:i<its2.toArray.size:=by simpa using(aU.mp hv).1
  refine QE D D1 D2 hz hTI hTO ⟨h1,p1⟩ ⟨h2,p2⟩ l1 l2 λx' y' h' tk hPx hPy c1 c2 c3 c4 c5 c6 hk=>?_
  have ex':x'=u:=by
   have w1:its1.toArray[i]?=some x':=hPx;have w2:its1.toArray[i]?=some u:=by simpa using hu
   rw[w1] at w2;exact az w2
  have ey':y'=v:=by
   have w1:its2.toArray[i]?=some y':=hPy;have w2:its2.toArray[i]?=some v:=by simpa using hv
   rw[w1] at w2;exact az w2
  subst ex' ey';refine⟨_,rfl,wpAny_letOwnedTupleGo_zip c1 λh3 hz3 hs3=>?_⟩
  replace hs3:cL z h' h3:=hs3
  have kk:∀c o,c∉[z,TI,TO,i1,i2]->s.heap.get? c=some o->h3.get? c=some o:=λc o hc' q=>
   hs3.extBut c o (λe=>hc' (by simp[e])) (hk c o (λe=>hc' (by simp[e])) (λe=>hc' (by simp[e])) (λe=>hc' (by simp[e])) (λe=>hc' (by simp[e])) q)
  have hTn:H s.heap.objs.size=aA:=I.hok.fresh (aZ _);have hT3:h3.get? s.heap.objs.size=some { cls:=.type "tuple",data:=.seq [x',y'].toArray }:=hs3.extBut _ _ (eO (aV hz)) c5;have I2:=I.newTup (tk:=tk) hf kk hT3 (.cons ru (.cons rv .nil)) (by show 2<=sizeLine;decide);refine⟨.ref s.heap.objs.size,_,I2,rfl,⟨_,x,y,hTn,rfl,rfl,λzs hzs=>by rw[I.seqB_inj hzs hq1];exact hx,λzs hzs=>by rw[I.seqB_inj hzs hq2];exact hy⟩,⟨hz3,hs3.extBut _ _ (bO dzTI) (hk _ _ (bO dzTI) dIO dI1 dI2 hTI),⟨_,_,hs3.extBut _ _ (bO dzTO) c2,f1,f2,f3,f4⟩,c3.1.at λo q=>hs3.extBut _ o (bO dz1) q,c4.1.at λo q=>hs3.extBut _ o (bO dz2) q⟩,λc hc'=>?_⟩;rw[upd_ne (bQ ?_)]
  ·exact(hf c hc').1
  ·simp only[af,cD,or_false] at hc';rcases hc' with rfl | rfl | rfl | rfl | rfl
   ·exact aV hz
   ·exact aV hTI
   ·exact aV hTO
   ·exact aV e1
   ·exact aV e2
 done:=by intro X hP hw hK hc i m4 s σ H E I hf st hg;subst hP hw hK;obtain⟨xs,ys,hq1,hq2,hx⟩:=hg;obtain⟨its1,rv1,p1,hz1⟩:=I.seqB hq1;obtain⟨its2,rv2,p2,hz2⟩:=I.seqB hq2;obtain⟨hz,hTI,⟨q1,q2,hTO,f⟩,h1,h2⟩:=st;obtain⟨o1,e1,vs1,d1⟩:=h1.rec;obtain⟨o2,e2,vs2,d2⟩:=h2.rec;have A1z:a1≠z:=p1.ne_rec hz rfl;have A2z:a2≠z:=p2.ne_rec hz rfl;have A11:a1≠i1:=p1.ne_rec e1 d1;have A12:a1≠i2:=p1.ne_rec e2 d2;have A21:a2≠i1:=p2.ne_rec e1 d1;have A22:a2≠i2:=p2.ne_rec e2 d2;simp only[bG,af,cD,or_false,not_or,cE,and_true,not_false_eq_true] at d;obtain⟨⟨dzTI,dzTO,dz1,dz2⟩,⟨dIO,dI1,dI2⟩,⟨dO1,dO2⟩,d12⟩:=d;obtain⟨f1,f2,f3,f4⟩:=f;have D:NH z TI TO i1 i2 [i1,a1] [i2,a2]:=⟨bO dzTI,bO dzTO,bO dz1,bO dz2,dIO,dI1,dI2,dO1,dO2,d12,by simp[dz1,bO A1z],by simp[dO1,bO f1],by simp[bO d12,bO A12],by simp[dz2,bO A2z],by simp[dO2,bO f2],by simp[d12,bO A21]⟩;have D1:=Draws.seq (prog:=X.prog) (w:=X.w) (A:=X.A.in1) b1 (I.ok.hd hc) i1 a1 A11 its1.toArray;have D2:=Draws.seq (prog:=X.prog) (w:=X.w) (A:=X.A.in1) b2 (I.ok.hd hc) i2 a2 A22 its2.toArray;have n1:=rv1.length;have n2:=rv2.length;refine Pm D D1 D2 hz hTI hTO ⟨h1,p1⟩ ⟨h2,p2⟩ (by simp only[aT];omega) λh' tk hk=>⟨rfl,?_⟩;exact I.turnedL hf λc o hc' q=>hk c o (λe=>hc' (by simp[e])) (λe=>hc' (by simp[e])) (λe=>hc' (by simp[e])) (λe=>hc' (by simp[e])) q
 self:=λA i s Q E st hQ=>wpAny_pyIter_zip st.1 hQ
section
variable {X:Cx}
noncomputable def Zfs(b1 b2:Bool)(K:aG)(ta:TA):TI:=λσ H R=>ta σ H λvs H1=>∃a1 a2,vs=[.ref a1,.ref a2]/\(∃xs,Ng b1 K H1 a1 xs)/\(∃ys,Ng b2 K H1 a2 ys)/\R (Itz b1 b2 K a1 a2) H1
theorem Za9{elts:List bH}{k:Nat}{tpos:da}(b1 b2:Bool){a b:bH}{ta:TA}{p pos:da}(hg:Gl X "zip")(hm:X.mg "zip" = aA)(ha:PA X [a,b] ta)
  (hs:aQ [a,b] X.env=[(aB,eval a X.env),(aB,eval b X.env)]:=by rfl) (hs2:aQ [b] X.env=[(aB,eval b X.env)]:=by rfl) :
  PI X (.Tuple elts k tpos) (.Call (.Name "zip" p) [a,b] [] pos) (Zfs b1 b2 X.K ta):=by
 intro m4 s σ H R I h;refine Call_ (Up I hg hm boot_zip (cA (YO (ha pos m4 s σ H _ I h) λus s1 ⟨vs,H1,I1,r1,q1⟩=>?_) (by rw[hs,hs2]) (by rw[hs2];rfl)));obtain⟨a1,a2,e,⟨xs,hq1⟩,⟨ys,hq2⟩,q⟩:=q1;subst e
 cases r1 with
 | cons r rr=>
  cases rr with
  | cons r' rr=>
   cases rr;cases r;cases r';obtain⟨its1,rv1,p1,_⟩:=I1.seqB hq1;obtain⟨its2,rv2,p2,_⟩:=I1.seqB hq2;refine Ml p1 p2 λh' c1 c2 c3 c4 c5 c6 hk=>?_;refine wpAny_pyIter_zip c1 ?_;have I2:Inv X m4 σ H1 { s1 with heap:=h' }:=I1.kept (t':=s1.toks) hk;have L1:a1<s1.heap.objs.size:=let⟨_,e⟩:=p1.has;aV e;have L2:a2<s1.heap.objs.size:=let⟨_,e⟩:=p2.has;aV e;generalize hn:s1.heap.objs.size=n at *;have ne:∀(a:aK)(j:Nat),a<n->a≠n+j:=λa j h=>bQ (ar h (eI _ _));have nd:([n+4,n+2,n+3,n,n+1]:List aK).Nodup:=by have hh:∀(i j:Nat),i≠j->(n+i:Nat)≠n+j:=λi j h e=>h (kA e);have h0:∀(i:Nat),i≠0->(n+i:Nat)≠n:=λi h e=>h (kA (e.trans (Nat.add_zero n).symm));simp only[bG,af,cD,or_false,not_or,cE,and_true,not_false_eq_true];exact⟨⟨hh 4 2 (by decide),hh 4 3 (by decide),h0 4 (by decide),hh 4 1 (by decide)⟩,⟨hh 2 3 (by decide),h0 2 (by decide),hh 2 1 (by decide)⟩,⟨h0 3 (by decide),hh 3 1 (by decide)⟩,(h0 1 (by decide)).symm⟩
   refine⟨n+4,[n+4,n+2,n+3,n,n+1],_,_,H1,rfl,I2,F9 b1 b2 a1 a2 (n+4) (n+2) (n+3) n (n+1) nd,⟨c1,c2,⟨_,_,c3,ne a1 3 L1,ne a2 3 L2,ne a1 2 L1,ne a2 2 L2⟩,c4,c5⟩,λc hc=>?_,q⟩
   have hle:s1.heap.objs.size<=c:=by
    rw[hn];simp only[af,cD,or_false] at hc;rcases hc with rfl | rfl | rfl | rfl | rfl
    ·exact eI _ _
    ·exact eI _ _
    ·exact eI _ _
    ·exact aZ _
    ·exact eI _ _
   exact I1.fpOk hle (I1.hok.fresh hle)
end
theorem Walks.seqB{prog:bN}{w:bu}{A:bt}(b:Bool)(hh:A.handled=aA)(I ax:aK)(hne:ax≠I)(items:Array aI) :
  Walks prog w A I [I,ax] [I] items.size (λi v=>items[i]?=some v) (λi h=>IterB b h I ax i/\SeqB b h ax items):=by
 cases b with
 | true=>exact Walks.list hh I ax hne items
 | false=>exact Walks.tuple hh I ax hne items
section
variable {X:Cx}
theorem Tq(hc:X.calm=aC):X6 X (.builtin "sum") (λxs H Q=>∃(b:Bool) (p:aK) (ns:List Int),xs=[.ref p]/\Ng b X.K H p (ns.map V.int)/\Q (.int ns.sum) H):=by
 intro m4 s σ H xs us Q I r h;obtain⟨b,p,ns,rfl,hq,q⟩:=h;obtain⟨u,rfl,rx⟩:=T4 r;cases rx;obtain⟨m9,rv,hseq,hz⟩:=I.seqB hq;have hp:p<s.heap.objs.size:=let⟨_,e⟩:=hseq.has;aV e;refine call_sum_walkG (YZ hseq ?_);refine⟨_,_,_,_,_,_,λi=>ns.getD i 0,rfl,Walks.seqB (A:=X.A.in1) b (I.ok.hd hc) s.heap.objs.size p (bQ hp) m9.toArray,⟨IterB.new (ao _ rfl),hseq.at λo e=>aJ _ e⟩,λc hcm=>?_,λi v hv=>?_,λh' tk t' hk=>?_⟩
 ·show c<(s.heap.push _).objs.size;rw[cC];rcases af.mp hcm with rfl | hcm
  ·exact eG _
  ·rw[aO.mp hcm];exact dq hp
 ·have hv:m9.toArray[i]?=some v:=hv;have hv:m9[i]?=some v:=by simpa using hv
  have hl:=rv.length;rw[aH] at hl;have hi:i<ns.length:=by rw[hl];exact(aU.mp hv).1
  obtain⟨u,hu,ru⟩:=rv.get (i:=i) (x:=.int ns[i]) (by rw[aR,aF hi];rfl);rw[hv] at hu;cases hu;obtain⟨t,rfl⟩:=ru;refine⟨t,?_⟩;show eU ns[i] t=eU (ns.getD i 0) t;rw[aE,aF hi];rfl
 ·have e:preSum (λi=>ns.getD i 0) m9.toArray.size=ns.sum:=by
   have hl:=rv.length;rw[aH] at hl;rw[aT,<-hl]
   have gen:∀k,k<=ns.length->preSum (λi=>ns.getD i 0) k=(ns.take k).sum:=by
    intro k
    induction k with
    | zero=>intro _;simp[preSum]
    | succ k ih=>
     intro hk;rw[preSum,ih (by omega),List.take_add_one,aE,aF (by omega),dI];simp
   rw[gen _ (aZ _),ko]
  rw[e];refine⟨.int ns.sum,H,I.kept (λc o hco=>hk c o ?_ (aJ _ hco)),⟨_,rfl⟩,q⟩;intro hm;rw[aO.mp hm] at hco;exact absurd (aV hco) (cH _)
theorem Gm(hc:X.calm=aC):X6 X (.builtin "all") (λxs H Q=>∃(b:Bool) (p:aK) (bs:List Bool),xs=[.ref p]/\Ng b X.K H p (bs.map V.bl)/\Q (.bl (bs.all id)) H):=by
 intro m4 s σ H xs us Q I r h;obtain⟨b,p,bs,rfl,hq,q⟩:=h;obtain⟨u,rfl,rx⟩:=T4 r;cases rx;obtain⟨m9,rv,hseq,hz⟩:=I.seqB hq;have hp:p<s.heap.objs.size:=let⟨_,e⟩:=hseq.has;aV e;have hl:=rv.length;rw[aH] at hl;refine call_all_walk (YZ hseq ?_);refine⟨_,_,_,_,_,_,λi=>bs.getD i aC,rfl,Walks.seqB (A:=X.A.in1) b (I.ok.hd hc) s.heap.objs.size p (bQ hp) m9.toArray,⟨IterB.new (ao _ rfl),hseq.at λo e=>aJ _ e⟩,λi v s' Q' E' hv hQ=>?_,λh' tk hk=>?_⟩
 ·have hv:m9.toArray[i]?=some v:=hv;have hv:m9[i]?=some v:=by simpa using hv
  have hi:i<bs.length:=by rw[hl];exact(aU.mp hv).1
  obtain⟨u,hu,ru⟩:=rv.get (i:=i) (x:=.bl bs[i]) (by rw[aR,aF hi];rfl);rw[hv] at hu;cases hu;cases ru;refine dE ?_;have e:bs.getD i aC=bs[i]:=by rw[aE,aF hi];rfl
  rw[<-e];exact hQ
 ·have e:(aD m9.toArray.size).all (λi=>bs.getD i aC)=bs.all id:=by
   rw[aT,<-hl,g9,bM,bM];constructor
   ·intro h x hx;obtain⟨i,hi,rfl⟩:=g0.mp hx;have:=h i (aW.mpr hi);rw[aE,aF hi] at this;exact this
   ·intro h i hi;have hi:=aW.mp hi;rw[aE,aF hi];exact h _ (bY hi)
  rw[e];refine⟨.bl (bs.all id),H,I.kept (λc o hco=>hk c o ?_ (aJ _ hco)),rfl,q⟩;intro hm;rw[aO.mp hm] at hco;exact absurd (aV hco) (cH _)
theorem Vu:X6 X (.builtin "isinstance") (λxs H Q=>∃x T t b,xs=[x,.ty T]/\TyOf X.K H x t/\cj X.K t (.type T)=some b/\Q (.bl b) H):=by intro m4 s σ H xs us Q I r h;obtain⟨x,T,t,b,rfl,ht,hk,q⟩:=h;obtain⟨u,v,rfl,ru,rv⟩:=Az r;cases rv;exact Ge I ru ht hk λtk=>⟨.bl b,H,I.tok tk,rfl,q⟩
theorem LL{K:aG}:cj K (.type "int") (.type "int")=some aC:=rfl
theorem Mm{K:aG}:cj K (.type "int") (.type "bool")=some aB:=by first | rfl | decide | (unfold cj;rw[mN (by decide)];first | rfl | decide | kernel_rfl)
theorem LM{K:aG}:cj K (.type "tuple") (.type "tuple")=some aC:=rfl
theorem Nm{K:aG}:cj K (.type "list") (.type "list")=some aC:=rfl
theorem LN{K:aG}:cj K (.type "str") (.type "str")=some aC:=rfl
noncomputable def IC:V->List V->Hp->VK->Prop:=λx vs H Q=>∃l xs k y,x = .ref l/\vs=[.int k,y]/\H l=some (.lst xs)/\0<=k/\k<2^63/\xs.length<sizeLine/\Q .non (upd H l (.lst (xs.take k.toNat++y::xs.drop k.toNat)))
theorem NI:MtM X "list.insert" IC:=by
 intro m4 s σ H x vs v us Q I rx rv h;obtain⟨l,xs,k,y,rfl,rfl,hH,h0,h1,hz,q⟩:=h;cases rx;obtain⟨u1,u2,rfl,r1,r2⟩:=rv.two;obtain⟨t,rfl⟩:=r1;obtain⟨z,m9,n,r,hl,e⟩:=I.lstM hH;have hfit:¬(!Builtin.List.listFitsIndex k)=aC:=by rw[ja (by omega) h1];exact au
 refine eQ F.slot_list_insert ⟨_,e,rfl⟩ F.entry_list_insert (F.args_list_insert_3 _ _ _) (AutoListH.list_insert_list_int_val_1 l m9.toArray n k t u2 hfit (by rw[aT];omega)) ⟨e,?_⟩;refine⟨.non,_,I.lset (its':=m9.take k.toNat++u2::m9.drop k.toNat) hH e ?_ ((r.take k.toNat).append (.cons r2 (r.drop k.toNat))) ?_,rfl,q⟩
 ·show(have j:=if k<0 then(k+((m9.toArray.size:Nat):Int)).toNat else min k.toNat m9.toArray.size;(m9.toArray.extract 0 j).push u2++m9.toArray.extract j)=_;rw[mN (by omega)]
  dsimp only
  by_cases hle:k.toNat<=m9.length
  ·rw[dh (by rw[aT];exact hle)];simp;rw[bg (by rw[bK];exact aZ _)]
  ·rw[ij (by rw[aT];omega)];rw[bg (by omega),gK (by omega)];simp
 ·rw[aX,bA,bU,bK];omega
end
noncomputable def TK(H H':Hp):Prop:=∀b xs,H b=some (.tup xs)->H' b=some (.tup xs)
theorem Same.tk{H H':Hp}(s:Same H H'):TK H H':=λb xs h=>s b _ h
theorem Same.new{H:Hp}{p:aK}(h:H p=aA)(o:HO):Same H (upd H p o):=λb u q=>by rw[upd_ne (Zr q h)];exact q
structure Def(K:aG)(mg:aq->Option aI)(x:aq)(st:bp):Prop where
 ex:∃f fd,mg x=some (.ref f)/\Fun K x x st f fd
theorem def_mk{K:aG}{h:b9}{mg:aq->Option aI}{x:aq}{st:bp}{f:aK}{oc:aI}{od an:Option aK}{osl:Array (Option aI)}{kV doc pm cdv ct:aI}(X:K.In h)(G:h.Ns cB mg)
  (a:gq K cB x=some (some (.ref f))) (l:K.lookup f=some ⟨oc,od,.func (ck x x (Xy st) (YG st) (Zh st) .none kV doc pm an cdv ct),osl⟩)
  (c:cg K cdv x=aC) (k:eZ K (.ref f)=aC):Def K mg x st:=⟨f,_,mB X G a,Za6 (st:=st) l c k⟩
structure XQ(P:bN)(w:bu)(K:aG)(mg:aq->Option aI)(base:b9)(x:aq)(ps:List aq)(sp:Sp)(k:Nat):Prop where
 ex:∃f fd,mg x=some (.ref f)/\eZ K (.ref f)=aC/\Binds K fd ps []/\RG P w K mg base LK k f fd ps sp
section
variable {P:bN} {w:bu} {K:aG} {mg:aq->Option aI} {base:b9}
theorem Def.cal{x:aq}{st:bp}{N ps:List aq}{k:Nat}{sp:Sp}(D:Def K mg x st)(S:Zw N ps (Zh st))
  (hb:∀(kV doc pm:aI)(an:Option aK)(cdv ct:aI)(us:List aI),us.length=ps.length->iA (ck x x (Xy st) (YG st) (Zh st) .none kV doc pm an cdv ct) ⟨us,[]⟩=pure (ps.zip us))
  (len:∀vs H Q E,sp vs H Q E->vs.length=ps.length)
  (hbody:∀(f:aK)(cdv:aI)(A:bt)(outer:List jx)(s:aP)(H:Hp)(vs:List V)(Q:VK)(E:XK),Room k (A.deeper (gW x (Zh st) s.heap.objs.size f cdv))->sp vs H Q E->
   ∃t,PSs (Pd LK P w K mg base N x (Zh st) f cdv A outer s H E).nox (YG st) t/\t { nx:=λ_ H'=>Q .non H',rt:=Q } (start N vs) H):XQ P w K mg base x ps sp (k+1):=by
 obtain⟨f,fd,hm,F⟩:=D.ex;exact⟨f,fd,hm,F.kp,F.binds hb,F.ok S len λcdv A outer s H vs Q E hr h=>hbody f cdv A outer s H vs Q E hr h⟩
end
section
variable {X:Cx} {x:aq} {ps:List aq} {sp:Sp} {k:Nat} {e:bH} {es:List bH} {t:TA} {p pos:da}
theorem Zba(C:XQ X.prog X.w X.K X.mg X.base x ps sp k)(hr:Room k X.A)(hg:Gl X x)(ha:PA X (e::es) t)
  (hdb:(x==("__debug__" : aq))=aB:=by decide) (he:aQ (e::es) X.env=(aB,eval e X.env)::aQ es X.env:=by rfl) (hpl:(dD pos (aQ es X.env)).any (·.1)=aB:=by rfl) :
  PE X (.Call (.Name x p) (e::es) [] pos) (FW sp [] E0 t):=by
 obtain⟨f,fd,a,b,c,d⟩:=C.ex;exact CQ d hr hg a b c .nil AF ha hdb he hpl
end
noncomputable def Us(N:List aq)(around scope:eB)(own fr:List aq)(ix:List Nat):Bool:=
 (match scope.kind with | .function=>aC | _=>aB)&&scope.names.all (λy=>y.2 != .cell)&&scope.names.all (λy=>y.2 != .local || scope.names.lookup y.1==some .local)&&
 scope.names.all (λy=>y.2 != .free || (around.names.lookup y.1==some .cell || around.names.lookup y.1==some .free))&&(fr.map some==ix.map (λi=>N[i]?))&&
 fr.all (λx=>scope.names.contains (x,bZ))&&fr.all (λx=>scope.names.lookup x != some .local)
theorem NJ{N:List aq}{around scope:eB}{own fr:List aq}{ix:List Nat}(h:Us N around scope own fr ix=aC):CompScope N around scope own fr ix:=by
 unfold Us at h;simp only[av] at h;obtain⟨⟨⟨⟨⟨⟨h1,h2⟩,h3⟩,h4⟩,h5⟩,h6⟩,h7⟩:=h;refine⟨?_,λy hy=>?_,λy hy e=>?_,λy hy e=>?_,by simpa using h5,λx hx=>?_,λx hx=>?_⟩
 ·split at h1
  ·assumption
  ·cases h1
 ·simpa using bM.mp h2 y hy
 ·have:=bM.mp h3 y hy;rw[e] at this;simpa using this
 ·have:=bM.mp h4 y hy;rw[e] at this;simpa using this
 ·simpa using bM.mp h6 x hx
 ·simpa using bM.mp h7 x hx
section
variable {X:Cx} {tg m8 iter:bH} {m7:List bH} {scope:eB} {pos:da} {wi:TI} {g:TG} {tt:TT} {te:TE}
theorem LO(own fr:List aq)(ix:List Nat)(hcalm:X.calm=aC)(hi:PI X tg iter wi)(S:Us X.N X.env.scope scope own fr ix=aC)
  (hg:∀cl C s H ex,PG (ZQ X (own++fr) scope cl C s H ex) tg g) (ht:∀cl C s H ex,IB (ZQ X (own++fr) scope cl C s H ex) m7 tt) (he:∀cl C s H ex,PE (ZQ X (own++fr) scope cl C s H ex) m8 te)
  (hs:∀x,ba iter X.env x=pure x:=by intro _;rfl):PE X (.ListComp m8 [⟨tg,iter,m7,0⟩] scope pos) (Pj own.length ix wi g tt te):=
 C6 hcalm hi (NJ S) hg ht he hs
theorem Ea(own fr:List aq)(ix:List Nat){i:Nat}{y:aq}{py spos:da}(hN:X.N.Nodup)(hy:X.N[i]?=some y)(hloc:X.env.scope.names.lookup y=some .local)(hcalm:X.calm=aC)(hi:PI X tg iter wi)(S:Us X.N X.env.scope scope own fr ix=aC)
  (hg:∀cl C s H ex,PG (ZQ X (own++fr) scope cl C s H ex) tg g) (ht:∀cl C s H ex,IB (ZQ X (own++fr) scope cl C s H ex) m7 tt) (he:∀cl C s H ex,PE (ZQ X (own++fr) scope cl C s H ex) m8 te)
  (hsw:gF (.ListComp m8 [⟨tg,iter,m7,0⟩] scope pos) (some (.Name y py)) spos.line X.env=pure aC:=by rfl)
  (hs:∀x,ba iter X.env x=pure x:=by intro _;rfl):PS X (.Assign [.Name y py] (.ListComp m8 [⟨tg,iter,m7,0⟩] scope pos) spos) (Mc (Pj own.length ix wi g tt te) (T2 i)):=
 C8 hN hy hloc hcalm hi (NJ S) hg ht he hsw hs
end
structure WV(mg:aq->Option aI):Prop where
 «len» : mg "len" = aA
 «sum» : mg "sum" = aA
 «range» : mg "range" = aA
 «enumerate» : mg "enumerate" = aA
 «zip» : mg "zip" = aA
 «tuple» : mg "tuple" = aA
 «list» : mg "list" = aA
 «all» : mg "all" = aA
 «any» : mg "any" = aA
 «isinstance» : mg "isinstance" = aA
 «int» : mg "int" = aA
 «bool» : mg "bool" = aA
 «str» : mg "str" = aA
 «min» : mg "min" = aA
 «max» : mg "max" = aA
 «sorted» : mg "sorted" = aA
 «abs» : mg "abs" = aA
 «ValueError» : mg "ValueError" = aA
 «reversed» : mg "reversed" = aA
 «set» : mg "set" = aA
abbrev Zft(g:TG)(tb:TS)(D:Pb)(σ:St)(J:It)(H:Hp):Prop:=
 ∃W:Nat->Nat->St->Hp->Prop,(∃m,W 0 m σ H)/\∀i m σ H,W i m σ H->
   (J.stop i H/\D.nx σ H)\/(J.go i H/\∃N:St->Hp->Prop,(∀σ' H',N σ' H'->∃m',m'<m/\W (i+1) m' σ' H')/\∀x H',J.yld i H x H'->g x σ H' λσ2 H2=>tb { D with nx:=N,ct:=N,bk:=D.nx } σ2 H2)
noncomputable def Zt(l:List Int)(i:Nat):Int:=l.getD i 0
theorem RM(l:List Int):(aD l.length).map (Zt l)=l:=by
 apply iR;intro i;rw[aR];by_cases h:i<l.length
 ·rw[aF (by simpa using h),aF h];simp[Zt,aE,aF h]
 ·rw[cX (by simpa using h),cX (by omega)];rfl
theorem ZP{f:Nat->Int}{n i:Nat}(h:i<n):Zt ((aD n).map f) i=f i:=by unfold Zt;rw[aE,aR,bq h];rfl
noncomputable def ZA(w:List (List Int))(i:Nat):List Int:=w.getD i []
theorem Pn{w:List (List Int)}{i:Nat}(h:i<w.length):w[i]?=some (ZA w i):=by unfold ZA;rw[aE,aF h];rfl
noncomputable def ZV(w:List (List Int))(i j:Nat):Int:=Zt (ZA w i) j
structure ZN(w:List (List Int)):Prop where
 pos:1<=w.length
 few:w.length<=7
 sq:∀i,i<w.length->(ZA w i).length=w.length
 lo:∀i j,i<w.length->j<w.length->0<=ZV w i j
 hi:∀i j,i<w.length->j<w.length->ZV w i j<=9
 sym:∀i j,i<w.length->j<w.length->ZV w i j=ZV w j i
 dia:∀i,i<w.length->ZV w i i=0
noncomputable def Zbb(K:aG):List V->Hp->VK->Prop:=λxs H Q=>∃p ys,xs=[.ref p]/\((SqL K H p ys/\∀l,H l=aA->Q (.ref l) (upd H l (.tup ys)))\/(SqT K H p ys/\Q (.ref p) H))
noncomputable def Bb(K:aG):List V->Hp->VK->Prop:=λxs H Q=>∃p ys,xs=[.ref p]/\(SqL K H p ys\/SqT K H p ys)/\∀l,H l=aA->Q (.ref l) (upd H l (.lst ys))
theorem Same.off{H Hc:Hp}{p:aK}(s:Same H Hc)(n:Hc p=aA):H p=aA:=s.free n
abbrev Tie:=Nat×Nat×Int
noncomputable def V7(M:List (List Int))(a b:Nat)(t:Int):List (List Int):=M.set a ((ZA M a).set b t)
structure MatOk(n:Nat)(M:List (List Int)):Prop where
 len:M.length=n
 row:∀i,i<n->(ZA M i).length=n
 lo:∀i j,i<n->j<n->0<=ZV M i j
 hi:∀i j,i<n->j<n->ZV M i j<=9
 sym:∀i j,i<n->j<n->ZV M i j=ZV M j i
 dia:∀i,i<n->ZV M i i=0
theorem NK{M:List (List Int)}{a i:Nat}{r:List Int}(ha:a<M.length):ZA (M.set a r) i=if a=i then r else ZA M i:=by
 unfold ZA;rw[aE,aE,bJ];by_cases h:a=i
 ·subst h;simp[ha]
 ·simp[h]
theorem nth_set{l:List Int}{b j:Nat}{t:Int}(hb:b<l.length):Zt (l.set b t) j=if b=j then t else Zt l j:=by
 unfold Zt;rw[aE,aE,bJ];by_cases h:b=j
 ·subst h;simp[hb]
 ·simp[h]
theorem Po{n:Nat}{M:List (List Int)}{a b i j:Nat}{t:Int}(hl:M.length=n)(hr:∀i,i<n->(ZA M i).length=n)(ha:a<n)(hb:b<n):ZV (V7 M a b t) i j=if a=i/\b=j then t else ZV M i j:=by
 show Zt (ZA (M.set a ((ZA M a).set b t)) i) j=_;rw[NK (by omega)];by_cases h:a=i
 ·subst h;rw[mM rfl,nth_set (by rw[hr a ha];exact hb)];by_cases q:b=j
  ·rw[mM q,mM ⟨rfl,q⟩]
  ·rw[mN q,mN (λz=>q z.2)];rfl
 ·rw[mN h,mN (λz=>h z.1)];rfl
theorem W0{n:Nat}{M:List (List Int)}{a b:Nat}{t:Int}(hl:M.length=n)(hr:∀i,i<n->(ZA M i).length=n)(ha:a<n):(V7 M a b t).length=n/\∀i,i<n->(ZA (V7 M a b t) i).length=n:=by
 refine⟨by unfold V7;rw[cZ];exact hl,λi hi=>?_⟩;show(ZA (M.set a ((ZA M a).set b t)) i).length=n;rw[NK (by omega)];split
 ·rw[cZ];exact hr a ha
 ·exact hr i hi
theorem MatOk.zero(n:Nat):MatOk n (aN n (aN n 0)):=by
 have r:∀i,i<n->ZA (aN n (aN n (0:Int))) i=aN n 0:=λi hi=>by unfold ZA;rw[aE,bV,mM hi];rfl
 have z:∀i j,i<n->j<n->ZV (aN n (aN n (0:Int))) i j=0:=λi j hi hj=>by show Zt (ZA _ i) j=0;rw[r i hi];unfold Zt;rw[aE,bV,mM hj];rfl
 exact⟨by simp,λi hi=>by rw[r i hi];simp,λi j hi hj=>by rw[z i j hi hj];omega,λi j hi hj=>by rw[z i j hi hj];omega,λi j hi hj=>by rw[z i j hi hj,z j i hj hi],λi hi=>z i i hi hi⟩
theorem MatOk.web{n:Nat}{M:List (List Int)}(h:MatOk n M)(h1:1<=n)(h7:n<=7):ZN M:=by have e:=h.len;subst e;exact⟨h1,h7,h.row,h.lo,h.hi,h.sym,h.dia⟩
theorem Yf(f:Nat->Int)(n:Nat):((aD (n+1)).map f).sum=((aD n).map f).sum+f n:=by rw[di,bB,dI];simp
theorem YX{f g:Nat->Int}{n:Nat}(h:∀i,i<n->f i=g i):((aD n).map f).sum=((aD n).map g).sum:=by congr 1;apply ak;intro i hi;exact h i (aW.mp hi)
theorem ID(f g:Nat->Int)(n:Nat):((aD n).map λi=>f i+g i).sum=((aD n).map f).sum+((aD n).map g).sum:=by
 induction n with
 | zero=>simp
 | succ n ih=>rw[Yf,Yf,Yf,ih];omega
theorem IE(f g:Nat->Int)(n:Nat):((aD n).map λi=>f i-g i).sum=((aD n).map f).sum-((aD n).map g).sum:=by
 induction n with
 | zero=>simp
 | succ n ih=>rw[Yf,Yf,Yf,ih];omega
theorem Gn(c:Int)(n:Nat):((aD n).map λ_=>c).sum=n*c:=by
 induction n with
 | zero=>simp
 | succ n ih=>rw[Yf,ih];rw[show((n+1:Nat):Int)=(n:Int)+1 by omega,je];omega
theorem Mn(l:List Int):((aD l.length).map (Zt l)).sum=l.sum:=by rw[RM]
theorem Eb(e:Nat->Nat->Int)(n:Nat)(hs:∀i j,i<n->j<n->e i j=e j i)(hd:∀i,i<n->e i i=0) :
  ((aD n).map λi=>((aD n).map λj=>e i j).sum).sum=2*((aD n).map λa=>((aD (n-(a+1))).map λj=>e a (a+1+j)).sum).sum:=by
 induction n with
 | zero=>simp
 | succ n ih=>
  have ih:=ih (λi j hi hj=>hs i j (by omega) (by omega)) λi hi=>hd i (by omega);rw[Yf,Yf,Yf];have a1:((aD n).map λi=>((aD (n+1)).map λj=>e i j).sum).sum=((aD n).map λi=>((aD n).map λj=>e i j).sum).sum+((aD n).map λi=>e i n).sum:=by rw[<-ID];apply YX;intro i _;rw[Yf]
  have a2:((aD n).map λa=>((aD (n+1-(a+1))).map λj=>e a (a+1+j)).sum).sum=((aD n).map λa=>((aD (n-(a+1))).map λj=>e a (a+1+j)).sum).sum+((aD n).map λi=>e i n).sum:=by rw[<-ID];apply YX;intro i hi;rw[show n+1-(i+1)=(n-(i+1))+1 by omega,Yf,show i+1+(n-(i+1))=n by omega]
  have a3:((aD n).map λj=>e n j).sum=((aD n).map λi=>e i n).sum:=by apply YX;intro i hi;exact hs n i (by omega) (by omega)
  rw[a1,a2,a3,hd n (by omega),show n+1-(n+1)=0 by omega];simp;omega
theorem SF{α:Type}(n:Nat)(x:α):(aN n [x]).flatten=aN n x:=by
 induction n with
 | zero=>rfl
 | succ n ih=>rw[cK,dH,ih];rfl
structure NamesOk(i:Nat)(l:List Int):Prop where
 len:l.length=i
 nd:l.Nodup
 lo:∀x∈l,0<=x
 hi:∀x∈l,x<i
theorem NamesOk.nil:NamesOk 0 []:=⟨rfl,cE,λ_ h=>by simp at h,λ_ h=>by simp at h⟩
theorem NamesOk.ins{i:Nat}{l:List Int}(h:NamesOk i l)(k:Nat):NamesOk (i+1) (l.take k++(i:Int)::l.drop k):=by
 have hp:(l.take k++(i:Int)::l.drop k).Perm ((i:Int)::l):=by have:=List.perm_middle (a:=(i:Int)) (l₁:=l.take k) (l₂:=l.drop k);rw[List.take_append_drop] at this;exact this
 refine⟨by rw[hp.length_eq,bA,h.len],?_,λx hx=>?_,λx hx=>?_⟩
 ·rw[hp.nodup_iff,bG];exact⟨λhm=>by have:=h.hi _ hm;omega,h.nd⟩
 ·rcases af.mp (hp.mem_iff.mp hx) with e | e
  ·omega
  ·exact h.lo x e
 ·rcases af.mp (hp.mem_iff.mp hx) with e | e
  ·omega
  ·have:=h.hi x e;omega
theorem NamesOk.at{i:Nat}{l:List Int}(h:NamesOk i l){x:Nat}(hx:x<i):0<=Zt l x/\Zt l x<i:=by
 have e:Zt l x=l[x]'(by rw[h.len];exact hx):=by unfold Zt;rw[aE,aF (by rw[h.len];exact hx)];rfl
 rw[e];exact⟨h.lo _ (bY _),h.hi _ (bY _)⟩
theorem NamesOk.ne{i:Nat}{l:List Int}(h:NamesOk i l){x y:Nat}(hx:x<i)(hy:y<i)(n:x≠y):Zt l x≠Zt l y:=by
 have ex:Zt l x=l[x]'(by rw[h.len];exact hx):=by unfold Zt;rw[aE,aF (by rw[h.len];exact hx)];rfl
 have ey:Zt l y=l[y]'(by rw[h.len];exact hy):=by unfold Zt;rw[aE,aF (by rw[h.len];exact hy)];rfl
 rw[ex,ey];intro e;exact n ((kd h.nd).mp e)
theorem lt_size{n:Nat}(h:n<=10000):n<sizeLine:=dU h (by decide)
end L2
namespace VL
open PySem PySem.Spec PyProof.Rows L2
variable {K:aG}
noncomputable def NsO(od:cx)(f:aq)(u:aI):Prop:=∀(hp:b9)(dx:aK),hp.get? dx=some od->hp.Ns1 dx (λn=>if n=f then some u else aA)
noncomputable def Bc(n:aq):aq:=if n = "NoWeb" then "place" else if n = "Apart" then "houses" else if n = "TooMany" then "most" else "total"
structure Pp where
 qual:aq
 params:ju
 body:bH
 scope:eB
 free:aq
inductive PV where
 | non | bl (b:Bool) | int (i:Int) | str (x:aq) | ty (n:String) | exc (n:aq) | exf (n:aq) (l:PV) | clo (L:Pp) (l:PV)
 | tup (l:List PV) | lst (l:List PV) | cst (l:List PV)
 | dK (ks:List Xl) (vs:List PV) | dT (ks:List (List Xl)) (vs:List PV)
instance:Inhabited PV:=⟨.non⟩
mutual
/-- nothing in it can be changed -/
def ZO:PV->Bool
 | .tup l=>ZH l
 | .cst l=>ZH l
 | .lst _=>aB
 | .dK _ _=>aB
 | .dT _ _=>aB
 | .non=>aC
 | .bl _=>aC
 | .int _=>aC
 | .str _=>aC
 | .ty _=>aC
 | .exc _=>aC
 | .exf _ _=>aC
 | .clo _ l=>ZO l
def ZH:List PV->Bool
 | []=>aC
 | x::r=>ZO x&&ZH r
end
theorem Wc:∀l:List PV,ZH l=l.all ZO
 | []=>rfl
 | x::r=>by rw[iW,<-Wc r];rfl
noncomputable def KL(K:aG)(a:aK)(xs:List V):Prop:=
 ∃(o:cx) (m9:Array aI) (n:Nat),K.lookup a=some o/\o.cls = .type "list"/\o.dict=aA/\o.data = .seq m9 n/\m9.size<=sizeLine/\Vals xs m9.toList
noncomputable def CsK(K:aG)(H:Hp)(p:aK)(xs:List V):Prop:=(∃o,H p=some (.frz o (.lst xs)))\/KL K p xs
theorem CsK.sq{K:aG}{H:Hp}{p:aK}{xs:List V}(h:CsK K H p xs):SqL K H p xs:=by
 rcases h with h | h
 ·exact .inl (.inr h)
 ·exact .inr h
noncomputable def CloAt(H:Hp)(L:Pp)(v:V)(u:aI):Prop:=∃f fo c oc e eo pm ct,v = .ref f/\H f=some (.frz fo (.own 0))/\fo.data = .func (fA "<lambda>" L.qual L.params L.body L.scope [(L.free,e)] pm (.ref c) ct)/\H c=some (.frz oc (.own 0))/\KZ oc L.qual/\H e=some (.frz eo (.own 1))/\eo.data = .cell (some u)
mutual
/-- v is the tree l in the heap H;fp: the addresses of m9 lists and dicts -/
def Is(K:aG)(H:Hp):PV->V->List aK->Prop
 | .non,v,fp=>v = .non/\fp=[]
 | .bl b,v,fp=>v = .bl b/\fp=[]
 | .int i,v,fp=>v = .int i/\fp=[]
 | .str x,v,fp=>v = .str x/\fp=[]
 | .ty n,v,fp=>v = .ty n/\fp=[]
 | .exc n,v,fp=>(∃e o x C,v = .ref e/\H e=some (.frz o (.own x))/\o.cls = .ref C/\gq K cB n=some (some (.ref C))/\o.dict=aA/\∃vs,o.data = .fields vs)/\fp=[]
 | .exf n l,v,fp=>(∃e o x C dx od u z,v = .ref e/\H e=some (.frz o (.own x))/\o.cls = .ref C/\gq K cB n=some (some (.ref C))/\o.dict=some dx/\(∃vs,o.data = .fields vs)/\H dx=some (.frz od (.own dx))/\NsO od (Bc n) u/\RelV z u/\Is K H l z [])/\fp=[]
 | .clo L l,v,fp=>∃u x,CloAt H L v u/\RelV x u/\Is K H l x fp
 | .tup l,v,fp=>∃p xs,v = .ref p/\H p=some (.tup xs)/\Iss K H l xs fp
 | .lst l,v,fp=>∃p xs fq,v = .ref p/\H p=some (.lst xs)/\Iss K H l xs fq/\fp=p::fq
 | .cst l,v,fp=>∃p xs,v = .ref p/\CsK K H p xs/\Iss K H l xs fp
 | .dK ks l,v,fp=>∃p m5 fq,v = .ref p/\Rd H p (.dK m5)/\m5.map (·.1)=ks/\Iss K H l (m5.map (·.2)) fq/\fp=p::fq
 | .dT ks l,v,fp=>∃p m5 fq,v = .ref p/\Rd H p (.dT m5)/\m5.map (·.1)=ks/\Iss K H l (m5.map (·.2)) fq/\fp=p::fq
def Iss(K:aG)(H:Hp):List PV->List V->List aK->Prop
 | [],xs,fp=>xs=[]/\fp=[]
 | l::ls,xs,fp=>∃x r f1 f2,xs=x::r/\Is K H l x f1/\Iss K H ls r f2/\fp=f1++f2
end
noncomputable def RdK(H H':Hp)(p:aK):Prop:=(∀xs,H p=some (.lst xs)->H' p=some (.lst xs))/\(∀m5,Rd H p (.dK m5)->Rd H' p (.dK m5))/\∀m5,Rd H p (.dT m5)->Rd H' p (.dT m5)
theorem RdK.of{H H':Hp}{p:aK}(h:∀o,H p=some o->H' p=some o):RdK H H' p:=by
 have r:∀u,Rd H p u->Rd H' p u:=λu q=>by
  rcases q with q | ⟨o,q⟩
  ·exact .inl (h _ q)
  ·exact .inr ⟨o,h _ q⟩
 exact⟨λ_=>h _,λ_=>r _,λ_=>r _⟩
structure AG(H H':Hp):Prop where
 tup:TK H H'
 frz:∀b o xs,H b=some (.frz o (.lst xs))->H' b=some (.frz o (.lst xs))
 exc:∀b o x,H b=some (.frz o (.own x))->H' b=some (.frz o (.own x))
theorem Same.tk2{H H':Hp}(s:Same H H'):AG H H':=⟨s.tk,λb o xs h=>s b _ h,λb o x h=>s b _ h⟩
theorem CsK.tr{K:aG}{H H':Hp}(t:AG H H'){p:aK}{xs:List V}(h:CsK K H p xs):CsK K H' p xs:=by
 rcases h with⟨o,h⟩ | h
 ·exact .inl ⟨o,t.frz p o xs h⟩
 ·exact .inr h
theorem CloAt.tr{H H':Hp}(t:AG H H'){L:Pp}{v:V}{u:aI}(h:CloAt H L v u):CloAt H' L v u:=by obtain⟨f,fo,c,oc,e,eo,pm,ct,h1,h2,h3,h4,h5,h6,h7⟩:=h;exact⟨f,fo,c,oc,e,eo,pm,ct,h1,t.exc f fo 0 h2,h3,t.exc c oc 0 h4,h5,t.exc e eo 1 h6,h7⟩
mutual
theorem Is.tr{H H':Hp}(ht:AG H H'):∀(l:PV)(v:V)(fp:List aK),(∀p∈fp,RdK H H' p)->Is K H l v fp->Is K H' l v fp
 | .non,_,_,_,h=>by simpa only[Is] using h
 | .bl _,_,_,_,h=>by simpa only[Is] using h
 | .int _,_,_,_,h=>by simpa only[Is] using h
 | .str _,_,_,_,h=>by simpa only[Is] using h
 | .ty _,_,_,_,h=>by simpa only[Is] using h
 | .exc _,_,_,_,h=>by simp only[Is] at h ⊢;obtain⟨⟨e,o,x,C,a,b,c⟩,d⟩:=h;exact⟨⟨e,o,x,C,a,ht.exc e o x b,c⟩,d⟩
 | .exf _ l,_,_,_,h=>by simp only[Is] at h ⊢;obtain⟨⟨e,o,x,C,dx,od,u,z,a,b,c1,c2,c3,c4,c5,c6,c7,c8⟩,d⟩:=h;exact⟨⟨e,o,x,C,dx,od,u,z,a,ht.exc e o x b,c1,c2,c3,c4,ht.exc dx od dx c5,c6,c7,Is.tr ht l z [] (λp hp=>by simp at hp) c8⟩,d⟩
 | .clo L l,v,fp,hm,h=>by simp only[Is] at h ⊢;obtain⟨u,x,hc,hr,hi⟩:=h;exact⟨u,x,hc.tr ht,hr,Is.tr ht l x fp hm hi⟩
 | .tup l,v,fp,hm,h=>by simp only[Is] at h ⊢;obtain⟨p,xs,e,hp,hi⟩:=h;exact⟨p,xs,e,ht.tup p xs hp,Iss.tr ht l xs fp hm hi⟩
 | .lst l,v,fp,hm,h=>by simp only[Is] at h ⊢;obtain⟨p,xs,fq,e,hr,hi,rfl⟩:=h;exact⟨p,xs,fq,e,(hm p ah).1 _ hr,Iss.tr ht l xs fq (λq hq=>hm q (aS _ hq)) hi,rfl⟩
 | .cst l,v,fp,hm,h=>by simp only[Is] at h ⊢;obtain⟨p,xs,e,hr,hi⟩:=h;exact⟨p,xs,e,hr.tr ht,Iss.tr ht l xs fp hm hi⟩
 | .dK ks l,v,fp,hm,h=>by simp only[Is] at h ⊢;obtain⟨p,m5,fq,e,hr,hk,hi,rfl⟩:=h;exact⟨p,m5,fq,e,(hm p ah).2.1 _ hr,hk,Iss.tr ht l _ fq (λq hq=>hm q (aS _ hq)) hi,rfl⟩
 | .dT ks l,v,fp,hm,h=>by simp only[Is] at h ⊢;obtain⟨p,m5,fq,e,hr,hk,hi,rfl⟩:=h;exact⟨p,m5,fq,e,(hm p ah).2.2 _ hr,hk,Iss.tr ht l _ fq (λq hq=>hm q (aS _ hq)) hi,rfl⟩
theorem Iss.tr{H H':Hp}(ht:AG H H'):∀(l:List PV)(xs:List V)(fp:List aK),(∀p∈fp,RdK H H' p)->Iss K H l xs fp->Iss K H' l xs fp
 | [],_,_,_,h=>by simpa only[Iss] using h
 | l::ls,xs,fp,hm,h=>by simp only[Iss] at h ⊢;obtain⟨x,r,f1,f2,e,h1,h2,rfl⟩:=h;exact⟨x,r,f1,f2,e,Is.tr ht l x f1 (λq hq=>hm q (bC _ hq)) h1,Iss.tr ht ls r f2 (λq hq=>hm q (aY _ hq)) h2,rfl⟩
end
theorem Is.mono{H H':Hp}(s:Same H H'){l:PV}{v:V}{fp:List aK}(h:Is K H l v fp):Is K H' l v fp:=Is.tr (Same.tk2 s) l v fp (λp _=>RdK.of λo q=>s p o q) h
theorem Iss.mono{H H':Hp}(s:Same H H'){l:List PV}{v:List V}{fp:List aK}(h:Iss K H l v fp):Iss K H' l v fp:=Iss.tr (Same.tk2 s) l v fp (λp _=>RdK.of λo q=>s p o q) h
mutual
theorem Is.pure{H:Hp}:∀(l:PV)(v:V)(fp:List aK),ZO l=aC->Is K H l v fp->fp=[]
 | .non,_,_,_,h=>by simp only[Is] at h;exact h.2
 | .bl _,_,_,_,h=>by simp only[Is] at h;exact h.2
 | .int _,_,_,_,h=>by simp only[Is] at h;exact h.2
 | .str _,_,_,_,h=>by simp only[Is] at h;exact h.2
 | .ty _,_,_,_,h=>by simp only[Is] at h;exact h.2
 | .exc _,_,_,_,h=>by simp only[Is] at h;exact h.2
 | .exf _ _,_,_,_,h=>by simp only[Is] at h;exact h.2
 | .clo L l,v,fp,hp,h=>by simp only[Is] at h;obtain⟨u,x,hc,hr,hi⟩:=h;exact Is.pure l x fp (by simpa only[ZO] using hp) hi
 | .tup l,v,fp,hp,h=>by simp only[Is] at h;obtain⟨p,xs,e,_,hi⟩:=h;exact Iss.pure l xs fp (by simpa only[ZO] using hp) hi
 | .lst l,v,fp,hp,h=>by simp[ZO] at hp
 | .cst l,v,fp,hp,h=>by simp only[Is] at h;obtain⟨p,xs,e,_,hi⟩:=h;exact Iss.pure l xs fp (by simpa only[ZO] using hp) hi
 | .dK ks l,v,fp,hp,h=>by simp[ZO] at hp
 | .dT ks l,v,fp,hp,h=>by simp[ZO] at hp
theorem Iss.pure{H:Hp}:∀(l:List PV)(xs:List V)(fp:List aK),ZH l=aC->Iss K H l xs fp->fp=[]
 | [],_,_,_,h=>by simp only[Iss] at h;exact h.2
 | l::ls,xs,fp,hp,h=>by simp only[Iss] at h;simp only[ZH,av] at hp;obtain⟨x,r,f1,f2,e,h1,h2,rfl⟩:=h;rw[Is.pure l x f1 hp.1 h1,Iss.pure ls r f2 hp.2 h2];rfl
end
section
variable {H H':Hp}
theorem Iss.len:∀{l:List PV}{xs:List V}{fp:List aK},Iss K H l xs fp->xs.length=l.length
 | [],xs,fp,h=>by simp only[Iss] at h;rw[h.1];rfl
 | l::ls,xs,fp,h=>by simp only[Iss] at h;obtain⟨x,r,f1,f2,rfl,_,h2,_⟩:=h;rw[bA,bA,h2.len]
theorem Iss.get:∀{l:List PV}{xs:List V}{fp:List aK}{i:Nat}{a:PV},Iss K H l xs fp->l[i]?=some a->∃x f1,xs[i]?=some x/\Is K H a x f1/\∀p∈f1,p∈fp
 | [],xs,fp,i,a,h,e=>by simp at e
 | l::ls,xs,fp,0,a,h,e=>by simp only[Iss] at h;obtain⟨x,r,f1,f2,rfl,h1,_,rfl⟩:=h;simp at e;subst e;exact⟨x,f1,rfl,h1,λp hp=>bC _ hp⟩
 | l::ls,xs,fp,i+1,a,h,e=>by simp only[Iss] at h;obtain⟨x,r,f1,f2,rfl,_,h2,rfl⟩:=h;obtain⟨y,g,h3,h4,h5⟩:=h2.get (i:=i) (a:=a) (by simpa using e);exact⟨y,g,by simpa using h3,h4,λp hp=>aY _ (h5 p hp)⟩
theorem Iss.get'{l:List PV}{xs:List V}{fp:List aK}{i:Nat}{x:V}(h:Iss K H l xs fp)(e:xs[i]?=some x):∃a f1,l[i]?=some a/\Is K H a x f1/\∀p∈f1,p∈fp:=by
 have hi:i<l.length:=by rw[<-h.len];exact(aU.mp e).1
 obtain⟨y,f1,h1,h2,h3⟩:=h.get (aF hi);rw[e] at h1;cases h1;exact⟨_,f1,aF hi,h2,h3⟩
theorem Iss.nil:Iss K H [] [] []:=by simp[Iss]
theorem Iss.cons{l:PV}{ls:List PV}{x:V}{xs:List V}{f1 f2:List aK}(h1:Is K H l x f1)(h2:Iss K H ls xs f2):Iss K H (l::ls) (x::xs) (f1++f2):=by simp only[Iss];exact⟨x,xs,f1,f2,rfl,h1,h2,rfl⟩
theorem Iss.inv{l:PV}{ls:List PV}{xs:List V}{fp:List aK}(h:Iss K H (l::ls) xs fp):∃x r f1 f2,xs=x::r/\Is K H l x f1/\Iss K H ls r f2/\fp=f1++f2:=by simpa only[Iss] using h
theorem Iss.append:∀{l m:List PV}{xs ys:List V}{f1 f2:List aK},Iss K H l xs f1->Iss K H m ys f2->Iss K H (l++m) (xs++ys) (f1++f2)
 | [],m,xs,ys,f1,f2,h,h'=>by simp only[Iss] at h;rw[h.1,h.2];exact h'
 | l::ls,m,xs,ys,f1,f2,h,h'=>by obtain⟨x,r,g1,g2,rfl,a,b,rfl⟩:=h.inv;rw[dm];exact Iss.cons a (b.append h')
theorem Iss.one{l:PV}{x:V}{f:List aK}(h:Is K H l x f):Iss K H [l] [x] f:=by
 have:=Iss.cons h (Iss.nil (H:=H))
 rwa [cu] at this
theorem Iss.take:∀{l:List PV}{xs:List V}{fp:List aK}(n:Nat),Iss K H l xs fp->∃f1,Iss K H (l.take n) (xs.take n) f1/\∀p∈f1,p∈fp
 | l,xs,fp,0,h=>⟨[],by rw[l9,l9];exact Iss.nil,λp hp=>by simp at hp⟩
 | [],xs,fp,n+1,h=>by simp only[Iss] at h;rw[h.1];exact⟨[],by rw[mC,mC];exact Iss.nil,λp hp=>by simp at hp⟩
 | l::ls,xs,fp,n+1,h=>by
  obtain⟨x,r,f1,f2,rfl,h1,h2,rfl⟩:=h.inv;obtain⟨f3,a,b⟩:=h2.take n;refine⟨f1++f3,Iss.cons h1 a,λp hp=>?_⟩;rcases aa.mp hp with h | h
  ·exact bC _ h
  ·exact aY _ (b p h)
theorem Iss.drop:∀{l:List PV}{xs:List V}{fp:List aK}(n:Nat),Iss K H l xs fp->∃f1,Iss K H (l.drop n) (xs.drop n) f1/\∀p∈f1,p∈fp
 | l,xs,fp,0,h=>⟨fp,h,λp hp=>hp⟩
 | [],xs,fp,n+1,h=>by simp only[Iss] at h;rw[h.1];exact⟨[],by rw[mD,mD];exact Iss.nil,λp hp=>by simp at hp⟩
 | l::ls,xs,fp,n+1,h=>by obtain⟨x,r,f1,f2,rfl,h1,h2,rfl⟩:=h.inv;obtain⟨f3,a,b⟩:=h2.drop n;exact⟨f3,a,λp hp=>aY _ (b p hp)⟩
theorem Iss.setP:∀{l:List PV}{xs:List V}{a:PV}{x:V}(i:Nat),ZH l=aC->ZO a=aC->Iss K H l xs []->Is K H a x []->Iss K H (l.set i a) (xs.set i x) []
 | [],xs,a,x,i,_,_,h,_=>by simp only[Iss] at h;rw[h.1];simp only[List.set_nil];exact Iss.nil
 | l::ls,xs,a,x,0,hp,_,h,ha=>by simp only[ZH,av] at hp;obtain⟨y,r,f1,f2,rfl,_,h2,e⟩:=h.inv;have e2:=Iss.pure _ _ _ hp.2 h2;subst e2;exact Iss.cons (f1:=[]) ha h2
 | l::ls,xs,a,x,i+1,hp,hq,h,ha=>by simp only[ZH,av] at hp;obtain⟨y,r,f1,f2,rfl,h1,h2,e⟩:=h.inv;have e1:=Is.pure _ _ _ hp.1 h1;have e2:=Iss.pure _ _ _ hp.2 h2;subst e1 e2;exact Iss.cons (f1:=[]) h1 (Iss.setP i hp.2 hq h2 ha)
theorem Is.int_inv{i:Int}{v:V}{fp:List aK}(h:Is K H (.int i) v fp):v = .int i/\fp=[]:=by simpa only[Is] using h
theorem Is.int(i:Int):Is K H (.int i) (.int i) []:=by simp[Is]
theorem Is.bl(i:Bool):Is K H (.bl i) (.bl i) []:=by simp[Is]
theorem Is.non:Is K H .non .non []:=by simp[Is]
theorem Is.str(x:aq):Is K H (.str x) (.str x) []:=by simp[Is]
theorem Is.ty(n:String):Is K H (.ty n) (.ty n) []:=by simp[Is]
theorem Is.bl_inv{i:Bool}{v:V}{fp:List aK}(h:Is K H (.bl i) v fp):v = .bl i/\fp=[]:=by simpa only[Is] using h
theorem Is.str_inv{i:aq}{v:V}{fp:List aK}(h:Is K H (.str i) v fp):v = .str i/\fp=[]:=by simpa only[Is] using h
theorem Is.non_inv{v:V}{fp:List aK}(h:Is K H .non v fp):v = .non/\fp=[]:=by simpa only[Is] using h
theorem Is.ty_inv{n:String}{v:V}{fp:List aK}(h:Is K H (.ty n) v fp):v = .ty n/\fp=[]:=by simpa only[Is] using h
theorem Is.tup_inv{l:List PV}{v:V}{fp:List aK}(h:Is K H (.tup l) v fp):∃p xs,v = .ref p/\H p=some (.tup xs)/\Iss K H l xs fp:=by simpa only[Is] using h
theorem Is.tup{l:List PV}{p:aK}{xs:List V}{fp:List aK}(h:H p=some (.tup xs))(hi:Iss K H l xs fp):Is K H (.tup l) (.ref p) fp:=by simp only[Is];exact⟨p,xs,rfl,h,hi⟩
theorem Is.lst_inv{l:List PV}{v:V}{fp:List aK}(h:Is K H (.lst l) v fp):∃p xs fq,v = .ref p/\H p=some (.lst xs)/\Iss K H l xs fq/\fp=p::fq:=by simpa only[Is] using h
theorem Is.lst{l:List PV}{p:aK}{xs:List V}{fp:List aK}(h:H p=some (.lst xs))(hi:Iss K H l xs fp):Is K H (.lst l) (.ref p) (p::fp):=by simp only[Is];exact⟨p,xs,fp,rfl,h,hi,rfl⟩
theorem Is.cst_inv{l:List PV}{v:V}{fp:List aK}(h:Is K H (.cst l) v fp):∃p xs,v = .ref p/\CsK K H p xs/\Iss K H l xs fp:=by simpa only[Is] using h
theorem Is.cst{l:List PV}{p:aK}{xs:List V}{fp:List aK}(h:CsK K H p xs)(hi:Iss K H l xs fp):Is K H (.cst l) (.ref p) fp:=by simp only[Is];exact⟨p,xs,rfl,h,hi⟩
theorem Is.dT_inv{ks:List (List Xl)}{l:List PV}{v:V}{fp:List aK}(h:Is K H (.dT ks l) v fp):∃p m5 fq,v = .ref p/\Rd H p (.dT m5)/\m5.map (·.1)=ks/\Iss K H l (m5.map (·.2)) fq/\fp=p::fq:=by simpa only[Is] using h
theorem Is.dT{ks:List (List Xl)}{l:List PV}{p:aK}{m5:List (List Xl×V)}{fp:List aK}(h:H p=some (.dT m5))(hk:m5.map (·.1)=ks)(hi:Iss K H l (m5.map (·.2)) fp):Is K H (.dT ks l) (.ref p) (p::fp):=by simp only[Is];exact⟨p,m5,fp,rfl,.inl h,hk,hi,rfl⟩
theorem Is.dK_inv{ks:List Xl}{l:List PV}{v:V}{fp:List aK}(h:Is K H (.dK ks l) v fp):∃p m5 fq,v = .ref p/\Rd H p (.dK m5)/\m5.map (·.1)=ks/\Iss K H l (m5.map (·.2)) fq/\fp=p::fq:=by simpa only[Is] using h
theorem Is.dK{ks:List Xl}{l:List PV}{p:aK}{m5:List (Xl×V)}{fp:List aK}(h:H p=some (.dK m5))(hk:m5.map (·.1)=ks)(hi:Iss K H l (m5.map (·.2)) fp):Is K H (.dK ks l) (.ref p) (p::fp):=by simp only[Is];exact⟨p,m5,fp,rfl,.inl h,hk,hi,rfl⟩
end
abbrev iL(l:List Int):List PV:=l.map PV.int
theorem Z5(l:List Int):ZH (iL l)=aC:=by rw[Wc,bM];intro x hx;obtain⟨i,_,rfl⟩:=b7.mp hx;rfl
theorem Iss.iL{H:Hp}:∀{l:List Int}{xs:List V}{fp:List aK},Iss K H (VL.iL l) xs fp->xs=l.map V.int/\fp=[]
 | [],xs,fp,h=>by simpa only[VL.iL,dN,Iss] using h
 | i::l,xs,fp,h=>by obtain⟨x,r,f1,f2,rfl,h1,h2,rfl⟩:=Iss.inv (show Iss K H (PV.int i::VL.iL l) xs fp from h);obtain⟨rfl,rfl⟩:=h1.int_inv;obtain⟨rfl,rfl⟩:=h2.iL;exact⟨rfl,rfl⟩
theorem Iss.ofInts{H:Hp}:∀(l:List Int),Iss K H (VL.iL l) (l.map V.int) []
 | []=>Iss.nil
 | i::l=>Iss.cons (f1:=[]) (Is.int i) (Iss.ofInts l)
end VL
namespace VL
open PySem PySem.Spec PyProof.Rows L2
variable {K:aG}
abbrev QF:=L2.St
abbrev ZS:=List (Option PV)
abbrev XE:=ZS->Option PV
structure EnvIs(K:aG)(Rm:aK->Prop)(H:Hp)(s:ZS)(σ:QF):Prop where
 is:∀(i:Nat) l,s[i]?=some (some l)->∃v fp,σ[i]?=some (some v)/\Is K H l v fp/\∀p∈fp,¬Rm p
theorem EnvIs.mono{Rm:aK->Prop}{H H':Hp}{s:ZS}{σ:QF}(h:EnvIs K Rm H s σ)(e:Same H H'):EnvIs K Rm H' s σ:=⟨λi l q=>by
 obtain⟨v,fp,a,b,c⟩:=h.is i l q;exact⟨v,fp,a,b.mono e,c⟩⟩
theorem EnvIs.free{Rm:aK->Prop}{H:Hp}{s:ZS}{σ:QF}(h:EnvIs K Rm H s σ):EnvIs K (λ_=>False) H s σ:=⟨λi l q=>by
 obtain⟨v,fp,a,b,c⟩:=h.is i l q;exact⟨v,fp,a,b,λ_ _ z=>z⟩⟩
theorem Same.mut{H H':Hp}(e:Same H H'){p:aK}(h:V4 (H p)):V4 (H' p):=by
 cases q:H p with
 | none=>rw[q] at h;exact h.elim
 | some o=>rw[e p o q,<-q];exact h
theorem XX{H:Hp}{p:aK}(h:V4 (H p)):H p≠aA:=λz=>by rw[z] at h;exact h
noncomputable def tF(K:aG)(f:XE):TE:=λσ H Q=>∃(Rm:aK->Prop) (s:ZS) (l:PV),(∀p,Rm p->V4 (H p))/\EnvIs K Rm H s σ/\f s=some l/\∀v H' fp,Same H H'->Is K H' l v fp->(∀p∈fp,¬Rm p)->Q v H'
noncomputable def tM(K:aG)(f:XE):TE:=λσ H Q=>∃(s:ZS) (l:PV),EnvIs K (λ_=>False) H s σ/\f s=some l/\∀v H' fp,Same H H'->Is K H' l v fp->fp.Nodup->(∀p∈fp,H p=aA/\V4 (H' p))->Q v H'
noncomputable def VE(X:Cx)(e:bH)(f:XE):Prop:=PE X e (tF X.K f)
noncomputable def VM(X:Cx)(e:bH)(f:XE):Prop:=PE X e (tM X.K f)
section
variable {X:Cx} {e:bH} {f g:XE} {t t':TE}
theorem PE.imp(h:PE X e t)(i:∀σ H Q,t' σ H Q->t σ H Q):PE X e t':=λm4 s σ H Q I q=>h m4 s σ H Q I (i σ H Q q)
theorem VM.ve(h:VM X e f):VE X e f:=PE.imp h λσ H Q ⟨Rm,s,l,hd,env,e,k⟩=>
 ⟨s,l,env.free,e,λv H' fp sm i _ n=>k v H' fp sm i λp hp z=>XX (hd p z) (n p hp).1⟩
noncomputable def eP(f:XE):XE:=λs=>(f s).bind λl=>if ZO l=aC then some l else aA
theorem Bd{s:ZS}{l:PV}(h:eP f s=some l):f s=some l/\ZO l=aC:=by
 unfold eP at h
 cases q:f s with
 | none=>rw[q] at h;cases h
 | some a=>
  rw[q] at h;simp only[aL] at h;split at h
  ·cases h;exact⟨rfl,by assumption⟩
  ·cases h
theorem VE.pure(h:VE X e f):VM X e (eP f):=PE.imp h λσ H Q ⟨s,l,env,e,k⟩=>by
 obtain⟨e1,e2⟩:=Bd e;refine⟨λ_=>False,s,l,λ_ z=>z.elim,env,e1,λv H' fp sm i n=>?_⟩;have:=Is.pure l v fp e2 i;subst this;exact k v H' [] sm i cE λp hp=>by simp at hp
end
noncomputable def Za(i:Nat):XE:=λs=>(s[i]?).join
noncomputable def eC(l:PV):XE:=λ_=>some l
theorem NL{i:Nat}{s:ZS}{l:PV}(h:Za i s=some l):s[i]?=some (some l):=by
 unfold Za at h
 cases q:s[i]? with
 | none=>rw[q] at h;cases h
 | some o=>rw[q] at h;cases o with
  | none=>cases h
  | some a=>cases h;rfl
section
variable {X:Cx} {pos:da}
theorem NM{e:bH}{i:Nat}(h:PE X e (QC i)):VE X e (Za i):=PE.imp h λσ H Q ⟨Rm,s,l,hd,env,e,k⟩=>by obtain⟨v,fp,a,b,c⟩:=env.is i l (NL e);exact⟨v,a,k v H fp (Same.refl H) b c⟩
theorem Ec{e:bH}{v:V}{l:PV}(h:PE X e (tC v))(hv:∀H,Is X.K H l v []):VE X e (eC l):=PE.imp h λσ H Q ⟨Rm,s,l',hd,env,e,k⟩=>by
 cases e;exact k v H [] (Same.refl H) (hv H) λp hp=>by simp at hp
theorem Zg{i j}:VE X (.Constant (.int i) j pos) (eC (.int i)):=Ec A5 λ_=>Is.int i
theorem IF{i j}:VE X (.Constant (.bool i) j pos) (eC (.bl i)):=Ec Zc2 λ_=>Is.bl i
theorem Jd{j}:VE X (.Constant .none j pos) (eC .non):=Ec A6 λ_=>Is.non
end
noncomputable def RB(K:aG)(r:R2)(g:PV->PV->Option PV):Prop:=∀(H:Hp)(x y:V)(a b l:PV)(fa fb:List aK),Is K H a x fa->Is K H b y fb->g a b=some l->∀Q:VK,
 (∀v H' fp,Same H H'->Is K H' l v fp->(∀p∈fp,p∈fa\/p∈fb\/H p=aA)->Q v H')->r x y H Q
noncomputable def Zd(g:PV->PV->Option PV)(a b:XE):XE:=λs=>(a s).bind λx=>(b s).bind λy=>g x y
theorem V8{g:PV->PV->Option PV}{a b:XE}{s:ZS}{l:PV}(h:Zd g a b s=some l):∃x y,a s=some x/\b s=some y/\g x y=some l:=by
 unfold Zd at h
 cases q:a s with
 | none=>rw[q] at h;cases h
 | some x=>cases q2:b s with
  | none=>rw[q,q2] at h;cases h
  | some y=>rw[q,q2] at h;exact⟨x,y,rfl,rfl,h⟩
section
variable {X:Cx} {a b:bH} {fa fb:XE} {pos:da}
theorem IG{r:R2}{g:PV->PV->Option PV}(hr:RB K r g):∀σ H Q,tF K (Zd g fa fb) σ H Q->tOp r (tF K fa) (tF K fb) σ H Q:=λσ H Q ⟨Rm,s,l,hd,env,e,k⟩=>by
 obtain⟨x',y',ex,ey,e⟩:=V8 e;refine⟨Rm,s,x',hd,env,ex,λx H1 f1 s1 i1 n1=>⟨Rm,s,y',λp hp=>Same.mut s1 (hd p hp),env.mono s1,ey,λy H2 f2 s2 i2 n2=>?_⟩⟩;refine hr H2 x y x' y' l f1 f2 (i1.mono s2) i2 e Q λv H3 fp s3 i3 n3=>k v H3 fp (s1.trans (s2.trans s3)) i3 λp hp z=>?_;rcases n3 p hp with h | h | h
 ·exact n1 p h z
 ·exact n2 p h z
 ·exact XX (Same.mut (s1.trans s2) (hd p z)) h
theorem W3{op:lU}{r:R2}{g:PV->PV->Option PV}(ho:T3 X (cy op) r)(hr:RB X.K r g)(ha:VE X a fa)(hb:VE X b fb):VE X (.BinOp a op b pos) (Zd g fa fb):=
 PE.imp (Im ho ha hb) (IG hr)
theorem Pq{op:lT}{r:R2}{g:PV->PV->Option PV}(ho:T3 X (dc op) r)(hr:RB X.K r g)(ha:VE X a fa)(hb:VE X b fb)(hm:cO op b=aB):VE X (.Compare a [op] [b] pos) (Zd g fa fb):=
 PE.imp (CN ho ha hb hm) (IG hr)
theorem Zdz{r:R2}{g:PV->PV->Option PV}(ho:IxR X r)(hr:RB X.K r g)(ha:VE X a fa)(hb:VE X b fb)(hs:Mf b):VE X (.Subscript a b pos) (Zd g fa fb):=
 PE.imp (LD ho ha hb hs) (IG hr)
end
noncomputable def gI(g:Int->Int->Int):PV->PV->Option PV
 | .int i,.int j=>some (.int (g i j))
 | _,_=>aA
noncomputable def gB(g:Int->Int->Bool):PV->PV->Option PV
 | .int i,.int j=>some (.bl (g i j))
 | _,_=>aA
noncomputable def FF(C:Int->Int->Prop)[∀i j,Decidable (C i j)](g:Int->Int->Int):PV->PV->Option PV
 | .int i,.int j=>if C i j then some (.int (g i j)) else aA
 | _,_=>aA
theorem IH{g:Int->Int->Int}{a b l:PV}(h:gI g a b=some l):∃i j,a = .int i/\b = .int j/\l = .int (g i j):=by
 unfold gI at h;split at h
 ·cases h;exact⟨_,_,rfl,rfl,rfl⟩
 ·cases h
theorem Be{g:Int->Int->Bool}{a b l:PV}(h:gB g a b=some l):∃i j,a = .int i/\b = .int j/\l = .bl (g i j):=by
 unfold gB at h;split at h
 ·cases h;exact⟨_,_,rfl,rfl,rfl⟩
 ·cases h
theorem Ed{C:Int->Int->Prop}[∀i j,Decidable (C i j)]{g:Int->Int->Int}{a b l:PV}(h:FF C g a b=some l):∃i j,a = .int i/\b = .int j/\C i j/\l = .int (g i j):=by
 unfold FF at h;split at h
 ·split at h
  ·cases h;exact⟨_,_,rfl,rfl,by assumption,rfl⟩
  ·cases h
 ·cases h
theorem Zbc(g:Int->Int->Int):RB K (CA λi j=>.int (g i j)) (gI g):=λH x y a b l fa fb ha hb e Q k=>by obtain⟨i,j,rfl,rfl,rfl⟩:=IH e;exact⟨i,j,ha.int_inv.1,hb.int_inv.1,k _ H [] (Same.refl H) (Is.int _) λp hp=>by simp at hp⟩
theorem Ee(g:Int->Int->Bool):RB K (CA λi j=>.bl (g i j)) (gB g):=λH x y a b l fa fb ha hb e Q k=>by obtain⟨i,j,rfl,rfl,rfl⟩:=Be e;exact⟨i,j,ha.int_inv.1,hb.int_inv.1,k _ H [] (Same.refl H) (Is.bl _) λp hp=>by simp at hp⟩
theorem Pr(C:Int->Int->Prop)[∀i j,Decidable (C i j)](g:Int->Int->Int):RB K (rI C λi j=>.int (g i j)) (FF C g):=λH x y a b l fa fb ha hb e Q k=>by obtain⟨i,j,rfl,rfl,c,rfl⟩:=Ed e;exact⟨i,j,ha.int_inv.1,hb.int_inv.1,c,k _ H [] (Same.refl H) (Is.int _) λp hp=>by simp at hp⟩
instance (i j:Int):Decidable (CMul i j):=by unfold CMul;infer_instance
instance (i j:Int):Decidable (UM i j):=by unfold UM;infer_instance
instance (i j:Int):Decidable (Aw i j):=by unfold Aw;infer_instance
instance (i j:Int):Decidable (FQ i j):=by unfold FQ;infer_instance
abbrev ZI:=gI (· + ·)
abbrev Yo:=gI (· - ·)
abbrev Xa:=FF CMul (· * ·)
abbrev Xt:=FF UM (· / ·)
abbrev Z2:=FF (λ_ j=>0<j) (· % ·)
abbrev Ef:=FF FQ (λi j=>i^j.toNat)
abbrev Eg:=FF (λ_ j=>0<=j) (λi j=>i/2^j.toNat)
abbrev Bf:=gI lW
abbrev RN:=gB (λi j=>decide (i<j))
abbrev RO:=gB (λi j=>decide (j<i))
abbrev oGe:=gB (λi j=>decide (j<=i))
section
variable {X:Cx} {a b:bH} {fa fb:XE} {pos:da}
theorem Z4(ha:VE X a fa)(hb:VE X b fb):VE X (.BinOp a .Add b pos) (Zd ZI fa fb):=W3 Zap (Zbc _) ha hb
theorem Xu(ha:VE X a fa)(hb:VE X b fb):VE X (.BinOp a .Sub b pos) (Zd Yo fa fb):=W3 Zaq (Zbc _) ha hb
theorem Ut(ha:VE X a fa)(hb:VE X b fb):VE X (.BinOp a .Mult b pos) (Zd Xa fa fb):=W3 Zar (Pr _ _) ha hb
theorem Xn(ha:VE X a fa)(hb:VE X b fb):VE X (.BinOp a .FloorDiv b pos) (Zd Xt fa fb):=W3 CM (Pr _ _) ha hb
theorem Xd(ha:VE X a fa)(hb:VE X b fb):VE X (.BinOp a .Mod b pos) (Zd Z2 fa fb):=W3 Zas (Pr _ _) ha hb
theorem Zbd(ha:VE X a fa)(hb:VE X b fb):VE X (.BinOp a .Pow b pos) (Zd Ef fa fb):=W3 Zat (Pr _ _) ha hb
theorem Zbe(ha:VE X a fa)(hb:VE X b fb):VE X (.BinOp a .RShift b pos) (Zd Eg fa fb):=W3 Zau (Pr _ _) ha hb
theorem Bg(ha:VE X a fa)(hb:VE X b fb):VE X (.BinOp a .BitAnd b pos) (Zd Bf fa fb):=W3 Zav (Zbc _) ha hb
theorem Zd0(ha:VE X a fa)(hb:VE X b fb):VE X (.Compare a [.Lt] [b] pos) (Zd RN fa fb):=Pq Ax (Ee _) ha hb (Ur _)
theorem Eh(ha:VE X a fa)(hb:VE X b fb):VE X (.Compare a [.Gt] [b] pos) (Zd RO fa fb):=Pq Ay (Ee _) ha hb (Ur _)
end
noncomputable def Zv:PV->PV->Option PV
 | .lst l,.int i=>Sx l i
 | .cst l,.int i=>Sx l i
 | .tup l,.int i=>Sx l i
 | .str z,.int i=>if z.length<=sizeLine then(Sx z.cps.toList i).map λc=>.str ⟨#[c]⟩ else aA
 | _,_=>aA
theorem Je{l:List PV}{xs:List V}{H:Hp}{fp:List aK}{i:Int}{a:PV}(h:Iss K H l xs fp)(e:Sx l i=some a):∃x f1,Sx xs i=some x/\Is K H a x f1/\∀p∈f1,p∈fp:=by
 unfold Sx at e ⊢;rw[h.len]
 cases q:Lq l.length i with
 | none=>rw[q] at e;cases e
 | some j=>rw[q] at e;exact h.get e
theorem Zd1:RB K (rIx K) Zv:=λH x y a b l fa fb ha hb e Q k=>by
 unfold Zv at e;split at e
 ·obtain⟨p,xs,fq,rfl,hp,hi,rfl⟩:=ha.lst_inv;obtain⟨z,f1,h1,h2,h3⟩:=Je hi e;exact .inl ⟨p,xs,_,z,rfl,hb.int_inv.1,SqL.of hp,h1,k z H f1 (Same.refl H) h2 λq hq=>.inl (aS _ (h3 q hq))⟩
 ·obtain⟨p,xs,rfl,hp,hi⟩:=ha.cst_inv;obtain⟨z,f1,h1,h2,h3⟩:=Je hi e;exact .inl ⟨p,xs,_,z,rfl,hb.int_inv.1,hp.sq,h1,k z H f1 (Same.refl H) h2 λq hq=>.inl (h3 q hq)⟩
 ·obtain⟨p,xs,rfl,hp,hi⟩:=ha.tup_inv;obtain⟨z,f1,h1,h2,h3⟩:=Je hi e;exact .inr (.inl ⟨p,xs,_,z,rfl,hb.int_inv.1,SqT.of hp,h1,k z H f1 (Same.refl H) h2 λq hq=>.inl (h3 q hq)⟩)
 ·split at e
  ·cases q:Sx _ _ with
   | none=>rw[q] at e;cases e
   | some c=>
    rw[q] at e;cases e;exact .inr (.inr ⟨_,_,c,ha.str_inv.1,hb.int_inv.1,by assumption,q,k _ H [] (Same.refl H) (Is.str _) λp hp=>by simp at hp⟩)
  ·cases e
 ·cases e
section
variable {X:Cx} {a b:bH} {fa fb:XE} {pos:da}
theorem Zm(ha:VE X a fa)(hb:VE X b fb)(hs:Mf b:=by exact λ_ _=>rfl):VE X (.Subscript a b pos) (Zd Zv fa fb):=Zdz Za2 Zd1 ha hb hs
end
abbrev XT:=ZS->Option Bool
noncomputable def LP(K:aG)(f:XT):TT:=λσ H Q=>∃(Rm:aK->Prop) (s:ZS) (c:Bool),(∀p,Rm p->V4 (H p))/\EnvIs K Rm H s σ/\f s=some c/\∀H',Same H H'->Q c H'
noncomputable def VT(X:Cx)(e:bH)(f:XT):Prop:=PT X e (LP X.K f)
noncomputable def VW(X:Cx)(e:bH)(f:XT):Prop:=PW X e (LP X.K f)
section
variable {X:Cx} {e:bH} {f:XT}
theorem PT.imp{t t':TT}(h:PT X e t)(i:∀σ H Q,t' σ H Q->t σ H Q):PT X e t':=λm4 s σ H Q I q=>h m4 s σ H Q I (i σ H Q q)
theorem PW.imp{t t':TT}(h:PW X e t)(i:∀σ H Q,t' σ H Q->t σ H Q):PW X e t':=λwhole m4 s σ H Q I q=>h whole m4 s σ H Q I (i σ H Q q)
theorem VW.vt(h:VW X e f):VT X e f:=PW.pt h
end
noncomputable def xB(f:XE):XT:=λs=>match f s with | some (.bl c)=>some c | _=>aA
theorem SG{f:XE}{s:ZS}{c:Bool}(h:xB f s=some c):f s=some (.bl c):=by
 unfold xB at h;split at h
 ·cases h;assumption
 ·cases h
noncomputable def Zd2:PV->Option Bool
 | .non=>some aB
 | .bl b=>some b
 | .int i=>some (i != 0)
 | .str y=>if y.length<=sizeLine then some ((y.length:Int) != 0) else aA
 | .lst l=>some !l.isEmpty
 | .cst l=>some !l.isEmpty
 | .tup l=>some !l.isEmpty
 | _=>aA
noncomputable def xV(f:XE):XT:=λs=>(f s).bind Zd2
section
variable {X:Cx} {a b c:bH} {YN:List bH} {fa fb:XE} {ga gb:XT} {pos:da}
theorem Pu(h:VE X a fa)(he:∀whole,kH a X.env whole=(do let v <-whole;lK a.pos;holding [v] (truthy v)):=by intro _;rfl):VT X a (xB fa):=
 PT.imp (A7 h he) λσ H Q ⟨Rm,s,c,hd,env,e,k⟩=>⟨Rm,s,.bl c,hd,env,SG e,λv H' fp sm i n=>⟨c,i.bl_inv.1,k H' sm⟩⟩
theorem Ei:∀σ H Q,LP K (xB fa) σ H Q->Io (tF K fa) σ H Q:=λσ H Q ⟨Rm,s,c,hd,env,e,k⟩=>⟨Rm,s,.bl c,hd,env,SG e,λv H' fp sm i n=>⟨c,i.bl_inv.1,k H' sm⟩⟩
theorem Jf{t t':TE}(i:∀σ H Q,t' σ H Q->t σ H Q):∀σ H Q,Io t' σ H Q->Io t σ H Q:=λσ H Q h=>i σ H _ h
theorem Sg{op:lT}{r:R2}{g:PV->PV->Option PV}(ho:T3 X (dc op) r)(hr:RB X.K r g)(ha:VE X a fa)(hb:VE X b fb)(hm:cO op b=aB):VT X (.Compare a [op] [b] pos) (xB (Zd g fa fb)):=
 PT.imp (CO ho ha hb hm) λσ H Q h=>Jf (IG hr) σ H Q (Ei σ H Q h)
theorem II(ha:VE X a fa)(hb:VE X b fb):VT X (.Compare a [.Lt] [b] pos) (xB (Zd RN fa fb)):=Sg Ax (Ee _) ha hb (Ur _)
theorem AH(ha:VE X a fa)(hb:VE X b fb):VT X (.Compare a [.Gt] [b] pos) (xB (Zd RO fa fb)):=Sg Ay (Ee _) ha hb (Ur _)
theorem Zd3(ha:VE X a fa)(hb:VE X b fb):VT X (.Compare a [.GtE] [b] pos) (xB (Zd oGe fa fb)):=Sg Zdh (Ee _) ha hb (Ur _)
noncomputable def LQ(a b:XT):XT:=λs=>(a s).bind λc=>if c=aC then b s else some aB
noncomputable def LR(a b:XT):XT:=λs=>(a s).bind λc=>if c=aC then some aC else b s
noncomputable def SH(a:XT):XT:=λs=>(a s).map not
theorem Bh:∀σ H Q,LP K (LQ ga gb) σ H Q->Zc3 (LP K ga) (LP K gb) σ H Q:=λσ H Q ⟨Rm,s,c,hd,env,e,k⟩=>by
 unfold LQ at e
 cases q:ga s with
 | none=>rw[q] at e;cases e
 | some d=>
  rw[q] at e;refine⟨Rm,s,d,hd,env,q,λH1 s1=>?_⟩
  cases d with
  | true=>
   simp only[aL,if_true] at e;rw[mM rfl];exact⟨Rm,s,c,λp hp=>Same.mut s1 (hd p hp),env.mono s1,e,λH2 s2=>k H2 (s1.trans s2)⟩
  | false=>
   simp only[aL,dB,if_false] at e;cases e;rw[mN au];exact k H1 s1
theorem Zbf:∀σ H Q,LP K (LR ga gb) σ H Q->tOr (LP K ga) (LP K gb) σ H Q:=λσ H Q ⟨Rm,s,c,hd,env,e,k⟩=>by
 unfold LR at e
 cases q:ga s with
 | none=>rw[q] at e;cases e
 | some d=>
  rw[q] at e;refine⟨Rm,s,d,hd,env,q,λH1 s1=>?_⟩
  cases d with
  | true=>
   simp only[aL,if_true] at e;cases e;rw[mM rfl];exact k H1 s1
  | false=>
   simp only[aL,dB,if_false] at e;rw[mN au];exact⟨Rm,s,c,λp hp=>Same.mut s1 (hd p hp),env.mono s1,e,λH2 s2=>k H2 (s1.trans s2)⟩
theorem IJ(ha:VT X a ga):VW X (.BoolOp .And [a] pos) ga:=CH ha
theorem Jg(ha:VT X a ga):VW X (.BoolOp .Or [a] pos) ga:=A8 ha
theorem Ej(ha:VT X a ga)(hb:VW X (.BoolOp .And (b::YN) pos) gb):VW X (.BoolOp .And (a::b::YN) pos) (LQ ga gb):=PW.imp (A9 ha hb) Bh
theorem IK(ha:VT X a ga)(hb:VW X (.BoolOp .Or (b::YN) pos) gb):VW X (.BoolOp .Or (a::b::YN) pos) (LR ga gb):=PW.imp (Zc4 ha hb) Zbf
theorem Mo(ha:VT X a ga):VT X (.UnaryOp .Not a pos) (SH ga):=PT.imp (Zaa ha) λσ H Q ⟨Rm,s,c,hd,env,e,k⟩=>by
 unfold SH at e
 cases q:ga s with
 | none=>rw[q] at e;cases e
 | some d=>rw[q] at e;cases e;exact⟨Rm,s,d,hd,env,q,k⟩
theorem Ek(ha:VE X a fa)(he:∀whole,kH a X.env whole=(do let v <-whole;lK a.pos;holding [v] (truthy v)):=by intro _;rfl):VT X a (xV fa):=
 PT.imp (FR ha he) λσ H Q ⟨Rm,s,c,hd,env,e,k⟩=>by
 unfold xV at e
 cases q:fa s with
 | none=>rw[q] at e;cases e
 | some l=>
  rw[q] at e;simp only[aL] at e;refine⟨Rm,s,l,hd,env,q,λv H' fp sm i n=>⟨c,?_,k H' sm⟩⟩
  cases l with
  | non=>rw[i.non_inv.1];cases e;rfl
  | bl b=>rw[i.bl_inv.1];cases e;rfl
  | int j=>rw[i.int_inv.1];cases e;rfl
  | str y=>
   rw[i.str_inv.1];simp only[Zd2] at e;split at e
   ·cases e;exact⟨by assumption,rfl⟩
   ·cases e
  | lst l=>
   obtain⟨p,xs,fq,rfl,hp,hi,_⟩:=i.lst_inv;cases e;refine .inl ⟨xs,SqL.of hp,?_⟩;have:=hi.len;cases xs<;>cases l<;>simp at this ⊢
  | cst l=>
   obtain⟨p,xs,rfl,hp,hi⟩:=i.cst_inv;cases e;refine .inl ⟨xs,hp.sq,?_⟩;have:=hi.len;cases xs<;>cases l<;>simp at this ⊢
  | tup l=>
   obtain⟨p,xs,rfl,hp,hi⟩:=i.tup_inv;cases e;refine .inr (.inl ⟨xs,SqT.of hp,?_⟩);have:=hi.len;cases xs<;>cases l<;>simp at this ⊢
  | ty n=>cases e
  | exc C=>cases e
  | exf C l=>cases e
  | clo C l=>cases e
  | dK ks l=>cases e
  | dT ks l=>cases e
end
section
variable {X:Cx} {a b c:bH} {YN:List bH} {fa fb:XE} {gc:XT} {pos:da}
noncomputable def VR(a b:XE):XE:=λs=>(xB a s).bind λc=>if c=aC then b s else some (.bl aB)
noncomputable def eOr(a b:XE):XE:=λs=>(xB a s).bind λc=>if c=aC then some (.bl aC) else b s
noncomputable def Bi(a:XE):XE:=λs=>(xB a s).map λc=>.bl !c
noncomputable def RP(c:XT)(a b:XE):XE:=λs=>(c s).bind λk=>if k=aC then a s else b s
theorem Jh{op}(h:VE X a fa):VE X (.BoolOp op [a] pos) fa:=Zab h
theorem Pw(ha:VE X a fa)(hb:VE X (.BoolOp .And (b::YN) pos) fb):VE X (.BoolOp .And (a::b::YN) pos) (VR fa fb):=PE.imp (Zac ha hb) λσ H Q ⟨Rm,s,l,hd,env,e,k⟩=>by
 unfold VR at e
 cases q:xB fa s with
 | none=>rw[q] at e;cases e
 | some d=>
  rw[q] at e;refine⟨Rm,s,.bl d,hd,env,SG q,λv H1 fp s1 i1 _=>⟨d,i1.bl_inv.1,?_⟩⟩
  cases d with
  | true=>
   simp only[aL,if_true] at e;rw[mM rfl];exact⟨Rm,s,l,λp hp=>Same.mut s1 (hd p hp),env.mono s1,e,λv2 H2 fp2 s2 i2 n2=>k v2 H2 fp2 (s1.trans s2) i2 n2⟩
  | false=>
   simp only[aL,dB,if_false] at e;cases e;rw[mN au];exact k _ H1 [] s1 (Is.bl aB) λp hp=>by simp at hp
theorem Zbg(ha:VE X a fa):VE X (.UnaryOp .Not a pos) (Bi fa):=PE.imp (Zad ha) λσ H Q ⟨Rm,s,l,hd,env,e,k⟩=>by
 unfold Bi at e
 cases q:xB fa s with
 | none=>rw[q] at e;cases e
 | some d=>
  rw[q] at e;cases e;exact⟨Rm,s,.bl d,hd,env,SG q,λv H1 fp s1 i1 _=>⟨d,i1.bl_inv.1,k _ H1 [] s1 (Is.bl _) λp hp=>by simp at hp⟩⟩
theorem SI(hc:VT X c gc)(ha:VE X a fa)(hb:VE X b fb):VE X (.IfExp c a b pos) (RP gc fa fb):=PE.imp (FL hc ha hb) λσ H Q ⟨Rm,s,l,hd,env,e,k⟩=>by
 unfold RP at e
 cases q:gc s with
 | none=>rw[q] at e;cases e
 | some d=>
  rw[q] at e;refine⟨Rm,s,d,hd,env,q,λH1 s1=>?_⟩
  cases d with
  | true=>
   simp only[aL,if_true] at e;rw[mM rfl];exact⟨Rm,s,l,λp hp=>Same.mut s1 (hd p hp),env.mono s1,e,λv2 H2 fp2 s2 i2 n2=>k v2 H2 fp2 (s1.trans s2) i2 n2⟩
  | false=>
   simp only[aL,dB,if_false] at e;rw[mN au];exact⟨Rm,s,l,λp hp=>Same.mut s1 (hd p hp),env.mono s1,e,λv2 H2 fp2 s2 i2 n2=>k v2 H2 fp2 (s1.trans s2) i2 n2⟩
end
section
variable {X:Cx} {a b c:bH} {fa fb fc:XE} {pos:da}
noncomputable def El(neg:Bool):PV->Option PV
 | .non=>some (.bl !neg)
 | _=>some (.bl neg)
noncomputable def Em:PV->Bool
 | .non=>aC
 | _=>aB
theorem Ji{H:Hp}{l:PV}{v:V}{fp:List aK}(i:Is K H l v fp):decide (v=V.non)=Em l:=by
 cases l with
 | non=>rw[i.non_inv.1];rfl
 | bl b=>rw[i.bl_inv.1];rfl
 | int j=>rw[i.int_inv.1];rfl
 | str y=>rw[i.str_inv.1];rfl
 | ty n=>rw[i.ty_inv.1];rfl
 | exc C=>simp only[Is] at i;obtain⟨⟨e,o,x,C,rfl,_⟩,_⟩:=i;rfl
 | exf C l=>simp only[Is] at i;obtain⟨⟨e,o,x,C,dx,od,u,z,rfl,_⟩,_⟩:=i;rfl
 | clo C l=>simp only[Is] at i;obtain⟨u,x,⟨f,fo,c,oc,e,eo,pm,ct,rfl,_⟩,_⟩:=i;rfl
 | lst l=>obtain⟨p,xs,fq,rfl,_⟩:=i.lst_inv;rfl
 | cst l=>obtain⟨p,xs,rfl,_⟩:=i.cst_inv;rfl
 | tup l=>obtain⟨p,xs,rfl,_⟩:=i.tup_inv;rfl
 | dK ks l=>obtain⟨p,xs,fq,rfl,_⟩:=i.dK_inv;rfl
 | dT ks l=>obtain⟨p,xs,fq,rfl,_⟩:=i.dT_inv;rfl
noncomputable def RQ(neg:Bool)(a:XE):XE:=λs=>(a s).bind (El neg)
theorem En:∀σ H Q,tF K (RQ aC fa) σ H Q->Ar (tF K fa) σ H Q:=λσ H Q ⟨Rm,s,l,hd,env,e,k⟩=>by
 unfold RQ at e
 cases q:fa s with
 | none=>rw[q] at e;cases e
 | some m=>
  rw[q] at e;simp only[aL] at e;refine⟨Rm,s,m,hd,env,q,λv H1 fp s1 i1 _=>?_⟩;show Q _ H1;rw[Ji i1];have:l = .bl (!Em m):=by cases m<;>cases e<;>rfl
  subst this;exact k _ H1 [] s1 (Is.bl _) λp hp=>by simp at hp
theorem AI:∀σ H Q,LP K (xB fa) σ H Q->tB (tF K fa) σ H Q:=λσ H Q ⟨Rm,s,c,hd,env,e,k⟩=>⟨Rm,s,.bl c,hd,env,SG e,λv H' fp sm i n=>⟨c,i.bl_inv.1,k H' sm⟩⟩
theorem IL{t t':TE}(i:∀σ H Q,t' σ H Q->t σ H Q):∀σ H Q,tB t' σ H Q->tB t σ H Q:=λσ H Q h=>i σ H _ h
theorem Mp{j pos'}(ha:VE X a fa):VT X (.Compare a [.IsNot] [.Constant .none j pos'] pos) (xB (RQ aC fa)):=PT.imp (FK (CG ha)) λσ H Q h=>IL En σ H Q (AI σ H Q h)
noncomputable def Px:PV->Option PV
 | .int i=>some (.int (-i))
 | _=>aA
noncomputable def Lr(g:PV->Option PV)(a:XE):XE:=λs=>(a s).bind g
theorem Mq(ha:VE X a fa):VE X (.UnaryOp .USub a pos) (Lr Px fa):=PE.imp (Zdg Zaw ha) λσ H Q ⟨Rm,s,l,hd,env,e,k⟩=>by
 unfold Lr at e
 cases q:fa s with
 | none=>rw[q] at e;cases e
 | some m=>
  rw[q] at e;simp only[aL] at e;unfold Px at e;split at e
  ·cases e;exact⟨Rm,s,_,hd,env,q,λv H1 fp s1 i1 _=>⟨_,i1.int_inv.1,k _ H1 [] s1 (Is.int _) λp hp=>by simp at hp⟩⟩
  ·cases e
end
end VL
namespace VL
open PySem PySem.Spec PyProof.Rows L2
variable {K:aG}
noncomputable def TV:List XE->ZS->Option (List PV)
 | [],_=>some []
 | f::fs,s=>(f s).bind λx=>(TV fs s).map (x::·)
theorem Py{f:XE}{fs:List XE}{s:ZS}{ls:List PV}(h:TV (f::fs) s=some ls):∃x r,f s=some x/\TV fs s=some r/\ls=x::r:=by
 unfold TV at h
 cases q:f s with
 | none=>rw[q] at h;cases h
 | some x=>cases q2:TV fs s with
  | none=>rw[q,q2] at h;cases h
  | some r=>rw[q,q2] at h;cases h;exact⟨x,r,rfl,rfl,rfl⟩
theorem Tr:∀{fs:List XE}{s:ZS}{ls:List PV},TV fs s=some ls->ls.length=fs.length
 | [],_,_,h=>by cases h;rfl
 | f::fs,s,ls,h=>by obtain⟨x,r,_,h2,rfl⟩:=Py h;rw[bA,bA,Tr h2]
noncomputable def tFA(K:aG)(fs:List XE):TA:=λσ H Q=>∃(Rm:aK->Prop) (s:ZS) (ls:List PV),(∀p,Rm p->V4 (H p))/\EnvIs K Rm H s σ/\TV fs s=some ls/\∀vs H' fp,Same H H'->Iss K H' ls vs fp->(∀p∈fp,¬Rm p)->Q vs H'
noncomputable def tMA(K:aG)(fs:List XE):TA:=λσ H Q=>∃(s:ZS) (ls:List PV),EnvIs K (λ_=>False) H s σ/\TV fs s=some ls/\∀vs H' fp,Same H H'->Iss K H' ls vs fp->fp.Nodup->(∀p∈fp,H p=aA/\V4 (H' p))->Q vs H'
noncomputable def VA(X:Cx)(es:List bH)(fs:List XE):Prop:=PA X es (tFA X.K fs)
noncomputable def VMA(X:Cx)(es:List bH)(fs:List XE):Prop:=PA X es (tMA X.K fs)
section
variable {X:Cx} {e:bH} {es:List bH} {f:XE} {fs:List XE} {pos:da} {k:Nat}
theorem PA.imp{t t':TA}(h:PA X es t)(i:∀σ H Q,t' σ H Q->t σ H Q):PA X es t':=λpos m4 s σ H Q I q=>h pos m4 s σ H Q I (i σ H Q q)
theorem Uu:VA X [] []:=PA.imp Xc λσ H Q ⟨Rm,s,ls,hd,env,e,k⟩=>by
 cases e;exact k [] H [] (Same.refl H) Iss.nil λp hp=>by simp at hp
theorem Xz(ha:VE X e f)(hr:VA X es fs)(hs:aQ (e::es) X.env=(aB,eval e X.env)::aQ es X.env:=by rfl):VA X (e::es) (f::fs):=PA.imp (Yc ha hr hs) λσ H Q ⟨Rm,s,ls,hd,env,e,k⟩=>by
 obtain⟨x',r',h1,h2,rfl⟩:=Py e;refine⟨Rm,s,x',hd,env,h1,λx H1 f1 s1 i1 n1=>⟨Rm,s,r',λp hp=>Same.mut s1 (hd p hp),env.mono s1,h2,λxs H2 f2 s2 i2 n2=>?_⟩⟩;refine k _ H2 (f1++f2) (s1.trans s2) (Iss.cons (i1.mono s2) i2) λp hp=>?_;rcases aa.mp hp with h | h
 ·exact n1 p h
 ·exact n2 p h
theorem Xo:VMA X [] []:=PA.imp Xc λσ H Q ⟨s,ls,env,e,k⟩=>by
 cases e;exact k [] H [] (Same.refl H) Iss.nil cE λp hp=>by simp at hp
theorem SJ(ha:VM X e f)(hr:VMA X es fs)(hs:aQ (e::es) X.env=(aB,eval e X.env)::aQ es X.env:=by rfl):VMA X (e::es) (f::fs):=PA.imp (Yc ha hr hs) λσ H Q ⟨s,ls,env,e,k⟩=>by
 obtain⟨x',r',h1,h2,rfl⟩:=Py e;refine⟨s,x',env,h1,λx H1 f1 s1 i1 d1 n1=>⟨s,r',env.mono s1,h2,λxs H2 f2 s2 i2 d2 n2=>?_⟩⟩;refine k _ H2 (f1++f2) (s1.trans s2) (Iss.cons (i1.mono s2) i2) ?_ λp hp=>?_
 ·refine cU.mpr ⟨d1,d2,λa ha b hb z=>?_⟩;subst z;exact XX (n1 a ha).2 (n2 a hb).1
 ·rcases aa.mp hp with h | h
  ·exact⟨(n1 p h).1,Same.mut s2 (n1 p h).2⟩
  ·exact⟨Same.off s1 (n2 p h).1,(n2 p h).2⟩
noncomputable def YC(fs:List XE):XE:=λs=>(TV fs s).map .tup
noncomputable def Yu(fs:List XE):XE:=λs=>(TV fs s).map .lst
theorem map_some{α β:Type}{o:Option α}{g:α->β}{b:β}(h:o.map g=some b):∃a,o=some a/\b=g a:=by
 cases o with
 | none=>cases h
 | some a=>cases h;exact⟨a,rfl,rfl⟩
theorem Wd(h:VA X es fs)(hl:fs.length<=1000:=by decide):VE X (.Tuple es k pos) (YC fs):=PE.imp (FU h) λσ H Q ⟨Rm,s,l,hd,env,e,q⟩=>by
 obtain⟨ls,e1,rfl⟩:=map_some e;refine⟨Rm,s,ls,hd,env,e1,λvs H1 fp s1 i1 n1=>⟨?_,λp hp=>?_⟩⟩
 ·rw[i1.len,Tr e1];exact cF (lt_size (by omega))
 ·exact q _ _ fp (s1.trans (Same.new hp _)) (Is.tup Zp (i1.mono (Same.new hp _))) n1
theorem Sh(h:VA X es fs)(hl:fs.length<=1000:=by decide):VE X (.List es pos) (Yu fs):=PE.imp (FV h) λσ H Q ⟨Rm,s,l,hd,env,e,q⟩=>by
 obtain⟨ls,e1,rfl⟩:=map_some e;refine⟨Rm,s,ls,hd,env,e1,λvs H1 fp s1 i1 n1=>⟨?_,λp hp=>?_⟩⟩
 ·rw[i1.len,Tr e1];exact cF (lt_size (by omega))
 ·refine q _ _ (p::fp) (s1.trans (Same.new hp _)) (Is.lst Zp (i1.mono (Same.new hp _))) λa ha z=>?_;rcases af.mp ha with rfl | ha
  ·exact XX (Same.mut s1 (hd a z)) hp
  ·exact n1 a ha z
theorem We(h:VMA X es fs)(hl:fs.length<=1000:=by decide):VM X (.List es pos) (Yu fs):=PE.imp (FV h) λσ H Q ⟨s,l,env,e,q⟩=>by
 obtain⟨ls,e1,rfl⟩:=map_some e;refine⟨s,ls,env,e1,λvs H1 fp s1 i1 d1 n1=>⟨?_,λp hp=>?_⟩⟩
 ·rw[i1.len,Tr e1];exact cF (lt_size (by omega))
 ·refine q _ _ (p::fp) (s1.trans (Same.new hp _)) (Is.lst Zp (i1.mono (Same.new hp _))) (bG.mpr ⟨λz=>XX (n1 p z).2 hp,d1⟩) λa ha=>?_;rcases af.mp ha with rfl | ha
  ·exact⟨Same.off s1 hp,by rw[Zp];exact bW⟩
  ·exact⟨(n1 a ha).1,Same.mut (Same.new hp _) (n1 a ha).2⟩
end
noncomputable def Xs(K:aG)(D:List PV->Option PV)(n:Nat):Sp:=λvs H Q _=>vs.length=n/\∃ls fp l,Iss K H ls vs fp/\D ls=some l/\∀v H' fq,Same H H'->Is K H' l v fq->fq.Nodup->(∀p∈fq,H p=aA/\V4 (H' p))->Q v H'
noncomputable def Zc(D:List PV->Option PV)(fs:List XE):XE:=λs=>(TV fs s).bind D
theorem Ze{α β:Type}{o:Option α}{g:α->Option β}{b:β}(h:o.bind g=some b):∃a,o=some a/\g a=some b:=by
 cases o with
 | none=>cases h
 | some a=>exact⟨a,rfl,h⟩
section
variable {X:Cx} {x:aq} {ps:List aq} {k:Nat} {e:bH} {es:List bH} {fs:List XE} {p pos:da}
theorem IM{D:List PV->Option PV}{n:Nat}(C:XQ X.prog X.w X.K X.mg X.base x ps (Xs X.K D n) k)(hr:Room k X.A)(hg:Gl X x)(ha:VA X (e::es) fs)(hn:fs.length=n:=by rfl)
  (hdb:(x==("__debug__" : aq))=aB:=by decide) (he:aQ (e::es) X.env=(aB,eval e X.env)::aQ es X.env:=by rfl) (hpl:(dD pos (aQ es X.env)).any (·.1)=aB:=by rfl) :
  VM X (.Call (.Name x p) (e::es) [] pos) (Zc D fs):=PE.imp (Zba C hr hg ha hdb he hpl) λσ H Q ⟨s,l,env,e,q⟩=>by
 obtain⟨ls,e1,e2⟩:=Ze e;refine⟨λ_=>False,s,ls,λ_ z=>z.elim,env,e1,λvs H1 fp s1 i1 n1=>?_⟩;show Xs X.K D n (vs++[]) H1 Q E0;rw[cu];exact⟨by rw[i1.len,Tr e1,hn],ls,fp,l,i1,e2,λv H2 fq s2 i2 d2 n2=>q v H2 fq (s1.trans s2) i2 d2 λa ha=>⟨Same.off s1 (n2 a ha).1,(n2 a ha).2⟩⟩
end
noncomputable def RC(K:aG)(r:List V->Hp->VK->Prop)(g:List PV->Option PV):Prop:=∀(H:Hp)(vs:List V)(ls:List PV)(l:PV)(fp:List aK),Iss K H ls vs fp->g ls=some l->∀Q:VK,
 (∀v H' fq,Same H H'->Is K H' l v fq->(∀p∈fq,p∈fp\/H p=aA)->Q v H')->r vs H Q
noncomputable def RCM(K:aG)(r:List V->Hp->VK->Prop)(g:List PV->Option PV):Prop:=∀(H:Hp)(vs:List V)(ls:List PV)(l:PV)(fp:List aK),Iss K H ls vs fp->g ls=some l->∀Q:VK,
 (∀v H' fq,Same H H'->Is K H' l v fq->fq.Nodup->(∀p∈fq,H p=aA/\V4 (H' p))->Q v H')->r vs H Q
theorem AJ{r:List V->Hp->VK->Prop}{g:List PV->Option PV}{fs:List XE}(hr:RC K r g):∀σ H Q,tF K (Zc g fs) σ H Q->tCB r (tFA K fs) σ H Q:=λσ H Q ⟨Rm,s,l,hd,env,e,k⟩=>by
 obtain⟨ls,e1,e2⟩:=Ze e;refine⟨Rm,s,ls,hd,env,e1,λvs H1 fp s1 i1 n1=>hr H1 vs ls l fp i1 e2 Q λv H2 fq s2 i2 n2=>k v H2 fq (s1.trans s2) i2 λp hp z=>?_⟩;rcases n2 p hp with h | h
 ·exact n1 p h z
 ·exact XX (Same.mut s1 (hd p z)) h
theorem AK{r:List V->Hp->VK->Prop}{g:List PV->Option PV}{fs:List XE}(hr:RCM K r g):∀σ H Q,tM K (Zc g fs) σ H Q->tCB r (tFA K fs) σ H Q:=λσ H Q ⟨s,l,env,e,k⟩=>by obtain⟨ls,e1,e2⟩:=Ze e;exact⟨λ_=>False,s,ls,λ_ z=>z.elim,env,e1,λvs H1 fp s1 i1 n1=>hr H1 vs ls l fp i1 e2 Q λv H2 fq s2 i2 d2 n2=>k v H2 fq (s1.trans s2) i2 d2 λp hp=>⟨Same.off s1 (n2 p hp).1,(n2 p hp).2⟩⟩
section
variable {X:Cx} {x:aq} {k:Nat} {e:bH} {es:List bH} {fs:List XE} {p pos:da} {id T:String} {r:List V->Hp->VK->Prop} {g:List PV->Option PV}
theorem LS(hc:X6 X (.builtin id) r)(hr:RC X.K r g)(hg:Gl X x)(hm:X.mg x=aA)(hv:cS x=some (.builtin id))(ha:VA X (e::es) fs)(hn:x≠"__name__":=by decide)(hdb:(x==("__debug__" : aq))=aB:=by decide)
  (he:aQ (e::es) X.env=(aB,eval e X.env)::aQ es X.env:=by rfl) (hpl:(dD pos (aQ es X.env)).any (·.1)=aB:=by rfl):VE X (.Call (.Name x p) (e::es) [] pos) (Zc g fs):=
 PE.imp (LA hc hg hm hv ha hn hdb he hpl) (AJ hr)
theorem Eo(hc:X6 X (.builtin id) r)(hr:RCM X.K r g)(hg:Gl X x)(hm:X.mg x=aA)(hv:cS x=some (.builtin id))(ha:VA X (e::es) fs)(hn:x≠"__name__":=by decide)(hdb:(x==("__debug__" : aq))=aB:=by decide)
  (he:aQ (e::es) X.env=(aB,eval e X.env)::aQ es X.env:=by rfl) (hpl:(dD pos (aQ es X.env)).any (·.1)=aB:=by rfl):VM X (.Call (.Name x p) (e::es) [] pos) (Zc g fs):=
 PE.imp (LA hc hg hm hv ha hn hdb he hpl) (AK hr)
theorem ZL(hc:X6 X (.type T) r)(hr:RC X.K r g)(hg:Gl X x)(hm:X.mg x=aA)(hv:cS x=some (.type T))(ha:VA X (e::es) fs)(hn:x≠"__name__":=by decide)(hdb:(x==("__debug__" : aq))=aB:=by decide)
  (he:aQ (e::es) X.env=(aB,eval e X.env)::aQ es X.env:=by rfl) (hpl:(dD pos (aQ es X.env)).any (·.1)=aB:=by rfl):VE X (.Call (.Name x p) (e::es) [] pos) (Zc g fs):=
 PE.imp (NA hc hg hm hv ha hn hdb he hpl) (AJ hr)
theorem Gp(hc:X6 X (.type T) r)(hr:RCM X.K r g)(hg:Gl X x)(hm:X.mg x=aA)(hv:cS x=some (.type T))(ha:VA X (e::es) fs)(hn:x≠"__name__":=by decide)(hdb:(x==("__debug__" : aq))=aB:=by decide)
  (he:aQ (e::es) X.env=(aB,eval e X.env)::aQ es X.env:=by rfl) (hpl:(dD pos (aQ es X.env)).any (·.1)=aB:=by rfl):VM X (.Call (.Name x p) (e::es) [] pos) (Zc g fs):=
 PE.imp (NA hc hg hm hv ha hn hdb he hpl) (AK hr)
end
theorem Iss.one_inv{H:Hp}{l:PV}{vs:List V}{fp:List aK}(h:Iss K H [l] vs fp):∃v,vs=[v]/\Is K H l v fp:=by obtain⟨x,r,f1,f2,rfl,a,b,rfl⟩:=h.inv;simp only[Iss] at b;rw[b.1,b.2,cu];exact⟨x,rfl,a⟩
theorem Iss.two_inv{H:Hp}{l m:PV}{vs:List V}{fp:List aK}(h:Iss K H [l,m] vs fp):∃v w f1 f2,vs=[v,w]/\Is K H l v f1/\Is K H m w f2/\fp=f1++f2:=by obtain⟨x,r,f1,f2,rfl,a,b,rfl⟩:=h.inv;obtain⟨y,rfl,c⟩:=b.one_inv;exact⟨x,y,f1,f2,rfl,a,c,rfl⟩
noncomputable def QG:PV->Option (List PV)
 | .lst l=>some l
 | .cst l=>some l
 | .tup l=>some l
 | _=>aA
theorem Uv{H:Hp}{l:PV}{v:V}{fp:List aK}{m:List PV}(h:Is K H l v fp)(e:QG l=some m):∃p xs fq,v = .ref p/\(SqL K H p xs\/SqT K H p xs)/\Iss K H m xs fq/\∀q∈fq,q∈fp:=by
 cases l with
 | lst l=>
  cases e;obtain⟨p,xs,fq,rfl,hp,hi,rfl⟩:=h.lst_inv;exact⟨p,xs,fq,rfl,.inl (SqL.of hp),hi,λq hq=>aS _ hq⟩
 | cst l=>
  cases e;obtain⟨p,xs,rfl,hp,hi⟩:=h.cst_inv;exact⟨p,xs,fp,rfl,.inl hp.sq,hi,λq hq=>hq⟩
 | tup l=>
  cases e;obtain⟨p,xs,rfl,hp,hi⟩:=h.tup_inv;exact⟨p,xs,fp,rfl,.inr (SqT.of hp),hi,λq hq=>hq⟩
 | _=>cases e
noncomputable def Zz:List PV->Option PV
 | [.str z]=>if z.length<=sizeLine then some (.int z.length) else aA
 | [l]=>(QG l).map λm=>.int m.length
 | _=>aA
theorem Zbh:RC K (λxs H Q=>∃x n,xs=[x]/\Zdj K x H n/\Q (.int n) H) Zz:=λH vs ls l fp h e Q k=>by
 unfold Zz at e;split at e
 ·split at e
  ·cases e;obtain⟨v,rfl,i⟩:=h.one_inv;exact⟨v,_,rfl,by rw[i.str_inv.1];exact⟨by assumption,rfl⟩,k _ H [] (Same.refl H) (Is.int _) λp hp=>by simp at hp⟩
  ·cases e
 ·obtain⟨m,e1,rfl⟩:=map_some e;obtain⟨v,rfl,i⟩:=h.one_inv;obtain⟨p,xs,fq,rfl,hp,hi,_⟩:=Uv (K:=K) i e1;refine⟨_,xs.length,rfl,?_,?_⟩
  ·rcases hp with hp | hp
   ·exact .inl ⟨xs,hp,rfl⟩
   ·exact .inr ⟨xs,hp,rfl⟩
  ·rw[hi.len];exact k _ H [] (Same.refl H) (Is.int _) λp hp=>by simp at hp
 ·cases e
noncomputable def ZR:List PV->Option PV
 | [l]=>(QG l).map .tup
 | _=>aA
theorem ZT:RC K (Zbb K) ZR:=λH vs ls l fp h e Q k=>by
 unfold ZR at e;split at e
 ·obtain⟨m,e1,rfl⟩:=map_some e;obtain⟨v,rfl,i⟩:=h.one_inv;rename_i l0
  cases l0 with
  | tup l=>
   cases e1;obtain⟨p,xs,rfl,hp,hi⟩:=id i.tup_inv;exact⟨p,xs,rfl,.inr ⟨SqT.of hp,k _ H fp (Same.refl H) i λa ha=>.inl ha⟩⟩
  | lst l=>
   cases e1;obtain⟨p,xs,fq,rfl,hp,hi,rfl⟩:=i.lst_inv;exact⟨p,xs,rfl,.inl ⟨SqL.of hp,λq hq=>k _ _ fq (Same.new hq _) (Is.tup Zp (hi.mono (Same.new hq _))) λa ha=>.inl (aS _ ha)⟩⟩
  | cst l=>
   cases e1;obtain⟨p,xs,rfl,hp,hi⟩:=i.cst_inv;exact⟨p,xs,rfl,.inl ⟨hp.sq,λq hq=>k _ _ fp (Same.new hq _) (Is.tup Zp (hi.mono (Same.new hq _))) λa ha=>.inl ha⟩⟩
  | _=>cases e1
 ·cases e
noncomputable def UT:List PV->Option PV
 | [l]=>(QG l).bind λm=>if ZH m=aC then some (.lst m) else aA
 | _=>aA
theorem Ep:RCM K (Bb K) UT:=λH vs ls l fp h e Q k=>by
 unfold UT at e;split at e
 ·obtain⟨m,e1,e2⟩:=Ze e;split at e2
  ·cases e2;obtain⟨v,rfl,i⟩:=h.one_inv;obtain⟨p,xs,fq,rfl,hp,hi,hs⟩:=Uv (K:=K) i e1;have:=Iss.pure _ _ _ (by assumption) hi;subst this;refine⟨p,xs,rfl,hp,λq hq=>k _ _ [q] (Same.new hq _) (Is.lst Zp (hi.mono (Same.new hq _))) (by simp) λa ha=>?_⟩;rw[aO.mp ha];exact⟨hq,by rw[Zp];exact bW⟩
  ·cases e2
 ·cases e
noncomputable def YQ:List PV->Option (List Int)
 | []=>some []
 | .int i::r=>(YQ r).map (i::·)
 | _=>aA
theorem Ys:∀l:List Int,YQ (iL l)=some l
 | []=>rfl
 | i::r=>by show(YQ (iL r)).map (i::·)=_;rw[Ys r];rfl
theorem YH:∀{m:List PV}{l:List Int},YQ m=some l->m=iL l
 | [],l,h=>by cases h;rfl
 | .int i::r,l,h=>by obtain⟨a,e,rfl⟩:=map_some (show(YQ r).map (i::·)=some l from h);rw[YH e];rfl
 | .non::_,_,h=>by cases h
 | .bl _::_,_,h=>by cases h
 | .str _::_,_,h=>by cases h
 | .ty _::_,_,h=>by cases h
 | .exc _::_,_,h=>by cases h
 | .exf _ _::_,_,h=>by cases h
 | .clo _ _::_,_,h=>by cases h
 | .tup _::_,_,h=>by cases h
 | .lst _::_,_,h=>by cases h
 | .cst _::_,_,h=>by cases h
 | .dK _ _::_,_,h=>by cases h
 | .dT _ _::_,_,h=>by cases h
abbrev bL(l:List Bool):List PV:=l.map PV.bl
noncomputable def Ts:List PV->Option (List Bool)
 | []=>some []
 | .bl i::r=>(Ts r).map (i::·)
 | _=>aA
theorem T7:∀l:List Bool,Ts (bL l)=some l
 | []=>rfl
 | i::r=>by show(Ts (bL r)).map (i::·)=_;rw[T7 r];rfl
theorem SK:∀{m:List PV}{l:List Bool},Ts m=some l->m=bL l
 | [],l,h=>by cases h;rfl
 | .bl i::r,l,h=>by obtain⟨a,e,rfl⟩:=map_some (show(Ts r).map (i::·)=some l from h);rw[SK e];rfl
 | .non::_,_,h=>by cases h
 | .int _::_,_,h=>by cases h
 | .str _::_,_,h=>by cases h
 | .ty _::_,_,h=>by cases h
 | .exc _::_,_,h=>by cases h
 | .exf _ _::_,_,h=>by cases h
 | .clo _ _::_,_,h=>by cases h
 | .tup _::_,_,h=>by cases h
 | .lst _::_,_,h=>by cases h
 | .cst _::_,_,h=>by cases h
 | .dK _ _::_,_,h=>by cases h
 | .dT _ _::_,_,h=>by cases h
theorem Iss.bL{H:Hp}:∀{l:List Bool}{xs:List V}{fp:List aK},Iss K H (VL.bL l) xs fp->xs=l.map V.bl/\fp=[]
 | [],xs,fp,h=>by simpa only[VL.bL,dN,Iss] using h
 | i::l,xs,fp,h=>by obtain⟨x,r,f1,f2,rfl,h1,h2,rfl⟩:=Iss.inv (show Iss K H (PV.bl i::VL.bL l) xs fp from h);obtain⟨rfl,rfl⟩:=h1.bl_inv;obtain⟨rfl,rfl⟩:=h2.bL;exact⟨rfl,rfl⟩
theorem Jj{H:Hp}{p:aK}{xs:List V}(h:SqL K H p xs\/SqT K H p xs):∃b,Ng b K H p xs:=by
 rcases h with h | h
 ·exact⟨aC,h⟩
 ·exact⟨aB,h⟩
noncomputable def Nn:List PV->Option PV
 | [l]=>(QG l).bind λm=>(YQ m).map λns=>.int ns.sum
 | _=>aA
noncomputable def Gq:List PV->Option PV
 | [l]=>(QG l).bind λm=>(Ts m).map λbs=>.bl (bs.all id)
 | _=>aA
theorem Mr:RC K (λxs H Q=>∃(b:Bool) (p:aK) (ns:List Int),xs=[.ref p]/\Ng b K H p (ns.map V.int)/\Q (.int ns.sum) H) Nn:=λH vs ls l fp h e Q k=>by
 unfold Nn at e;split at e
 ·obtain⟨m,e1,e2⟩:=Ze e;obtain⟨ns,e3,rfl⟩:=map_some e2;obtain⟨v,rfl,i⟩:=h.one_inv;obtain⟨p,xs,fq,rfl,hp,hi,hs⟩:=Uv (K:=K) i e1;have em:=YH e3;subst em;obtain⟨rfl,rfl⟩:=hi.iL;obtain⟨b,hb⟩:=Jj hp;exact⟨b,p,ns,rfl,hb,k _ H [] (Same.refl H) (Is.int _) λp hp=>by simp at hp⟩
 ·cases e
theorem Zbi:RC K (λxs H Q=>∃(b:Bool) (p:aK) (bs:List Bool),xs=[.ref p]/\Ng b K H p (bs.map V.bl)/\Q (.bl (bs.all id)) H) Gq:=λH vs ls l fp h e Q k=>by
 unfold Gq at e;split at e
 ·obtain⟨m,e1,e2⟩:=Ze e;obtain⟨ns,e3,rfl⟩:=map_some e2;obtain⟨v,rfl,i⟩:=h.one_inv;obtain⟨p,xs,fq,rfl,hp,hi,hs⟩:=Uv (K:=K) i e1;have em:=SK e3;subst em;obtain⟨rfl,rfl⟩:=hi.bL;obtain⟨b,hb⟩:=Jj hp;exact⟨b,p,ns,rfl,hb,k _ H [] (Same.refl H) (Is.bl _) λp hp=>by simp at hp⟩
 ·cases e
noncomputable def Zd4:List PV->Option PV
 | [.int i,.int j]=>some (.int (if j<i then j else i))
 | _=>aA
noncomputable def SM:List PV->Option PV
 | [.int i,.int j]=>some (.int (if j>i then j else i))
 | _=>aA
noncomputable def UU:List PV->Option PV
 | [.int i]=>some (.int i)
 | [.bl c]=>some (.int (if c then 1 else 0))
 | _=>aA
theorem Bj:RC K (λxs H Q=>∃i j,xs=[.int i,.int j]/\Q (.int (if j>i then j else i)) H) SM:=λH vs ls l fp h e Q k=>by
 unfold SM at e;split at e
 ·cases e;obtain⟨v,w,f1,f2,rfl,a,b,rfl⟩:=h.two_inv;exact⟨_,_,by rw[a.int_inv.1,b.int_inv.1],k _ H [] (Same.refl H) (Is.int _) λp hp=>by simp at hp⟩
 ·cases e
theorem IP:RC K (λxs H Q=>(∃i,xs=[.int i]/\Q (.int i) H)\/∃k,xs=[.bl k]/\Q (.int (if k then 1 else 0)) H) UU:=λH vs ls l fp h e Q k=>by
 unfold UU at e;split at e
 ·cases e;obtain⟨v,rfl,a⟩:=h.one_inv;exact .inl ⟨_,by rw[a.int_inv.1],k _ H [] (Same.refl H) (Is.int _) λp hp=>by simp at hp⟩
 ·cases e;obtain⟨v,rfl,a⟩:=h.one_inv;exact .inr ⟨_,by rw[a.bl_inv.1],k _ H [] (Same.refl H) (Is.int _) λp hp=>by simp at hp⟩
 ·cases e
section
variable {X:Cx} {e:bH} {es:List bH} {fs:List XE} {p pos:da}
noncomputable def Vv:List PV->Option PV
 | [.int _,.ty "int"]=>some (.bl aC)
 | [.int _,.ty "bool"]=>some (.bl aB)
 | [.bl _,.ty "bool"]=>some (.bl aC)
 | [.tup _,.ty "tuple"]=>some (.bl aC)
 | [.lst _,.ty "list"]=>some (.bl aC)
 | [.str _,.ty "str"]=>some (.bl aC)
 | _=>aA
theorem Np:cj K (.type "bool") (.type "bool")=some aC:=rfl
theorem QS:RC K (λxs H Q=>∃x T t b,xs=[x,.ty T]/\TyOf K H x t/\cj K t (.type T)=some b/\Q (.bl b) H) Vv:=λH vs ls l fp h e Q k=>by
  have fin:∀b:Bool,l = .bl b->Q (.bl b) H:=λb z=>by subst z;exact k _ H [] (Same.refl H) (Is.bl _) λp hp=>by simp at hp
  unfold Vv at e
  split at e<;>first
    | (cases e
       obtain⟨v,w,f1,f2,rfl,a,b,rfl⟩:=h.two_inv
       first
         | (obtain⟨rfl,_⟩:=a.int_inv;first
             | exact⟨_,_,_,_,by rw[b.ty_inv.1],TyOf.int _,LL,fin _ rfl⟩
             | exact⟨_,_,_,_,by rw[b.ty_inv.1],TyOf.int _,Mm,fin _ rfl⟩)
         | (obtain⟨rfl,_⟩:=a.bl_inv;exact⟨_,_,_,_,by rw[b.ty_inv.1],TyOf.bl _,Np,fin _ rfl⟩)
         | (obtain⟨rfl,_⟩:=a.str_inv;exact⟨_,_,_,_,by rw[b.ty_inv.1],TyOf.str _,LN,fin _ rfl⟩)
         | (obtain⟨q,xs,rfl,hp,_⟩:=a.tup_inv;exact⟨_,_,_,_,by rw[b.ty_inv.1],TyOf.tup hp,LM,fin _ rfl⟩)
         | (obtain⟨q,xs,fq,rfl,hp,_⟩:=a.lst_inv
            exact⟨_,_,_,_,by rw[b.ty_inv.1],TyOf.lst hp,Nm,fin _ rfl⟩))
    | cases e
theorem IQ{x:aq}{n:String}(hg:Gl X x)(hm:X.mg x=aA)(hv:cS x=some (.type n))(hn:x≠"__name__":=by decide)(hd:(x==("__debug__" : aq))=aB:=by decide):VE X (.Name x pos) (eC (.ty n)):=
 Ec (CF hg hm hv (v:=.ty n) rfl hn hd) λ_=>Is.ty n
end
end VL
namespace VL
open PySem PySem.Spec PyProof.Rows L2
variable {K:aG}
open Classical in
instance:DecidableEq PV:=λa b=>propDecidable (a=b)
noncomputable def Wu:Nat->PV->PV->Bool
 | _+1,.non,.non=>aC
 | _+1,.bl _,.bl _=>aC
 | _+1,.int _,.int _=>aC
 | _+1,.str _,.str _=>aC
 | n+1,.tup l,.tup m=>(l.zip m).all λz=>Wu n z.1 z.2
 | n+1,.lst l,.lst m=>(l.zip m).all λz=>Wu n z.1 z.2
 | _,_,_=>aB
theorem SN{α β:Type}{p:α×β->Bool}{a:α}{b:β}{l:List α}{m:List β}(h:((a::l).zip (b::m)).all p=aC):p (a,b)=aC/\(l.zip m).all p=aC:=by rw[dC,iW,av] at h;exact h
theorem Iss.inj'{n:Nat}{H:Hp}(ih:∀a b v fa fb,Wu n a b=aC->Is K H a v fa->Is K H b v fb->a=b):∀{l m:List PV}{xs:List V}{fa fb:List aK},(l.zip m).all (λz=>Wu n z.1 z.2)=aC->Iss K H l xs fa->Iss K H m xs fb->l=m
 | [],m,xs,fa,fb,_,h,h'=>by
  simp only[Iss] at h;rw[h.1] at h';have:=h'.len
  cases m with
  | nil=>rfl
  | cons _ _=>simp at this
 | a::l,m,xs,fa,fb,hc,h,h'=>by
  obtain⟨x,r,f1,f2,rfl,h1,h2,rfl⟩:=h.inv
  cases m with
  | nil=>have:=h'.len;simp at this
  | cons b m=>
   obtain⟨x',r',g1,g2,e,h3,h4,rfl⟩:=h'.inv;cases e;obtain⟨c1,c2⟩:=SN hc;rw[ih a b x f1 g1 c1 h1 h3,Iss.inj' ih c2 h2 h4]
theorem Is.inj'{H:Hp}:∀(n:Nat)(a b:PV)(v:V)(fa fb:List aK),Wu n a b=aC->Is K H a v fa->Is K H b v fb->a=b
 | 0,a,b,v,fa,fb,hc,_,_=>by unfold Wu at hc;simp at hc
 | n+1,a,b,v,fa,fb,hc,ha,hb=>by
  cases a<;>cases b<;>first
   | (exfalso;revert hc;unfold Wu;simp;done)
   | skip
  ·rfl
  ·rw[ha.bl_inv.1] at hb;have:=hb.bl_inv.1;cases this;rfl
  ·rw[ha.int_inv.1] at hb;have:=hb.int_inv.1;cases this;rfl
  ·rw[ha.str_inv.1] at hb;have:=hb.str_inv.1;cases this;rfl
  ·obtain⟨p,xs,rfl,hp,hi⟩:=ha.tup_inv;obtain⟨p',ys,e,hp',hi'⟩:=hb.tup_inv;cases e;rw[hp] at hp';cases hp';unfold Wu at hc;rw[Iss.inj' (Is.inj' n) hc hi hi']
  ·obtain⟨p,xs,fq,rfl,hp,hi,_⟩:=ha.lst_inv;obtain⟨p',ys,fq',e,hp',hi',_⟩:=hb.lst_inv;cases e;rw[hp] at hp';cases hp';unfold Wu at hc;rw[Iss.inj' (Is.inj' n) hc hi hi']
section
variable {X:Cx} {m4:List (aK×cx)} {σ:QF} {H:Hp} {s:aP} {A:bt}
theorem Jk{n:Nat}(ih:∀a b x y fa fb u w,Wu n a b=aC->Is K H a x fa->Is K H b y fb->RelV x u->RelV y w->∃r,jN A s u w r/\(r=aC↔a=b)) :
  ∀{l m:List PV}{xs ys:List V}{fa fb:List aK}{us ws:List aI},(l.zip m).all (λz=>Wu n z.1 z.2)=aC->Iss K H l xs fa->Iss K H m ys fb->Vals xs us->Vals ys ws->
  ∃e:Nat->Bool,(∀j (h1:j<us.length) (h2:j<ws.length),jN A s us[j] ws[j] (e j))/\((aD (min us.length ws.length)).all e=aC↔l.take (min us.length ws.length)=m.take (min us.length ws.length))
 | [],m,xs,ys,fa,fb,us,ws,_,h,_,r,_=>by simp only[Iss] at h;obtain⟨rfl,_⟩:=h;cases r;exact⟨λ_=>aC,λj h1=>by simp at h1,by simp⟩
 | a::l,[],xs,ys,fa,fb,us,ws,_,_,h,_,r=>by simp only[Iss] at h;obtain⟨rfl,_⟩:=h;cases r;exact⟨λ_=>aC,λj h1 h2=>by simp at h2,by simp⟩
 | a::l,b::m,xs,ys,fa,fb,us,ws,hc,h,h',r,r'=>by
  obtain⟨x,xr,f1,f2,rfl,h1,h2,rfl⟩:=h.inv;obtain⟨y,yr,g1,g2,rfl,h3,h4,rfl⟩:=h'.inv;obtain⟨c1,c2⟩:=SN hc
  cases r with
  | cons q v=>cases r' with
   | cons q' v'=>
    obtain⟨t,ht,ht'⟩:=ih a b x y f1 g1 _ _ c1 h1 h3 q q';obtain⟨e,he,he'⟩:=Jk ih c2 h2 h4 v v';refine⟨λj=>match j with | 0=>t | k+1=>e k,λj h1 h2=>?_,?_⟩
    ·cases j with
     | zero=>exact ht
     | succ k=>exact he k (by simpa using h1) (by simpa using h2)
    ·simp only[bA,Nat.succ_min_succ,gL,iW,jO,av,List.take_succ_cons,List.cons.injEq];exact and_congr ht' he'
theorem Iss.same'{l m:List PV}{xs ys:List V}{fa fb:List aK}{us ws:List aI}(h:Iss K H l xs fa)(h':Iss K H m ys fb)(r:Vals xs us)(r':Vals ys ws) :
  (l.take (min us.length ws.length)=m.take (min us.length ws.length)/\us.length=ws.length)↔l=m:=by
 have e1:=h.len;have e2:=h'.len;have e3:=r.length;have e4:=r'.length;constructor
 ·rintro⟨a,b⟩;rw[bg (by omega),bg (by omega)] at a;exact a
 ·intro a;subst a;exact⟨rfl,by omega⟩
noncomputable def AL(A:bt)(s:aP)(u w:aI)(r:Bool):Prop:=SeqAt.RcAt A s u w r/\SeqAt.RcNeAt A s u w !r
theorem Pz(I:Inv X m4 σ H s):∀(n:Nat)(A:bt)(a b:PV)(x y:V)(fa fb:List aK)(u w:aI),A.units+2*n+2<dj->Wu n a b=aC->Is K H a x fa->Is K H b y fb->RelV x u->RelV y w->
  (∃r,jN A s u w r/\(r=aC↔a=b))/\∃r,AL A s u w r/\(r=aC↔a=b)
 | 0,A,a,b,x,y,fa,fb,u,w,hu,hc,_,_,_,_=>by unfold Wu at hc;simp at hc
 | n+1,A,a,b,x,y,fa,fb,u,w,hu,hc,ha,hb,ru,Z7=>by
  cases a<;>cases b<;>first
   | (exfalso;revert hc;unfold Wu;simp;done)
   | skip
  ·rw[ha.non_inv.1] at ru;rw[hb.non_inv.1] at Z7;cases ru;cases Z7;exact⟨⟨aC,jX _,by simp⟩,aC,⟨SeqAt.RcAt.none_none,SeqAt.RcNeAt.none_none⟩,by simp⟩
  ·rw[ha.bl_inv.1] at ru;rw[hb.bl_inv.1] at Z7;cases ru;cases Z7;exact⟨⟨_,jN.bool_bool _ _,by simp⟩,_,⟨SeqAt.RcAt.bool_bool _ _,SeqAt.RcNeAt.bool_bool _ _⟩,by simp⟩
  ·rw[ha.int_inv.1] at ru;rw[hb.int_inv.1] at Z7;obtain⟨t,rfl⟩:=ru;obtain⟨t',rfl⟩:=Z7;exact⟨⟨_,kP _ _ _ _,by simp⟩,_,⟨SeqAt.RcAt.int_int _ _ _ _,SeqAt.RcNeAt.int_int _ _ _ _⟩,by simp⟩
  ·rw[ha.str_inv.1] at ru;rw[hb.str_inv.1] at Z7;obtain⟨t,rfl⟩:=ru;obtain⟨t',rfl⟩:=Z7;exact⟨⟨_,jN.str_str _ _ _ _,by simp⟩,_,⟨SeqAt.RcAt.str_str _ _ _ _,SeqAt.RcNeAt.str_str _ _ _ _⟩,by simp⟩
  ·rename_i l1 l2;obtain⟨p,xs,rfl,hp,hi⟩:=id ha.tup_inv;obtain⟨p',ys,rfl,hp',hi'⟩:=id hb.tup_inv;cases ru;cases Z7;have hc':=hc;unfold Wu at hc';obtain⟨us,rv,q,_⟩:=I.tuple (SqT.of hp);obtain⟨ws,rv',q',_⟩:=I.tuple (SqT.of hp');obtain⟨f,hf,hf'⟩:=Jk (A:=A.in1) (λa b x y fa fb u w c i1 i2 r1 r2=>(Pz I n A.in1 a b x y fa fb u w (by show A.units+1+2*n+2<dj;omega) c i1 i2 r1 r2).1) hc' hi hi' rv rv';have rc:=SeqAt.RcAt.tuples (A:=A) (e:=f) (show s.heap.IsTuple p us.toArray from q) (show s.heap.IsTuple p' ws.toArray from q') (by omega) (λj h1 h2=>hf j (by simpa using h1) (by simpa using h2));have rn:=SeqAt.RcNeAt.tuples (A:=A) (e:=f) (show s.heap.IsTuple p us.toArray from q) (show s.heap.IsTuple p' ws.toArray from q') (by omega) (λj h1 h2=>hf j (by simpa using h1) (by simpa using h2));have key:(((aD (min us.toArray.size ws.toArray.size)).all f&&us.toArray.size==ws.toArray.size)=aC)↔PV.tup l1=PV.tup l2:=by simp only[aT,av,beq_iff_eq,PV.tup.injEq];rw[hf'];exact Iss.same' hi hi' rv rv'
   refine⟨?_,_,⟨rc,rn⟩,key⟩;by_cases e:p=p'
   ·subst e;exact⟨aC,jX _,by simp[Is.inj' (n+1) _ _ _ _ _ hc ha hb]⟩
   ·exact⟨_,kQ e rc,key⟩
  ·rename_i l1 l2;obtain⟨p,xs,fq,rfl,hp,hi,_⟩:=id ha.lst_inv;obtain⟨p',ys,fq',rfl,hp',hi',_⟩:=id hb.lst_inv;cases ru;cases Z7;have hc':=hc;unfold Wu at hc';obtain⟨us,rv,q,_⟩:=I.list (SqL.of hp);obtain⟨ws,rv',q',_⟩:=I.list (SqL.of hp');obtain⟨f,hf,hf'⟩:=Jk (A:=A.in1) (λa b x y fa fb u w c i1 i2 r1 r2=>(Pz I n A.in1 a b x y fa fb u w (by show A.units+1+2*n+2<dj;omega) c i1 i2 r1 r2).1) hc' hi hi' rv rv'
   have fin:∃r,AL A s (.ref p) (.ref p') r/\(r=aC↔PV.lst l1=PV.lst l2):=by
    have key:=Iss.same' hi hi' rv rv';by_cases hsz:us.length=ws.length
    ·refine⟨_,⟨SeqAt.RcAt.lists (e:=f) q.isList q'.isList (by simpa using hsz) (by omega) (λj h1 h2=>hf j (by simpa using h1) (by simpa using h2)),SeqAt.RcNeAt.lists (e:=f) q.isList q'.isList (by simpa using hsz) (by omega) (λj h1 h2=>hf j (by simpa using h1) (by simpa using h2))⟩,?_⟩;rw[hsz,Nat.min_self] at hf' key;simp only[aT,PV.lst.injEq];rw[hsz,hf',<-key];simp
    ·refine⟨aB,⟨SeqAt.RcAt.lists_lengths q.isList q'.isList (by simpa using hsz) (by omega),SeqAt.RcNeAt.lists_lengths q.isList q'.isList (by simpa using hsz) (by omega)⟩,?_⟩;rw[PV.lst.injEq,<-key];simp[hsz]
   obtain⟨r,hr,hk⟩:=fin;refine⟨?_,r,hr,hk⟩;by_cases e:p=p'
   ·subst e;exact⟨aC,jX _,by simp[Is.inj' (n+1) _ _ _ _ _ hc ha hb]⟩
   ·exact⟨r,kQ e hr.1,hk⟩
end
noncomputable def Zbj(K:aG)(neg:Bool):R2:=λx y H Q=>∃a b fa fb,Is K H a x fa/\Is K H b y fb/\Wu 8 a b=aC/\∀r:Bool,(r=aC↔a=b)->Q (.bl (if neg then !r else r)) H
section
variable {X:Cx}
theorem Er(hu:X.A.units+64<dj):T3 X (dc .Eq) (Zbj X.K aB):=by intro m4 s σ H x y v u Q I rx ry h;obtain⟨a,b,fa,fb,ha,hb,hc,q⟩:=h;obtain⟨_,r,hr,hk⟩:=Pz I 8 X.A a b x y fa fb v u (by omega) hc ha hb rx ry;exact hr.1 X.prog X.w X.xe _ ⟨.bl r,H,I,rfl,q r hk⟩
theorem Es(hu:X.A.units+64<dj):T3 X (dc .NotEq) (Zbj X.K aC):=by intro m4 s σ H x y v u Q I rx ry h;obtain⟨a,b,fa,fb,ha,hb,hc,q⟩:=h;obtain⟨_,r,hr,hk⟩:=Pz I 8 X.A a b x y fa fb v u (by omega) hc ha hb rx ry;exact hr.2 X.prog X.w X.xe _ ⟨.bl !r,H,I,rfl,q r hk⟩
end
noncomputable def YW(neg:Bool):PV->PV->Option PV:=λa b=>if Wu 8 a b=aC then some (.bl (if neg then !decide (a=b) else decide (a=b))) else aA
theorem Ms(neg:Bool):RB K (Zbj K neg) (YW neg):=λH x y a b l fa fb ha hb e Q k=>by
 unfold YW at e;split at e
 ·cases e;refine⟨a,b,fa,fb,ha,hb,by assumption,λr hr=>?_⟩
  have:r=decide (a=b):=by
   cases r with
   | true=>exact(decide_eq_true (hr.mp rfl)).symm
   | false=>exact(decide_eq_false λz=>au (hr.mpr z)).symm
  subst this;exact k _ H [] (Same.refl H) (Is.bl _) λp hp=>by simp at hp
 ·cases e
noncomputable def Zbk(K:aG)(neg:Bool):R2:=λx y H Q=>∃a b m fa fb,Is K H a x fa/\Is K H b y fb/\QG b=some m/\(m.all λz=>Wu 8 z a)=aC/\∀r:Bool,(r=aC↔a∈m)->Q (.bl (if neg then !r else r)) H
section
variable {X:Cx} {m4:List (aK×cx)} {σ:QF} {H:Hp} {s:aP}
theorem QT{a:PV}{x:V}{fa:List aK}{u:aI}{A:bt}(I:Inv X m4 σ H s)(hu:A.units+18<dj)(ha:Is K H a x fa)(rx:RelV x u):∀{m:List PV}{xs:List V}{fb:List aK}{us:List aI},(m.all λz=>Wu 8 z a)=aC->Iss K H m xs fb->Vals xs us->
  ∃e:aI->Bool,(∀y∈us,jN A s y u (e y))/\(us.any e=aC↔a∈m):=λ{m xs fb us} hc h r=>by
 -- each one's answer
 have each:∀y∈us,∃t:Bool,jN A s y u t/\(t=aC↔∃b,b∈m/\b=a/\∃z f,Is K H b z f/\RelV z y):=λy hy=>by obtain⟨j,hj,e⟩:=g0.mp hy;have hl:=r.length;have hxj:xs[j]?=some xs[j]:=aF (by omega);obtain⟨b,f,hb,ib,_⟩:=h.get' hxj;obtain⟨w,hw,Z7⟩:=r.get hxj;rw[aF hj] at hw;cases hw;rw[e] at Z7;have hbm:b∈m:=b8 hb;have cb:=bM.mp hc b hbm;obtain⟨⟨t,ht,hk⟩,_⟩:=Pz I 8 A b a xs[j] x f fa y u (by omega) cb ib ha Z7 rx;refine⟨t,ht,hk.trans ⟨λz=>⟨b,hbm,z,xs[j],f,ib,Z7⟩,λ⟨b',hb',e',z,f',i',r'⟩=>?_⟩⟩;have ez:z=xs[j]:=r'.inj Z7;subst ez;have cb':=bM.mp hc b' hb';subst e';exact Is.inj' 8 b b' _ _ _ cb ib i'
 classical
 refine⟨λy=>if hy:y∈us then(each y hy).choose else aB,λy hy=>?_,?_⟩
 ·simp only[dif_pos hy];exact(each y hy).choose_spec.1
 ·rw[ik];constructor
  ·rintro⟨y,hy,e⟩;rw[dif_pos hy] at e;obtain⟨b,hb,rfl,_⟩:=(each y hy).choose_spec.2.mp e;exact hb
  ·intro hm;obtain⟨j,hj,e⟩:=g0.mp hm;obtain⟨z,f,hz,iz,_⟩:=h.get (aF hj);obtain⟨y,hy,ry⟩:=r.get hz;have hyu:y∈us:=b8 hy;refine⟨y,hyu,?_⟩;rw[dif_pos hyu];exact(each y hyu).choose_spec.2.mpr ⟨a,hm,rfl,z,f,e▸iz,ry⟩
end
section
variable {X:Cx}
theorem Et(hu:X.A.units+64<dj):T3 X (dc .In) (Zbk X.K aB):=by
 intro m4 s σ H x y v u Q I rx ry h;obtain⟨a,b,m,fa,fb,ha,hb,hm,hc,q⟩:=h;obtain⟨p,xs,fq,rfl,hp,hi,_⟩:=Uv (K:=X.K) hb hm;cases ry;rcases hp with hp | hp
 ·obtain⟨us,rv,t,_⟩:=I.list hp;obtain⟨e,he,hk⟩:=QT (A:=X.A.in1) I (by show X.A.units+1+18<dj;omega) ha rx hc hi rv;refine SeqAt.in_listAt e t.isList (λw hw=>he w (by simpa using hw)) ⟨.bl _,H,I,rfl,?_⟩;rw[show us.toArray.any e=us.any e by simp];exact q _ hk
 ·obtain⟨us,rv,t,_⟩:=I.tuple hp;obtain⟨e,he,hk⟩:=QT (A:=X.A.in1) I (by show X.A.units+1+18<dj;omega) ha rx hc hi rv;refine SeqAt.in_tupleAt e t (λw hw=>he w (by simpa using hw)) ⟨.bl _,H,I,rfl,?_⟩;rw[show us.toArray.any e=us.any e by simp];exact q _ hk
theorem Gr(hu:X.A.units+64<dj):T3 X (dc .NotIn) (Zbk X.K aC):=by
 intro m4 s σ H x y v u Q I rx ry h;obtain⟨a,b,m,fa,fb,ha,hb,hm,hc,q⟩:=h;obtain⟨p,xs,fq,rfl,hp,hi,_⟩:=Uv (K:=X.K) hb hm;cases ry;rcases hp with hp | hp
 ·obtain⟨us,rv,t,_⟩:=I.list hp;obtain⟨e,he,hk⟩:=QT (A:=X.A.in1) I (by show X.A.units+1+18<dj;omega) ha rx hc hi rv;refine SeqAt.notIn_listAt e t.isList (λw hw=>he w (by simpa using hw)) ⟨.bl _,H,I,rfl,?_⟩;rw[show us.toArray.any e=us.any e by simp];exact q _ hk
 ·obtain⟨us,rv,t,_⟩:=I.tuple hp;obtain⟨e,he,hk⟩:=QT (A:=X.A.in1) I (by show X.A.units+1+18<dj;omega) ha rx hc hi rv;refine SeqAt.notIn_tupleAt e t (λw hw=>he w (by simpa using hw)) ⟨.bl _,H,I,rfl,?_⟩;rw[show us.toArray.any e=us.any e by simp];exact q _ hk
end
noncomputable def Uw(neg:Bool):PV->PV->Option PV:=λa b=>(QG b).bind λm=>if(m.all λz=>Wu 8 z a)=aC then some (.bl (if neg then !decide (a∈m) else decide (a∈m))) else aA
theorem Jl(neg:Bool):RB K (Zbk K neg) (Uw neg):=λH x y a b l fa fb ha hb e Q k=>by
 obtain⟨m,hm,e⟩:=Ze e;split at e
 ·cases e;refine⟨a,b,m,fa,fb,ha,hb,hm,by assumption,λr hr=>?_⟩
  have:r=decide (a∈m):=by
   cases r with
   | true=>exact(decide_eq_true (hr.mp rfl)).symm
   | false=>exact(decide_eq_false λz=>au (hr.mpr z)).symm
  subst this;exact k _ H [] (Same.refl H) (Is.bl _) λp hp=>by simp at hp
 ·cases e
end VL
namespace VL
open PySem PySem.Spec PyProof.Rows L2
variable {K:aG}
mutual
theorem Is.dom{H:Hp}:∀(l:PV)(v:V)(fp:List aK),Is K H l v fp->∀p∈fp,H p≠aA
 | .non,_,_,h=>by simp only[Is] at h;rw[h.2];simp
 | .bl _,_,_,h=>by simp only[Is] at h;rw[h.2];simp
 | .int _,_,_,h=>by simp only[Is] at h;rw[h.2];simp
 | .str _,_,_,h=>by simp only[Is] at h;rw[h.2];simp
 | .ty _,_,_,h=>by simp only[Is] at h;rw[h.2];simp
 | .exc _,_,_,h=>by simp only[Is] at h;rw[h.2];simp
 | .exf _ _,_,_,h=>by simp only[Is] at h;rw[h.2];simp
 | .clo L l,v,fp,h=>by simp only[Is] at h;obtain⟨u,x,_,_,hi⟩:=h;exact Is.dom l x fp hi
 | .tup l,v,fp,h=>by obtain⟨p,xs,_,_,hi⟩:=h.tup_inv;exact Iss.dom l xs fp hi
 | .lst l,v,fp,h=>by
  obtain⟨p,xs,fq,_,hp,hi,rfl⟩:=h.lst_inv;intro q hq;rcases af.mp hq with rfl | hq
  ·rw[hp];simp
  ·exact Iss.dom l xs fq hi q hq
 | .cst l,v,fp,h=>by obtain⟨p,xs,_,_,hi⟩:=h.cst_inv;exact Iss.dom l xs fp hi
 | .dK ks l,v,fp,h=>by
  obtain⟨p,m5,fq,_,hp,_,hi,rfl⟩:=h.dK_inv;intro q hq;rcases af.mp hq with rfl | hq
  ·rcases hp with e | ⟨o,e⟩<;>rw[e]<;>simp
  ·exact Iss.dom l _ fq hi q hq
 | .dT ks l,v,fp,h=>by
  obtain⟨p,m5,fq,_,hp,_,hi,rfl⟩:=h.dT_inv;intro q hq;rcases af.mp hq with rfl | hq
  ·rcases hp with e | ⟨o,e⟩<;>rw[e]<;>simp
  ·exact Iss.dom l _ fq hi q hq
theorem Iss.dom{H:Hp}:∀(l:List PV)(xs:List V)(fp:List aK),Iss K H l xs fp->∀p∈fp,H p≠aA
 | [],_,_,h=>by simp only[Iss] at h;rw[h.2];simp
 | l::ls,xs,fp,h=>by
  obtain⟨x,r,f1,f2,_,h1,h2,rfl⟩:=h.inv;intro q hq;rcases aa.mp hq with hq | hq
  ·exact Is.dom l x f1 h1 q hq
  ·exact Iss.dom ls r f2 h2 q hq
end
noncomputable def Ab(Rm:aK->Prop)(H H':Hp):Prop:=∀b o,H b=some o->¬Rm b->H' b=some o
theorem Same.ab{Rm:aK->Prop}{H H':Hp}(s:Same H H'):Ab Rm H H':=λb o h _=>s b o h
theorem Ab.tk{Rm:aK->Prop}{H H':Hp}(a:Ab Rm H H')(hd:∀p,Rm p->V4 (H p)):AG H H':=⟨λb xs h=>a b _ h λz=>by
 have:=hd b z
 rw[h] at this;exact this,λb o xs h=>a b _ h λz=>by
 have:=hd b z
 rw[h] at this;exact this,λb o x h=>a b _ h λz=>by
 have:=hd b z;rw[h] at this;exact this⟩
theorem Is.ab{Rm:aK->Prop}{H H':Hp}(a:Ab Rm H H')(hd:∀p,Rm p->V4 (H p)){l:PV}{v:V}{fp:List aK}(n:∀p∈fp,¬Rm p)(h:Is K H l v fp):Is K H' l v fp:=
 Is.tr (a.tk hd) l v fp (λp hp=>RdK.of λo q=>a p o q (n p hp)) h
structure JIs(K:aG)(Rm:aK->Prop)(H1:Hp)(J:It)(ls:List PV):Prop where
 stop:∀H',Ab Rm H1 H'->J.stop ls.length H'
 go:∀H' (i:Nat) l,Ab Rm H1 H'->ls[i]?=some l->J.go i H'
 yld:∀H' (i:Nat) l x H'',Ab Rm H1 H'->ls[i]?=some l->J.yld i H' x H''->Same H' H''/\∃fp,Is K H'' l x fp/\∀p∈fp,H1 p≠aA/\¬Rm p
abbrev XL:=ZS->Option (List PV)
noncomputable def iF(K:aG)(f:XL):TI:=λσ H R=>∃(Rm:aK->Prop) (s:ZS) (ls:List PV),(∀p,Rm p->V4 (H p))/\EnvIs K Rm H s σ/\f s=some ls/\∀J H1,Same H H1->JIs K Rm H1 J ls->R J H1
noncomputable def VI(X:Cx)(tg e:bH)(f:XL):Prop:=PI X tg e (iF X.K f)
section
variable {X:Cx} {tg e:bH} {es:List bH}
theorem PI.imp{t t':TI}(h:PI X tg e t)(i:∀σ H R,t' σ H R->t σ H R):PI X tg e t':=λm4 s σ H R I q=>h m4 s σ H R I (i σ H R q)
noncomputable def asS:PV->Option (List PV)
 | .lst m=>some m
 | .cst m=>some m
 | _=>aA
noncomputable def Yg(f:XE):XL:=λs=>(f s).bind asS
noncomputable def SO(f:XE):XL:=λs=>match f s with | some (.tup m)=>some m | _=>aA
theorem Eu{a:PV}{m:List PV}(h:asS a=some m):a = .lst m\/a = .cst m:=by
 unfold asS at h;split at h
 ·cases h;exact .inl rfl
 ·cases h;exact .inr rfl
 ·cases h
theorem Gs{f:XE}{s:ZS}{m:List PV}(h:SO f s=some m):f s=some (.tup m):=by
 unfold SO at h;split at h
 ·cases h;assumption
 ·cases h
theorem Y1{f:XE}(h:VE X e f):VI X tg e (Yg f):=PI.imp (CK h) λσ H R ⟨Rm,s,ls,hd,env,e,k⟩=>by
 obtain⟨l,e1,e2⟩:=Ze e;refine⟨Rm,s,l,hd,env,e1,λv H1 fp s1 i1 n1=>?_⟩;have hd1:∀p,Rm p->V4 (H1 p):=λp hp=>Same.mut s1 (hd p hp)
 have main:∀a xs fq,v = .ref a->SqL X.K H1 a xs->(∀H',Ab Rm H1 H'->SqL X.K H' a xs)->Iss X.K H1 ls xs fq->(∀p∈fq,p∈fp)->∃a,v = .ref a/\(∃xs,SqL X.K H1 a xs)/\R (Itl X.K a) H1:=by
  rintro a xs fq rfl ha keep hi sub;refine⟨a,rfl,⟨xs,ha⟩,k _ H1 s1 ⟨λH' ab=>⟨xs,keep H' ab,by rw[hi.len];exact aZ _⟩,λH' i l ab hl=>?_,λH' i l x H'' ab hl y=>?_⟩⟩
  ·obtain⟨x,f1,hx,_,_⟩:=hi.get hl;exact⟨xs,x,keep H' ab,hx⟩
  ·obtain⟨rfl,y⟩:=y;obtain⟨x',f1,hx,ix,sub'⟩:=hi.get hl;have:=y xs (keep _ ab);rw[hx] at this;cases this;have n1':∀p∈f1,¬Rm p:=λp hp=>n1 p (sub p (sub' p hp));exact⟨Same.refl _,f1,ix.ab ab hd1 n1',λp hp=>⟨Is.dom _ _ _ ix p hp,n1' p hp⟩⟩
 rcases Eu e2 with rfl | rfl
 ·obtain⟨a,xs,fq,rfl,ha,hi,rfl⟩:=i1.lst_inv;exact main a xs fq rfl (SqL.of ha) (λH' ab=>SqL.of (ab a _ ha (n1 a ah))) hi λp hp=>aS _ hp
 ·obtain⟨a,xs,rfl,ha,hi⟩:=i1.cst_inv;exact main a xs fp rfl ha.sq (λH' ab=>(ha.tr (ab.tk hd1)).sq) hi λp hp=>hp
theorem Mu{f:XE}(h:VE X e f):VI X tg e (SO f):=PI.imp (Zaj h) λσ H R ⟨Rm,s,ls,hd,env,e,k⟩=>by
 refine⟨Rm,s,.tup ls,hd,env,Gs e,λv H1 fp s1 i1 n1=>?_⟩;obtain⟨a,xs,rfl,ha,hi⟩:=i1.tup_inv;have hd1:∀p,Rm p->V4 (H1 p):=λp hp=>Same.mut s1 (hd p hp);have keep:∀H',Ab Rm H1 H'->SqT X.K H' a xs:=λH' ab=>SqT.of ((ab.tk hd1).tup a xs ha);refine⟨a,rfl,⟨xs,SqT.of ha⟩,k _ H1 s1 ⟨λH' ab=>⟨xs,keep H' ab,by rw[hi.len];exact aZ _⟩,λH' i l ab hl=>?_,λH' i l x H'' ab hl y=>?_⟩⟩
 ·obtain⟨x,f1,hx,_,_⟩:=hi.get hl;exact⟨xs,x,keep H' ab,hx⟩
 ·obtain⟨rfl,y⟩:=y;obtain⟨x',f1,hx,ix,sub⟩:=hi.get hl;have:=y xs (keep _ ab);rw[hx] at this;cases this;have n1':∀p∈f1,¬Rm p:=λp hp=>n1 p (sub p hp);exact⟨Same.refl _,f1,ix.ab ab hd1 n1',λp hp=>⟨Is.dom _ _ _ ix p hp,n1' p hp⟩⟩
noncomputable def Ux(n:Nat):List PV:=(aD n).map λ(i:Nat)=>PV.int (i:Int)
noncomputable def WB(lo:Int)(n:Nat):List PV:=(aD n).map λ(i:Nat)=>PV.int (lo+(i:Int))
noncomputable def ZE(fs:List XE):XL:=λs=>match TV fs s with | some [.int j]=>if -1000000<=j/\j<=1000000 then some (Ux j.toNat) else aA | _=>aA
noncomputable def Xv(fs:List XE):XL:=λs=>match TV fs s with | some [.int i,.int j]=>if -1000000<=i/\i<=1000000/\-1000000<=j/\j<=1000000 then some (WB i (j-i).toNat) else aA | _=>aA
theorem IS{Rm:aK->Prop}{H1:Hp}(lo:Int)(n:Nat):JIs K Rm H1 (Itr lo n) (WB lo n):=by
 refine⟨λH' _=>by unfold WB;rw[aH,cV];exact aZ n,λH' i l _ hl=>?_,λH' i l x H'' _ hl y=>?_⟩
 ·have:=(aU.mp hl).1;unfold WB at this;rw[aH,cV] at this;exact this
 ·obtain⟨rfl,rfl⟩:=y;have hi:=(aU.mp hl).1;unfold WB at hi hl;rw[aH,cV] at hi;rw[aR,bq hi] at hl;cases hl;exact⟨Same.refl _,[],Is.int _,λp hp=>by simp at hp⟩
theorem Bk(n:Nat):Ux n=WB 0 n:=by unfold Ux WB;apply ak;intro i _;rw[Int.zero_add]
theorem RS{a:bH}{fs:List XE}{p pos:da}(hg:Gl X "range")(hm:X.mg "range" = aA)(ha:VA X [a] fs)(hs:aQ [a] X.env=[(aB,eval a X.env)]:=by rfl):VI X tg (.Call (.Name "range" p) [a] [] pos) (ZE fs):=
 PI.imp (HZ hg hm ha hs) λσ H R ⟨Rm,s,ls,hd,env,e,k⟩=>by
 unfold ZE at e;split at e
 ·split at e
  ·cases e;rename_i j he hb;refine⟨Rm,s,_,hd,env,he,λvs H1 fp s1 i1 _=>?_⟩;obtain⟨v,rfl,i⟩:=i1.one_inv;refine⟨j,by rw[i.int_inv.1],by omega,by omega,k _ H1 s1 ?_⟩;rw[Bk];exact IS _ _
  ·cases e
 ·cases e
theorem Gu{a b:bH}{fs:List XE}{p pos:da}(hg:Gl X "range")(hm:X.mg "range" = aA)(ha:VA X [a,b] fs)(hs:aQ [a,b] X.env=[(aB,eval a X.env),(aB,eval b X.env)]:=by rfl)(hs2:aQ [b] X.env=[(aB,eval b X.env)]:=by rfl):VI X tg (.Call (.Name "range" p) [a,b] [] pos) (Xv fs):=
 PI.imp (H9 hg hm ha hs hs2) λσ H R ⟨Rm,s,ls,hd,env,e,k⟩=>by
 unfold Xv at e;split at e
 ·split at e
  ·cases e;rename_i i j he hb;refine⟨Rm,s,_,hd,env,he,λvs H1 fp s1 i1 _=>?_⟩;obtain⟨v,w,f1,f2,rfl,iv,iw,_⟩:=i1.two_inv;exact⟨i,j,by rw[iv.int_inv.1,iw.int_inv.1],⟨by omega,by omega,by omega,by omega⟩,k _ H1 s1 (IS _ _)⟩
  ·cases e
 ·cases e
noncomputable def Y8(m:List PV):List PV:=m.zipIdx.map λz=>.tup [.int (z.2:Nat),z.1]
noncomputable def Si(m n:List PV):List PV:=(m.zip n).map λz=>.tup [z.1,z.2]
theorem NN{m:List PV}{i:Nat}{l:PV}(h:(Y8 m)[i]?=some l):∃a,m[i]?=some a/\l = .tup [.int (i:Nat),a]:=by
 unfold Y8 at h;rw[aR,jf] at h
 cases q:m[i]? with
 | none=>rw[q] at h;cases h
 | some a=>rw[q] at h;cases h;exact⟨a,rfl,by simp⟩
theorem WW(m:List PV):(Y8 m).length=m.length:=by unfold Y8;rw[aH,List.length_zipIdx]
theorem LU{m n:List PV}{i:Nat}{l:PV}(h:(Si m n)[i]?=some l):∃a b,m[i]?=some a/\n[i]?=some b/\l = .tup [a,b]:=by
 unfold Si at h;rw[aR] at h
 cases q:(m.zip n)[i]? with
 | none=>rw[q] at h;cases h
 | some z=>
  rw[q] at h;cases h;obtain⟨q1,q2⟩:=iK.mp q;exact⟨z.1,z.2,q1,q2,rfl⟩
theorem LV(m n:List PV):(Si m n).length=min m.length n.length:=by unfold Si;rw[aH,List.length_zip]
noncomputable def seqB:Bool->PV->Option (List PV)
 | true,.lst l=>some l
 | true,.cst l=>some l
 | false,.tup l=>some l
 | _,_=>aA
theorem Mv{H:Hp}{b:Bool}{l:PV}{v:V}{fp:List aK}{m:List PV}(h:Is K H l v fp)(e:seqB b l=some m):∃p xs fq,v = .ref p/\Iss K H m xs fq/\(∀q∈fq,q∈fp)/\∀(Rm:aK->Prop) H',Ab Rm H H'->(∀p,Rm p->V4 (H p))->(∀p∈fp,¬Rm p)->Ng b K H' p xs:=by
 cases b with
 | true=>cases l with
  | lst l=>
   cases e;obtain⟨p,xs,fq,rfl,hp,hi,rfl⟩:=h.lst_inv;exact⟨p,xs,fq,rfl,hi,λq hq=>aS _ hq,λRm H' ab _ n=>SqL.of (ab p _ hp (n p ah))⟩
  | cst l=>
   cases e;obtain⟨p,xs,rfl,hp,hi⟩:=h.cst_inv;exact⟨p,xs,fp,rfl,hi,λq hq=>hq,λRm H' ab hd _=>(hp.tr (ab.tk hd)).sq⟩
  | _=>cases e
 | false=>cases l with
  | tup l=>
   cases e;obtain⟨p,xs,rfl,hp,hi⟩:=h.tup_inv;exact⟨p,xs,fp,rfl,hi,λq hq=>hq,λRm H' ab hd _=>SqT.of ((ab.tk hd).tup p xs hp)⟩
  | _=>cases e
noncomputable def Yt(b:Bool)(fs:List XE):XL:=λs=>match TV fs s with | some [l]=>(seqB b l).map Y8 | _=>aA
noncomputable def TX(b1 b2:Bool)(fs:List XE):XL:=λs=>match TV fs s with | some [l,r]=>(seqB b1 l).bind λm=>(seqB b2 r).map λn=>Si m n | _=>aA
theorem WL{elts:List bH}{k:Nat}{tpos:da}(b:Bool){a:bH}{fs:List XE}{p pos:da}(hg:Gl X "enumerate")(hm:X.mg "enumerate" = aA)(ha:VA X [a] fs)(hs:aQ [a] X.env=[(aB,eval a X.env)]:=by rfl) :
  VI X (.Tuple elts k tpos) (.Call (.Name "enumerate" p) [a] [] pos) (Yt b fs):=PI.imp (C9 b hg hm ha hs) λσ H R ⟨Rm,s,ls,hd,env,e,k⟩=>by
 unfold Yt at e;split at e
 ·rename_i l he;obtain⟨m,e1,rfl⟩:=map_some e;refine⟨Rm,s,_,hd,env,he,λvs H1 fp s1 i1 n1=>?_⟩;obtain⟨v,rfl,i⟩:=i1.one_inv;have hd1:∀p,Rm p->V4 (H1 p):=λp hp=>Same.mut s1 (hd p hp);obtain⟨a,xs,fq,rfl,hi,sub,keep⟩:=Mv (K:=X.K) i e1;have kp:=λH' ab=>keep Rm H' ab hd1 n1;refine⟨a,rfl,⟨xs,kp H1 (Same.ab (Same.refl H1))⟩,k _ H1 s1 ⟨λH' ab=>⟨xs,kp H' ab,by rw[WW,hi.len]⟩,λH' i l ab hl=>?_,λH' i l x H'' ab hl y=>?_⟩⟩
  ·obtain⟨c,hc,rfl⟩:=NN hl;obtain⟨x,f1,hx,_,_⟩:=hi.get hc;exact⟨xs,x,kp H' ab,hx⟩
  ·obtain⟨c,hc,rfl⟩:=NN hl;obtain⟨x',f1,hx,ix,sb⟩:=hi.get hc;obtain⟨q,z,hq,rfl,rfl,y⟩:=y;have:=y xs (kp _ ab);rw[hx] at this;cases this;have n1':∀p∈f1,¬Rm p:=λp hp=>n1 p (sub p (sb p hp));refine⟨Same.new hq _,f1,Is.tup Zp ?_,λp hp=>⟨Is.dom _ _ _ ix p hp,n1' p hp⟩⟩;exact Iss.cons (f1:=[]) (Is.int _) (Iss.one ((ix.ab ab hd1 n1').mono (Same.new hq _)))
 ·cases e
theorem Mw{elts:List bH}{k:Nat}{tpos:da}(b1 b2:Bool){a b:bH}{fs:List XE}{p pos:da}(hg:Gl X "zip")(hm:X.mg "zip" = aA)(ha:VA X [a,b] fs)
  (hs:aQ [a,b] X.env=[(aB,eval a X.env),(aB,eval b X.env)]:=by rfl) (hs2:aQ [b] X.env=[(aB,eval b X.env)]:=by rfl) :
  VI X (.Tuple elts k tpos) (.Call (.Name "zip" p) [a,b] [] pos) (TX b1 b2 fs):=PI.imp (Za9 b1 b2 hg hm ha hs hs2) λσ H R ⟨Rm,s,ls,hd,env,e,k⟩=>by
 unfold TX at e;split at e
 ·rename_i l r he;obtain⟨m,e1,e⟩:=Ze e;obtain⟨n,e2,rfl⟩:=map_some e;refine⟨Rm,s,_,hd,env,he,λvs H1 fp s1 i1 n1=>?_⟩;obtain⟨v,w,g1,g2,rfl,iv,iw,rfl⟩:=i1.two_inv;have hd1:∀p,Rm p->V4 (H1 p):=λp hp=>Same.mut s1 (hd p hp);have ng1:∀p∈g1,¬Rm p:=λp hp=>n1 p (bC _ hp);have ng2:∀p∈g2,¬Rm p:=λp hp=>n1 p (aY _ hp);obtain⟨a1,xs,fq,rfl,hi,sub,keep⟩:=Mv (K:=X.K) iv e1;obtain⟨a2,ys,fr,rfl,hj,sub2,keep2⟩:=Mv (K:=X.K) iw e2;have kp:=λH' ab=>keep Rm H' ab hd1 ng1;have kp2:=λH' ab=>keep2 Rm H' ab hd1 ng2;refine⟨a1,a2,rfl,⟨xs,kp H1 (Same.ab (Same.refl H1))⟩,⟨ys,kp2 H1 (Same.ab (Same.refl H1))⟩,k _ H1 s1 ⟨λH' ab=>⟨xs,ys,kp H' ab,kp2 H' ab,?_⟩,λH' i l ab hl=>?_,λH' i l x H'' ab hl y=>?_⟩⟩
  ·rw[LV,hi.len,hj.len];omega
  ·obtain⟨c,d,hc,hd',rfl⟩:=LU hl;obtain⟨x,f1,hx,_,_⟩:=hi.get hc;obtain⟨y,f2,hy,_,_⟩:=hj.get hd';exact⟨xs,ys,x,y,kp H' ab,kp2 H' ab,hx,hy⟩
  ·obtain⟨c,d,hc,hd',rfl⟩:=LU hl;obtain⟨x',f1,hx,ix,sb⟩:=hi.get hc;obtain⟨y',f2,hy,iy,sb2⟩:=hj.get hd';obtain⟨q,z,z',hq,rfl,rfl,y1,y2⟩:=y;have:=y1 xs (kp _ ab);rw[hx] at this;cases this;have:=y2 ys (kp2 _ ab);rw[hy] at this;cases this;have n1':∀p∈f1,¬Rm p:=λp hp=>ng1 p (sub p (sb p hp));have n2':∀p∈f2,¬Rm p:=λp hp=>ng2 p (sub2 p (sb2 p hp));refine⟨Same.new hq _,f1++f2,Is.tup Zp ?_,λp hp=>?_⟩
   ·exact Iss.cons ((ix.ab ab hd1 n1').mono (Same.new hq _)) (Iss.one ((iy.ab ab hd1 n2').mono (Same.new hq _)))
   ·rcases aa.mp hp with hp | hp
    ·exact⟨Is.dom _ _ _ ix p hp,n1' p hp⟩
    ·exact⟨Is.dom _ _ _ iy p hp,n2' p hp⟩
 ·cases e
end
inductive Tgt where
 | one (i:Nat) | many (is:List Nat)
noncomputable def Tgt.slots:Tgt->List Nat
 | .one i=>[i]
 | .many is=>is
noncomputable def setAll:List Nat->List PV->ZS->ZS
 | i::is,l::ls,s=>setAll is ls (s.set i (some l))
 | _,_,s=>s
noncomputable def Xp:List Nat->List V->QF->QF
 | i::is,l::ls,s=>Xp is ls (s.set i (some l))
 | _,_,s=>s
noncomputable def Vw:Tgt->PV->ZS->Option ZS
 | .one i,l,s=>some (s.set i (some l))
 | .many is,.tup ls,s=>if ls.length=is.length then some (setAll is ls s) else aA
 | _,_,_=>aA
noncomputable def Jm:List Nat->Au
 | []=>Zc9
 | i::is=>Av (T2 i) (Jm is)
noncomputable def gT(K:aG):Tgt->TG
 | .one i=>T2 i
 | .many is=>Zda K is.length (Jm is)
theorem PB:∀{is:List Nat}{vs:List V}{σ:QF}{H:Hp}{Q:QF->Hp->Prop},vs.length=is.length->Q (Xp is vs σ) H->Jm is vs σ H Q
 | [],[],_,_,_,_,q=>⟨rfl,q⟩
 | [],_::_,_,_,_,h,_=>by simp at h
 | _::_,[],_,_,_,h,_=>by simp at h
 | i::is,v::vs,σ,H,Q,h,q=>⟨v,vs,rfl,PB (is:=is) (vs:=vs) (by simpa using h) q⟩
theorem Mx{T:Tgt}{l:PV}{v:V}{fp:List aK}{s s':ZS}{H:Hp}(h:Is K H l v fp)(e:Vw T l s=some s') :
  ∃ls vs fs,s'=setAll T.slots ls s/\Iss K H ls vs fs/\ls.length=T.slots.length/\(∀p∈fs,p∈fp)/\∀σ (Q:QF->Hp->Prop),Q (Xp T.slots vs σ) H->gT K T v σ H Q:=by
 cases T with
 | one i=>
  cases e;exact⟨[l],[v],fp,rfl,Iss.one h,rfl,λp hp=>hp,λσ Q q=>q⟩
 | many is=>
  cases l with
  | tup ls=>
   have e:(if ls.length=is.length then some (VL.setAll is ls s) else aA)=some s':=e;split at e
   ·cases e;obtain⟨p,xs,rfl,hp,hi⟩:=h.tup_inv;exact⟨ls,xs,fp,rfl,hi,by assumption,λp hp=>hp,λσ Q q=>⟨p,xs,rfl,SqT.of hp,by rw[hi.len];assumption,PB (by rw[hi.len];assumption) q⟩⟩
   ·cases e
  | _=>cases e
theorem Uy:∀{is:List Nat}{vs:List V}{σ:QF}{n:Nat},(∀i∈is,i<n)->(Xp is vs σ).drop n=σ.drop n
 | [],_,_,_,_=>rfl
 | _::_,[],_,_,_=>rfl
 | i::is,v::vs,σ,n,h=>by show(Xp is vs (σ.set i (some v))).drop n=_;rw[Uy (λj hj=>h j (aS _ hj))];have:=h i ah;rw[List.drop_set,mM this]
theorem EnvIs.set{Rm:aK->Prop}{H:Hp}{s:ZS}{σ:QF}{i:Nat}{l:PV}{v:V}{fp:List aK}(h:EnvIs K Rm H s σ)(hl:s.length=σ.length)(hi:Is K H l v fp)(n:∀p∈fp,¬Rm p):EnvIs K Rm H (s.set i (some l)) (σ.set i (some v)):=⟨λj a e=>by
 rw[bJ] at e;by_cases hj:i=j
 ·subst hj;rw[mM rfl] at e;split at e
  ·cases e;exact⟨v,fp,by rw[bJ,mM rfl,mM (by omega)],hi,n⟩
  ·cases e
 ·rw[mN hj] at e;obtain⟨w,f,h1,h2,h3⟩:=h.is j a e;exact⟨w,f,by rw[bJ,mN hj];exact h1,h2,h3⟩⟩
theorem EnvIs.setAll{Rm:aK->Prop}{H:Hp}:∀{is:List Nat}{ls:List PV}{vs:List V}{fs:List aK}{s:ZS}{σ:QF},EnvIs K Rm H s σ->s.length=σ.length->Iss K H ls vs fs->(∀p∈fs,¬Rm p)->EnvIs K Rm H (VL.setAll is ls s) (Xp is vs σ)
 | [],_,_,_,_,_,h,_,_,_=>by unfold VL.setAll Xp;exact h
 | i::is,[],vs,fs,s,σ,h,_,hi,_=>by simp only[Iss] at hi;rw[hi.1];exact h
 | i::is,l::ls,vs,fs,s,σ,h,hl,hi,n=>by obtain⟨x,r,f1,f2,rfl,h1,h2,rfl⟩:=hi.inv;show EnvIs K Rm H (VL.setAll is ls (s.set i (some l))) (Xp is r (σ.set i (some x)));exact EnvIs.setAll (h.set hl h1 λp hp=>n p (bC _ hp)) (by rw[cZ,cZ];exact hl) h2 λp hp=>n p (aY _ hp)
noncomputable def compEnv(n:Nat)(ix:List Nat)(s:ZS):ZS:=aN n aA++ix.map (λi=>(s[i]?).join)
noncomputable def W4(T:Tgt)(ft:XT)(fe:XE)(s0:ZS):List PV->Option (List PV)
 | []=>some []
 | l::r=>(Vw T l s0).bind λs1=>(ft s1).bind λc=>if c=aC then(fe s1).bind λy=>(W4 T ft fe s0 r).map (y::·) else W4 T ft fe s0 r
noncomputable def Zq(n:Nat)(ix:List Nat)(fi:XL)(T:Tgt)(ft:XT)(fe:XE):XE:=λs=>(fi s).bind λls=>if ls.length<=10000 then(W4 T ft fe (compEnv n ix s) ls).map .lst else aA
noncomputable def Zx:XT:=λ_=>some aC
theorem join_some{α:Type}{o:Option (Option α)}{a:α}(h:o.join=some a):o=some (some a):=by
 cases o with
 | none=>cases h
 | some b=>cases b with
  | none=>cases h
  | some c=>cases h;rfl
theorem EnvIs.comp{Rm:aK->Prop}{H:Hp}{s:ZS}{σ:QF}{n:Nat}{ix:List Nat}(h:EnvIs K Rm H s σ):EnvIs K Rm H (compEnv n ix s) (Z9 n ix σ):=⟨λi l e=>by
 unfold compEnv at e;unfold Z9;by_cases hi:i<n
 ·rw[aj (by simpa using hi),bV,mM hi] at e;cases e
 ·rw[bF (by simpa using hi),cW,aR] at e;rw[bF (by simpa using hi),cW,aR]
  cases q:ix[i-n]? with
  | none=>rw[q] at e;cases e
  | some j=>
   rw[q] at e;have e:=join_some (az e);obtain⟨v,fp,a,b,c⟩:=h.is j l e;exact⟨v,fp,by show some ((σ[j]?).join)=_;rw[a];rfl,b,c⟩⟩
theorem LW(n:Nat)(ix:List Nat)(s:ZS)(σ:QF):(compEnv n ix s).length=(Z9 n ix σ).length:=by unfold compEnv Z9;simp
theorem PD{T:Tgt}{ft:XT}{fe:XE}{s0:ZS}{l:PV}{r ys:List PV}(h:W4 T ft fe s0 (l::r)=some ys):∃s1 c,Vw T l s0=some s1/\ft s1=some c/\((c=aC/\∃y zs,fe s1=some y/\W4 T ft fe s0 r=some zs/\ys=y::zs)\/(c=aB/\W4 T ft fe s0 r=some ys)):=by
 unfold W4 at h;obtain⟨s1,e1,h⟩:=Ze h;obtain⟨c,e2,h⟩:=Ze h;refine⟨s1,c,e1,e2,?_⟩
 cases c with
 | true=>
  rw[mM rfl] at h;obtain⟨y,e3,h⟩:=Ze h;obtain⟨zs,e4,rfl⟩:=map_some h;exact .inl ⟨rfl,y,zs,e3,e4,rfl⟩
 | false=>
  rw[mN au] at h;exact .inr ⟨rfl,h⟩
theorem PF{α:Type}{l:List α}{i:Nat}{a:α}{r:List α}(h:l.drop i=a::r):l[i]?=some a/\l.drop (i+1)=r:=by
 constructor
 ·have:=congrArg (λz=>z[0]?) h;simpa [eR] using this
 ·rw[<-List.drop_drop,h];rfl
section
variable {n:Nat} {ix:List Nat} {fi:XL} {T:Tgt} {ft:XT} {fe:XE}
theorem IT(hT:∀i∈T.slots,i<n):∀σ H Q,tF K (Zq n ix fi T ft fe) σ H Q->Pj n ix (iF K fi) (gT K T) (LP K ft) (tF K fe) σ H Q:=λσ H Q ⟨Rm,s,L,hd,env,e,k⟩=>by
 obtain⟨ls,e1,e⟩:=Ze e;split at e
 case isFalse=>cases e
 rename_i hlen;obtain⟨ys,e2,rfl⟩:=map_some e;refine⟨Rm,s,ls,hd,env,e1,λJ H1 s1 jis=>?_⟩;have hd1:∀p,Rm p->V4 (H1 p):=λp hp=>Same.mut s1 (hd p hp)
 refine⟨λi m vs Hc=>m=ls.length-i/\i<=ls.length/\Same H1 Hc/\∃dn YN fp,ys=dn++YN/\dn.length<=i/\W4 T ft fe (compEnv n ix s) (ls.drop i)=some YN/\Iss K Hc dn vs fp/\∀p∈fp,¬Rm p,
  ⟨ls.length,by simp,eu _,Same.refl H1,[],ys,[],rfl,aZ _,e2,Iss.nil,λp hp=>by simp at hp⟩,?_⟩
 rintro i m vs Hc ⟨rfl,hi,sc,dn,YN,fp,rfl,hdl,ec,iv,nv⟩;refine⟨by rw[iv.len];exact cF (lt_size (by omega)),?_⟩
 cases q:ls.drop i with
 | nil=>
  have hil:i=ls.length:=by have:=congrArg iP q;rw[bK] at this;simp at this;omega
  subst hil;rw[q] at ec;cases ec;refine .inl ⟨jis.stop Hc (Same.ab sc),λp hp=>k _ _ (p::fp) (s1.trans (sc.trans (Same.new hp _))) ?_ λa ha z=>?_⟩
  ·rw[cu];exact Is.lst Zp (iv.mono (Same.new hp _))
  ·rcases af.mp ha with rfl | ha
   ·exact XX (Same.mut (s1.trans sc) (hd a z)) hp
   ·exact nv a ha z
 | cons l r=>
  obtain⟨hl,hr⟩:=PF q;have hilt:i<ls.length:=(aU.mp hl).1;rw[q] at ec;obtain⟨sb,c,eb,et,alt⟩:=PD ec
  refine .inr ⟨jis.go Hc i l (Same.ab sc) hl,λvs' H'=>Same H1 H'/\∃dn' rest' fp',dn++YN=dn'++rest'/\dn'.length<=i+1/\W4 T ft fe (compEnv n ix s) (ls.drop (i+1))=some rest'/\Iss K H' dn' vs' fp'/\∀p∈fp',¬Rm p,
   λvs' H' h'=>⟨ls.length-(i+1),by omega,rfl,hilt,h'.1,h'.2⟩,λx H2 y=>?_⟩
  obtain⟨s2,fx,ix',nx⟩:=jis.yld Hc i l x H2 (Same.ab sc) hl y;have hd2:∀p,Rm p->V4 (H2 p):=λp hp=>Same.mut (sc.trans s2) (hd1 p hp);obtain⟨bl,bv,bf,rfl,bi,_,bsub,buse⟩:=Mx (K:=K) ix' eb;have env2:EnvIs K Rm H2 (compEnv n ix s) (Z9 n ix σ):=(env.mono (s1.trans (sc.trans s2))).comp;have env3:=env2.setAll (is:=T.slots) (LW n ix s σ) bi λp hp=>(nx p (bsub p hp)).2;refine buse _ _ ⟨Uy hT,Rm,_,c,hd2,env3,et,λH3 s3=>?_⟩;have hd3:∀p,Rm p->V4 (H3 p):=λp hp=>Same.mut s3 (hd2 p hp);rcases alt with⟨rfl,y',zs,ey,ez,rfl⟩ | ⟨rfl,ez⟩
  ·refine Zdv ?_;refine⟨Rm,_,y',hd3,env3.mono s3,ey,λv H4 f4 s4 i4 n4=>?_⟩;refine⟨sc.trans (s2.trans (s3.trans s4)),dn++[y'],zs,fp++f4,by rw[dm];rfl,by rw[aX];simp;exact hdl,by rw[hr];exact ez,(iv.mono (s2.trans (s3.trans s4))).append (Iss.one i4),λp hp=>?_⟩;rcases aa.mp hp with h | h
   ·exact nv p h
   ·exact n4 p h
  ·refine Zdu ?_;exact⟨sc.trans (s2.trans s3),dn,YN,fp,rfl,gM hdl,by rw[hr];exact ez,iv.mono (s2.trans s3),nv⟩
theorem IU(hT:∀i∈T.slots,i<n):∀σ H Q,tM K (Zq n ix fi T ft fe) σ H Q->Pj n ix (iF K fi) (gT K T) (LP K ft) (tM K fe) σ H Q:=λσ H Q ⟨s,L,env,e,k⟩=>by
 obtain⟨ls,e1,e⟩:=Ze e;split at e
 case isFalse=>cases e
 rename_i hlen;obtain⟨ys,e2,rfl⟩:=map_some e;have hd:∀(H:Hp) p,(λ_=>False:aK->Prop) p->V4 (H p):=λ_ _ z=>z.elim;refine⟨λ_=>False,s,ls,hd H,env,e1,λJ H1 s1 jis=>?_⟩
 refine⟨λi m vs Hc=>m=ls.length-i/\i<=ls.length/\Same H1 Hc/\∃dn YN fp,ys=dn++YN/\dn.length<=i/\W4 T ft fe (compEnv n ix s) (ls.drop i)=some YN/\Iss K Hc dn vs fp/\fp.Nodup/\∀p∈fp,H1 p=aA/\V4 (Hc p),
  ⟨ls.length,by simp,eu _,Same.refl H1,[],ys,[],rfl,aZ _,e2,Iss.nil,cE,λp hp=>by simp at hp⟩,?_⟩
 rintro i m vs Hc ⟨rfl,hi,sc,dn,YN,fp,rfl,hdl,ec,iv,dv,nv⟩;refine⟨by rw[iv.len];exact cF (lt_size (by omega)),?_⟩
 cases q:ls.drop i with
 | nil=>
  have hil:i=ls.length:=by have:=congrArg iP q;rw[bK] at this;simp at this;omega
  subst hil;rw[q] at ec;cases ec;refine .inl ⟨jis.stop Hc (Same.ab sc),λp hp=>k _ _ (p::fp) (s1.trans (sc.trans (Same.new hp _))) ?_ (bG.mpr ⟨λz=>XX (nv p z).2 hp,dv⟩) λa ha=>?_⟩
  ·rw[cu];exact Is.lst Zp (iv.mono (Same.new hp _))
  ·rcases af.mp ha with rfl | ha
   ·exact⟨Same.off (s1.trans sc) hp,by rw[Zp];exact bW⟩
   ·exact⟨Same.off s1 (nv a ha).1,Same.mut (Same.new hp _) (nv a ha).2⟩
 | cons l r=>
  obtain⟨hl,hr⟩:=PF q;have hilt:i<ls.length:=(aU.mp hl).1;rw[q] at ec;obtain⟨sb,c,eb,et,alt⟩:=PD ec
  refine .inr ⟨jis.go Hc i l (Same.ab sc) hl,λvs' H'=>Same H1 H'/\∃dn' rest' fp',dn++YN=dn'++rest'/\dn'.length<=i+1/\W4 T ft fe (compEnv n ix s) (ls.drop (i+1))=some rest'/\Iss K H' dn' vs' fp'/\fp'.Nodup/\∀p∈fp',H1 p=aA/\V4 (H' p),
   λvs' H' h'=>⟨ls.length-(i+1),by omega,rfl,hilt,h'.1,h'.2⟩,λx H2 y=>?_⟩
  obtain⟨s2,fx,ix',nx⟩:=jis.yld Hc i l x H2 (Same.ab sc) hl y;obtain⟨bl,bv,bf,rfl,bi,_,bsub,buse⟩:=Mx (K:=K) ix' eb;have env2:EnvIs K (λ_=>False) H2 (compEnv n ix s) (Z9 n ix σ):=(env.mono (s1.trans (sc.trans s2))).comp;have env3:=env2.setAll (is:=T.slots) (LW n ix s σ) bi λp hp=>(nx p (bsub p hp)).2;refine buse _ _ ⟨Uy hT,λ_=>False,_,c,hd H2,env3,et,λH3 s3=>?_⟩;rcases alt with⟨rfl,y',zs,ey,ez,rfl⟩ | ⟨rfl,ez⟩
  ·refine Zdv ?_;refine⟨_,y',env3.mono s3,ey,λv H4 f4 s4 i4 d4 n4=>?_⟩;refine⟨sc.trans (s2.trans (s3.trans s4)),dn++[y'],zs,fp++f4,by rw[dm];rfl,by rw[aX];simp;exact hdl,by rw[hr];exact ez,(iv.mono (s2.trans (s3.trans s4))).append (Iss.one i4),cU.mpr ⟨dv,d4,λa ha b hb z=>?_⟩,λp hp=>?_⟩
   ·subst z;exact XX (Same.mut (s2.trans s3) (nv a ha).2) (n4 a hb).1
   ·rcases aa.mp hp with h | h
    ·exact⟨(nv p h).1,Same.mut (s2.trans (s3.trans s4)) (nv p h).2⟩
    ·exact⟨Same.off (sc.trans (s2.trans s3)) (n4 p h).1,(n4 p h).2⟩
  ·refine Zdu ?_;exact⟨sc.trans (s2.trans s3),dn,YN,fp,rfl,gM hdl,by rw[hr];exact ez,iv.mono (s2.trans s3),dv,λp hp=>⟨(nv p hp).1,Same.mut (s2.trans s3) (nv p hp).2⟩⟩
end
noncomputable def VTs(X:Cx)(m7:List bH)(f:XT):Prop:=IB X m7 (LP X.K f)
section
variable {X:Cx} {tg m8 iter c:bH} {m7:List bH} {scope:eB} {pos:da} {fi:XL} {T:Tgt} {ft:XT} {fe:XE}
theorem Yk:VTs X [] Zx:=λm4 s σ H Q I ⟨Rm,s',c,hd,env,e,k⟩=>by cases e;exact C4 m4 s σ H Q I (k H (Same.refl H))
theorem SQ(h:VT X c ft):VTs X [c] ft:=C5 h
theorem XY(own fr:List aq)(ix:List Nat)(hcalm:X.calm=aC)(hi:VI X tg iter fi)(S:Us X.N X.env.scope scope own fr ix=aC)
  (hg:∀cl C s H ex,PG (ZQ X (own++fr) scope cl C s H ex) tg (gT X.K T)) (ht:∀cl C s H ex,VTs (ZQ X (own++fr) scope cl C s H ex) m7 ft) (he:∀cl C s H ex,VE (ZQ X (own++fr) scope cl C s H ex) m8 fe)
  (hT:∀i∈T.slots,i<own.length:=by decide) (hs:∀x,ba iter X.env x=pure x:=by intro _;rfl):VE X (.ListComp m8 [⟨tg,iter,m7,0⟩] scope pos) (Zq own.length ix fi T ft fe):=
 PE.imp (LO own fr ix hcalm hi S hg (λcl C s H ex=>(show IB (ZQ X (own++fr) scope cl C s H ex) m7 (LP X.K ft) from ht cl C s H ex)) (λcl C s H ex=>(show PE (ZQ X (own++fr) scope cl C s H ex) m8 (tF X.K fe) from he cl C s H ex)) hs) (IT hT)
theorem Uz(own fr:List aq)(ix:List Nat)(hcalm:X.calm=aC)(hi:VI X tg iter fi)(S:Us X.N X.env.scope scope own fr ix=aC)
  (hg:∀cl C s H ex,PG (ZQ X (own++fr) scope cl C s H ex) tg (gT X.K T)) (ht:∀cl C s H ex,VTs (ZQ X (own++fr) scope cl C s H ex) m7 ft) (he:∀cl C s H ex,VM (ZQ X (own++fr) scope cl C s H ex) m8 fe)
  (hT:∀i∈T.slots,i<own.length:=by decide) (hs:∀x,ba iter X.env x=pure x:=by intro _;rfl):VM X (.ListComp m8 [⟨tg,iter,m7,0⟩] scope pos) (Zq own.length ix fi T ft fe):=
 PE.imp (LO own fr ix hcalm hi S hg (λcl C s H ex=>(show IB (ZQ X (own++fr) scope cl C s H ex) m7 (LP X.K ft) from ht cl C s H ex)) (λcl C s H ex=>(show PE (ZQ X (own++fr) scope cl C s H ex) m8 (tM X.K fe) from he cl C s H ex)) hs) (IU hT)
end
noncomputable def Wf(xs:List PV)(lo hi:Option Int):List PV:=(xs.drop (HT.sIx xs.length 0 lo)).take (HT.sIx xs.length xs.length hi-HT.sIx xs.length 0 lo)
theorem Iss.cut{H:Hp}{l:List PV}{xs:List V}{fp:List aK}(lo hi:Option Int)(h:Iss K H l xs fp):∃f1,Iss K H (Wf l lo hi) (LC xs lo hi) f1/\∀p∈f1,p∈fp:=by unfold Wf LC;rw[h.len];obtain⟨f1,a,b⟩:=h.drop (HT.sIx l.length 0 lo);obtain⟨f2,c,d⟩:=a.take (HT.sIx l.length l.length hi-HT.sIx l.length 0 lo);exact⟨f2,c,λp hp=>b p (d p hp)⟩
abbrev XO:=ZS->Option (Option Int)
noncomputable def tFO(K:aG)(f:XO):TO:=λσ H Q=>∃(Rm:aK->Prop) (s:ZS) (i:Option Int),(∀p,Rm p->V4 (H p))/\EnvIs K Rm H s σ/\f s=some i/\∀H',Same H H'->Q i H'
noncomputable def VO(X:Cx)(e:Option bH)(f:XO):Prop:=PO X e (tFO X.K f)
noncomputable def VU:XO:=λ_=>some aA
noncomputable def Wv(f:XE):XO:=λs=>match f s with | some (.int i)=>some (some i) | _=>aA
noncomputable def Xe(x:PV)(lo hi:Option Int):Option PV:=match x with | .lst l=>some (.lst (Wf l lo hi)) | .cst l=>some (.lst (Wf l lo hi)) | _=>aA
noncomputable def VY(x:PV)(lo hi:Option Int):Option PV:=match x with | .tup l=>if HT.sIx l.length 0 lo=0/\HT.sIx l.length l.length hi=l.length then aA else some (.tup (Wf l lo hi)) | _=>aA
noncomputable def WM(g:PV->Option Int->Option Int->Option PV)(a:XE)(lo hi:XO):XE:=λs=>(a s).bind λx=>(lo s).bind λl=>(hi s).bind λu=>g x l u
theorem Gv{l:List PV}(lo hi:Option Int)(h:ZH l=aC):ZH (Wf l lo hi)=aC:=by rw[Wc,bM] at *;intro x hx;unfold Wf at hx;exact h x (fB (fC hx))
section
variable {X:Cx} {e:bH} {lo hi:Option bH} {p2 pos:da} {fa:XE} {fl fh:XO}
theorem Vx:VO X aA VU:=λm4 s σ H Q I ⟨Rm,s',i,hd,env,e,k⟩=>by cases e;exact CT m4 s σ H Q I (k H (Same.refl H))
theorem Ws{e:bH}(h:VE X e fa):VO X (some e) (Wv fa):=λm4 s σ H Q I ⟨Rm,s',i,hd,env,e,k⟩=>by
 unfold Wv at e;split at e
 ·cases e;rename_i j hj;exact CU h m4 s σ H Q I ⟨Rm,s',.int j,hd,env,hj,λv H' fp sm i n=>⟨j,i.int_inv.1,k H' sm⟩⟩
 ·cases e
theorem WX(ha:VE X e fa)(hl:VO X lo fl)(hh:VO X hi fh):VE X (.Subscript e (.Slice lo hi aA p2) pos) (WM Xe fa fl fh):=PE.imp (LB CW ha hl hh) λσ H Q ⟨Rm,s,l,hd,env,e,k⟩=>by
 obtain⟨x,e1,e⟩:=Ze e;obtain⟨a,e2,e⟩:=Ze e;obtain⟨b,e3,e⟩:=Ze e;refine⟨Rm,s,x,hd,env,e1,λv H1 fp s1 i1 n1=>⟨Rm,s,a,λp hp=>Same.mut s1 (hd p hp),env.mono s1,e2,λH2 s2=>⟨Rm,s,b,λp hp=>Same.mut (s1.trans s2) (hd p hp),env.mono (s1.trans s2),e3,λH3 s3=>?_⟩⟩⟩
 cases x with
 | lst l=>
  cases e;obtain⟨p,xs,fq,rfl,hp,hi,rfl⟩:=(i1.mono (s2.trans s3)).lst_inv;obtain⟨f1,c,d⟩:=hi.cut a b;refine⟨p,xs,rfl,SqL.of hp,λq hq=>k _ _ (q::f1) (s1.trans (s2.trans (s3.trans (Same.new hq _)))) (Is.lst Zp (c.mono (Same.new hq _))) λr hr z=>?_⟩;rcases af.mp hr with rfl | hr
  ·exact XX (Same.mut (s1.trans (s2.trans s3)) (hd r z)) hq
  ·exact n1 r (aS _ (d r hr)) z
 | cst l=>
  cases e;obtain⟨p,xs,rfl,hp,hi⟩:=(i1.mono (s2.trans s3)).cst_inv;obtain⟨f1,c,d⟩:=hi.cut a b;refine⟨p,xs,rfl,hp.sq,λq hq=>k _ _ (q::f1) (s1.trans (s2.trans (s3.trans (Same.new hq _)))) (Is.lst Zp (c.mono (Same.new hq _))) λr hr z=>?_⟩;rcases af.mp hr with rfl | hr
  ·exact XX (Same.mut (s1.trans (s2.trans s3)) (hd r z)) hq
  ·exact n1 r (d r hr) z
 | _=>cases e
theorem RT(ha:VE X e fa)(hl:VO X lo fl)(hh:VO X hi fh):VE X (.Subscript e (.Slice lo hi aA p2) pos) (WM VY fa fl fh):=PE.imp (LB Zaz ha hl hh) λσ H Q ⟨Rm,s,l,hd,env,e,k⟩=>by
 obtain⟨x,e1,e⟩:=Ze e;obtain⟨a,e2,e⟩:=Ze e;obtain⟨b,e3,e⟩:=Ze e;refine⟨Rm,s,x,hd,env,e1,λv H1 fp s1 i1 n1=>⟨Rm,s,a,λp hp=>Same.mut s1 (hd p hp),env.mono s1,e2,λH2 s2=>⟨Rm,s,b,λp hp=>Same.mut (s1.trans s2) (hd p hp),env.mono (s1.trans s2),e3,λH3 s3=>?_⟩⟩⟩
 cases x with
 | tup l=>
  unfold VY at e;simp only at e;split at e
  ·cases e
  ·rename_i hne;cases e;obtain⟨p,xs,rfl,hp,hi⟩:=(i1.mono (s2.trans s3)).tup_inv;obtain⟨f1,c,d⟩:=hi.cut a b;refine⟨p,xs,rfl,SqT.of hp,by rw[hi.len];exact hne,λq hq=>k _ _ f1 (s1.trans (s2.trans (s3.trans (Same.new hq _)))) (Is.tup Zp (c.mono (Same.new hq _))) λr hr=>n1 r (d r hr)⟩
 | _=>cases e
end
end VL
namespace VL
open PySem PySem.Spec PyProof.Rows L2
variable {K:aG}
structure Rel(K:aG)(O:List Nat)(H0:Hp)(fps:Nat->List aK)(s:ZS)(σ:QF)(H:Hp):Prop where
 same:Same H0 H
 len:s.length=σ.length
 is:∀(i:Nat) l,s[i]?=some (some l)->∃v,σ[i]?=some (some v)/\Is K H l v (fps i)
 emp:∀(i:Nat),(∀l,s[i]?≠some (some l))->fps i=[]
 nd:∀i∈O,(fps i).Nodup
 own:∀i∈O,∀p∈fps i,H0 p=aA/\V4 (H p)
 dis:∀i∈O,∀j,j≠i->∀p∈fps i,p∉fps j
noncomputable def Ow(O:List Nat)(fps:Nat->List aK)(p:aK):Prop:=∃i∈O,p∈fps i
noncomputable def ZX(O:List Nat)(s:ZS):ZS:=O.foldl (λs i=>s.set i aA) s
theorem PH:∀{O:List Nat}{s:ZS}{i:Nat}{l:PV},(ZX O s)[i]?=some (some l)->i∉O/\s[i]?=some (some l)
 | [],s,i,l,h=>⟨by simp,h⟩
 | o::O,s,i,l,h=>by
  obtain⟨h1,h2⟩:=PH (O:=O) (s:=s.set o aA) h;rw[bJ] at h2;by_cases e:o=i
  ·rw[mM e] at h2;split at h2<;>cases h2
  ·rw[mN e] at h2;exact⟨by simp only[af,not_or];exact⟨λz=>e z.symm,h1⟩,h2⟩
section
variable {O:List Nat} {H0 H H':Hp} {fps:Nat->List aK} {s:ZS} {σ:QF}
theorem Rel.at(r:Rel K O H0 fps s σ H)(i:Nat){p:aK}(hp:p∈fps i):∃l v,s[i]?=some (some l)/\σ[i]?=some (some v)/\Is K H l v (fps i):=by
 cases q:s[i]? with
 | none=>rw[r.emp i (λl z=>by rw[q] at z;cases z)] at hp;simp at hp
 | some o=>cases o with
  | none=>rw[r.emp i (λl z=>by rw[q] at z;cases z)] at hp;simp at hp
  | some l=>
   obtain⟨v,a,b⟩:=r.is i l q;exact⟨l,v,rfl,a,b⟩
theorem Rel.dom(r:Rel K O H0 fps s σ H)(i:Nat):∀p∈fps i,H p≠aA:=λp hp=>by obtain⟨l,v,_,_,b⟩:=r.at i hp;exact Is.dom _ _ _ b p hp
theorem Rel.env(r:Rel K O H0 fps s σ H):EnvIs K (λ_=>False) H s σ:=⟨λi l e=>by
 obtain⟨v,a,b⟩:=r.is i l e;exact⟨v,_,a,b,λ_ _ z=>z⟩⟩
theorem Rel.envO(r:Rel K O H0 fps s σ H):EnvIs K (Ow O fps) H (ZX O s) σ:=⟨λi l e=>by
 obtain⟨n,e⟩:=PH e;obtain⟨v,a,b⟩:=r.is i l e;exact⟨v,_,a,b,λp hp ⟨j,hj,hpj⟩=>r.dis j hj i (λz=>n (z▸hj)) p hpj hp⟩⟩
theorem Rel.owMut(r:Rel K O H0 fps s σ H):∀p,Ow O fps p->V4 (H p):=λp ⟨i,hi,hp⟩=>(r.own i hi p hp).2
theorem Rel.grow(r:Rel K O H0 fps s σ H)(e:Same H H'):Rel K O H0 fps s σ H':=
 ⟨r.same.trans e,r.len,λi l q=>by obtain⟨v,a,b⟩:=r.is i l q;exact⟨v,a,b.mono e⟩,r.emp,r.nd,λi hi p hp=>⟨(r.own i hi p hp).1,Same.mut e (r.own i hi p hp).2⟩,r.dis⟩
theorem Rel.less{F:Hp}(r:Rel K O F fps s σ H)(e:Same H0 F):Rel K O H0 fps s σ H:=
 ⟨e.trans r.same,r.len,r.is,r.emp,r.nd,λi hi p hp=>⟨Same.off e (r.own i hi p hp).1,(r.own i hi p hp).2⟩,r.dis⟩
theorem Rel.weak{O':List Nat}(r:Rel K O H0 fps s σ H)(h:∀i∈O',i∈O):Rel K O' H0 fps s σ H:=
 ⟨r.same,r.len,r.is,r.emp,λi hi=>r.nd i (h i hi),λi hi=>r.own i (h i hi),λi hi=>r.dis i (h i hi)⟩
open Classical in
noncomputable def QH(H:Hp)(Rm:aK->Prop):Hp:=λb=>if Rm b then aA else H b
theorem Gw{Rm:aK->Prop}:Same (QH H Rm) H:=λb o h=>by
 unfold QH at h;split at h
 ·cases h
 ·exact h
theorem Rel.frame(r:Rel K O H0 fps s σ H):Rel K O (QH H (Ow O fps)) fps s σ H:=
 ⟨Gw,r.len,r.is,r.emp,r.nd,λi hi p hp=>⟨by unfold QH;rw[mM ⟨i,hi,hp⟩],(r.own i hi p hp).2⟩,r.dis⟩
theorem Rel.under(r:Rel K O H0 fps s σ H):Same H0 (QH H (Ow O fps)):=λb o h=>by unfold QH;rw[mN (λ⟨i,hi,hp⟩=>by rw[(r.own i hi b hp).1] at h;cases h)];exact r.same b o h
open Classical in
noncomputable def QI(fps:Nat->List aK)(n:Nat)(i:Nat)(fp:List aK):Nat->List aK:=λj=>if j=i/\i<n then fp else fps j
theorem Yl{n i j:Nat}{fp:List aK}(h:j≠i):QI fps n i fp j=fps j:=by unfold QI;rw[mN (λz=>h z.1)]
theorem IV{n i:Nat}{fp:List aK}(h:i<n):QI fps n i fp i=fp:=by unfold QI;rw[mM ⟨rfl,h⟩]
theorem Rel.set(r:Rel K O H0 fps s σ H){i:Nat}{l:PV}{v:V}{fp:List aK}(hi:Is K H l v fp)(ho:i∈O->fp.Nodup/\∀p∈fp,H0 p=aA/\V4 (H p))
  (hd:∀j,j≠i->(j∈O\/i∈O)->∀p∈fp,p∉fps j):Rel K O H0 (QI fps s.length i fp) (s.set i (some l)) (σ.set i (some v)) H:=by
 by_cases hlt:i<s.length
 ·have e1:QI fps s.length i fp i=fp:=IV hlt;refine⟨r.same,by rw[cZ,cZ];exact r.len,λj a e=>?_,λj h=>?_,λj hj=>?_,λj hj p hp=>?_,λj hj k hk p hp=>?_⟩
  ·rw[bJ] at e;by_cases hj:i=j
   ·subst hj;rw[mM rfl,mM hlt] at e;cases e;rw[e1];exact⟨v,by rw[bJ,mM rfl,mM (by rw[<-r.len];exact hlt)],hi⟩
   ·rw[mN hj] at e;obtain⟨w,h1,h2⟩:=r.is j a e;rw[Yl (bO hj)];exact⟨w,by rw[bJ,mN hj];exact h1,h2⟩
  ·by_cases hj:i=j
   ·subst hj;exact absurd (by rw[bJ,mM rfl,mM hlt]) (h l)
   ·rw[Yl (bO hj)];exact r.emp j λa z=>h a (by rw[bJ,mN hj];exact z)
  ·by_cases e:j=i
   ·subst e;rw[e1];exact(ho hj).1
   ·rw[Yl e];exact r.nd j hj
  ·by_cases e:j=i
   ·subst e;rw[e1] at hp;exact(ho hj).2 p hp
   ·rw[Yl e] at hp;exact r.own j hj p hp
  ·by_cases e:j=i
   ·subst e;rw[e1] at hp;rw[Yl hk];exact hd k hk (.inr hj) p hp
   ·rw[Yl e] at hp;by_cases e2:k=i
    ·subst e2;rw[e1];exact λz=>hd j e (.inl hj) p z hp
    ·rw[Yl e2];exact r.dis j hj k hk p hp
 ·have e1:s.set i (some l)=s:=fY (by omega);have e2:σ.set i (some v)=σ:=fY (by rw[<-r.len];omega);have e3:QI fps s.length i fp=fps:=by funext j;unfold QI;rw[mN (λz=>hlt z.2)]
  rw[e1,e2,e3];exact r
theorem Rel.mutate(r:Rel K O H0 fps s σ H){i:Nat}(hi:i∈O){p:aK}(hp:p∈fps i){o:HO}{l':PV}{v:V}{fp':List aK}(hv:σ[i]?=some (some v))(hlt:i<s.length)
  (h':Is K (upd H p o) l' v fp') (nd:fp'.Nodup) (hm:∀q∈fp',H0 q=aA/\V4 (upd H p o q)) (hd:∀j,j≠i->∀q∈fp',q∉fps j) (hmo:V4 (some o)):Rel K O H0 (QI fps s.length i fp') (s.set i (some l')) σ (upd H p o):=by
 have mu:=(r.own i hi p hp).2;have pn:H0 p=aA:=(r.own i hi p hp).1;have e1:QI fps s.length i fp' i=fp':=IV hlt
 have tk:AG H (upd H p o):=⟨λb xs h=>by
  rw[upd_ne (λz=>by rw[z] at h;rw[h] at mu;exact mu)];exact h,λb o xs h=>by
  rw[upd_ne (λz=>by rw[z] at h;rw[h] at mu;exact mu)];exact h,λb o x h=>by
  rw[upd_ne (λz=>by rw[z] at h;rw[h] at mu;exact mu)];exact h⟩
 refine⟨λb u h=>by rw[upd_ne (Zr h pn)];exact r.same b u h,by rw[cZ];exact r.len,λj a e=>?_,λj h=>?_,λj hj=>?_,λj hj q hq=>?_,λj hj k hk q hq=>?_⟩
 ·rw[bJ] at e;by_cases hj:i=j
  ·subst hj;rw[mM rfl,mM hlt] at e;cases e;rw[e1];exact⟨v,hv,h'⟩
  ·rw[mN hj] at e;obtain⟨w,h1,h2⟩:=r.is j a e;rw[Yl (bO hj)];refine⟨w,h1,Is.tr tk _ _ _ (λq hq=>RdK.of λu hu=>?_) h2⟩;have ne:q≠p:=λz=>r.dis i hi j (bO hj) p hp (z▸hq);rw[upd_ne ne];exact hu
 ·by_cases hj:i=j
  ·subst hj;exact absurd (by rw[bJ,mM rfl,mM hlt]) (h l')
  ·rw[Yl (bO hj)];exact r.emp j λa z=>h a (by rw[bJ,mN hj];exact z)
 ·by_cases e:j=i
  ·subst e;rw[e1];exact nd
  ·rw[Yl e];exact r.nd j hj
 ·by_cases e:j=i
  ·subst e;rw[e1] at hq;exact hm q hq
  ·rw[Yl e] at hq;refine⟨(r.own j hj q hq).1,?_⟩;have ne:q≠p:=λz=>r.dis j hj i (bO e) q hq (z▸hp);rw[upd_ne ne];exact(r.own j hj q hq).2
 ·by_cases e:j=i
  ·subst e;rw[e1] at hq;rw[Yl hk];exact hd k hk q hq
  ·rw[Yl e] at hq;by_cases e2:k=i
   ·subst e2;rw[e1];exact λz=>hd j e q z hq
   ·rw[Yl e2];exact r.dis j hj k hk q hq
end
noncomputable def Kep(a b:List aK):Prop:=a=b\/a=[]
theorem Kep.refl(a:List aK):Kep a a:=.inl rfl
theorem Kep.trans{a b c:List aK}(h:Kep a b)(k:Kep b c):Kep a c:=by
 rcases h with rfl | h
 ·exact k
 ·exact .inr h
inductive Out where
 | nx (s:ZS) | rt (l:PV) | bk (s:ZS) | ct (s:ZS)
abbrev XS:=ZS->Option Out
noncomputable def OutOk(K:aG)(O W:List Nat)(H0:Hp)(fps:Nat->List aK)(σ:QF)(D:Pb):Out->Prop
 | .nx s'=>∀m6 σ' H',Rel K O H0 m6 s' σ' H'->(∀j,j∉W->σ'[j]?=σ[j]?/\Kep (m6 j) (fps j))->D.nx σ' H'
 | .bk s'=>∀m6 σ' H',Rel K O H0 m6 s' σ' H'->(∀j,j∉W->σ'[j]?=σ[j]?/\Kep (m6 j) (fps j))->D.bk σ' H'
 | .ct s'=>∀m6 σ' H',Rel K O H0 m6 s' σ' H'->(∀j,j∉W->σ'[j]?=σ[j]?/\Kep (m6 j) (fps j))->D.ct σ' H'
 | .rt l=>∀v fp H',Same H0 H'->Is K H' l v fp->fp.Nodup->(∀p∈fp,H0 p=aA/\V4 (H' p))->D.rt v H'
noncomputable def tFS(K:aG)(O W:List Nat)(f:XS):TS:=λD σ H=>∃H0 fps s out,Rel K O H0 fps s σ H/\f s=some out/\OutOk K O W H0 fps σ D out
noncomputable def VS(X:Cx)(O W:List Nat)(st:bp)(f:XS):Prop:=PS X st (tFS X.K O W f)
noncomputable def VSs(X:Cx)(O W:List Nat)(st:List bp)(f:XS):Prop:=PSs X st (tFS X.K O W f)
theorem OutOk.same{O W W':List Nat}{H0:Hp}{fps fps1:Nat->List aK}{σ σ1:QF}{D:Pb}{out:Out}(h:OutOk K O W' H0 fps σ D out)(k:∀j,j∉W'->σ1[j]?=σ[j]?/\Kep (fps1 j) (fps j))(hs:∀j,j∉W'->j∉W):OutOk K O W H0 fps1 σ1 D out:=by
 cases out with
 | nx s'=>exact λm6 σ' H' r q=>h m6 σ' H' r λj hj=>⟨(q j (hs j hj)).1.trans (k j hj).1,(q j (hs j hj)).2.trans (k j hj).2⟩
 | bk s'=>exact λm6 σ' H' r q=>h m6 σ' H' r λj hj=>⟨(q j (hs j hj)).1.trans (k j hj).1,(q j (hs j hj)).2.trans (k j hj).2⟩
 | ct s'=>exact λm6 σ' H' r q=>h m6 σ' H' r λj hj=>⟨(q j (hs j hj)).1.trans (k j hj).1,(q j (hs j hj)).2.trans (k j hj).2⟩
 | rt l=>exact h
theorem OutOk.less{O W:List Nat}{H0 F:Hp}{fps:Nat->List aK}{σ:QF}{D:Pb}{out:Out}(h:OutOk K O W H0 fps σ D out)(e:Same H0 F):OutOk K O W F fps σ D out:=by
 cases out with
 | nx s'=>exact λm6 σ' H' r q=>h m6 σ' H' (r.less e) q
 | bk s'=>exact λm6 σ' H' r q=>h m6 σ' H' (r.less e) q
 | ct s'=>exact λm6 σ' H' r q=>h m6 σ' H' (r.less e) q
 | rt l=>exact λv fp H' sm i d n=>h v fp H' (e.trans sm) i d λp hp=>⟨Same.off e (n p hp).1,(n p hp).2⟩
noncomputable def Z6:XS:=λs=>some (.nx s)
noncomputable def Zj(f g:XS):XS:=λs=>(f s).bind λo=>match o with | .nx s'=>g s' | r=>some r
noncomputable def V9(c:XT)(f g:XS):XS:=λs=>(c s).bind λk=>if k=aC then f s else g s
noncomputable def ZY(f:XE):XS:=λs=>(f s).map .rt
noncomputable def Zi(i:Nat)(f:XE):XS:=λs=>(f s).map λl=>.nx (s.set i (some l))
section
variable {X:Cx} {O W W1 W2:List Nat} {st:bp} {YN:List bp} {f g:XS} {pos:da}
theorem PS.imp{t t':TS}(h:PS X st t)(i:∀D σ H,t' D σ H->t D σ H):PS X st t':=λm4 s σ H D I q=>h m4 s σ H D I (i D σ H q)
theorem PSs.imp{t t':TS}(h:PSs X YN t)(i:∀D σ H,t' D σ H->t D σ H):PSs X YN t':=λm4 s σ H D I q=>h m4 s σ H D I (i D σ H q)
theorem Ew:∀D σ H,tFS K O W Z6 D σ H->As D σ H:=λD σ H ⟨H0,fps,s,out,r,e,k⟩=>by cases e;exact k fps σ H r λj _=>⟨rfl,Kep.refl _⟩
theorem Y2:VSs X O [] [] Z6:=PSs.imp CI Ew
theorem Zl(h:VS X O W st f):VSs X O W [st] f:=CJ h
theorem Zf(h1:VS X O W1 st f)(h2:VSs X O W2 YN g):VSs X O (W1++W2) (st::YN) (Zj f g):=PSs.imp (Lw h1 h2) λD σ H ⟨H0,fps,s,out,r,e,k⟩=>by
 obtain⟨o1,e1,e⟩:=Ze e;have sub1:∀j,j∉W1++W2->j∉W1:=λj hj z=>hj (bC _ z);have sub2:∀j,j∉W1++W2->j∉W2:=λj hj z=>hj (aY _ z);refine⟨H0,fps,s,o1,r,e1,?_⟩
 cases o1 with
 | nx s1=>
  intro fps1 σ1 H1 r1 q1;exact⟨H0,fps1,s1,out,r1,e,k.same (λj hj=>q1 j (sub1 j hj)) sub2⟩
 | bk s1=>cases e;exact λm6 σ' H' r' q'=>k m6 σ' H' r' λj hj=>q' j (sub1 j hj)
 | ct s1=>cases e;exact λm6 σ' H' r' q'=>k m6 σ' H' r' λj hj=>q' j (sub1 j hj)
 | rt l=>cases e;exact k
theorem W5{c:bH}{a b:List bp}{fc:XT}(hc:VT X c fc)(ha:VSs X O W1 a f)(hb:VSs X O W2 b g):VS X O (W1++W2) (.If c a b pos) (V9 fc f g):=PS.imp (Zc7 hc ha hb) λD σ H ⟨H0,fps,s,out,r,e,k⟩=>by
 obtain⟨c,e1,e⟩:=Ze e;have sub1:∀j,j∉W1++W2->j∉W1:=λj hj z=>hj (bC _ z);have sub2:∀j,j∉W1++W2->j∉W2:=λj hj z=>hj (aY _ z);refine⟨λ_=>False,s,c,λ_ z=>z.elim,r.env,e1,λH1 s1=>?_⟩
 cases c with
 | true=>
  rw[mM rfl] at e ⊢;exact⟨H0,fps,s,out,r.grow s1,e,k.same (λj _=>⟨rfl,Kep.refl _⟩) sub1⟩
 | false=>
  rw[mN au] at e ⊢;exact⟨H0,fps,s,out,r.grow s1,e,k.same (λj _=>⟨rfl,Kep.refl _⟩) sub2⟩
theorem ZJ{e:bH}{fe:XE}(he:VM X e fe):VS X O [] (.Return (some e) pos) (ZY fe):=PS.imp (K0 he) λD σ H ⟨H0,fps,s,out,r,e,k⟩=>by obtain⟨l,e1,rfl⟩:=map_some e;exact⟨s,l,r.env,e1,λv H' fp sm i d n=>k v fp H' (r.same.trans sm) i d λp hp=>⟨Same.off r.same (n p hp).1,(n p hp).2⟩⟩
theorem QU{e:bH}{i:Nat}(he:PE X e (QC i))(hi:i∈O:=by decide):VS X O [] (.Return (some e) pos) (ZY (Za i)):=PS.imp (K0 he) λD σ H ⟨H0,fps,s,out,r,e,k⟩=>by obtain⟨l,e1,rfl⟩:=map_some e;obtain⟨v,a,b⟩:=r.is i l (NL e1);exact⟨v,a,k v _ H r.same b (r.nd i hi) (r.own i hi)⟩
theorem IW{t:TE}{i:Nat}{fe:XE}(ht:∀σ H Q,tM K fe σ H Q->t σ H Q):∀D σ H,tFS K O [i] (Zi i fe) D σ H->Mc t (T2 i) D σ H:=λD σ H ⟨H0,fps,s,out,r,e,k⟩=>by
 obtain⟨l,e1,rfl⟩:=map_some e;refine ht σ H _ ⟨s,l,r.env,e1,λv H' fp sm is d n=>?_⟩;refine k _ _ H' ((r.grow sm).set (i:=i) is (λ_=>⟨d,λp hp=>⟨Same.off r.same (n p hp).1,(n p hp).2⟩⟩) λj _ _ p hp z=>r.dom j p z (n p hp).1) λj hj=>?_;have:j≠i:=by simpa using hj
 exact⟨by rw[bJ,mN (bO this)],.inl (Yl this)⟩
theorem Zbo{i:Nat}{x:aq}{e:bH}{fe:XE}{pos':da}(hN:X.N.Nodup)(hi:X.N[i]?=some x)(hx:Cz X.env.scope x)(he:VM X e fe)(hs:gF e (some (.Name x pos')) pos.line X.env=pure aB:=by rfl)(hf:X.fn x=aC\/X.env.scope.names.lookup x=some .local:=by first | exact .inl rfl | exact .inr rfl | assumption) :
  VS X O [i] (.Assign [.Name x pos'] e pos) (Zi i fe):=PS.imp (FN hN hi hx he hs hf) (IW λ_ _ _ h=>h)
end
noncomputable def WN(T:Tgt)(fb:XS):List PV->ZS->Option Out
 | [],s=>some (.nx s)
 | l::r,s=>(Vw T l s).bind λs1=>(fb s1).bind λo=>match o with | .nx s2=>WN T fb r s2 | .ct s2=>WN T fb r s2 | .bk s2=>some (.nx s2) | .rt v=>some (.rt v)
noncomputable def Yz(O:List Nat)(fi:XL)(T:Tgt)(fb:XS):XS:=λs=>(fi (ZX O s)).bind λls=>WN T fb ls s
theorem Rel.setAll{O:List Nat}{H0 H:Hp}:∀{is:List Nat}{ls:List PV}{vs:List V}{fs:List aK}{fps:Nat->List aK}{s:ZS}{σ:QF},Rel K O H0 fps s σ H->Iss K H ls vs fs->ls.length=is.length->(∀i∈is,i∉O)->(∀i∈O,∀p∈fps i,p∉fs)->
  ∃m6,Rel K O H0 m6 (VL.setAll is ls s) (Xp is vs σ) H/\∀j,j∉is->(Xp is vs σ)[j]?=σ[j]?/\Kep (m6 j) (fps j)
 | [],ls,vs,fs,fps,s,σ,r,_,_,_,_=>⟨fps,by unfold VL.setAll Xp;exact r,λj _=>⟨by unfold Xp;rfl,Kep.refl _⟩⟩
 | i::is,[],vs,fs,fps,s,σ,r,_,hl,_,_=>by simp at hl
 | i::is,l::ls,vs,fs,fps,s,σ,r,hi,hl,hO,hd=>by
  obtain⟨x,rr,f1,f2,rfl,h1,h2,rfl⟩:=hi.inv;have hiO:=hO i ah
  have r1:=r.set (i:=i) h1 (λz=>absurd z hiO) λj hj hjo p hp z=>by
   rcases hjo with hjo | hjo
   ·exact hd j hjo p z (bC _ hp)
   ·exact absurd hjo hiO
  obtain⟨m6,r2,q2⟩:=Rel.setAll (is:=is) r1 h2 (by simpa using hl) (λj hj=>hO j (aS _ hj)) λj hj p hp z=>by have hji:j≠i:=λe=>hiO (by rw[<-e];exact hj);rw[Yl hji] at hp;exact hd j hj p hp (aY _ z)
  refine⟨m6,r2,λj hj=>?_⟩;have hji:j≠i:=λe=>hj (e▸ah);obtain⟨a,b⟩:=q2 j (λz=>hj (aS _ z));exact⟨a.trans (by rw[bJ,mN (bO hji)]),b.trans (.inl (Yl hji))⟩
section
variable {O W:List Nat} {T:Tgt} {fb:XS}
theorem Ex{H1:Hp}{fps:Nat->List aK}{s:ZS}{σ:QF}{D:Pb}{J:It}{ls:List PV}{out:Out}(r:Rel K O (QH H1 (Ow O fps)) fps s σ H1)(jis:JIs K (Ow O fps) H1 J ls)(e:WN T fb ls s=some out)(hT:∀i∈T.slots,i∉O)
  (k:OutOk K O (T.slots++W) (QH H1 (Ow O fps)) fps σ D out):Zft (gT K T) (tFS K O W fb) D σ J H1:=by
 have subT:∀j,j∉T.slots++W->j∉T.slots:=λj hj z=>hj (bC _ z);have subW:∀j,j∉T.slots++W->j∉W:=λj hj z=>hj (aY _ z)
 refine⟨λi m σ' H'=>m=ls.length-i/\i<=ls.length/\∃m6 s',Rel K O (QH H1 (Ow O fps)) m6 s' σ' H'/\WN T fb (ls.drop i) s'=some out/\∀j,j∉T.slots++W->σ'[j]?=σ[j]?/\Kep (m6 j) (fps j),
  ⟨ls.length,by simp,eu _,fps,s,r,e,λj _=>⟨rfl,Kep.refl _⟩⟩,?_⟩
 rintro i m σ' H' ⟨rfl,hi,m6,s',r',e',q'⟩;have ab:Ab (Ow O fps) H1 H':=λb o h n=>r'.same b o (by unfold QH;rw[mN n];exact h)
 cases q:ls.drop i with
 | nil=>
  have hil:i=ls.length:=by have:=congrArg iP q;rw[bK] at this;simp at this;omega
  subst hil;rw[q] at e';cases e';exact .inl ⟨jis.stop H' ab,k m6 σ' H' r' q'⟩
 | cons l rr=>
  obtain⟨hl,hr⟩:=PF q;have hilt:i<ls.length:=(aU.mp hl).1;rw[q] at e';unfold WN at e';obtain⟨sb,eb,e'⟩:=Ze e';obtain⟨o,eo,e'⟩:=Ze e'
  refine .inr ⟨jis.go H' i l ab hl,λσ2 H2=>∃fps2 s2,Rel K O (QH H1 (Ow O fps)) fps2 s2 σ2 H2/\WN T fb (ls.drop (i+1)) s2=some out/\∀j,j∉T.slots++W->σ2[j]?=σ[j]?/\Kep (fps2 j) (fps j),
   λσ2 H2 h2=>⟨ls.length-(i+1),by omega,rfl,hilt,h2⟩,λx H2 y=>?_⟩
  obtain⟨s2,fx,ix,nx⟩:=jis.yld H' i l x H2 ab hl y;obtain⟨bl,bv,bf,rfl,bi,blen,bsub,buse⟩:=Mx (K:=K) ix eb;obtain⟨fps3,r3,q3⟩:=Rel.setAll (is:=T.slots) (r'.grow s2) bi blen hT λj hj p hp z=>by obtain⟨n1,n2⟩:=nx p (bsub p z);have:=(r'.own j hj p hp).1;unfold QH at this;rw[mN n2] at this;exact n1 this
  refine buse _ _ ⟨_,fps3,_,o,r3,eo,?_⟩;have keep:∀j,j∉T.slots++W->(Xp T.slots bv σ')[j]?=σ[j]?/\Kep (fps3 j) (fps j):=λj hj=>⟨(q3 j (subT j hj)).1.trans (q' j hj).1,(q3 j (subT j hj)).2.trans (q' j hj).2⟩
  cases o with
  | nx s4=>exact λfps4 σ4 H4 r4 q4=>⟨fps4,s4,r4,by rw[hr];exact e',λj hj=>⟨(q4 j (subW j hj)).1.trans (keep j hj).1,(q4 j (subW j hj)).2.trans (keep j hj).2⟩⟩
  | ct s4=>exact λfps4 σ4 H4 r4 q4=>⟨fps4,s4,r4,by rw[hr];exact e',λj hj=>⟨(q4 j (subW j hj)).1.trans (keep j hj).1,(q4 j (subW j hj)).2.trans (keep j hj).2⟩⟩
  | bk s4=>
   cases e';exact λfps4 σ4 H4 r4 q4=>k fps4 σ4 H4 r4 λj hj=>⟨(q4 j (subW j hj)).1.trans (keep j hj).1,(q4 j (subW j hj)).2.trans (keep j hj).2⟩
  | rt v=>
   cases e';exact k
end
section
variable {X:Cx} {O W:List Nat} {tg iter:bH} {body:List bp} {fi:XL} {T:Tgt} {fb:XS} {pos:da}
theorem Zbp(hp:js (model X.prog X.w) X.A X.env X.xe)(hc:X.calm=aC)(hi:VI X tg iter fi)(hg:PG X tg (gT X.K T))(hb:VSs X O W body fb)(hT:∀i∈T.slots,i∉O:=by decide)
  (hs:∀x,ba iter X.env x=pure x:=by intro _;rfl):VS X O (T.slots++W) (.For tg iter body [] pos) (Yz O fi T fb):=PS.imp (Zak hp hc hi hg hb hs) λD σ H ⟨H0,fps,s,out,r,e,k⟩=>by
 obtain⟨ls,e1,e⟩:=Ze e;refine⟨Ow O fps,ZX O s,ls,r.owMut,r.envO,e1,λJ H1 s1 jis=>?_⟩;exact Ex (r.grow s1).frame jis e hT (k.less (r.grow s1).under)
end
noncomputable def Xf(c:XT)(fb:XS):Nat->ZS->Option Out
 | 0,_=>aA
 | n+1,s=>(c s).bind λk=>if k=aC then(fb s).bind λo=>match o with | .nx s2=>Xf c fb n s2 | .ct s2=>Xf c fb n s2 | .bk s2=>some (.nx s2) | .rt v=>some (.rt v) else some (.nx s)
theorem UW{c:XT}{fb:XS}:∀{n:Nat}{s:ZS}{o:Out},Xf c fb n s=some o->Xf c fb (n+1) s=some o
 | 0,_,_,h=>by cases h
 | n+1,s,o,h=>by
  unfold Xf at h ⊢;obtain⟨k,e1,h⟩:=Ze h;rw[e1]
  cases k with
  | false=>exact h
  | true=>
   rw[mM rfl] at h;obtain⟨o1,e2,h⟩:=Ze h;simp only[aL,if_true,e2]
   cases o1 with
   | nx s2=>exact UW h
   | ct s2=>exact UW h
   | bk s2=>exact h
   | rt v=>exact h
theorem NO{c:XT}{fb:XS}{n m:Nat}{s:ZS}{o:Out}(h:Xf c fb n s=some o)(hm:n<=m):Xf c fb m s=some o:=by
 induction m with
 | zero=>
  have:n=0:=by omega
  subst this;exact h
 | succ m ih=>
  by_cases e:n=m+1
  ·subst e;exact h
  ·exact UW (ih (by omega))
open Classical in
noncomputable def VZ(c:XT)(fb:XS):XS:=λs=>if h:∃n,(Xf c fb n s).isSome=aC then Xf c fb h.choose s else aA
theorem Gx{c:XT}{fb:XS}{n:Nat}{s:ZS}{o:Out}(h:Xf c fb n s=some o):VZ c fb s=some o:=by
 have ex:∃n,(Xf c fb n s).isSome=aC:=⟨n,by rw[h];rfl⟩;unfold VZ;rw[dif_pos ex];obtain⟨o',e⟩:=cI.mp ex.choose_spec;rw[e];rcases Nat.le_total n ex.choose with hl | hl
 ·rw[NO h hl] at e;exact e.symm
 ·rw[NO e hl] at h;exact h
section
variable {X:Cx} {O W:List Nat} {c:bH} {body:List bp} {fc:XT} {fb:XS} {pos:da}
theorem SR(hp:js (model X.prog X.w) X.A X.env X.xe)(hc:VT X c fc)(hb:VSs X O W body fb):VS X O W (.While c body [] pos) (VZ fc fb):=PS.imp (FO hp hc hb) λD σ H ⟨H0,fps,s,out,r,e,k⟩=>by
 unfold VZ at e;split at e
 case isFalse=>cases e
 rename_i ex;generalize ex.choose=n at e;refine⟨λm σ' H'=>∃m6 s',Rel X.K O H0 m6 s' σ' H'/\Xf fc fb m s'=some out/\∀j,j∉W->σ'[j]?=σ[j]?/\Kep (m6 j) (fps j),⟨n,fps,s,r,e,λj _=>⟨rfl,Kep.refl _⟩⟩,?_⟩;rintro m σ' H' ⟨m6,s',r',e',q'⟩
 cases m with
 | zero=>cases e'
 | succ m=>
  unfold Xf at e';obtain⟨b,e1,e'⟩:=Ze e';refine⟨λ_=>False,s',b,λ_ z=>z.elim,r'.env,e1,λH2 s2=>?_⟩
  cases b with
  | false=>
   rw[mN au] at e' ⊢;cases e';exact k m6 σ' H2 (r'.grow s2) q'
  | true=>
   rw[mM rfl] at e' ⊢;obtain⟨o,eo,e'⟩:=Ze e';refine⟨λσ2 H2=>∃fps2 s2,Rel X.K O H0 fps2 s2 σ2 H2/\Xf fc fb m s2=some out/\∀j,j∉W->σ2[j]?=σ[j]?/\Kep (fps2 j) (fps j),λσ2 H2 h2=>⟨m,eG m,h2⟩,H0,m6,s',o,r'.grow s2,eo,?_⟩
   cases o with
   | nx s4=>exact λfps4 σ4 H4 r4 q4=>⟨fps4,s4,r4,e',λj hj=>⟨(q4 j hj).1.trans (q' j hj).1,(q4 j hj).2.trans (q' j hj).2⟩⟩
   | ct s4=>exact λfps4 σ4 H4 r4 q4=>⟨fps4,s4,r4,e',λj hj=>⟨(q4 j hj).1.trans (q' j hj).1,(q4 j hj).2.trans (q' j hj).2⟩⟩
   | bk s4=>
    cases e';exact λfps4 σ4 H4 r4 q4=>k fps4 σ4 H4 r4 λj hj=>⟨(q4 j hj).1.trans (q' j hj).1,(q4 j hj).2.trans (q' j hj).2⟩
   | rt v=>cases e';exact k
end
end VL
namespace VL
open PySem PySem.Spec PyProof.Rows L2
variable {K:aG}
section
variable {O:List Nat} {H0 H H':Hp} {fps:Nat->List aK} {s:ZS} {σ:QF}
theorem Rel.lst_at(r:Rel K O H0 fps s σ H){i:Nat}(hi:i∈O){m:List PV}(e:s[i]?=some (some (.lst m))):∃p xs fq,σ[i]?=some (some (.ref p))/\H p=some (.lst xs)/\Iss K H m xs fq/\fps i=p::fq:=by obtain⟨v,a,b⟩:=r.is i _ e;obtain⟨p,xs,fq,rfl,hp,hm,ef⟩:=b.lst_inv;exact⟨p,xs,fq,a,hp,hm,ef⟩
theorem Rel.dT_at(r:Rel K O H0 fps s σ H){i:Nat}(hi:i∈O){ks:List (List Xl)}{m:List PV}(e:s[i]?=some (some (.dT ks m))):∃p m5 fq,σ[i]?=some (some (.ref p))/\H p=some (.dT m5)/\m5.map (·.1)=ks/\Iss K H m (m5.map (·.2)) fq/\fps i=p::fq:=by
 obtain⟨v,a,b⟩:=r.is i _ e;obtain⟨p,xs,fq,rfl,hp,hk,hm,ef⟩:=b.dT_inv;refine⟨p,xs,fq,a,?_,hk,hm,ef⟩;have mu:=(r.own i hi p (by rw[ef];exact ah)).2;rcases hp with hp | ⟨o,hp⟩
 ·exact hp
 ·rw[hp] at mu;exact mu.elim
theorem Rel.dK_at(r:Rel K O H0 fps s σ H){i:Nat}(hi:i∈O){ks:List Xl}{m:List PV}(e:s[i]?=some (some (.dK ks m))):∃p m5 fq,σ[i]?=some (some (.ref p))/\H p=some (.dK m5)/\m5.map (·.1)=ks/\Iss K H m (m5.map (·.2)) fq/\fps i=p::fq:=by
 obtain⟨v,a,b⟩:=r.is i _ e;obtain⟨p,xs,fq,rfl,hp,hk,hm,ef⟩:=b.dK_inv;refine⟨p,xs,fq,a,?_,hk,hm,ef⟩;have mu:=(r.own i hi p (by rw[ef];exact ah)).2;rcases hp with hp | ⟨o,hp⟩
 ·exact hp
 ·rw[hp] at mu;exact mu.elim
theorem Tt{α:Type}{l:List α}{i:Nat}{a:α}(h:l[i]?=some a):i<l.length:=(aU.mp h).1
theorem TK.upd'{p:aK}{o:HO}(mu:V4 (H p)):AG H (L2.upd H p o):=⟨λb xs h=>by
 rw[upd_ne (λz=>by rw[z] at h;rw[h] at mu;exact mu)];exact h,λb o xs h=>by
 rw[upd_ne (λz=>by rw[z] at h;rw[h] at mu;exact mu)];exact h,λb o x h=>by
 rw[upd_ne (λz=>by rw[z] at h;rw[h] at mu;exact mu)];exact h⟩
theorem RdK.upd_ne{p q:aK}{o:HO}(ne:q≠p):RdK H (L2.upd H p o) q:=RdK.of λu hu=>by rw[L2.upd_ne ne];exact hu
theorem Rel.relist(r:Rel K O H0 fps s σ H){i:Nat}(hi:i∈O){m m':List PV}(e:s[i]?=some (some (.lst m))){p:aK}{fq fq':List aK}{xs':List V}(ef:fps i=p::fq)(hv:σ[i]?=some (some (.ref p)))
  (h':Iss K H m' xs' fq') (nd:(p::fq').Nodup) (hf:∀q∈fq',q∈fq\/((H0 q=aA/\V4 (H q))/\∀j,q∉fps j)):Rel K O H0 (QI fps s.length i (p::fq')) (s.set i (some (.lst m'))) σ (L2.upd H p (.lst xs')):=by
 have hp:p∈fps i:=by rw[ef];exact ah
 have mu:=(r.own i hi p hp).2;have np:p∉fq':=(bG.mp nd).1;refine r.mutate hi hp hv (Tt e) (Is.lst Zp (Iss.tr (TK.upd' mu) _ _ _ (λq hq=>RdK.upd_ne λz=>np (z▸hq)) h')) nd (λq hq=>?_) (λj hj q hq z=>?_) bW
 ·rcases af.mp hq with rfl | hq
  ·exact⟨(r.own i hi q hp).1,by rw[Zp];exact bW⟩
  ·have ne:q≠p:=λz=>np (z▸hq);rw[L2.upd_ne ne];rcases hf q hq with h | h
   ·exact r.own i hi q (by rw[ef];exact aS _ h)
   ·exact h.1
 ·rcases af.mp hq with rfl | hq
  ·exact r.dis i hi j hj q hp z
  ·rcases hf q hq with h | h
   ·exact r.dis i hi j hj q (by rw[ef];exact aS _ h) z
   ·exact h.2 j z
end
noncomputable def Jn(s:ZS)(i:Nat):Option (List PV):=match s[i]? with | some (some (.lst m))=>some m | _=>aA
noncomputable def Gy:PV->Option Int
 | .int k=>some k
 | _=>aA
noncomputable def asL:PV->Option (List PV)
 | .lst k=>some k
 | _=>aA
theorem Ua{s:ZS}{i:Nat}{m:List PV}(h:Jn s i=some m):s[i]?=some (some (.lst m)):=by
 unfold Jn at h;split at h
 ·cases h;assumption
 ·cases h
theorem UX{a:PV}{k:Int}(h:Gy a=some k):a = .int k:=by
 unfold Gy at h;split at h
 ·cases h;rfl
 ·cases h
theorem LX{a:PV}{k:List PV}(h:asL a=some k):a = .lst k:=by
 unfold asL at h;split at h
 ·cases h;rfl
 ·cases h
noncomputable def gd(c:Bool):Option Unit:=if c=aC then some () else aA
theorem Vy{c:Bool}{u:Unit}(h:gd c=some u):c=aC:=by
 unfold gd at h;split at h
 ·assumption
 ·cases h
noncomputable def ZZ(i:Nat)(f:XE):XS:=λs=>(f s).bind λl=>(Jn s i).bind λm=>(gd (decide (m.length<=10000))).bind λ_=>some (.nx (s.set i (some (.lst (m++[l])))))
noncomputable def XA(i:Nat)(f:XE):XS:=λs=>(f s).bind λl=>(asL l).bind λn=>(Jn s i).bind λm=>(gd (decide (m.length+n.length<=10000))).bind λ_=>some (.nx (s.set i (some (.lst (m++n)))))
noncomputable def Vz(i:Nat)(fk:XE)(f:XE):XS:=λs=>(fk s).bind λk=>(f s).bind λl=>(Gy k).bind λk=>(Jn s i).bind λm=>(gd (ZH m&&ZO l&&decide (0<=k/\k<=1000000/\m.length<=10000))).bind λ_=>some (.nx (s.set i (some (.lst (m.take k.toNat++l::m.drop k.toNat)))))
noncomputable def UY(i:Nat)(fk:XE)(f:XE):XS:=λs=>(f s).bind λl=>(fk s).bind λk=>(Gy k).bind λk=>(Jn s i).bind λm=>(gd (ZH m&&ZO l)).bind λ_=>(Lq m.length k).map λj=>.nx (s.set i (some (.lst (m.set j l))))
section
variable {X:Cx} {O:List Nat} {i:Nat} {st:bp} {f fk:XE}
theorem tyL{H:Hp}{p:aK}{xs:List V}(h:H p=some (.lst xs)):tyV K "list" (.ref p) H:=.inl ⟨rfl,_,SqL.of h⟩
theorem PJ{s:ZS}{σ:QF}{fps:Nat->List aK}{fp:List aK}:∀j,j∉[i]->σ[j]?=σ[j]?/\Kep (QI fps s.length i fp j) (fps j):=λj hj=>⟨rfl,.inl (Yl (by simpa using hj))⟩
theorem XI(h:PS X st (Il (tBM X.K "list" Iu (QC i) (Qr (tM X.K f) K5))))(hi:i∈O:=by decide):VS X O [i] st (ZZ i f):=PS.imp h λD σ H ⟨H0,fps,s,out,r,e,k⟩=>by
 obtain⟨l,e1,e⟩:=Ze e;obtain⟨m,em,e⟩:=Ze e;obtain⟨_,eg,e⟩:=Ze e;have em:=Ua em;have hlen:=of_decide_eq_true (Vy eg);cases e;obtain⟨p,xs,fq,hv,hp,hm,ef⟩:=r.lst_at hi em;refine⟨.ref p,hv,tyL hp,s,l,r.env,e1,λy H2 fe s2 i2 d2 n2=>?_⟩;refine⟨p,xs,y,rfl,rfl,s2 _ _ hp,by rw[hm.len];exact lt_size (by omega),?_⟩;have r2:=r.grow s2;have fr:∀q∈fe,∀j,q∉fps j:=λq hq j z=>r.dom j q z (n2 q hq).1;refine k _ _ _ (r2.relist hi em ef hv ((hm.mono s2).append (Iss.one i2)) ?_ λq hq=>?_) PJ
 ·have nd:=r.nd i hi;rw[ef] at nd;rw[<-gX];exact cU.mpr ⟨nd,d2,λa ha b hb z=>fr b hb i (by rw[ef,<-z];exact ha)⟩
 ·rcases aa.mp hq with h | h
  ·exact .inl h
  ·exact .inr ⟨⟨Same.off r.same (n2 q h).1,(n2 q h).2⟩,fr q h⟩
theorem NP(h:PS X st (Il (tBM X.K "list" Iv (QC i) (Qr (tM X.K f) K5))))(hi:i∈O:=by decide):VS X O [i] st (XA i f):=PS.imp h λD σ H ⟨H0,fps,s,out,r,e,k⟩=>by
 obtain⟨l,e1,e⟩:=Ze e;obtain⟨n,en,e⟩:=Ze e;obtain⟨m,em,e⟩:=Ze e;obtain⟨_,eg,e⟩:=Ze e;rw[LX en] at e1;have em:=Ua em;have hlen:=of_decide_eq_true (Vy eg);cases e;obtain⟨p,xs,fq,hv,hp,hm,ef⟩:=r.lst_at hi em;refine⟨.ref p,hv,tyL hp,s,_,r.env,e1,λy H2 fe s2 i2 d2 n2=>?_⟩;obtain⟨b,zs,fb,rfl,hb,hz,rfl⟩:=i2.lst_inv;have hb':H2 b=some (.lst zs):=hb;refine⟨p,b,xs,zs,rfl,rfl,s2 _ _ hp,hb',by rw[hm.len,hz.len];exact cF (lt_size (by omega)),?_⟩;have r2:=r.grow s2;have fr:∀q∈fb,∀j,q∉fps j:=λq hq j z=>r.dom j q z (n2 q (aS _ hq)).1;refine k _ _ _ (r2.relist hi em ef hv ((hm.mono s2).append hz) ?_ λq hq=>?_) PJ
 ·have nd:=r.nd i hi;rw[ef] at nd;rw[<-gX];exact cU.mpr ⟨nd,(bG.mp d2).2,λa ha b hb z=>fr b hb i (by rw[ef,<-z];exact ha)⟩
 ·rcases aa.mp hq with h | h
  ·exact .inl h
  ·exact .inr ⟨⟨Same.off r.same (n2 q (aS _ h)).1,(n2 q (aS _ h)).2⟩,fr q h⟩
theorem Iss.pureEq{H:Hp}{l:List PV}{xs:List V}{fp:List aK}(h:Iss K H l xs fp)(hp:ZH l=aC):Iss K H l xs []:=by have:=Iss.pure _ _ _ hp h;subst this;exact h
theorem PL{l:List PV}(n:Nat)(h:ZH l=aC):ZH (l.take n)=aC:=by rw[Wc,bM] at *;exact λx hx=>h x (fC hx)
theorem PM{l:List PV}(n:Nat)(h:ZH l=aC):ZH (l.drop n)=aC:=by rw[Wc,bM] at *;exact λx hx=>h x (fB hx)
theorem NQ(h:PS X st (Il (tBM X.K "list" IC (QC i) (Qr (tF X.K fk) (Qr (tF X.K f) K5)))))(hi:i∈O:=by decide):VS X O [i] st (Vz i fk f):=PS.imp h λD σ H ⟨H0,fps,s,out,r,e,k⟩=>by obtain⟨kk,e0,e⟩:=Ze e;obtain⟨l,e1,e⟩:=Ze e;obtain⟨ki,ek,e⟩:=Ze e;obtain⟨m,em,e⟩:=Ze e;obtain⟨_,eg,e⟩:=Ze e;rw[UX ek] at e0;have em:=Ua em;have hc:=Vy eg;simp only[av,decide_eq_true_eq] at hc;obtain⟨⟨pm,pl⟩,k0,k1,hlen⟩:=hc;cases e;obtain⟨p,xs,fq,hv,hp,hm,ef⟩:=r.lst_at hi em;refine⟨.ref p,hv,tyL hp,λ_=>False,s,_,λ_ z=>z.elim,r.env,e0,λz H1 fz s1 i1 _=>⟨λ_=>False,s,l,λ_ z=>z.elim,r.env.mono s1,e1,λy H2 fe s2 i2 _=>?_⟩⟩;have s12:=s1.trans s2;obtain⟨rfl,_⟩:=i1.int_inv;have:=Is.pure _ _ _ pl i2;subst this;refine⟨p,xs,ki,y,rfl,rfl,s12 _ _ hp,k0,by omega,by rw[hm.len];exact lt_size (by omega),?_⟩;have hm':=(hm.mono s12).pureEq pm;obtain⟨f1,a1,_⟩:=hm'.take ki.toNat;obtain⟨f2,a2,_⟩:=hm'.drop ki.toNat;have a1:=a1.pureEq (PL _ pm);have a2:=a2.pureEq (PM _ pm);exact k _ _ _ ((r.grow s12).relist hi em ef hv (a1.append (Iss.cons i2 a2)) (by simp) λq hq=>by simp at hq) PJ
theorem LY(h:PS X st (Mc (tF X.K f) (Zaf (QC i) (tF X.K fk) F0)))(hi:i∈O:=by decide):VS X O [i] st (UY i fk f):=PS.imp h λD σ H ⟨H0,fps,s,out,r,e,k⟩=>by obtain⟨l,e0,e⟩:=Ze e;obtain⟨kk,e1,e⟩:=Ze e;obtain⟨ki,ek,e⟩:=Ze e;obtain⟨m,em,e⟩:=Ze e;obtain⟨_,eg,e⟩:=Ze e;rw[UX ek] at e1;have em:=Ua em;have hc:=Vy eg;simp only[av] at hc;obtain⟨pm,pl⟩:=hc;obtain⟨j,ej,rfl⟩:=map_some e;obtain⟨p,xs,fq,hv,hp,hm,ef⟩:=r.lst_at hi em;refine⟨λ_=>False,s,l,λ_ z=>z.elim,r.env,e0,λy H1 fy s1 i1 _=>?_⟩;refine⟨.ref p,hv,λ_=>False,s,_,λ_ z=>z.elim,r.env.mono s1,e1,λz H2 fz s2 i2 _=>?_⟩;have s12:=s1.trans s2;obtain⟨rfl,_⟩:=i2.int_inv;have:=Is.pure _ _ _ pl i1;subst this;refine⟨p,xs,ki,j,rfl,rfl,s12 _ _ hp,by rw[hm.len];exact ej,?_⟩;exact k _ _ _ ((r.grow s12).relist hi em ef hv (Iss.setP j pm pl ((hm.mono s12).pureEq pm) (i1.mono s2)) (by simp) λq hq=>by simp at hq) PJ
end
theorem Iss.setRow{H:Hp}{o:List V}:∀{m:List PV}{xs:List V}{fq:List aK}{j:Nat}{n n':List PV}{q:aK},Iss K H m xs fq->m[j]?=some (.lst n)->xs[j]?=some (.ref q)->fq.Nodup->V4 (H q)->ZH n=aC->Iss K (L2.upd H q (.lst o)) n' o []->
  Iss K (L2.upd H q (.lst o)) (m.set j (.lst n')) xs fq
 | [],_,_,_,_,_,_,_,e,_,_,_,_,_=>by simp at e
 | a::m,xs,fq,0,n,n',q,h,e,ex,nd,mu,pn,h'=>by obtain⟨x,r,f1,f2,rfl,h1,h2,rfl⟩:=h.inv;simp at e ex;subst e ex;obtain⟨p',zs,fz,e,hp,hz,rfl⟩:=h1.lst_inv;cases e;have:=Iss.pure _ _ _ pn hz;subst this;have nq:q∉f2:=(bG.mp nd).1;exact Iss.cons (Is.lst Zp h') (Iss.tr (TK.upd' mu) _ _ _ (λz hz=>RdK.upd_ne λe=>nq (e▸hz)) h2)
 | a::m,xs,fq,j+1,n,n',q,h,e,ex,nd,mu,pn,h'=>by obtain⟨x,r,f1,f2,rfl,h1,h2,rfl⟩:=h.inv;simp at e ex;obtain⟨nd1,nd2,nd3⟩:=cU.mp nd;obtain⟨y,fy,hy,iy,suby⟩:=h2.get e;rw[ex] at hy;cases hy;obtain⟨p',zs,fz,e',_,_,rfl⟩:=iy.lst_inv;cases e';have nq:q∉f1:=λz=>nd3 q z q (suby q ah) rfl;exact Iss.cons (Is.tr (TK.upd' mu) _ _ _ (λz hz=>RdK.upd_ne λe=>nq (e▸hz)) h1) (Iss.setRow h2 e ex nd2 mu pn h')
noncomputable def Yp(i:Nat)(fa fb:XE)(f:XE):XS:=λs=>(f s).bind λl=>(fa s).bind λa=>(fb s).bind λb=>(Gy a).bind λa=>(Gy b).bind λb=>(Jn s i).bind λm=>(Lq m.length a).bind λj=>(m[j]?).bind λr=>(asL r).bind λn=>
 (gd (ZH n&&ZO l)).bind λ_=>(Lq n.length b).map λc=>.nx (s.set i (some (.lst (m.set j (.lst (n.set c l))))))
theorem Tu{X:Cx}{O:List Nat}{i:Nat}{st:bp}{f fa fb:XE}(h:PS X st (Mc (tF X.K f) (Zaf (tOp (Za0 X.K) (QC i) (tF X.K fa)) (tF X.K fb) F0)))(hi:i∈O:=by decide):VS X O [i] st (Yp i fa fb f):=PS.imp h λD σ H ⟨H0,fps,s,out,r,e,k⟩=>by
 obtain⟨l,e0,e⟩:=Ze e;obtain⟨a,e1,e⟩:=Ze e;obtain⟨b,e2,e⟩:=Ze e;obtain⟨ai,ea,e⟩:=Ze e;obtain⟨bi,eb,e⟩:=Ze e;obtain⟨m,em,e⟩:=Ze e;obtain⟨j,ej,e⟩:=Ze e;obtain⟨Z7,en,e⟩:=Ze e;obtain⟨n,er,e⟩:=Ze e;obtain⟨_,eg,e⟩:=Ze e;rw[UX ea] at e1;rw[UX eb] at e2;rw[LX er] at en;have em:=Ua em;have hc:=Vy eg;simp only[av] at hc;obtain⟨pn,pl⟩:=hc;obtain⟨c,ec,rfl⟩:=map_some e;obtain⟨p,xs,fq,hv,hp,hm,ef⟩:=r.lst_at hi em;refine⟨λ_=>False,s,l,λ_ z=>z.elim,r.env,e0,λy H1 fy s1 i1 _=>?_⟩;refine⟨.ref p,hv,λ_=>False,s,_,λ_ z=>z.elim,r.env.mono s1,e1,λz H2 fz s2 i2 _=>?_⟩;obtain⟨rfl,_⟩:=i2.int_inv;have s12:=s1.trans s2;obtain⟨q,f1,hq,iq,subq⟩:=(hm.mono s12).get en;obtain⟨qa,zs,fz',rfl,hqa,hz,rfl⟩:=id iq.lst_inv;refine⟨p,xs,ai,.ref qa,rfl,rfl,SqL.of (s12 _ _ hp),?_,λ_=>False,s,_,λ_ z=>z.elim,r.env.mono s12,e2,λw H3 fw s3 i3 _=>?_⟩
 ·unfold Sx;rw[hm.len,ej];exact hq
 obtain⟨rfl,_⟩:=i3.int_inv;have s123:=s12.trans s3;have r3:=r.grow s123;have hqf:qa∈fps i:=by rw[ef];exact aS _ (subq qa ah)
 have mu:=(r3.own i hi qa hqf).2;have hqa3:H3 qa=some (.lst zs):=s3 _ _ hqa;have:=Is.pure _ _ _ pl i1;subst this;refine⟨qa,zs,bi,c,rfl,rfl,hqa3,by rw[hz.len];exact ec,?_⟩;have nd:=r.nd i hi;rw[ef] at nd;have hqp:qa≠p:=λz=>(bG.mp nd).1 (z▸subq qa ah);have newrow:Iss X.K (L2.upd H3 qa (.lst (zs.set c y))) (n.set c l) (zs.set c y) []:=Iss.tr (TK.upd' mu) _ _ _ (λq hq=>by simp at hq) (Iss.setP c pn pl ((hz.mono s3).pureEq pn) (i1.mono (s2.trans s3)));have rows:=Iss.setRow (hm.mono s123) en hq (bG.mp nd).2 mu pn newrow;refine k _ _ _ (r3.mutate (o:=.lst (zs.set c y)) (l':=.lst (m.set j (.lst (n.set c l)))) (fp':=p::fq) hi hqf hv (Tt em) (Is.lst (by rw[L2.upd_ne (bO hqp)];exact s123 _ _ hp) rows) nd (λq hq=>?_) (λj hj q hq z=>r.dis i hi j hj q (by rw[ef];exact hq) z) bW) PJ;refine⟨(r.own i hi q (by rw[ef];exact hq)).1,?_⟩;by_cases e:q=qa
 ·subst e;rw[Zp];exact bW
 ·rw[L2.upd_ne e];exact(r3.own i hi q (by rw[ef];exact hq)).2
noncomputable def Bl(i:Nat)(g:PV->PV->Option PV)(f:XE):XS:=λs=>match s[i]? with | some (some a)=>(f s).bind λb=>(g a b).map λl=>.nx (s.set i (some l)) | _=>aA
theorem Bm{X:Cx}{O:List Nat}{i:Nat}{st:bp}{f:XE}{g:Int->Int->Int}(h:PS X st (Zdb i (tF X.K f) (ipI g))):VS X O [i] st (Bl i (gI g) f):=PS.imp h λD σ H ⟨H0,fps,s,out,r,e,k⟩=>by
 unfold Bl at e;split at e
 case h_2=>cases e
 rename_i a ea;obtain⟨b,e1,e⟩:=Ze e;obtain⟨l,e2,rfl⟩:=map_some e;obtain⟨m,n,rfl,rfl,rfl⟩:=IH e2;obtain⟨v,hv,iv⟩:=r.is i _ ea;refine⟨v,hv,λ_=>False,s,_,λ_ z=>z.elim,r.env,e1,λy H1 fy s1 i1 _=>⟨m,n,iv.int_inv.1,i1.int_inv.1,?_⟩⟩;refine k _ _ H1 ((r.grow s1).set (i:=i) (Is.int _) (λ_=>⟨cE,λp hp=>by simp at hp⟩) λj _ _ p hp=>by simp at hp) λj hj=>?_;have:j≠i:=by simpa using hj
 exact⟨by rw[bJ,mN (bO this)],.inl (Yl this)⟩
noncomputable def LZ(T:Tgt)(f:XE):XS:=λs=>(f s).bind λl=>if ZO l=aC then(Vw T l s).map .nx else aA
theorem Bn{X:Cx}{O:List Nat}{st:bp}{f:XE}{T:Tgt}(h:PS X st (Mc (tF X.K f) (gT X.K T)))(hT:∀i∈T.slots,i∉O:=by decide):VS X O T.slots st (LZ T f):=PS.imp h λD σ H ⟨H0,fps,s,out,r,e,k⟩=>by
 obtain⟨l,e1,e⟩:=Ze e;split at e
 case isFalse=>cases e
 rename_i pl;obtain⟨s',e2,rfl⟩:=map_some e;refine⟨λ_=>False,s,l,λ_ z=>z.elim,r.env,e1,λv H1 fp s1 i1 _=>?_⟩;have:=Is.pure _ _ _ pl i1;subst this;obtain⟨ls,vs,fs,rfl,hi,hl,sub,use⟩:=Mx (K:=X.K) i1 e2;obtain⟨m6,r2,q2⟩:=Rel.setAll (is:=T.slots) (r.grow s1) hi hl hT λj hj p hp z=>by have:=sub p z;simp at this
 exact use σ D.nx (k m6 _ H1 r2 q2)
end VL
namespace VL
open PySem PySem.Spec PyProof.Rows L2
variable {K:aG}
noncomputable def QJ:PV->Option Xl
 | .int i=>some (.inl i)
 | .str x=>some (.inr x)
 | _=>aA
noncomputable def L0:List PV->Option (List Xl)
 | []=>some []
 | a::r=>(QJ a).bind λk=>(L0 r).map (k::·)
noncomputable def My:PV->Option (List Xl)
 | .tup l=>L0 l
 | _=>aA
theorem QV{H:Hp}{a:PV}{k:Xl}{v:V}{fp:List aK}(e:QJ a=some k)(h:Is K H a v fp):v=kV k/\fp=[]:=by
 cases a with
 | int i=>cases e;exact h.int_inv
 | str x=>cases e;exact h.str_inv
 | _=>cases e
theorem L3{H:Hp}:∀{l:List PV}{ks:List Xl}{xs:List V}{fp:List aK},L0 l=some ks->Iss K H l xs fp->xs=ks.map kV/\fp=[]
 | [],ks,xs,fp,e,h=>by cases e;simpa only[dN,Iss] using h
 | a::r,ks,xs,fp,e,h=>by obtain⟨k,e1,e⟩:=Ze (show(QJ a).bind (λk=>(L0 r).map (k::·))=some ks from e);obtain⟨kr,e2,rfl⟩:=map_some e;obtain⟨x,rr,f1,f2,rfl,h1,h2,rfl⟩:=h.inv;obtain⟨rfl,rfl⟩:=QV e1 h1;obtain⟨rfl,rfl⟩:=L3 e2 h2;exact⟨rfl,rfl⟩
theorem IX{H:Hp}{a:PV}{k:List Xl}{v:V}{fp:List aK}(e:My a=some k)(h:Is K H a v fp):∃b,v = .ref b/\H b=some (.tup (k.map kV)):=by
 cases a with
 | tup l=>
  obtain⟨p,xs,rfl,hp,hi⟩:=h.tup_inv;obtain⟨rfl,_⟩:=L3 (show L0 l=some k from e) hi;exact⟨p,rfl,hp⟩
 | _=>cases e
section
variable {κ:Type} [DecidableEq κ]
noncomputable def W7(ks:List κ)(vs:List PV)(k:κ):Option PV:=((ks.zip vs).find? λz=>decide (z.1=k)).map (·.2)
noncomputable def T8(ks:List κ)(k:κ):List κ:=if k∈ks then ks else ks++[k]
noncomputable def T9(ks:List κ)(vs:List PV)(k:κ)(v:PV):List PV:=if k∈ks then(ks.zip vs).map λz=>if z.1=k then v else z.2 else vs++[v]
theorem PN{H:Hp}:∀{m5:List (κ×V)}{l:List PV}{fq:List aK}(k:κ),Iss K H l (m5.map (·.2)) fq->
  (W7 (m5.map (·.1)) l k=aA/\Sy m5 k=aA)\/∃a x f,W7 (m5.map (·.1)) l k=some a/\Sy m5 k=some x/\Is K H a x f/\∀p∈f,p∈fq
 | [],l,fq,k,h=>.inl ⟨by unfold W7;simp,rfl⟩
 | kv::r,[],fq,k,h=>by have:=h.len;simp at this
 | kv::r,a::l,fq,k,h=>by
  obtain⟨x,rr,f1,f2,e,h1,h2,rfl⟩:=h.inv;cases e;by_cases hk:kv.1=k
  ·refine .inr ⟨a,kv.2,f1,?_,Sz hk,h1,λp hp=>bC _ hp⟩;unfold W7;rw[ag,dC,bh];simp[hk]
  ·have e1:W7 ((kv::r).map (·.1)) (a::l) k=W7 (r.map (·.1)) l k:=by unfold W7;rw[ag,dC,bh];simp[hk]
   rw[e1,SA hk];rcases PN (l:=l) k h2 with z | ⟨b,y,f,z1,z2,z3,z4⟩
   ·exact .inl z
   ·exact .inr ⟨b,y,f,z1,z2,z3,λp hp=>aY _ (z4 p hp)⟩
theorem any_mem{m5:List (κ×V)}{k:κ}:(m5.any λkv=>decide (kv.1=k))=aC↔k∈m5.map (·.1):=by
 rw[ik,b7];constructor
 ·rintro⟨x,hx,e⟩;exact⟨x,hx,of_decide_eq_true e⟩
 ·rintro⟨x,hx,e⟩;exact⟨x,hx,decide_eq_true e⟩
theorem IY{m5:List (κ×V)}{k:κ}{x:V}:(V6 m5 k x).map (·.1)=T8 (m5.map (·.1)) k:=by
 unfold V6 T8;by_cases h:k∈m5.map (·.1)
 ·rw[mM (any_mem.mpr h),mM h,bS];apply ak;intro z _;show(if z.1=k then(z.1,x) else z).1=z.1;split<;>rfl
 ·rw[mN (λz=>h (any_mem.mp z)),mN h,bB];rfl
theorem IZ{H:Hp}{m5:List (κ×V)}{l:List PV}{k:κ}{a:PV}{x:V}(h:Iss K H l (m5.map (·.2)) [])(hp:ZH l=aC)(ha:Is K H a x [])(pa:ZO a=aC):Iss K H (T9 (m5.map (·.1)) l k a) ((V6 m5 k x).map (·.2)) []:=by
 unfold V6 T9;by_cases hk:k∈m5.map (·.1)
 ·rw[mM (any_mem.mpr hk),mM hk];clear hk
  induction m5 generalizing l with
  | nil=>
   have:=h.len
   cases l with
   | nil=>exact Iss.nil
   | cons _ _=>simp at this
  | cons kv r ih=>
   cases l with
   | nil=>have:=h.len;simp at this
   | cons b l=>
    obtain⟨y,rr,f1,f2,e,h1,h2,e2⟩:=h.inv;cases e;simp only[ZH,av] at hp;have z1:=Is.pure _ _ _ hp.1 h1;have z2:=Iss.pure _ _ _ hp.2 h2;subst z1 z2;have ih:=ih h2 hp.2;rw[ag,dC,ag,ag,ag];by_cases e:kv.1=k
    ·rw[mM e,mM e];exact Iss.cons (f1:=[]) ha ih
    ·rw[mN e,mN e];exact Iss.cons (f1:=[]) h1 ih
 ·rw[mN (λz=>hk (any_mem.mp z)),mN hk,bB];exact h.append (Iss.one ha)
end
noncomputable def W8:PV->PV->Option PV
 | .dK ks vs,k=>(QJ k).bind λk=>W7 ks vs k
 | .dT ks vs,k=>(My k).bind λk=>W7 ks vs k
 | _,_=>aA
noncomputable def dIn:PV->PV->Option Bool
 | .dK ks vs,k=>(QJ k).map λk=>(W7 ks vs k).isSome
 | .dT ks vs,k=>(My k).map λk=>(W7 ks vs k).isSome
 | _,_=>aA
theorem Hb{H:Hp}{d k:PV}{x y:V}{fd fk:List aK}(hd:Is K H d x fd)(hk:Is K H k y fk){b:Bool}(e:dIn d k=some b):∃a o,x = .ref a/\Gg H a y o/\o.isSome=b/\((W8 d k=aA/\o=aA)\/∃c v f,W8 d k=some c/\o=some v/\Is K H c v f/\∀p∈f,p∈fd):=by
 cases d with
 | dK ks vs=>
  obtain⟨kk,e1,rfl⟩:=map_some (show(QJ k).map (λk=>(W7 ks vs k).isSome)=some b from e);obtain⟨p,m5,fq,rfl,hp,rfl,hi,rfl⟩:=hd.dK_inv;obtain⟨rfl,_⟩:=QV e1 hk;refine⟨p,Sy m5 kk,rfl,.inl ⟨m5,kk,hp,rfl,rfl⟩,?_,?_⟩
  ·rcases PN kk hi with⟨z1,z2⟩ | ⟨a,v,f,z1,z2,_⟩<;>rw[z1,z2]<;>rfl
  ·show(W8 (.dK _ vs) k=aA/\_)\/_;have eg:W8 (.dK (m5.map (·.1)) vs) k=W7 (m5.map (·.1)) vs kk:=by show(QJ k).bind _=_;rw[e1];rfl
   rw[eg];rcases PN kk hi with z | ⟨a,v,f,z1,z2,z3,z4⟩
   ·exact .inl z
   ·exact .inr ⟨a,v,f,z1,z2,z3,λq hq=>aS _ (z4 q hq)⟩
 | dT ks vs=>
  obtain⟨kk,e1,rfl⟩:=map_some (show(My k).map (λk=>(W7 ks vs k).isSome)=some b from e);obtain⟨p,m5,fq,rfl,hp,rfl,hi,rfl⟩:=hd.dT_inv;obtain⟨b,rfl,hb⟩:=IX e1 hk;refine⟨p,Sy m5 kk,rfl,.inr ⟨m5,kk,b,hp,rfl,hb,rfl⟩,?_,?_⟩
  ·rcases PN kk hi with⟨z1,z2⟩ | ⟨a,v,f,z1,z2,_⟩<;>rw[z1,z2]<;>rfl
  ·have eg:W8 (.dT (m5.map (·.1)) vs) k=W7 (m5.map (·.1)) vs kk:=by show(My k).bind _=_;rw[e1];rfl
   rw[eg];rcases PN kk hi with z | ⟨a,v,f,z1,z2,z3,z4⟩
   ·exact .inl z
   ·exact .inr ⟨a,v,f,z1,z2,z3,λq hq=>aS _ (z4 q hq)⟩
 | _=>cases e
theorem Bo{d k c:PV}(h:W8 d k=some c):dIn d k=some aC:=by
 cases d with
 | dK ks vs=>
  obtain⟨kk,e1,e2⟩:=Ze (show(QJ k).bind (λk=>W7 ks vs k)=some c from h);show(QJ k).map _=_;rw[e1];show some ((W7 ks vs kk).isSome)=_;rw[e2];rfl
 | dT ks vs=>
  obtain⟨kk,e1,e2⟩:=Ze (show(My k).bind (λk=>W7 ks vs k)=some c from h);show(My k).map _=_;rw[e1];show some ((W7 ks vs kk).isSome)=_;rw[e2];rfl
 | _=>cases h
section
variable {X:Cx} {o i e f:bH} {fd fk fx:XE} {pos apos cpos:da}
theorem Ey:∀σ H Q,tF K (Zd W8 fd fk) σ H Q->AE (tF K fd) (tF K fk) σ H Q:=λσ H Q ⟨Rm,s,l,hd,env,e,k⟩=>by
 obtain⟨d,kk,e1,e2,e3⟩:=V8 e;refine⟨Rm,s,d,hd,env,e1,λx H1 f1 s1 i1 n1=>⟨Rm,s,kk,λp hp=>Same.mut s1 (hd p hp),env.mono s1,e2,λy H2 f2 s2 i2 n2=>?_⟩⟩;obtain⟨a,ov,rfl,dg,_,alt⟩:=Hb (i1.mono s2) i2 (Bo e3);rcases alt with⟨z,_⟩ | ⟨c,v,fv,z1,rfl,z3,z4⟩
 ·rw[z] at e3;cases e3
 ·rw[z1] at e3;cases e3;exact⟨a,v,rfl,dg,k v H2 fv (s1.trans s2) z3 λp hp=>n1 p (z4 p hp)⟩
theorem Hd(hu:X.A.units+1<dj)(ho:VE X o fd)(hi:VE X i fk)(hs:Za5 i:=by exact λ_ _=>rfl):VE X (.Subscript o i pos) (Zd W8 fd fk):=PE.imp (C0 hu ho hi hs) Ey
noncomputable def Gz(neg:Bool)(fk fd:XE):XE:=λs=>(fk s).bind λk=>(fd s).bind λd=>(dIn d k).map λb=>.bl (if neg then !b else b)
theorem Jo:∀σ H Q,tF K (Gz aC fk fd) σ H Q->Iz (tF K fk) (tF K fd) σ H Q:=λσ H Q ⟨Rm,s,l,hd,env,e,k⟩=>by obtain⟨kk,e1,e⟩:=Ze e;obtain⟨d,e2,e⟩:=Ze e;obtain⟨b,e3,rfl⟩:=map_some e;refine⟨Rm,s,kk,hd,env,e1,λy H1 f1 s1 i1 n1=>⟨Rm,s,d,λp hp=>Same.mut s1 (hd p hp),env.mono s1,e2,λx H2 f2 s2 i2 n2=>?_⟩⟩;obtain⟨a,ov,rfl,dg,rfl,_⟩:=Hb i2 (i1.mono s2) e3;exact⟨a,ov,rfl,dg,k _ H2 [] (s1.trans s2) (Is.bl _) λp hp=>by simp at hp⟩
theorem GA(hu:X.A.units+1<dj)(hi:VE X i fk)(ho:VE X o fd)(hm:cO .NotIn o=aB:=by with_unfolding_all rfl):VT X (.Compare i [.NotIn] [o] pos) (xB (Gz aC fk fd)):=PT.imp (FK (Gj hu hi ho) hm) λσ H Q h=>IL Jo σ H Q (AI σ H Q h)
end
noncomputable def Zbq(d k v:PV):Option PV:=match d with
 | .dT ks vs=>(gd (ZH vs&&ZO v&&decide (ks.length<=10000))).bind λ_=>(My k).map λk=>.dT (T8 ks k) (T9 ks vs k v)
 | .dK ks vs=>(gd (ZH vs&&ZO v&&decide (ks.length<=10000))).bind λ_=>(QJ k).map λk=>.dK (T8 ks k) (T9 ks vs k v)
 | _=>aA
noncomputable def sDPut(i:Nat)(fk fv:XE):XS:=λs=>(fv s).bind λv=>(fk s).bind λk=>((s[i]?).join).bind λd=>(Zbq d k v).map λd=>.nx (s.set i (some d))
theorem Bp{X:Cx}{O:List Nat}{i:Nat}{st:bp}{fk fv:XE}(h:PS X st (L2.sDPut (QC i) (tF X.K fk) (tF X.K fv)))(hi:i∈O:=by decide):VS X O [i] st (sDPut i fk fv):=PS.imp h λD σ H ⟨H0,fps,s,out,r,e,k⟩=>by
 obtain⟨v,e1,e⟩:=Ze e;obtain⟨kk,e2,e⟩:=Ze e;obtain⟨d,em,e⟩:=Ze e;obtain⟨d',ed,rfl⟩:=map_some e;have em:=join_some em
 cases d with
 | dT ks vs=>
  obtain⟨_,eg,ed⟩:=Ze (show(gd (ZH vs&&ZO v&&decide (ks.length<=10000))).bind (λ_=>(My kk).map λk=>PV.dT (T8 ks k) (T9 ks vs k v))=some d' from ed);have hc:=Vy eg;simp only[av,decide_eq_true_eq] at hc;obtain⟨⟨pm,pl⟩,hlen⟩:=hc;obtain⟨kt,e3,rfl⟩:=map_some ed;obtain⟨p,m5,fq,hv,hp,rfl,hm,ef⟩:=r.dT_at hi em;refine⟨λ_=>False,s,v,λ_ z=>z.elim,r.env,e1,λy H1 fy s1 i1 _=>⟨.ref p,hv,λ_=>False,s,kk,λ_ z=>z.elim,r.env.mono s1,e2,λz H2 fz s2 i2 _=>?_⟩⟩;have s12:=s1.trans s2;obtain⟨b,rfl,hb⟩:=IX e3 i2;have z1:=Is.pure _ _ _ pl i1;subst z1;have hm':=(hm.mono s12).pureEq pm;have z2:=Iss.pure _ _ _ pm hm;subst z2;have r2:=r.grow s12;have hpf:p∈fps i:=by rw[ef];exact ah
  have mu:=(r2.own i hi p hpf).2;refine⟨p,_,rfl,.inr ⟨m5,kt,b,s12 _ _ hp,rfl,hb,by rw[<-aH (·.1)];exact lt_size hlen,rfl⟩,?_⟩;refine k _ _ _ (r2.mutate (o:=.dT (V6 m5 kt y)) (l':=.dT (T8 (m5.map (·.1)) kt) (T9 (m5.map (·.1)) vs kt v)) (fp':=[p]) hi hpf hv (Tt em) (Is.dT Zp IY (Iss.tr (TK.upd' mu) _ _ _ (λq hq=>by simp at hq) (IZ hm' pm (i1.mono s2) pl))) (by simp) (λq hq=>?_) (λj hj q hq z=>r.dis i hi j hj q (by rw[ef];exact hq) z) bW) PJ;rw[aO.mp hq];exact⟨(r.own i hi p hpf).1,by rw[Zp];exact bW⟩
 | dK ks vs=>
  obtain⟨_,eg,ed⟩:=Ze (show(gd (ZH vs&&ZO v&&decide (ks.length<=10000))).bind (λ_=>(QJ kk).map λk=>PV.dK (T8 ks k) (T9 ks vs k v))=some d' from ed);have hc:=Vy eg;simp only[av,decide_eq_true_eq] at hc;obtain⟨⟨pm,pl⟩,hlen⟩:=hc;obtain⟨kt,e3,rfl⟩:=map_some ed;obtain⟨p,m5,fq,hv,hp,rfl,hm,ef⟩:=r.dK_at hi em;refine⟨λ_=>False,s,v,λ_ z=>z.elim,r.env,e1,λy H1 fy s1 i1 _=>⟨.ref p,hv,λ_=>False,s,kk,λ_ z=>z.elim,r.env.mono s1,e2,λz H2 fz s2 i2 _=>?_⟩⟩;have s12:=s1.trans s2;obtain⟨rfl,_⟩:=QV e3 i2;have z1:=Is.pure _ _ _ pl i1;subst z1;have hm':=(hm.mono s12).pureEq pm;have z2:=Iss.pure _ _ _ pm hm;subst z2;have r2:=r.grow s12;have hpf:p∈fps i:=by rw[ef];exact ah
  have mu:=(r2.own i hi p hpf).2;refine⟨p,_,rfl,.inl ⟨m5,kt,s12 _ _ hp,rfl,by rw[<-aH (·.1)];exact lt_size hlen,rfl⟩,?_⟩;refine k _ _ _ (r2.mutate (o:=.dK (V6 m5 kt y)) (l':=.dK (T8 (m5.map (·.1)) kt) (T9 (m5.map (·.1)) vs kt v)) (fp':=[p]) hi hpf hv (Tt em) (Is.dK Zp IY (Iss.tr (TK.upd' mu) _ _ _ (λq hq=>by simp at hq) (IZ hm' pm (i1.mono s2) pl))) (by simp) (λq hq=>?_) (λj hj q hq z=>r.dis i hi j hj q (by rw[ef];exact hq) z) bW) PJ;rw[aO.mp hq];exact⟨(r.own i hi p hpf).1,by rw[Zp];exact bW⟩
 | _=>cases ed
end VL
namespace VL
open PySem PySem.Spec PyProof.Rows L2
variable {K:aG}
section
variable {X:Cx} {a b c d:bH} {fa fb fc fd:XE} {pos:da}
theorem Ez(hu:X.A.units+64<dj)(ha:VE X a fa)(hb:VE X b fb):VE X (.Compare a [.Eq] [b] pos) (Zd (YW aB) fa fb):=Pq (Er hu) (Ms aB) ha hb (Ur _)
theorem Zd7(hu:X.A.units+64<dj)(ha:VE X a fa)(hb:VE X b fb):VE X (.Compare a [.NotEq] [b] pos) (Zd (YW aC) fa fb):=Pq (Es hu) (Ms aC) ha hb (Ur _)
theorem Sa(hu:X.A.units+64<dj)(ha:VE X a fa)(hb:VE X b fb):VT X (.Compare a [.Eq] [b] pos) (xB (Zd (YW aB) fa fb)):=Sg (Er hu) (Ms aB) ha hb (Ur _)
theorem NR(hu:X.A.units+64<dj)(ha:VE X a fa)(hb:VE X b fb):VT X (.Compare a [.NotEq] [b] pos) (xB (Zd (YW aC) fa fb)):=Sg (Es hu) (Ms aC) ha hb (Ur _)
theorem AM(hu:X.A.units+64<dj)(ha:VE X a fa)(hb:VE X b fb)(hm:cO .In b=aB:=by with_unfolding_all rfl):VE X (.Compare a [.In] [b] pos) (Zd (Uw aB) fa fb):=Pq (Et hu) (Jl aB) ha hb hm
theorem EA(hu:X.A.units+64<dj)(ha:VE X a fa)(hb:VE X b fb)(hm:cO .In b=aB:=by with_unfolding_all rfl):VT X (.Compare a [.In] [b] pos) (xB (Zd (Uw aB) fa fb)):=Sg (Et hu) (Jl aB) ha hb hm
theorem PQ(hu:X.A.units+64<dj)(ha:VE X a fa)(hb:VE X b fb)(hm:cO .NotIn b=aB:=by with_unfolding_all rfl):VT X (.Compare a [.NotIn] [b] pos) (xB (Zd (Uw aC) fa fb)):=Sg (Gr hu) (Jl aC) ha hb hm
noncomputable def AN:PV->Option Bool
 | .bl c=>some c
 | _=>aA
end
section
variable {X:Cx} {a b:bH} {fa fb:XE} {pos:da}
noncomputable def L4:PV->PV->Option PV
 | .lst m,.lst n=>if m.length+n.length<=10000 then some (.lst (m++n)) else aA
 | _,_=>aA
noncomputable def Ub:PV->PV->Option PV
 | .lst m,.lst n=>if m.length+n.length<=10000/\ZH m=aC/\ZH n=aC then some (.lst (m++n)) else aA
 | _,_=>aA
theorem Mz(ha:VE X a fa)(hb:VE X b fb):VM X (.BinOp a .Add b pos) (Zd Ub fa fb):=PE.imp (Im F3 ha hb) λσ H Q ⟨s,l,env,e,k⟩=>by
 obtain⟨x',y',e1,e2,e⟩:=V8 e;refine⟨λ_=>False,s,x',λ_ z=>z.elim,env,e1,λx H1 f1 s1 i1 _=>⟨λ_=>False,s,y',λ_ z=>z.elim,env.mono s1,e2,λy H2 f2 s2 i2 _=>?_⟩⟩
 cases x' with
 | lst m=>cases y' with
  | lst n=>
   have e:(if m.length+n.length<=10000/\ZH m=aC/\ZH n=aC then some (PV.lst (m++n)) else aA)=some l:=e;split at e
   case isFalse=>cases e
   rename_i hl;cases e;obtain⟨p,xs,fq,rfl,hp,hi,rfl⟩:=i1.lst_inv;obtain⟨p',ys,fq',rfl,hp',hi',rfl⟩:=i2.lst_inv;refine⟨p,p',xs,ys,rfl,rfl,s2 _ _ hp,hp',by rw[hi.len,hi'.len];exact cF (lt_size hl.1),λq hq=>?_⟩;refine k _ _ [q] (s1.trans (s2.trans (Same.new hq _))) (Is.lst Zp ((((hi.mono s2).pureEq hl.2.1).append (hi'.pureEq hl.2.2)).mono (Same.new hq _))) (by simp) λr hr=>?_;rw[aO.mp hr];exact⟨Same.off (s1.trans s2) hq,by rw[Zp];exact bW⟩
  | _=>cases e
 | _=>cases e
noncomputable def SS:PV->PV->Option PV
 | .lst m,.int k=>if ZH m=aC/\-1000000<=k/\k<=1000000/\m.length*k.toNat<=10000 then some (.lst (aN k.toNat m).flatten) else aA
 | _,_=>aA
theorem Iss.rep{H:Hp}{m:List PV}{xs:List V}(h:Iss K H m xs []):∀k:Nat,Iss K H (aN k m).flatten (aN k xs).flatten []
 | 0=>Iss.nil
 | k+1=>by rw[cK,cK,dH,dH];exact h.append (Iss.rep h k)
theorem MA(ha:VE X a fa)(hb:VE X b fb):VM X (.BinOp a .Mult b pos) (Zd SS fa fb):=PE.imp (Im Za4 ha hb) λσ H Q ⟨s,l,env,e,k⟩=>by
 obtain⟨x',y',e1,e2,e⟩:=V8 e;refine⟨λ_=>False,s,x',λ_ z=>z.elim,env,e1,λx H1 f1 s1 i1 _=>⟨λ_=>False,s,y',λ_ z=>z.elim,env.mono s1,e2,λy H2 f2 s2 i2 _=>?_⟩⟩
 cases x' with
 | lst m=>cases y' with
  | int n=>
   have e:(if ZH m=aC/\-1000000<=n/\n<=1000000/\m.length*n.toNat<=10000 then some (PV.lst (aN n.toNat m).flatten) else aA)=some l:=e;split at e
   case isFalse=>cases e
   rename_i hl;cases e;obtain⟨p,xs,fq,rfl,hp,hi,rfl⟩:=i1.lst_inv;refine⟨p,n,xs,rfl,i2.int_inv.1,s2 _ _ hp,by omega,by omega,by rw[hi.len];exact cF (lt_size hl.2.2.2),λq hq=>?_⟩;refine k _ _ [q] (s1.trans (s2.trans (Same.new hq _))) (Is.lst Zp ((Iss.rep ((hi.mono s2).pureEq hl.1) n.toNat).mono (Same.new hq _))) (by simp) λr hr=>?_;rw[aO.mp hr];exact⟨Same.off (s1.trans s2) hq,by rw[Zp];exact bW⟩
  | _=>cases e
 | _=>cases e
end
theorem Iss.fps{H:Hp}:∀{ls:List PV}{vs:List V}{fp:List aK},Iss K H ls vs fp->∃fps:Nat->List aK,(∀(i:Nat) l,ls[i]?=some l->∃v,vs[i]?=some v/\Is K H l v (fps i))/\∀i,ls.length<=i->fps i=[]
 | [],vs,fp,h=>⟨λ_=>[],λi l e=>by simp at e,λ_ _=>rfl⟩
 | a::ls,vs,fp,h=>by
  obtain⟨x,r,f1,f2,rfl,h1,h2,rfl⟩:=h.inv;obtain⟨fps,p1,p2⟩:=h2.fps;refine⟨λi=>match i with | 0=>f1 | k+1=>fps k,λi l e=>?_,λi hi=>?_⟩
  ·cases i with
   | zero=>simp at e;subst e;exact⟨x,rfl,h1⟩
   | succ k=>
    obtain⟨v,a,b⟩:=p1 k l (by simpa using e);exact⟨v,by simpa using a,b⟩
  ·cases i with
   | zero=>simp at hi
   | succ k=>exact p2 k (by simpa using hi)
noncomputable def Z8(m:Nat)(ls:List PV):ZS:=ls.map some++aN (m-ls.length) aA
noncomputable def Xq:Out->Option PV
 | .rt v=>some v
 | .nx _=>some .non
 | _=>aA
noncomputable def Yv(m:Nat)(f:XS):List PV->Option PV:=λls=>(f (Z8 m ls)).bind Xq
theorem He{N:List aq}{n:Nat}{O W:List Nat}{f:XS}{vs:List V}{H:Hp}{Q:VK}{E:XK}(hO:∀i∈O,n<=i)(h:Xs K (Yv N.length f) n vs H Q E):tFS K O W f { nx:=λ_ H'=>Q .non H',rt:=Q } (L2.start N vs) H:=by
 obtain⟨hl,ls,fp,l,hi,e,q⟩:=h;obtain⟨out,e1,e2⟩:=Ze e;obtain⟨fps,p1,p2⟩:=hi.fps;have hlen:=hi.len
 have hout:∀i:Nat,ls.length<=i->∀l,(Z8 N.length ls)[i]?≠some (some l):=λi hi l z=>by
  unfold Z8 at z;rw[bF (by simpa using hi),bV] at z;split at z<;>cases z
 have rel:Rel K O H fps (Z8 N.length ls) (L2.start N vs) H:=by
  refine⟨Same.refl H,?_,λi a z=>?_,λi hne=>?_,λi hi=>?_,λi hi p hp=>?_,λi hi j hj p hp=>?_⟩
  ·unfold Z8 L2.start;simp[hlen]
  ·by_cases hil:i<ls.length
   ·unfold Z8 at z;rw[aj (by simpa using hil),aR] at z
    cases q:ls[i]? with
    | none=>rw[q] at z;cases z
    | some b=>
     rw[q] at z;cases z;obtain⟨v,a1,b1⟩:=p1 i a q;refine⟨v,?_,b1⟩;unfold L2.start;rw[aj (by simpa [hlen] using hil),aR,a1];rfl
   ·exact absurd z (hout i (by omega) a)
  ·by_cases hil:i<ls.length
   ·exact absurd (by unfold Z8;rw[aj (by simpa using hil),aR,aF hil];rfl) (hne ls[i])
   ·exact p2 i (by omega)
  ·rw[p2 i (by have:=hO i hi;omega)];exact cE
  ·rw[p2 i (by have:=hO i hi;omega)] at hp;simp at hp
  ·rw[p2 i (by have:=hO i hi;omega)] at hp;simp at hp
 refine⟨H,fps,Z8 N.length ls,out,rel,e1,?_⟩
 cases out with
 | nx s'=>
  cases e2;exact λm6 σ' H' r' _=>q .non H' [] r'.same Is.non cE λp hp=>by simp at hp
 | rt v=>
  cases e2;exact λv fp H' sm i d n=>q v H' fp sm i d n
 | bk s'=>cases e2
 | ct s'=>cases e2
section
variable {P:bN} {w:bu} {mg:aq->Option aI} {base:b9}
theorem PR{x:aq}{st:bp}{N ps:List aq}{k n:Nat}{O W:List Nat}(m:Nat)(f:XS)(D:Def K mg x st)(S:Zw N ps (Zh st))
  (hb:∀(kV doc pm:aI)(an:Option aK)(cdv ct:aI)(us:List aI),us.length=ps.length->iA (ck x x (Xy st) (YG st) (Zh st) .none kV doc pm an cdv ct) ⟨us,[]⟩=pure (ps.zip us))
  (hn:ps.length=n) (hm:N.length=m) (hO:∀i∈O,n<=i)
  (hbody:∀(fa:aK)(cdv:aI)(A:bt)(outer:List jx)(s:aP)(H:Hp)(E:XK),Room k (A.deeper (gW x (Zh st) s.heap.objs.size fa cdv))->VSs (Pd LK P w K mg base N x (Zh st) fa cdv A outer s H E).nox O W (YG st) f) :
  XQ P w K mg base x ps (Xs K (Yv m f) n) (k+1):=by
 subst hm;refine D.cal S hb (λvs H Q E h=>by rw[hn];exact h.1) λfa cdv A outer s H vs Q E hr h=>⟨_,hbody fa cdv A outer s H E hr,He hO h⟩
end
end VL
namespace VL
open PySem PySem.Spec PyProof.Rows L2
variable {K:aG}
section
variable {X:Cx} {O:List Nat} {tg m8 iter:bH} {m7:List bH} {scope:eB} {pos:da} {fi:XL} {T:Tgt} {ft:XT} {fe:XE}
theorem UA(own fr:List aq)(ix:List Nat){i:Nat}{y:aq}{py spos:da}(hN:X.N.Nodup)(hy:X.N[i]?=some y)(hloc:X.env.scope.names.lookup y=some .local)(hcalm:X.calm=aC)(hi:VI X tg iter fi)(S:Us X.N X.env.scope scope own fr ix=aC)
  (hg:∀cl C s H ex,PG (ZQ X (own++fr) scope cl C s H ex) tg (gT X.K T)) (ht:∀cl C s H ex,VTs (ZQ X (own++fr) scope cl C s H ex) m7 ft) (he:∀cl C s H ex,VM (ZQ X (own++fr) scope cl C s H ex) m8 fe)
  (hT:∀i∈T.slots,i<own.length:=by decide)
  (hsw:gF (.ListComp m8 [⟨tg,iter,m7,0⟩] scope pos) (some (.Name y py)) spos.line X.env=pure aC:=by rfl)
  (hs:∀x,ba iter X.env x=pure x:=by intro _;rfl):VS X O [i] (.Assign [.Name y py] (.ListComp m8 [⟨tg,iter,m7,0⟩] scope pos) spos) (Zi i (Zq own.length ix fi T ft fe)):=
 PS.imp (Ea own fr ix hN hy hloc hcalm hi S hg (λcl C s H ex=>(show IB (ZQ X (own++fr) scope cl C s H ex) m7 (LP X.K ft) from ht cl C s H ex)) (λcl C s H ex=>(show PE (ZQ X (own++fr) scope cl C s H ex) m8 (tM X.K fe) from he cl C s H ex)) hsw hs) (IW (IU hT))
end
section
variable {P:bN} {w:bu} {mg:aq->Option aI} {base:b9}
theorem Zbr{x:aq}{st:bp}{N ps:List aq}{k n:Nat}{O W:List Nat}{fa:aK}{fd:eF}(m:Nat)(f:XS)(F:Fun K x x st fa fd)(S:Zw N ps (Zh st))
  (hn:ps.length=n) (hm:N.length=m) (hO:∀i∈O,n<=i)
  (hbody:∀(fa:aK)(cdv:aI)(A:bt)(outer:List jx)(s:aP)(H:Hp)(E:XK),Room k (A.deeper (gW x (Zh st) s.heap.objs.size fa cdv))->VSs (Pd LK P w K mg base N x (Zh st) fa cdv A outer s H E).nox O W (YG st) f) :
  RG P w K mg base LK (k+1) fa fd ps (Xs K (Yv m f) n):=by
 subst hm;refine F.ok S (λvs H Q E h=>by rw[hn];exact h.1) λcdv A outer s H vs Q E hr h=>⟨_,hbody fa cdv A outer s H E hr,?_⟩;exact He hO h
theorem EB{st:bp}{x:aq}{D:List PV->Option PV}{k:Nat}{fa:aK}(Df:Def K mg "law" st)(hfa:mg "law" = some (.ref fa))
  (hb:∀(kV doc pm:aI)(an:Option aK)(cdv ct u:aI),iA (ck "law" "law" (Xy st) (YG st) (Zh st) .none kV doc pm an cdv ct) ⟨[u],[]⟩=pure [(x,u)])
  (H:∀(base:b9)(f:aK)(fd:eF),K.In base->base.Ns cB mg->Fun K "law" "law" st f fd->RG P w K mg base LK k f fd [x] (Xs K D 1)) :
  ∃fd:eF,(∀(s:aP)(u:aI),k3 s fd ⟨[u],[]⟩ [(x,u)])/\∀base:b9,K.In base->base.Ns cB mg->RG P w K mg base LK k fa fd [x] (Xs K D 1):=by
 obtain⟨f,fd,hm,F⟩:=Df.ex;have e:=hfa.symm.trans hm;cases e;refine⟨fd,?_,λbase h1 h2=>H base fa fd h1 h2 F⟩;obtain⟨oc,od,kV,doc,pm,an,cdv,ct,osl,rfl,lk,hcd⟩:=F.ex;exact λs u=>.of_eq (hb kV doc pm an cdv ct u)
end
end VL
namespace VL
open PySem L2
@[simp] theorem EC(i:Nat)(s:ZS):Za i s=(s[i]?).join:=rfl
@[simp] theorem eC_def(l:PV)(s:ZS):eC l s=some l:=rfl
@[simp] theorem Ya(g:PV->PV->Option PV)(a b:XE)(s:ZS):Zd g a b s=(a s).bind λx=>(b s).bind λy=>g x y:=rfl
@[simp] theorem eUn_def(g:PV->Option PV)(a:XE)(s:ZS):Lr g a s=(a s).bind g:=rfl
@[simp] theorem YR(f:XE)(s:ZS):eP f s=(f s).bind λl=>if ZO l=aC then some l else aA:=rfl
@[simp] theorem Bq(s:ZS):TV [] s=some []:=rfl
@[simp] theorem Zk(f:XE)(fs:List XE)(s:ZS):TV (f::fs) s=(f s).bind λx=>(TV fs s).map (x::·):=rfl
@[simp] theorem ZD(D:List PV->Option PV)(fs:List XE)(s:ZS):Zc D fs s=(TV fs s).bind D:=rfl
@[simp] theorem L5(fs:List XE)(s:ZS):YC fs s=(TV fs s).map .tup:=rfl
@[simp] theorem ED(fs:List XE)(s:ZS):Yu fs s=(TV fs s).map .lst:=rfl
@[simp] theorem eSl_def(g:PV->Option Int->Option Int->Option PV)(a:XE)(lo hi:XO)(s:ZS):WM g a lo hi s=(a s).bind λx=>(lo s).bind λl=>(hi s).bind λu=>g x l u:=rfl
@[simp] theorem xoN_def(s:ZS):VU s=some aA:=rfl
@[simp] theorem gI_ii(g:Int->Int->Int)(i j:Int):gI g (.int i) (.int j)=some (.int (g i j)):=rfl
@[simp] theorem gB_ii(g:Int->Int->Bool)(i j:Int):gB g (.int i) (.int j)=some (.bl (g i j)):=rfl
@[simp] theorem Zbs(C:Int->Int->Prop)[∀i j,Decidable (C i j)](g:Int->Int->Int)(i j:Int):FF C g (.int i) (.int j)=if C i j then some (.int (g i j)) else aA:=rfl
@[simp] theorem gIx_ti(l:List PV)(i:Int):Zv (.tup l) (.int i)=Sx l i:=rfl
@[simp] theorem gIx_li(l:List PV)(i:Int):Zv (.lst l) (.int i)=Sx l i:=rfl
@[simp] theorem gIx_ci(l:List PV)(i:Int):Zv (.cst l) (.int i)=Sx l i:=rfl
@[simp] theorem UB(f:XE)(s:ZS):xB f s=(f s).bind AN:=by
 unfold xB
 cases f s with
 | none=>rfl
 | some a=>cases a<;>rfl
@[simp] theorem Zbt(b:Bool):AN (.bl b)=some b:=rfl
@[simp] theorem PU(a b:XT)(s:ZS):LQ a b s=(a s).bind λc=>if c=aC then b s else some aB:=rfl
@[simp] theorem SU(a b:XT)(s:ZS):LR a b s=(a s).bind λc=>if c=aC then some aC else b s:=rfl
@[simp] theorem L6(a:XT)(s:ZS):SH a s=(a s).map not:=rfl
@[simp] theorem PX(a b:XE)(s:ZS):VR a b s=(xB a s).bind λc=>if c=aC then b s else some (.bl aB):=rfl
@[simp] theorem eOr_def(a b:XE)(s:ZS):eOr a b s=(xB a s).bind λc=>if c=aC then some (.bl aC) else b s:=rfl
@[simp] theorem eNot_def(a:XE)(s:ZS):Bi a s=(xB a s).map λc=>.bl !c:=rfl
@[simp] theorem WO(c:XT)(a b:XE)(s:ZS):RP c a b s=(c s).bind λk=>if k=aC then a s else b s:=rfl
@[simp] theorem PY(neg:Bool)(a:XE)(s:ZS):RQ neg a s=(a s).bind (El neg):=rfl
@[simp] theorem sNext_def(s:ZS):Z6 s=some (.nx s):=rfl
@[simp] theorem PZ(f g:XS)(s:ZS):Zj f g s=(f s).bind λo=>match o with | .nx s'=>g s' | r=>some r:=rfl
@[simp] theorem Yd(c:XT)(f g:XS)(s:ZS):V9 c f g s=(c s).bind λk=>if k=aC then f s else g s:=rfl
@[simp] theorem EE(f:XE)(s:ZS):ZY f s=(f s).map .rt:=rfl
@[simp] theorem Zs(i:Nat)(f:XE)(s:ZS):Zi i f s=(f s).map λl=>.nx (s.set i (some l)):=rfl
@[simp] theorem retO_rt(v:PV):Xq (.rt v)=some v:=rfl
@[simp] theorem pureV_int(i:Int):ZO (.int i)=aC:=rfl
@[simp] theorem pureV_bl(i:Bool):ZO (.bl i)=aC:=rfl
@[simp] theorem pureV_str(i:aq):ZO (.str i)=aC:=rfl
@[simp] theorem pureV_non:ZO .non=aC:=rfl
@[simp] theorem NS(l:List PV):ZO (.tup l)=ZH l:=by rw[ZO]
@[simp] theorem pureL_nil:ZH []=aC:=rfl
@[simp] theorem pureL_cons(a:PV)(l:List PV):ZH (a::l)=(ZO a&&ZH l):=rfl
theorem RU{α:Type}{l:List α}{f:α->PV}(h:∀a∈l,ZO (f a)=aC):ZH (l.map f)=aC:=by rw[Wc,jO,bM];exact h
@[simp] theorem pureL_iL(l:List Int):ZH (l.map PV.int)=aC:=Z5 l
abbrev pP(l:List Int):PV:=.tup (iL l)
abbrev wP(W:List (List Int)):PV:=.tup (W.map pP)
@[simp] theorem P0(W:List (List Int)):ZH (W.map pP)=aC:=RU λa _=>by simp
theorem SV{l:List PV}{k:Nat}{a:PV}(h:l[k]?=some a):Sx l (k:Int)=some a:=Tp h
theorem P4{l:List Int}{k:Nat}(h:k<l.length):(iL l)[k]?=some (.int (Zt l k)):=by rw[aR,aF h];simp[Zt,aE,aF h]
theorem Yq{l:List Int}{k:Nat}(h:k<l.length):Sx (iL l) (k:Int)=some (.int (Zt l k)):=Tp (P4 h)
theorem Tv{W:List (List Int)}{k:Nat}(h:k<W.length):Sx (W.map pP) (k:Int)=some (pP (ZA W k)):=by refine Tp ?_;rw[aR,Pn h];rfl
@[simp] theorem gSum_t(l:List Int):Nn [.tup (l.map PV.int)]=some (.int l.sum):=by simp[Nn,QG,Ys l]
@[simp] theorem Zbu(l:List Int):Nn [.lst (l.map PV.int)]=some (.int l.sum):=by simp[Nn,QG,Ys l]
@[simp] theorem Zbv(l:List Bool):Gq [.lst (l.map PV.bl)]=some (.bl (l.all id)):=by simp[Gq,QG,T7 l]
@[simp] theorem gLen_t(l:List PV):Zz [.tup l]=some (.int l.length):=rfl
@[simp] theorem gLen_l(l:List PV):Zz [.lst l]=some (.int l.length):=rfl
@[simp] theorem gLen_c(l:List PV):Zz [.cst l]=some (.int l.length):=rfl
@[simp] theorem P5(l:List PV):ZR [.lst l]=some (.tup l):=rfl
@[simp] theorem gTuple_t(l:List PV):ZR [.tup l]=some (.tup l):=rfl
@[simp] theorem EF(l:List PV):UT [.tup l]=if ZH l=aC then some (.lst l) else aA:=rfl
@[simp] theorem EG(l:List PV):UT [.lst l]=if ZH l=aC then some (.lst l) else aA:=rfl
@[simp] theorem gMin2_ii(i j:Int):Zd4 [.int i,.int j]=some (.int (if j<i then j else i)):=rfl
@[simp] theorem gMax2_ii(i j:Int):SM [.int i,.int j]=some (.int (if j>i then j else i)):=rfl
@[simp] theorem gInt1_b(c:Bool):UU [.bl c]=some (.int (if c then 1 else 0)):=rfl
@[simp] theorem gInt1_i(c:Int):UU [.int c]=some (.int c):=rfl
@[simp] theorem gInst_ii(i:Int):Vv [.int i,.ty "int"]=some (.bl aC):=rfl
@[simp] theorem gInst_ib(i:Int):Vv [.int i,.ty "bool"]=some (.bl aB):=rfl
@[simp] theorem gInst_tt(l:List PV):Vv [.tup l,.ty "tuple"]=some (.bl aC):=rfl
@[simp] theorem gInst_ll(l:List PV):Vv [.lst l,.ty "list"]=some (.bl aC):=rfl
theorem MB(n:Nat)(i j:Int):Wu (n+1) (.int i) (.int j)=aC:=rfl
theorem UZ{α β:Type}{f:α->PV}{g:β->PV}{p:PV->PV->Bool}(h:∀a b,p (f a) (g b)=aC):∀(l:List α)(m:List β),((l.map f).zip (m.map g)).all (λz=>p z.1 z.2)=aC
 | [],_=>by simp
 | _::_,[]=>by simp
 | a::l,b::m=>by rw[ag,ag,dC,iW,UZ h l m,h a b];rfl
theorem Br(n:Nat)(l m:List Int):Wu (n+2) (pP l) (pP m)=aC:=UZ (λa b=>MB n a b) l m
theorem Bs(n:Nat)(l m:List Int):Wu (n+2) (.lst (iL l)) (.lst (iL m))=aC:=UZ (λa b=>MB n a b) l m
theorem EH{l m:List Int}:iL l=iL m↔l=m:=by
 constructor
 ·intro h;exact(List.map_inj_right (λa b e=>PV.int.inj e)).mp h
 ·intro h;rw[h]
theorem Zbw{l m:List Int}:pP l=pP m↔l=m:=by rw[PV.tup.injEq];exact EH
@[simp] theorem WC(neg:Bool)(i j:Int):YW neg (.int i) (.int j)=some (.bl (if neg then !decide (i=j) else decide (i=j))):=by
 unfold YW;rw[mM (MB 7 i j)];congr 2;cases neg<;>simp
@[simp] theorem Zbx(neg:Bool)(l m:List Int):YW neg (.tup (l.map PV.int)) (.tup (m.map PV.int))=some (.bl (if neg then !decide (l=m) else decide (l=m))):=by unfold YW;rw[mM (Br 6 l m)];have:decide ((PV.tup (l.map PV.int)) = .tup (m.map PV.int))=decide (l=m):=decide_eq_decide.mpr Zbw;rw[this]
@[simp] theorem Zby(neg:Bool)(l m:List Int):YW neg (.lst (l.map PV.int)) (.lst (m.map PV.int))=some (.bl (if neg then !decide (l=m) else decide (l=m))):=by unfold YW;rw[mM (Bs 6 l m)];have:decide ((PV.lst (l.map PV.int)) = .lst (m.map PV.int))=decide (l=m):=decide_eq_decide.mpr (by rw[PV.lst.injEq];exact EH);rw[this]
theorem NT{α:Type}{T:Tgt}{ft:XT}{fe:XE}{s0:ZS}{q g:α->PV}:∀{ls:List α},(∀a∈ls,∃s1,Vw T (q a) s0=some s1/\ft s1=some aC/\fe s1=some (g a))->W4 T ft fe s0 (ls.map q)=some (ls.map g)
 | [],_=>rfl
 | a::r,h=>by obtain⟨s1,h1,h2,h3⟩:=h a ah;have ih:=NT (ls:=r) λb hb=>h b (aS _ hb);rw[ag,ag];unfold W4;rw[h1];simp only[aL,h2,if_true,h3,ih,cQ]
theorem SW{α:Type}{T:Tgt}{ft:XT}{fe:XE}{s0:ZS}{q g:α->PV}{c:α->Bool}:∀{ls:List α},(∀a∈ls,∃s1,Vw T (q a) s0=some s1/\ft s1=some (c a)/\(c a=aC->fe s1=some (g a)))->W4 T ft fe s0 (ls.map q)=some ((ls.filter c).map g)
 | [],_=>rfl
 | a::r,h=>by
  obtain⟨s1,h1,h2,h3⟩:=h a ah;have ih:=SW (ls:=r) λb hb=>h b (aS _ hb);rw[ag];unfold W4;rw[h1];simp only[aL,h2]
  cases hc:c a with
  | true=>simp[h3 hc,ih,hc]
  | false=>simp[ih,hc]
theorem ZM{α:Type}{n:Nat}{ix:List Nat}{fi:XL}{T:Tgt}{ft:XT}{fe:XE}{s:ZS}(ls:List α)(q g:α->PV)(hfi:fi s=some (ls.map q))(hl:ls.length<=10000)
  (h:∀a∈ls,∃s1,Vw T (q a) (compEnv n ix s)=some s1/\ft s1=some aC/\fe s1=some (g a)):Zq n ix fi T ft fe s=some (.lst (ls.map g)):=by
 unfold Zq;rw[hfi];simp only[aL,aH,mM hl,NT h,cQ]
theorem XZ{α:Type}{n:Nat}{ix:List Nat}{fi:XL}{T:Tgt}{ft:XT}{fe:XE}{s:ZS}(ls:List α)(q g:α->PV)(c:α->Bool)(hfi:fi s=some (ls.map q))(hl:ls.length<=10000)
  (h:∀a∈ls,∃s1,Vw T (q a) (compEnv n ix s)=some s1/\ft s1=some (c a)/\(c a=aC->fe s1=some (g a))):Zq n ix fi T ft fe s=some (.lst ((ls.filter c).map g)):=by
 unfold Zq;rw[hfi];simp only[aL,aH,mM hl,SW h,cQ]
theorem Yh{T:Tgt}{fb:XS}:∀{ls:List PV}{s:ZS}(Jv:Nat->ZS->Prop),Jv 0 s->(∀(i:Nat) l st,ls[i]?=some l->Jv i st->∃s1 s2,Vw T l st=some s1/\fb s1=some (.nx s2)/\Jv (i+1) s2)->
  ∃s',WN T fb ls s=some (.nx s')/\Jv ls.length s'
 | [],s,Jv,h0,_=>⟨s,rfl,h0⟩
 | l::r,s,Jv,h0,h=>by obtain⟨s1,s2,a,b,c⟩:=h 0 l s rfl h0;obtain⟨s',d,e⟩:=Yh (ls:=r) (s:=s2) (λi=>Jv (i+1)) c λi l' st hl hi=>h (i+1) l' st (by simpa using hl) hi;refine⟨s',?_,e⟩;unfold WN;rw[a];simp only[aL,b];exact d
theorem W9{n i:Nat}{l:PV}(h:(Ux n)[i]?=some l):i<n/\l = .int (i:Int):=by have hi:=(aU.mp h).1;unfold Ux at hi h;rw[aH,cV] at hi;rw[aR,bq hi] at h;exact⟨hi,(az h).symm⟩
theorem SX{lo:Int}{n i:Nat}{l:PV}(h:(WB lo n)[i]?=some l):i<n/\l = .int (lo+(i:Int)):=by have hi:=(aU.mp h).1;unfold WB at hi h;rw[aH,cV] at hi;rw[aR,bq hi] at h;exact⟨hi,(az h).symm⟩
@[simp] theorem Va(n:Nat):(Ux n).length=n:=by unfold Ux;simp
@[simp] theorem L7(lo:Int)(n:Nat):(WB lo n).length=n:=by unfold WB;simp
@[simp] theorem bindT_one(i:Nat)(l:PV)(s:ZS):Vw (.one i) l s=some (s.set i (some l)):=rfl
theorem Xg(m:List PV):Y8 m=(aD m.length).map λ(i:Nat)=>.tup [.int (i:Int),m.getD i .non]:=by
 apply iR;intro i;rw[aR];by_cases h:i<m.length
 ·have:(Y8 m)[i]?=some (.tup [.int (i:Int),m[i]]):=by unfold Y8;rw[aR,jf,aF h];simp
  rw[this,bq h];simp[aE,aF h]
 ·rw[cX (by rw[WW];omega),cX (by simpa using h)];rfl
theorem UC(m n:List PV)(h:n.length=m.length):Si m n=(aD m.length).map λ(i:Nat)=>.tup [m.getD i .non,n.getD i .non]:=by
 apply iR;intro i;rw[aR];by_cases hi:i<m.length
 ·have:(Si m n)[i]?=some (.tup [m[i],n[i]]):=by unfold Si;rw[aR,iK (z:=(m[i],n[i])) |>.mpr ⟨aF hi,aF (by omega)⟩];rfl
  rw[this,bq hi];simp[aE,aF hi,aF (show i<n.length by omega)]
 ·rw[cX (by rw[LV];omega),cX (by simpa using hi)];rfl
theorem X0(l:List Int)(i:Nat)(h:i<l.length):(iL l).getD i .non = .int (Zt l i):=by rw[aE,P4 h];rfl
theorem EI(W:List (List Int))(i:Nat)(h:i<W.length):(W.map pP).getD i .non=pP (ZA W i):=by rw[aE,aR,Pn h];rfl
@[simp] theorem Bt(f:XE)(s:ZS):ZE [f] s=(f s).bind λa=>(Gy a).bind λj=>if -1000000<=j/\j<=1000000 then some (Ux j.toNat) else aA:=by
 unfold ZE
 cases h:f s with
 | none=>simp[h]
 | some a=>cases a<;>simp[h,Gy]
@[simp] theorem Bu(f g:XE)(s:ZS):Xv [f,g] s=(f s).bind λa=>(g s).bind λb=>(Gy a).bind λi=>(Gy b).bind λj=>if -1000000<=i/\i<=1000000/\-1000000<=j/\j<=1000000 then some (WB i (j-i).toNat) else aA:=by
 unfold Xv
 cases h:f s with
 | none=>simp[h]
 | some a=>cases h2:g s with
  | none=>simp[h,h2]
  | some b=>cases a<;>cases b<;>simp[h,h2,Gy]
@[simp] theorem SY(i:Int):Gy (.int i)=some i:=rfl
@[simp] theorem Hf(i:List PV):asL (.lst i)=some i:=rfl
@[simp] theorem GB(b:Bool)(f:XE)(s:ZS):Yt b [f] s=(f s).bind λl=>(seqB b l).map Y8:=by
 unfold Yt;cases h:f s<;>simp[h]
@[simp] theorem xZip_def(b1 b2:Bool)(f g:XE)(s:ZS):TX b1 b2 [f,g] s=(f s).bind λl=>(g s).bind λr=>(seqB b1 l).bind λm=>(seqB b2 r).map λn=>Si m n:=by
 unfold TX;cases h:f s<;>cases h2:g s<;>simp[h,h2]
@[simp] theorem Zbz(l:List PV):seqB aB (.tup l)=some l:=rfl
@[simp] theorem seqB_t(l:List PV):seqB aC (.lst l)=some l:=rfl
@[simp] theorem seqB_c(l:List PV):seqB aC (.cst l)=some l:=rfl
@[simp] theorem xLst_def(f:XE)(s:ZS):Yg f s=(f s).bind asS:=rfl
@[simp] theorem asS_l(l:List PV):asS (.lst l)=some l:=rfl
@[simp] theorem asS_c(l:List PV):asS (.cst l)=some l:=rfl
theorem P6{f:XE}{s:ZS}{l:List PV}(h:f s=some (.tup l)):SO f s=some l:=by unfold SO;rw[h]
@[simp] theorem P7(O:List Nat)(fi:XL)(T:Tgt)(fb:XS)(s:ZS):Yz O fi T fb s=(fi (ZX O s)).bind λls=>WN T fb ls s:=rfl
@[simp] theorem xTrue_def(s:ZS):Zx s=some aC:=rfl
theorem Z1{f:XE}{s:ZS}{n:Nat}(h:f s=some (.int (n:Int)))(hn:n<=10000):ZE [f] s=some (Ux n):=by rw[Bt,h];simp only[aL,SY];rw[mM ⟨by omega,by omega⟩,bR]
theorem Tw{f g:XE}{s:ZS}{i j:Int}(h:f s=some (.int i))(h':g s=some (.int j))(hi : -10000<=i/\i<=10000)(hj : -10000<=j/\j<=10000):Xv [f,g] s=some (WB i (j-i).toNat):=by rw[Bu,h,h'];simp only[aL,SY];rw[mM ⟨by omega,by omega,by omega,by omega⟩]
theorem Jp{i j:Int}(h0 : -10000<=i)(h:i<=10000):CMul i j:=by
 refine .inl ?_;have e:(2^64:Int)=18446744073709551616:=by decide
 rw[e];omega
theorem Tx{c:Bool}(h:c=aC):gd c=some ():=by unfold gd;rw[mM h]
theorem P8{i:Nat}{f:XE}{s:ZS}{m n:List PV}(h:f s=some (.lst n))(hm:Jn s i=some m)(hl:m.length+n.length<=10000):XA i f s=some (.nx (s.set i (some (.lst (m++n))))):=by unfold XA;rw[h];simp only[aL,Hf,hm,Tx (decide_eq_true hl)]
theorem Xh{i:Nat}{f:XE}{s:ZS}{m:List PV}{l:PV}(h:f s=some l)(hm:Jn s i=some m)(hl:m.length<=10000):ZZ i f s=some (.nx (s.set i (some (.lst (m++[l]))))):=by unfold ZZ;rw[h];simp only[aL,hm,Tx (decide_eq_true hl)]
theorem P9{i:Nat}{fk f:XE}{s:ZS}{m:List PV}{l:PV}{k:Int}(hk:fk s=some (.int k))(h:f s=some l)(hm:Jn s i=some m)(hp:ZH m=aC)(hq:ZO l=aC)(h0:0<=k)(h1:k<=1000000)(hl:m.length<=10000) :
  Vz i fk f s=some (.nx (s.set i (some (.lst (m.take k.toNat++l::m.drop k.toNat))))):=by
 unfold Vz;rw[hk,h];have c:(ZH m&&ZO l&&decide (0<=k/\k<=1000000/\m.length<=10000))=aC:=by rw[hp,hq,decide_eq_true ⟨h0,h1,hl⟩];rfl
 simp only[aL,SY,hm,Tx c]
theorem NU{i:Nat}{fk f:XE}{s:ZS}{m:List PV}{l:PV}{k:Int}{j:Nat}(h:f s=some l)(hk:fk s=some (.int k))(hm:Jn s i=some m)(hp:ZH m=aC)(hq:ZO l=aC)(hj:Lq m.length k=some j) :
  UY i fk f s=some (.nx (s.set i (some (.lst (m.set j l))))):=by
 unfold UY;rw[hk,h];have c:(ZH m&&ZO l)=aC:=by rw[hp,hq];rfl
 simp only[aL,SY,hm,Tx c,hj,cQ]
theorem Oa{i:Nat}{fa fb f:XE}{s:ZS}{m n:List PV}{l:PV}{a b:Int}{j c:Nat}(h:f s=some l)(ha:fa s=some (.int a))(hb:fb s=some (.int b))(hm:Jn s i=some m)(hj:Lq m.length a=some j)(hn:m[j]?=some (.lst n))(hp:ZH n=aC)(hq:ZO l=aC)(hc:Lq n.length b=some c) :
  Yp i fa fb f s=some (.nx (s.set i (some (.lst (m.set j (.lst (n.set c l))))))):=by
 unfold Yp;rw[h,ha,hb];have cc:(ZH n&&ZO l)=aC:=by rw[hp,hq];rfl
 simp only[aL,SY,Hf,hm,hj,hn,Tx cc,hc,cQ]
theorem Tz{n k:Nat}(h:k<n):Lq n (k:Int)=some k:=by unfold Lq;rw[mM (by omega),mM (by omega)];rfl
theorem MC{i j:Int}(h0:0<j)(h:j<=10000):UM i j:=⟨h0,by omega⟩
end VL
namespace VL
open PySem PySem.Spec PyProof.Rows L2
variable {K:aG}
noncomputable def AO(K:aG):R2:=λx y H Q=>∃a b xs ys,x = .ref a/\y = .ref b/\SqT K H a xs/\SqT K H b ys/\xs.length+ys.length<=sizeLine/\
 (xs=[]->Q (.ref b) H)/\(ys=[]->Q (.ref a) H)/\∀p,H p=aA->Q (.ref p) (upd H p (.tup (xs++ys)))
theorem MD{X:Cx}:T3 X (cy .Add) (AO X.K):=by
 intro m4 s σ H x y v u Q I rx ry h;obtain⟨a,b,xs,ys,rfl,rfl,ha,hb,hz,q0,q1,q2⟩:=h;by_cases hx:xs=[]
 ·cases rx;cases ry;obtain⟨m9,r1,p1,_⟩:=I.tuple ha;obtain⟨its2,r2,p2,_⟩:=I.tuple hb;obtain⟨⟨cls,dd,data,sl⟩,ho,hc,n,hd⟩:=id p1;obtain⟨⟨cls2,dd2,data2,sl2⟩,ho2,hc2,n2,hd2⟩:=id p2;simp only at hc hd hc2 hd2;subst hc hd hc2 hd2
  exact jD ⟨_,ho,rfl⟩ ⟨_,ho2,rfl⟩ ig kE gJ gG (fW _ _)
   (tuple_addW0 a b m9.toArray its2.toArray n n2 dd dd2 sl sl2 (by simp[r1.nil_iff.mpr hx])) ⟨ho,ho2,.ref b,H,I,rfl,q0 hx⟩
 ·exact CV _ _ _ _ _ _ _ _ _ I rx ry ⟨a,b,xs,ys,rfl,rfl,ha,hb,hx,hz,q1,λ_=>q2⟩
noncomputable def Vb:PV->PV->Option PV
 | .tup m,.tup n=>if m.length+n.length<=10000 then some (.tup (m++n)) else aA
 | _,_=>aA
theorem ME:RB K (AO K) Vb:=λH x y a b l fa fb ha hb e Q k=>by
 cases a with
 | tup m=>cases b with
  | tup n=>
   have e:(if m.length+n.length<=10000 then some (PV.tup (m++n)) else aA)=some l:=e;split at e
   case isFalse=>cases e
   rename_i hl;cases e;obtain⟨p,xs,rfl,hp,hi⟩:=ha.tup_inv;obtain⟨p',ys,rfl,hp',hi'⟩:=hb.tup_inv;refine⟨p,p',xs,ys,rfl,rfl,SqT.of hp,SqT.of hp',by rw[hi.len,hi'.len];exact cF (lt_size hl),λz=>?_,λz=>?_,λq hq=>?_⟩
   ·have:m=[]:=eJ.mp (by rw[<-hi.len,z];rfl);subst this;exact k _ _ fb (Same.refl _) hb λr hr=>.inr (.inl hr)
   ·have:n=[]:=eJ.mp (by rw[<-hi'.len,z];rfl);subst this;rw[cu] at k;exact k _ _ fa (Same.refl _) ha λr hr=>.inl hr
   ·exact k _ _ (fa++fb) (Same.new hq _) (Is.tup Zp ((hi.append hi').mono (Same.new hq _))) λr hr=>(aa.mp hr).elim .inl λz=>.inr (.inl z)
  | _=>cases e
 | _=>cases e
end VL
namespace VL
open PySem
open PySem.Sem (wp)
open PySem.Builtin
theorem RV:fillsNumberSlot (.type "tuple") "mul" = pure aB:=
 fillsNumberSlot_seq (id:="tuple.__mul__") (r:=some (.builtin "tuple.__rmul__")) F.slot_tuple_mul.lookup (by decide +kernel) F.slot_tuple_rmul.lookup (by decide +kernel)
theorem MF:seqRepeat? (.type "tuple")=pure (some (.builtin "tuple.__mul__")):=by unfold seqRepeat?;rw[seqSlot_of (T:="tuple") (name:="__mul__") (id:="tuple.__mul__") F.slot_tuple_mul.lookup (by decide +kernel),seqSlot_of (T:="tuple") (name:="__rmul__") (id:="tuple.__rmul__") F.slot_tuple_rmul.lookup (by decide +kernel)];rfl
theorem Ob(a:Int)(t:Tok)(l:aK)(items:Array aI)(n:Nat)(dd:Option aK)(sl:Array (Option aI)) :
  Meets (jw.«int.__rmul__» ⟨[.int a t,.ref l],[]⟩) (λ_ R s=>s.heap.get? l=some { cls:=.type "tuple",dict:=dd,data:=.seq items n,slots:=sl }/\R (.ok (.ret aI.notImplemented)) s):=
 .of_wp λprog w A R s h=>by obtain⟨hp,g,d,tk,os⟩:=s;obtain⟨hl,h⟩:=h;wp_walk;exact⟨_,rfl,h⟩
theorem Oc(l:aK)(items:Array aI)(n:Nat)(dd:Option aK)(sl:Array (Option aI))(x:Int)(u:Tok)(h1:1<x)(h2:x<2^63)(he:items.isEmpty=aB)(hz:items.size*x.toNat<=sizeLine)
  (ys:Array aI) (hf:jJ (λx1 x2=>x1++x2) #[] (aN x.toNat items)=ys) (hy:ys.size<=sizeLine) :
  Meets (jw.«tuple.__mul__» ⟨[.ref l,.int x u],[]⟩) (λ_ R s=>s.heap.get? l=some { cls:=.type "tuple",dict:=dd,data:=.seq items n,slots:=sl }/\R (.ok (.ret (cM s.heap.objs.size))) { s with heap:=s.heap.push { cls:=lO "tuple",data:=Data.seq ys },toks:=s.toks }):=
 .of_wp λprog w A R s h=>by
  obtain⟨hp,g,d,tk,os⟩:=s;obtain⟨hl,h⟩:=h;have hlen:items.size*x.toNat<=2^40:=by rw[iO] at hz;omega
  have hx:(items.size:Int)*x=((items.size*x.toNat:Nat):Int):=by rw[Int.natCast_mul,kB (by omega)]
  wp_walk
  refine fu (by simp;omega) ?_
  wp_walk
  refine fu (by simp[he];omega) ?_
  wp_walk
  refine fu (by simp[he];omega) ?_
  wp_walk
  refine fu (decide_eq_false (by rw[hx];omega)) ?_
  wp_walk
  refine fu (decide_eq_false (by rw[hx];unfold Tuple.tupleTooMany;simp only[decide_eq_true_eq];omega)) ?_
  wp_walk
  rw[hf];exact⟨_,rfl,h⟩
theorem Nq(l:aK)(items:Array aI)(n:Nat)(dd:Option aK)(sl:Array (Option aI))(u:Tok) :
  Meets (jw.«tuple.__mul__» ⟨[.ref l,.int 1 u],[]⟩) (λ_ R s=>s.heap.get? l=some { cls:=.type "tuple",dict:=dd,data:=.seq items n,slots:=sl }/\R (.ok (.ret (cM l))) s):=
 .of_wp λprog w A R s h=>by
  obtain⟨hp,g,d,tk,os⟩:=s;obtain⟨hl,h⟩:=h
  wp_walk
  exact⟨_,rfl,h⟩
end VL
namespace VL
open PySem PySem.Spec PyProof.Rows L2
noncomputable def AQ(K:aG):R2:=λx y H Q=>∃a k xs,x = .ref a/\y = .int k/\SqT K H a xs/\xs≠[]/\1<=k/\k<2^62/\xs.length*k.toNat<=sizeLine/\
 (k=1->Q (.ref a) H)/\∀p,H p=aA->Q (.ref p) (upd H p (.tup (aN k.toNat xs).flatten))
theorem Bv{X:Cx}:T3 X (cy .Mult) (AQ X.K):=by
 intro m4 s σ H x y v u Q I rx ry h;obtain⟨a,k,xs,rfl,rfl,ha,hx,h1,h2,hz,q1,q2⟩:=h;cases rx;obtain⟨t,rfl⟩:=ry;obtain⟨m9,r1,p1,_⟩:=I.tuple ha;obtain⟨⟨cls,dd,data,sl⟩,ho,hc,n,hd⟩:=id p1;simp only at hc hd;subst hc hd;have hl:xs.length=m9.length:=r1.length
 refine iJ (T:="tuple") (U:="int") (by decide) ⟨_,ho,rfl⟩ (λs'=>jI s' k t) RV F.fills_int_mul F.slot_int_rmul MF F.slot_int_index.lookup
  (eQ F.slot_int_rmul (jI s k t) F.entry_int_rmul (F.args_int_rmul_2 _ _) (Ob k t a m9.toArray n dd sl) ⟨ho,rfl,⟨_,ho,rfl⟩,?_⟩)
 by_cases hk:k=1
 ·subst hk;exact eQ F.slot_tuple_mul ⟨_,ho,rfl⟩ F.entry_tuple_mul (F.args_tuple_mul_2 _ _) (Nq a m9.toArray n dd sl t) ⟨ho,.ref a,H,I,rfl,q1 rfl⟩
 ·have hne:m9.toArray.isEmpty=aB:=by
   cases m9 with
   | nil=>exact absurd (r1.nil_iff.mp rfl) hx
   | cons _ _=>rfl
  have hf:jJ (λx1 x2=>x1++x2) #[] (aN k.toNat m9.toArray)=(aN k.toNat m9).flatten.toArray:=by have:=RI m9 k.toNat [];rw[jU] at this;exact this
  have hw:(aN k.toNat m9).flatten.length<=sizeLine:=by rw[Mi,k6,<-hl];exact hz
  refine eQ F.slot_tuple_mul ⟨_,ho,rfl⟩ F.entry_tuple_mul (F.args_tuple_mul_2 _ _) (Oc a m9.toArray n dd sl k t (by omega) (by omega) hne (by rw[aT,<-hl];exact hz) _ hf (by rw[aT];exact hw)) ⟨ho,?_⟩;refine⟨.ref s.heap.objs.size,_,I.laid (t':=s.toks) (o:=.tup (aN k.toNat xs).flatten) (λb ob q=>aJ _ q) (aZ _) ?_,rfl,q2 _ (I.hok.fresh (aZ _))⟩;exact⟨⟨by rw[Mi,k6];exact hz,λo e=>Pa e⟩,_,r1.rep k.toNat,kh _ _⟩
noncomputable def NV:PV->PV->Option PV
 | .tup m,.int k=>if ZH m=aC/\m≠[]/\1<=k/\k<=1000000/\m.length*k.toNat<=10000 then some (.tup (aN k.toNat m).flatten) else aA
 | _,_=>aA
theorem Bw{K:aG}:RB K (AQ K) NV:=λH x y a b l fa fb ha hb e Q k=>by
 cases a with
 | tup m=>cases b with
  | int n=>
   unfold NV at e;simp only at e;split at e
   case isFalse=>cases e
   rename_i hl;cases e;obtain⟨p,xs,rfl,hp,hi⟩:=ha.tup_inv;refine⟨p,n,xs,rfl,hb.int_inv.1,SqT.of hp,λz=>hl.2.1 (eJ.mp (by rw[<-hi.len,z];rfl)),hl.2.2.1,by omega,by rw[hi.len];exact cF (lt_size hl.2.2.2.2),λz=>?_,λq hq=>?_⟩
   ·subst z;have e1:(aN (mG 1) m).flatten=m:=by simp
    rw[e1] at k;exact k _ _ fa (Same.refl _) ha λr hr=>.inl hr
   ·exact k _ _ [] (Same.new hq _) (Is.tup Zp ((Iss.rep (hi.pureEq hl.1) n.toNat).mono (Same.new hq _))) λr hr=>by simp at hr
  | _=>cases e
 | _=>cases e
end VL
namespace PW
open PySem L2 VL
noncomputable def NW:XS:=(ZY (eP (Zc Nn [Zd Zv (Za 0) (Za 1)])))
noncomputable def Wg:List PV->Option PV:=Yv 2 NW
noncomputable def RW:XS:=(Zj (Zi 1 (Yu []))
  (Zj (Yz [1] (Yt aB [Za 0]) (.many [2,3]) (Yz [1] (Xv [Zd ZI (Za 2) (eC (.int 1)),Zc Zz [Za 0]]) (.one 4) (XA 1 (Zq 1 [2,4] (ZE [Zd Zv (Za 3) (Za 4)]) (.one 0) Zx (eP (YC [Za 1,Za 2,Za 0]))))))
  (ZY (Za 1))))
noncomputable def Wh:List PV->Option PV:=Yv 5 RW
noncomputable def Hg:XS:=(ZY (eP (Zd ZI (Zd Yo (Zc Zz [Zc Wh [Za 0]]) (Zc Zz [Za 0])) (eC (.int 1)))))
noncomputable def S1:List PV->Option PV:=Yv 1 Hg
noncomputable def Hh:XS:=(ZY (eP (Zc Nn [Za 0])))
noncomputable def QW:List PV->Option PV:=Yv 1 Hh
noncomputable def EJ:XS:=(ZY (eP (Zc Nn [Zq 2 [1,2] (Yt aB [Zd Zv (Za 0) (Za 2)]) (.many [0,1]) Zx (Zd Xa (Za 1) (Zd Yo (Zd Zv (Za 2) (Za 0)) (Zd Zv (Za 2) (Za 3))))])))
noncomputable def Od:List PV->Option PV:=Yv 3 EJ
noncomputable def AR:XS:=(ZY (eP (Zc ZR [Zq 2 [0,2] (Yt aB [Za 1]) (.many [0,1]) Zx (Zd ZI (Za 1) (Zc Od [Za 2,Za 3,Za 0]))])))
noncomputable def Oe:List PV->Option PV:=Yv 3 AR
noncomputable def EK:XS:=(ZY (eP (Zc ZR [Zq 2 [] (TX aB aB [Za 0,Za 1]) (.many [0,1]) Zx (Zd ZI (Za 0) (Za 1))])))
noncomputable def U0:List PV->Option PV:=Yv 2 EK
noncomputable def Hi:XS:=(ZY (eP (Zc ZR [Zq 2 [] (TX aB aB [Za 0,Za 1]) (.many [0,1]) Zx (Zd Yo (Za 0) (Za 1))])))
noncomputable def UD:List PV->Option PV:=Yv 2 Hi
noncomputable def NX:XS:=(ZY (eP (VR (Zc Vv [Za 0,eC (.ty "int")]) (Bi (Zc Vv [Za 0,eC (.ty "bool")])))))
noncomputable def Uc:List PV->Option PV:=Yv 1 NX
end PW
namespace VL
open PySem PySem.Spec PyProof.Rows L2
noncomputable def XM:List Int->Int
 | []=>0
 | [x]=>x
 | x::y::r=>if XM (y::r)<x then XM (y::r) else x
theorem RX:∀{l:List Int},l≠[]->XM l∈l/\∀x∈l,XM l<=x
 | [],h=>absurd rfl h
 | [x],_=>by simp[XM]
 | x::y::r,_=>by
  obtain⟨a,b⟩:=RX (l:=y::r) (by simp);unfold XM;split
  ·rename_i h;refine⟨aS _ a,λz hz=>?_⟩;rcases af.mp hz with rfl | hz
   ·omega
   ·exact b z hz
  ·rename_i h;refine⟨by simp,λz hz=>?_⟩;rcases af.mp hz with rfl | hz
   ·omega
   ·have:=b z hz;omega
theorem Bx{l:List Int}{m:Int}(h:m∈l)(g:∀x∈l,m<=x):XM l=m:=by obtain⟨a,b⟩:=RX (l:=l) (by intro z;subst z;simp at h);have:=b m h;have:=g _ a;omega
theorem Of(val:Nat->Int):∀k,argBest (λi j=>decide (val i<val j)) k<=k/\∀j,j<=k->val (argBest (λi j=>decide (val i<val j)) k)<=val j
 | 0=>⟨aZ _,λj hj=>by rw[Nat.le_zero.mp hj];exact cw _⟩
 | k+1=>by
  obtain⟨a,b⟩:=Of val k;unfold argBest;split
  ·rename_i h;have h:=of_decide_eq_true h;refine⟨aZ _,λj hj=>?_⟩;by_cases e:j=k+1
   ·subst e;exact cw _
   ·have:=b j (by omega);omega
  ·rename_i h;have h:¬_:=λz=>h (decide_eq_true z);refine⟨by omega,λj hj=>?_⟩;by_cases e:j=k+1
   ·subst e;omega
   ·exact b j (by omega)
noncomputable def EL(f:List Int->Int)(K:aG):List V->Hp->VK->Prop:=λxs H Q=>∃(b:Bool) (p:aK) (ns:List Int),xs=[.ref p]/\ns≠[]/\Ng b K H p (ns.map V.int)/\Q (.int (f ns)) H
section
variable {X:Cx}
theorem GC(hc:X.calm=aC):X6 X (.builtin "min") (EL XM X.K):=by
 intro m4 s σ H xs us Q I r h;obtain⟨b,p,ns,rfl,hne,hq,q⟩:=h;obtain⟨u,rfl,rx⟩:=T4 r;cases rx;obtain⟨m9,rv,hseq,hz⟩:=I.seqB hq;have hp:p<s.heap.objs.size:=let⟨_,e⟩:=hseq.has;aV e;have hl:=rv.length;rw[aH] at hl;have hpos:0<ns.length:=kC.mpr hne
 have hval:∀(i:Nat)(v:aI),m9.toArray[i]?=some v->∃t,v=eU (ns.getD i 0) t:=λ(i:Nat) (v:aI) hv=>by
  have hv:m9[i]?=some v:=by simpa using hv
  have hi:i<ns.length:=by rw[hl];exact(aU.mp hv).1
  obtain⟨u,hu,ru⟩:=rv.get (i:=i) (x:=.int ns[i]) (by rw[aR,aF hi];rfl);rw[hv] at hu;cases hu;obtain⟨t,rfl⟩:=ru;refine⟨t,?_⟩;show eU ns[i] t=eU (ns.getD i 0) t;rw[aE,aF hi];rfl
 refine call_min_walk (YZ hseq ?_);refine⟨_,_,_,_,_,_,λi j=>decide (ns.getD i 0<ns.getD j 0),rfl,Walks.seqB (A:=X.A.in1) b (I.ok.hd hc) s.heap.objs.size p (bQ hp) m9.toArray,⟨IterB.new (ao _ rfl),hseq.at λo e=>aJ _ e⟩,λc hcm=>?_,by rw[aT,<-hl];exact hpos,CmpOf.ints_lt (λi=>ns.getD i 0) hval,λv h' tk hv hk=>?_⟩
 ·show c<(s.heap.push _).objs.size;rw[cC];rcases af.mp hcm with rfl | hcm
  ·exact eG _
  ·rw[aO.mp hcm];exact dq hp
 ·obtain⟨t,rfl⟩:=hval _ _ hv;obtain⟨g1,g2⟩:=Of (λi=>ns.getD i 0) (m9.toArray.size-1);rw[aT,<-hl] at g1 g2
  have e:XM ns=ns.getD (argBest (λi j=>decide (ns.getD i 0<ns.getD j 0)) (m9.toArray.size-1)) 0:=by
   rw[aT,<-hl];refine Bx ?_ λx hx=>?_
   ·rw[aE,aF (by omega)];exact bY _
   ·obtain⟨j,hj,ej⟩:=dM hx;have:=g2 j (by omega);rw[aE (i:=j),aF hj,ej] at this;exact this
  refine⟨.int (XM ns),H,I.kept (λc o hco=>hk c o ?_ (aJ _ hco)),⟨t,by rw[e]⟩,q⟩;intro hm;rw[aO.mp hm] at hco;exact absurd (aV hco) (cH _)
end
noncomputable def Hj(f:List Int->Int):List PV->Option PV
 | [l]=>(QG l).bind λm=>(YQ m).bind λns=>if ns=[] then aA else some (.int (f ns))
 | _=>aA
abbrev AS:List PV->Option PV:=Hj XM
theorem By{K:aG}(f:List Int->Int):RC K (EL f K) (Hj f):=λH vs ls l fp h e Q k=>by
 unfold Hj at e;split at e
 ·obtain⟨m,e1,e2⟩:=Ze e;obtain⟨ns,e3,e4⟩:=Ze e2;split at e4
  ·cases e4
  ·rename_i hne;cases e4;obtain⟨v,rfl,i⟩:=h.one_inv;obtain⟨p,xs,fq,rfl,hp,hi,hs⟩:=Uv (K:=K) i e1;have em:=YH e3;subst em;obtain⟨rfl,rfl⟩:=hi.iL;obtain⟨b,hb⟩:=Jj hp;exact⟨b,p,ns,rfl,hne,hb,k _ H [] (Same.refl H) (Is.int _) λp hp=>by simp at hp⟩
 ·cases e
theorem Bz{K:aG}:RC K (EL XM K) AS:=By XM
theorem BA(f:List Int->Int){l:List Int}(h:l≠[]):Hj f [pP l]=some (.int (f l)):=by show(YQ (iL l)).bind _=_;rw[Ys];simp only[aL];rw[mN h]
noncomputable def Xw(l:List Int):List Int:=l.mergeSort λa b=>decide (a<=b)
theorem UE(l:List Int):(Xw l).Perm l:=List.mergeSort_perm l _
theorem MG(l:List Int):(Xw l).Pairwise (·<=·):=by have:=List.pairwise_mergeSort (le:=λa b:Int=>decide (a<=b)) (λa b c h1 h2=>by simp only[decide_eq_true_eq] at *;omega) (λa b=>by simp only[jY,decide_eq_true_eq];omega) l;exact this.imp λh=>of_decide_eq_true h
theorem EM{l m:List Int}(hp:m.Perm l)(hs:m.Pairwise (·<=·)):m=Xw l:=
 List.Perm.eq_of_pairwise (le:=(·<=·)) (λa b _ _ h1 h2=>Int.le_antisymm h1 h2) hs (MG l) (hp.trans (UE l).symm)
theorem S2:∀{us:List aI}{ns:List Int},k4 us ns->Vals (ns.map V.int) us
 | _,_,.nil=>.nil
 | _,_,.cons n t h=>.cons ⟨t,rfl⟩ (S2 h)
noncomputable def MH(K:aG):List V->Hp->VK->Prop:=λxs H Q=>∃p ns,xs=[.ref p]/\SqL K H p (ns.map V.int)/\ns.length<64/\∀l,H l=aA->Q (.ref l) (upd H l (.lst ((Xw ns).map V.int)))
theorem S3{X:Cx}:X6 X (.builtin "sorted") (MH X.K):=by
 intro m4 s σ H xs us Q I r h;obtain⟨p,ns,rfl,hq,hl,q⟩:=h;obtain⟨u,rfl,rx⟩:=T4 r;cases rx;obtain⟨m9,r',pl,hz⟩:=I.list hq;have hlen:=r'.length;rw[aH] at hlen hz;refine sorted_ints pl.isList (Ja r') (by omega) λout ns' a1 a2 a3=>?_;obtain⟨e,he⟩:=sortedAll_at s.heap m9 out;have hns:=EM a2 a3;subst hns;refine⟨.ref (s.heap.objs.size+1),_,I.laid (t':=s.toks) (λb o=>sortedAll_old) (iQ _) (show ObjOk X.prog X.w _ _ _ (.lst ((Xw ns).map V.int)) from⟨?_,out.toList,e,S2 a1,?_⟩),rfl,q _ (I.hok.fresh (iQ _))⟩
 ·rw[aH,(UE ns).length_eq];exact hz
 ·rw[jg];exact he
noncomputable def WQ:List PV->Option PV
 | [.lst l]=>(YQ l).bind λns=>if ns.length<64 then some (.lst (iL (Xw ns))) else aA
 | [.cst l]=>(YQ l).bind λns=>if ns.length<64 then some (.lst (iL (Xw ns))) else aA
 | _=>aA
theorem Og{K:aG}:RCM K (MH K) WQ:=λH vs ls l fp h e Q k=>by
 have fin:∀(p:aK)(ns:List Int),SqL K H p (ns.map V.int)->ns.length<64->l = .lst (iL (Xw ns))->MH K [.ref p] H Q:=by rintro p ns hp hl rfl;refine⟨p,ns,rfl,hp,hl,λq hq=>k _ _ [q] (Same.new hq _) (Is.lst Zp (Iss.ofInts _)) (by simp) λr hr=>?_⟩;rw[aO.mp hr];exact⟨hq,by rw[Zp];exact bW⟩
 unfold WQ at e;split at e
 ·obtain⟨ns,e1,e2⟩:=Ze e;split at e2
  ·cases e2;obtain⟨v,rfl,i⟩:=h.one_inv;have em:=YH e1;subst em;obtain⟨p,xs,fq,rfl,hp,hi,_⟩:=i.lst_inv;obtain⟨rfl,rfl⟩:=hi.iL;exact fin p ns (.inl (.inl hp)) (by assumption) rfl
  ·cases e2
 ·obtain⟨ns,e1,e2⟩:=Ze e;split at e2
  ·cases e2;obtain⟨v,rfl,i⟩:=h.one_inv;have em:=YH e1;subst em;obtain⟨p,xs,rfl,hp,hi⟩:=i.cst_inv;obtain⟨rfl,rfl⟩:=hi.iL;exact fin p ns hp.sq (by assumption) rfl
  ·cases e2
 ·cases e
noncomputable def Jq:XS:=λ_=>aA
theorem EN{X:Cx}{O W:List Nat}{st:bp}:VS X O W st Jq:=by intro m4 s σ H D I h;unfold tFS at h;simp only[Jq] at h;obtain⟨_,_,_,_,_,q,_⟩:=h;cases q
theorem Oh:∀(us:List aI)(k:Nat),(∀(i:Nat)(v:aI),us[i]?=some v->∃t,v=eU ((k+i:Nat):Int) t)->Vals ((aD us.length).map λi=>V.int ((k+i:Nat):Int)) us
 | [],k,_=>.nil
 | u::us,k,h=>by
  obtain⟨t,rfl⟩:=h 0 u rfl;rw[bA,gL,ag,bS];refine .cons ⟨t,rfl⟩ ?_;have:=Oh us (k+1) λi v hv=>by obtain⟨t,e⟩:=h (i+1) v (by simpa using hv);exact⟨t,by rw[e];congr 2;omega⟩
  refine Eq.mp (congrArg (λl=>Vals l us) (ak λi _=>?_)) this;show V.int _=V.int _;congr 2;omega
noncomputable def tLR(ta:TA):TE:=λσ H Q=>ta σ H λvs H1=>∃j:Nat,vs=[.int (j:Int)]/\j<=10000/\∀l,H1 l=aA->Q (.ref l) (upd H1 l (.lst ((aD j).map λ(i:Nat)=>V.int (i:Int))))
section
variable {X:Cx} {a:bH} {ta:TA} {p p2 pos pos2:da}
theorem MI(hc:X.calm=aC)(hgl:Gl X "list")(hml:X.mg "list" = aA)(hgr:Gl X "range")(hmr:X.mg "range" = aA)(ha:PA X [a] ta)(hs:aQ [a] X.env=[(aB,eval a X.env)]:=by rfl)
  (he:aQ [.Call (.Name "range" p2) [a] [] pos2] X.env=(aB,eval (.Call (.Name "range" p2) [a] [] pos2) X.env)::aQ [] X.env:=by rfl) (hpl:(dD pos (aQ [] X.env)).any (·.1)=aB:=by rfl) :
  PE X (.Call (.Name "list" p) [.Call (.Name "range" p2) [a] [] pos2] [] pos) (tLR ta):=by
 intro m4 s σ H Q I h;refine dA (Up I hgl hml (u:=.type "list") (by decide +kernel) ?_);refine cA (T:="list") ?_ he hpl;rw[he];show ay _ _ (spliced ((aB,eval (.Call (.Name "range" p2) [a] [] pos2) X.env)::[])) _ _ s;refine kJ ?_;refine Call_ (Up I hgr hmr lV (cA (YO (ha pos2 m4 s σ H _ I h) λus s1 ⟨vs,H1,I1,r1,q1⟩=>?_) hs rfl));obtain⟨j,e,hj,q⟩:=q1;subst e
 cases r1 with
 | cons r rr=>
  cases rr;obtain⟨t,rfl⟩:=r;refine call_range_1 (kZ ?_);have sz:sizeLine=2^24:=rfl;refine call_list_range (n:=j) (I.ok.hd hc) (mJ ..) (small_one (by omega) (by omega) (by omega) (by omega)) (by rw[rangeSize_one];split<;>omega) (by omega) λh' tk acc' c' hk hS hacc=>?_;have I2:=I1.kept (t':=s1.toks+1+1) (h':=s1.heap.push { cls:=.type "range",data:=.fields #[.int 0 s1.toks,.int (j:Int) t,.int 1 (s1.toks+1)] }) λb o e=>aJ _ e;refine⟨.ref _,_,I2.laid (t':=tk) hk (aZ _) (show ObjOk X.prog X.w _ _ _ (.lst ((aD j).map λ(i:Nat)=>V.int (i:Int))) from⟨by simp;omega,acc'.toList,c',?_,?_⟩),rfl,q _ (I2.hok.fresh (aZ _))⟩
  ·have:=Oh acc'.toList 0 λi v hv=>by obtain⟨t',e⟩:=hacc.2 i v (by simpa using hv);exact⟨t',by rw[e];congr 1;omega⟩
   rw[dJ,hacc.1] at this;refine Eq.mp (congrArg (λl=>Vals l acc'.toList) (ak λi _=>?_)) this;show V.int _=V.int _;congr 2;omega
  ·rw[jg];exact hS
end
noncomputable def Vc:PV->Option PV
 | .int k=>if 0<=k/\k<=10000 then some (.lst (iL ((aD k.toNat).map λ(i:Nat)=>(i:Int)))) else aA
 | _=>aA
theorem S4{X:Cx}{a:bH}{fa:XE}{p p2 pos pos2:da}(hc:X.calm=aC)(hgl:Gl X "list")(hml:X.mg "list" = aA)(hgr:Gl X "range")(hmr:X.mg "range" = aA)(ha:VE X a fa)(hs:aQ [a] X.env=[(aB,eval a X.env)]:=by rfl)
  (he:aQ [.Call (.Name "range" p2) [a] [] pos2] X.env=(aB,eval (.Call (.Name "range" p2) [a] [] pos2) X.env)::aQ [] X.env:=by rfl) (hpl:(dD pos (aQ [] X.env)).any (·.1)=aB:=by rfl) :
  VM X (.Call (.Name "list" p) [.Call (.Name "range" p2) [a] [] pos2] [] pos) (Lr Vc fa):=
 PE.imp (MI hc hgl hml hgr hmr (Xz ha Uu hs) hs he hpl) λσ H Q ⟨s,l,env,e,k⟩=>by
  obtain⟨x,e1,e2⟩:=Ze e;refine⟨λ_=>False,s,[x],λ_ z=>z.elim,env,by show(fa s).bind _=_;rw[e1];rfl,λvs H1 fp s1 i1 _=>?_⟩;obtain⟨w,rfl,iw⟩:=i1.one_inv
  cases x with
  | int kk=>
   unfold Vc at e2;simp only at e2;split at e2
   case isFalse=>cases e2
   rename_i hk;cases e2;refine⟨kk.toNat,by rw[iw.int_inv.1];congr 2;omega,by omega,λq hq=>?_⟩;have hm:(aD kk.toNat).map (λ(i:Nat)=>V.int (i:Int))=((aD kk.toNat).map λ(i:Nat)=>(i:Int)).map V.int:=by rw[bS];rfl
   rw[hm];refine k _ _ [q] (s1.trans (Same.new hq _)) (Is.lst Zp (Iss.ofInts _)) (by simp) λr hr=>?_;rw[aO.mp hr];exact⟨Same.off s1 hq,by rw[Zp];exact bW⟩
  | _=>cases e2
variable {K:aG}
noncomputable def Cst(mg:aq->Option aI)(x:aq)(k:Int):Prop:=∃t,mg x=some (eU k t)
theorem Jr{X:Cx}{x:aq}{k:Int}{pos:da}(hg:Gl X x)(hm:Cst X.mg x k)(hd:(x==("__debug__" : aq))=aB:=by decide):VE X (.Name x pos) (eC (.int k)):=by obtain⟨t,e⟩:=hm;exact Ec (CD hg e (v:=.int k) ⟨t,rfl⟩ hd) λ_=>Is.int k
end VL
namespace VL
open PySem PySem.Spec PyProof.Rows L2
variable {K:aG}
noncomputable def CMulW(i j:Int):Prop:=i.natAbs.log2<67108863/\j.natAbs.log2<67108863
noncomputable def Oi(i j:Int):Prop:=j≠0/\j.natAbs.log2<9000
instance (i j:Int):Decidable (CMulW i j):=by unfold CMulW;infer_instance
instance (i j:Int):Decidable (Oi i j):=by unfold Oi;infer_instance
theorem Hk(i:Int):fU i<=i.natAbs.log2+1:=by
 unfold fU;split
 ·exact eu _
 ·exact aZ _
theorem CMulW.ok{i j:Int}(h:CMulW i j):IntMulOk i j:=by
 unfold IntMulOk jw.Int.intTooBig;have h1:=Hk i;have h2:=Hk j;have h3:=h.1;have h4:=h.2
 have:decide (((fU i:Int)+(fU j:Int))>(bitsLine:Int))=aB:=decide_eq_false (by
  have e:(bitsLine:Int)=134217728:=rfl;rw[e];omega)
 rw[this];simp
section
variable {X:Cx} {a b:bH} {fa fb:XE} {pos:da}
theorem BB:T3 X (cy .Mult) (rI CMulW λi j=>.int (i*j)):=opI λ_ _ _ _ _ _ _ hc q=>mul_int q hc.ok
theorem EO:T3 X (cy .FloorDiv) (rI Oi λi j=>.int (i.fdiv j)):=opI λ_ _ _ _ _ _ _ hc q=>floordiv_int hc.1 q (.inl (PyProof.noPylong_of_log2 hc.2))
abbrev Sb:=FF CMulW (· * ·)
abbrev L8:=FF Oi mL
theorem QX(ha:VE X a fa)(hb:VE X b fb):VE X (.BinOp a .Mult b pos) (Zd Sb fa fb):=W3 BB (Pr _ _) ha hb
theorem L9(ha:VE X a fa)(hb:VE X b fb):VE X (.BinOp a .FloorDiv b pos) (Zd L8 fa fb):=W3 EO (Pr _ _) ha hb
end
theorem Oj:∀{ns:List Int}{n:Int},n∈ns->n.natAbs.log2<=ip (ns.map .int)
 | m::r,n,h=>by
  rw[ag];simp only[ip,PySem.W.WData.weight];rcases af.mp h with rfl | h
  ·by_cases h0:n=0
   ·subst h0;have:Nat.log2 (Int.natAbs 0)=0:=by decide +kernel
    omega
   ·rw[mN (by simpa using h0)];omega
  ·have:=Oj h;omega
end VL
namespace VL
open PySem PySem.Spec PyProof.Rows L2
variable {K:aG}
noncomputable def Zb0(K:aG)(H0:Hp)(D:Pb):Out->Prop
 | .nx _=>∀σ' H',Same H0 H'->D.nx σ' H'
 | .rt l=>∀v fp H',Same H0 H'->Is K H' l v fp->fp.Nodup->(∀p∈fp,H0 p=aA/\V4 (H' p))->D.rt v H'
 | _=>False
noncomputable def Zd9(K:aG)(O:List Nat)(f:XS):TS:=λD σ H=>∃H0 fps s out,Rel K O H0 fps s σ H/\f s=some out/\Zb0 K H0 D out
noncomputable def GD(X:Cx)(O:List Nat)(st:List bp)(f:XS):Prop:=PSs X st (Zd9 X.K O f)
section
variable {X:Cx} {O O' W:List Nat} {st:bp} {YN:List bp} {f g:XS}
theorem VSs.r(h:VSs X O W YN f):GD X O YN f:=PSs.imp h λD σ H ⟨H0,fps,s,out,r,e,k⟩=>⟨H0,fps,s,out,r,e,by
 cases out with
 | nx s'=>exact λm6 σ' H' r' _=>k σ' H' r'.same
 | rt l=>exact k
 | bk s'=>exact k.elim
 | ct s'=>exact k.elim⟩
theorem Y5(h1:VS X O W st f)(h2:GD X O YN g):GD X O (st::YN) (Zj f g):=PSs.imp (Lw h1 h2) λD σ H ⟨H0,fps,s,out,r,e,k⟩=>by
 obtain⟨o1,e1,e⟩:=Ze e;refine⟨H0,fps,s,o1,r,e1,?_⟩
 cases o1 with
 | nx s1=>exact λfps1 σ1 H1 r1 _=>⟨H0,fps1,s1,out,r1,e,k⟩
 | bk s1=>cases e;exact k.elim
 | ct s1=>cases e;exact k.elim
 | rt l=>cases e;exact k
theorem GF(h:GD X O' YN g)(hs:∀i∈O',i∈O:=by decide):GD X O YN g:=PSs.imp h λD σ H ⟨H0,fps,s,out,r,e,k⟩=>⟨H0,fps,s,out,r.weak hs,e,k⟩
end
theorem GG{N:List aq}{n:Nat}{O:List Nat}{vs:List V}{H:Hp}{ls:List PV}{fp:List aK}(hO:∀i∈O,n<=i)(hl:vs.length=n)(hi:Iss K H ls vs fp):∃fps,Rel K O H fps (Z8 N.length ls) (L2.start N vs) H:=by
 obtain⟨fps,p1,p2⟩:=hi.fps;have hlen:=hi.len
 have hout:∀i:Nat,ls.length<=i->∀l,(Z8 N.length ls)[i]?≠some (some l):=λi hi l z=>by
  unfold Z8 at z;rw[bF (by simpa using hi),bV] at z;split at z<;>cases z
 refine⟨fps,Same.refl H,?_,λi a z=>?_,λi hne=>?_,λi hi=>?_,λi hi p hp=>?_,λi hi j hj p hp=>?_⟩
 ·unfold Z8 L2.start;simp[hlen]
 ·by_cases hil:i<ls.length
  ·unfold Z8 at z;rw[aj (by simpa using hil),aR] at z
   cases q:ls[i]? with
   | none=>rw[q] at z;cases z
   | some b=>
    rw[q] at z;cases z;obtain⟨v,a1,b1⟩:=p1 i a q;refine⟨v,?_,b1⟩;unfold L2.start;rw[aj (by simpa [hlen] using hil),aR,a1];rfl
  ·exact absurd z (hout i (by omega) a)
 ·by_cases hil:i<ls.length
  ·exact absurd (by unfold Z8;rw[aj (by simpa using hil),aR,aF hil];rfl) (hne ls[i])
  ·exact p2 i (by omega)
 ·rw[p2 i (by have:=hO i hi;omega)];exact cE
 ·rw[p2 i (by have:=hO i hi;omega)] at hp;simp at hp
 ·rw[p2 i (by have:=hO i hi;omega)] at hp;simp at hp
theorem ER{N:List aq}{n:Nat}{O:List Nat}{f:XS}{vs:List V}{H:Hp}{Q:VK}{E:XK}(hO:∀i∈O,n<=i)(h:Xs K (Yv N.length f) n vs H Q E):Zd9 K O f { nx:=λ_ H'=>Q .non H',rt:=Q } (L2.start N vs) H:=by
 obtain⟨hl,ls,fp,l,hi,e,q⟩:=h;obtain⟨out,e1,e2⟩:=Ze e;obtain⟨fps,rel⟩:=GG (N:=N) hO hl hi;refine⟨H,fps,Z8 N.length ls,out,rel,e1,?_⟩
 cases out with
 | nx s'=>
  cases e2;exact λσ' H' sm=>q .non H' [] sm Is.non cE λp hp=>by simp at hp
 | rt v=>
  cases e2;exact λv fp H' sm i d n=>q v H' fp sm i d n
 | bk s'=>cases e2
 | ct s'=>cases e2
end VL
namespace VL
open PySem PySem.Spec PyProof.Rows L2
noncomputable def ES(i:Nat)(f0:XE):XS:=λs=>(f0 s).bind λl0=>match s[i]? with
 | some (some l)=>if ZO l0=aC then some (.rt (.tup [l0,l])) else aA
 | _=>aA
theorem ET{X:Cx}{O:List Nat}{e:bH}{i:Nat}{f0:XE}{pos:da}(he:PE X e (Zdk (Qr (tF X.K f0) (Qr (QC i) K5))))(hi:i∈O:=by decide):VS X O [] (.Return (some e) pos) (ES i f0):=PS.imp (K0 he) λD σ H ⟨H0,fps,s,out,r,e,k⟩=>by
 obtain⟨l0,e0,e⟩:=Ze e;split at e
 case h_2=>cases e
 rename_i l em;split at e
 case isFalse=>cases e
 rename_i pu;cases e;obtain⟨v,hv,iv⟩:=r.is i _ em;refine⟨λ_=>False,s,l0,λ_ z=>z.elim,r.env,e0,λv0 H1 f1 s1 i1 _=>?_⟩;have:=Is.pure _ _ _ pu i1;subst this;refine⟨v,hv,(by show 2<=sizeLine;decide),λq hq=>?_⟩;have sn:Same H1 (upd H1 q (.tup [v0,v])):=Same.new hq _;have r3:=r.grow s1;refine k _ (fps i) _ (r3.same.trans sn) (Is.tup Zp ?_) (r.nd i hi) λz hz=>?_
 ·have h1:=Iss.cons (i1.mono sn) (Iss.one ((iv.mono s1).mono sn));simpa using h1
 ·have:=r3.own i hi z hz;exact⟨this.1,Same.mut sn this.2⟩
end VL
namespace PW
open PySem L2 VL
noncomputable def RY:XS:=(ZY (eP (Zc ZR [Zq 2 [3,1,2,0] (TX aB aB [Za 0,Za 1]) (.many [0,1]) Zx (Zd L8 (Zd Yo (Zd Sb (Zd Zv (Za 3) (Za 4)) (Za 0)) (Zd Sb (Zd Zv (Za 5) (Za 4)) (Za 1))) (Za 2))])))
noncomputable def Wi:List PV->Option PV:=Yv 4 RY
noncomputable def Ol:XS:=(Zj (Zi 1 (Zc UT [Za 0]))
  (Zj (Zi 2 (eP (eC (.int 1))))
  (Zj (Yz [1] (ZE [Zc Zz [Za 0]]) (.one 3) (Zj (Zi 4 (eP (Zd Zv (Za 1) (Za 3))))
  (Zj (Zi 1 (Zq 2 [3,4,2] (Yt aC [Za 1]) (.many [0,1]) Zx (eP (RP (xB (Zd (YW aB) (Za 0) (Za 2))) (Za 1) (Zc Wi [Za 1,Za 3,Za 2,Za 4])))))
  (Zi 2 (eP (Zd Zv (Za 4) (Za 3)))))))
  (ES 1 (Za 2)))))
noncomputable def U1:List PV->Option PV:=Yv 5 Ol
noncomputable def Vd:XS:=(Zj (Zi 2 (Zc U1 [Zq 2 [] (TX aB aB [Za 0,Za 1]) (.many [0,1]) Zx (Zd Vb (Za 0) (YC [Za 1]))]))
  (ZY (Zq 1 [2] (Yg (Zd Zv (Za 2) (eC (.int 1)))) (.one 0) Zx (eP (Zd L8 (Zd Zv (Za 0) (Lr Px (eC (.int 1)))) (Zd Zv (Za 1) (eC (.int 0))))))))
noncomputable def Xi:List PV->Option PV:=Yv 3 Vd
noncomputable def Om:XS:=(ZY (eP (Zc ZR [Zq 1 [1,0] (Yg (Za 2)) (.one 0) Zx (RP (xB (Zd (YW aB) (Za 0) (Za 1))) (Zc Wg [Za 2,Za 1]) (Lr Px (Zd Zv (Zd Zv (Za 2) (Za 1)) (Za 0))))])))
noncomputable def S5:List PV->Option PV:=Yv 3 Om
noncomputable def Wj:XS:=(Zj (Zi 2 (Zq 1 [1] (ZE [Zc Zz [Za 0]]) (.one 0) (xB (Zd (YW aC) (Za 0) (Za 1))) (eP (Za 0))))
  (ZY (eP (Zc ZR [Zq 1 [0,2] (Yg (Za 2)) (.one 0) Zx (Zc S5 [Za 1,Za 0,Za 2])]))))
noncomputable def Yy:List PV->Option PV:=Yv 3 Wj
noncomputable def RZ:XS:=(Zj (Zi 3 (eP (Zd Vb (WM VY (Za 1) VU (Wv (Za 2))) (WM VY (Za 1) (Wv (Zd ZI (Za 2) (eC (.int 1)))) VU))))
  (Zj (Zi 4 (Zc Xi [Zc Yy [Za 0,Za 2],Za 3]))
  (Zj (Vz 4 (Za 2) (eC (.int 0)))
  (ZY (eP (Zc ZR [Za 4]))))))
noncomputable def Ud:List PV->Option PV:=Yv 5 RZ
noncomputable def Ka:XS:=(ZY (eP (Zc ZR [Zq 1 [1] (ZE [Zc Zz [Za 0]]) (.one 0) Zx (RP (xB (Zd (Uw aB) (Za 0) (Za 1))) (Lr Px (eC (.int 1))) (eC (.int 0)))])))
noncomputable def VB:List PV->Option PV:=Yv 2 Ka
noncomputable def Hl:XS:=(Zj (Zi 1 (eP (Zc AS [Za 0])))
  (ZY (eP (Zc ZR [Zq 1 [1] (SO (Za 0)) (.one 0) Zx (Zd Yo (Za 0) (Za 1))]))))
noncomputable def S6:List PV->Option PV:=Yv 2 Hl
end PW
namespace L2
open PySem PySem.Spec PyProof.Rows
abbrev WJ:=aK->cx->List (List Xl×V)->It
end L2
namespace VL
open PySem PySem.Spec PyProof.Rows L2
variable {K:aG}
theorem GH{κ:Type}[DecidableEq κ]{ks:List κ}{k:κ}(h:k∉ks):T8 ks k=ks++[k]:=mN h
theorem GI{κ:Type}[DecidableEq κ]{ks:List κ}{vs:List PV}{k:κ}{v:PV}(h:k∉ks):T9 ks vs k v=vs++[v]:=mN h
end VL
namespace VL
open PySem PySem.Spec PyProof.Rows L2
section
variable {K:aG} {P:bN} {w:bu} {mg:aq->Option aI} {base:b9}
theorem BC{x:aq}{st:bp}{N ps:List aq}{k n:Nat}{O:List Nat}(m:Nat)(f:XS)(D:Def K mg x st)(S:Zw N ps (Zh st))
  (hb:∀(kV doc pm:aI)(an:Option aK)(cdv ct:aI)(us:List aI),us.length=ps.length->iA (ck x x (Xy st) (YG st) (Zh st) .none kV doc pm an cdv ct) ⟨us,[]⟩=pure (ps.zip us))
  (hn:ps.length=n) (hm:N.length=m) (hO:∀i∈O,n<=i)
  (hbody:∀(fa:aK)(cdv:aI)(A:bt)(outer:List jx)(s:aP)(H:Hp)(E:XK),Room k (A.deeper (gW x (Zh st) s.heap.objs.size fa cdv))->GD (Pd LK P w K mg base N x (Zh st) fa cdv A outer s H E).nox O (YG st) f) :
  XQ P w K mg base x ps (Xs K (Yv m f) n) (k+1):=by
 subst hm;refine D.cal S hb (λvs H Q E h=>by rw[hn];exact h.1) λfa cdv A outer s H vs Q E hr h=>⟨_,hbody fa cdv A outer s H E hr,ER hO h⟩
end
theorem BD{K:aG}:RB K Zdq L4:=λH x y a b l fa fb ha hb e Q k=>by
 cases a with
 | lst m=>cases b with
  | lst n=>
   have e:(if m.length+n.length<=10000 then some (PV.lst (m++n)) else aA)=some l:=e;split at e
   case isFalse=>cases e
   rename_i hl;cases e;obtain⟨p,xs,fq,rfl,hp,hi,rfl⟩:=ha.lst_inv;obtain⟨p',ys,fq',rfl,hp',hi',rfl⟩:=hb.lst_inv;refine⟨p,p',xs,ys,rfl,rfl,hp,hp',by rw[hi.len,hi'.len];exact cF (lt_size hl),λq hq=>?_⟩;refine k _ _ (q::(fq++fq')) (Same.new hq _) (Is.lst Zp ((hi.append hi').mono (Same.new hq _))) λr hr=>?_;rcases af.mp hr with rfl | hr
   ·exact .inr (.inr hq)
   ·rcases aa.mp hr with hr | hr
    ·exact .inl (aS _ hr)
    ·exact .inr (.inl (aS _ hr))
  | _=>cases e
 | _=>cases e
theorem BE{X:Cx}{a b:bH}{fa fb:XE}{pos:da}(ha:VE X a fa)(hb:VE X b fb):VE X (.BinOp a .Add b pos) (Zd L4 fa fb):=W3 F3 BD ha hb
end VL
namespace PW
open PySem L2 VL
noncomputable def Oo:XS:=(Zj (Zi 3 (eP (Zd Z2 (Zd Xa (Zd ZI (Zd Z2 (Za 0) (eC (.int 999983))) (Za 1)) (Zd ZI (Za 1) (eC (.int 389)))) (eC (.int 999983)))))
  (Zj (Zi 3 (eP (Zd Z2 (Zd ZI (Zd ZI (Zd Xa (Za 3) (Za 3)) (Zd Xt (Za 0) (eC (.int 999983)))) (Za 1)) (eC (.int 999979)))))
  (ZY (eP (Zd Z2 (Zd Xt (Za 3) (eC (.int 3))) (Za 2))))))
noncomputable def Zu:List PV->Option PV:=Yv 4 Oo
noncomputable def WR:XS:=(Zj (Zi 3 (eP (Zd Zv (Za 1) (Zd Z2 (Za 0) (Zc Zz [Za 1])))))
  (Zj (Zi 0 (eP (Zd Xt (Za 0) (Zc Zz [Za 1]))))
  (Zj (Zi 4 (Yu []))
  (Zj (Zi 5 (Yu []))
  (Zj (Yz [4,5,9] (ZE [Za 3]) (.one 6) (Zj (Vz 4 (Zd Z2 (Za 0) (Zd ZI (Za 6) (eC (.int 1)))) (Za 6))
  (Zi 0 (eP (Zd Xt (Za 0) (Zd ZI (Za 6) (eC (.int 1))))))))
  (Zj (Yz [4,5,9] (Xv [eC (.int 1),Za 3]) (.one 6) (Zj (ZZ 5 (eP (YC [Za 6,Zd Z2 (Za 0) (Za 6)])))
  (Zi 0 (eP (Zd Xt (Za 0) (Za 6))))))
  (Zj (Zi 7 (eP (Zd Xa (Zc UU [Zd RO (Za 3) (eC (.int 1))]) (Zd Z2 (Za 0) (Zd ZI (Zd Yo (Za 2) (Za 3)) (eC (.int 2)))))))
  (Zj (Zi 0 (eP (Zd Xt (Za 0) (Zd ZI (Zd Yo (Za 2) (Za 3)) (eC (.int 2))))))
  (Zj (Yz [4,5,9] (ZE [Za 7]) (.one 6) (Zj (Zi 8 (eP (Zd Z2 (Za 0) (Za 3))))
  (Zj (Zi 0 (eP (Zd Xt (Za 0) (Za 3))))
  (Zj (ZZ 5 (eP (YC [Za 8,Zd Z2 (Zd ZI (Zd ZI (Za 8) (eC (.int 1))) (Zd Z2 (Za 0) (Zd Yo (Za 3) (eC (.int 1))))) (Za 3)])))
  (Zi 0 (eP (Zd Xt (Za 0) (Zd Yo (Za 3) (eC (.int 1))))))))))
  (Zj (Zi 9 (Zq 1 [3] (ZE [Za 3]) (.one 0) Zx (Zd SS (Yu [eC (.int 0)]) (Za 1))))
  (Zj (Yz [9] (Yg (Za 5)) (.many [8,10]) (Zj (Zi 11 (eP (Zd ZI (Zd Zv (Zd Zv (Za 9) (Zd Zv (Za 4) (Za 8))) (Zd Zv (Za 4) (Za 10))) (eC (.int 1)))))
  (Zj (Yp 9 (Zd Zv (Za 4) (Za 8)) (Zd Zv (Za 4) (Za 10)) (Za 11))
  (Yp 9 (Zd Zv (Za 4) (Za 10)) (Zd Zv (Za 4) (Za 8)) (Za 11)))))
  (ZY (eP (Zc ZR [Zq 1 [] (Yg (Za 9)) (.one 0) Zx (Zc ZR [Za 0])]))))))))))))))
noncomputable def WT:List PV->Option PV:=Yv 12 WR
noncomputable def Js:XS:=(ZY (eP (RP (xB (Zd RN (Za 1) (Zc Zz [Za 0]))) (Zd Zv (Za 0) (Za 1)) (eC (.int 0)))))
noncomputable def ZW:List PV->Option PV:=Yv 2 Js
noncomputable def S7:XS:=(Zj (V9 (xB (Zd (YW aB) (Zd Z2 (Zc ZW [Za 0,eC (.int 0)]) (eC (.int 2))) (eC (.int 1)))) (ZY (Zc WT [Zc ZW [Za 0,eC (.int 1)],Za 1,Za 2])) Z6)
  (Zj (Zi 3 (eP (Zd Zv (Za 1) (Zc Zu [Zc ZW [Za 0,eC (.int 0)],eC (.int 1),Zc Zz [Za 1]]))))
  (Zj (Zi 4 (Zq 1 [3] (ZE [Za 3]) (.one 0) Zx (Zd SS (Yu [eC (.int 0)]) (Za 1))))
  (Zj (Zi 5 (eP (eC (.int 0))))
  (Zj (Yz [4] (Xv [eC (.int 1),eC (.int 13)]) (.one 6) (Zj (Zi 7 (Zc ZW [Za 0,Za 6]))
  (Zj (Zi 8 (Zc Zu [Za 7,eC (.int 13),Za 3]))
  (Zj (Zi 9 (eP (Zd Z2 (Zd ZI (Zd ZI (Za 8) (eC (.int 1))) (Zc Zu [Za 7,eC (.int 17),Zc SM [eC (.int 1),Zd Yo (Za 3) (eC (.int 1))]])) (Za 3))))
  (Zj (V9 (xB (Zd RN (Za 6) (Za 3))) (Zj (Zi 8 (eP (Za 6)))
  (Zi 9 (Zc Zu [Za 7,eC (.int 5),Za 6]))) Z6)
  (Zj (Zi 10 (eP (VR (Zd RO (Za 3) (eC (.int 1))) (VR (Zd RN (Za 5) (Za 2)) (Zd RO (Zc Zu [Za 7,eC (.int 3),eC (.int 3)]) (eC (.int 0)))))))
  (V9 (LR (xB (Zd RN (Za 6) (Za 3))) (xB (Za 10))) (Zj (Yp 4 (Za 8) (Za 9) (Zd ZI (Zd Zv (Zd Zv (Za 4) (Za 8)) (Za 9)) (eC (.int 1))))
  (Zj (Yp 4 (Za 9) (Za 8) (Zd Zv (Zd Zv (Za 4) (Za 8)) (Za 9)))
  (Zi 5 (eP (Zd ZI (Za 5) (eC (.int 1))))))) Z6)))))))
  (Zj (Zi 11 (Zc Zu [Zc ZW [Za 0,eC (.int 0)],eC (.int 7),Za 3]))
  (Zj (Zi 4 (Zq 1 [11] (Yg (Zd L4 (WM Xe (Za 4) (Wv (Za 11)) VU) (WM Xe (Za 4) VU (Wv (Za 11))))) (.one 0) Zx (Zd Ub (WM Xe (Za 0) (Wv (Za 1)) VU) (WM Xe (Za 0) VU (Wv (Za 1))))))
  (ZY (eP (Zc ZR [Zq 1 [] (Yg (Za 4)) (.one 0) Zx (Zc ZR [Za 0])]))))))))))
noncomputable def BF:List PV->Option PV:=Yv 12 S7
noncomputable def Oq:XS:=(Zj (Zi 3 (Yu []))
  (Zj (Yz [3] (ZE [Zc Zz [Za 0]]) (.one 4) (Zj (Zi 5 (eP (Zd Zv (Za 1) (Za 4))))
  (Zj (Yz [3] (ZE [Zc Zz [Za 0]]) (.one 6) (Zj (Zi 7 (eP (Zd Yo (Zd Zv (Za 2) (Za 4)) (Zd Zv (Za 2) (Za 6)))))
  (Zi 5 (eP (Zd Yo (Za 5) (Zd Xa (Zd Zv (Zd Zv (Za 0) (Za 4)) (Za 6)) (Za 7)))))))
  (ZZ 3 (eP (Za 5))))))
  (ZY (eP (Zc ZR [Za 3])))))
noncomputable def U2:List PV->Option PV:=Yv 8 Oq
noncomputable def Ot:XS:=(ZY (eP (Zc ZR [Zq 1 [1] (ZE [Zc Zz [Za 0]]) (.one 0) Zx (RP (xB (Zd (YW aB) (Za 0) (Za 1))) (eC (.int 1)) (eC (.int 0)))])))
noncomputable def S8:List PV->Option PV:=Yv 2 Ot
noncomputable def Sj:XS:=(Zj (V9 (LR (SH (xB (Zc Vv [Za 0,eC (.ty "tuple")]))) (xB (Zd (YW aC) (Zc Zz [Za 0]) (Za 1)))) (ZY (eP (eC (.bl aB)))) Z6)
  (ZY (eP (Zc Gq [Zq 1 [] (SO (Za 0)) (.one 0) Zx (Zc Uc [Za 0])]))))
noncomputable def XB:List PV->Option PV:=Yv 2 Sj
end PW
namespace VL
open PySem PySem.W PyProof.Rows
section
variable {r:Nat->Int} {n:Nat}
noncomputable def at0(p:Array Nat)(i:Nat):Nat:=p.getD i 0
end
end VL
namespace VL
open PySem PySem.Spec PyProof.Rows L2
variable {K:aG}
instance (x:aq) (n:Int):Decidable (MulOk x n):=by unfold MulOk;infer_instance
end VL
namespace VL
open PySem PySem.Spec PyProof.Rows L2
variable {K:aG}
noncomputable def EU(j i:Nat)(fk:XE):XS:=λs=>(fk s).bind λkk=>(Gy kk).bind λk=>(Jn s i).bind λm=>
 (gd (ZH m&&decide (0<=k/\k<10000/\m.length<=10000))).bind λ_=>(m[k.toNat]?).bind λl=>some (.nx ((s.set i (some (.lst (m.take k.toNat++m.drop (k.toNat+1))))).set j (some l)))
theorem GJ{m:List PV}(h:ZH m=aC){k:Nat}{l:PV}(e:m[k]?=some l):ZO l=aC:=by rw[Wc,bM] at h;exact h l (b8 e)
section
variable {X:Cx} {O:List Nat} {st:bp} {i j:Nat} {fk:XE}
theorem Zb1(h:PS X st (Mc (tBM X.K "list" F1 (QC i) (Qr (tF X.K fk) K5)) (T2 j)))(hi:i∈O:=by decide)(hj:j∉O:=by decide):VS X O [j,i] st (EU j i fk):=PS.imp h λD σ H ⟨H0,fps,s,out,r,e,k⟩=>by
 obtain⟨kk,e0,e⟩:=Ze e;obtain⟨ki,ek,e⟩:=Ze e;obtain⟨m,em,e⟩:=Ze e;obtain⟨_,eg,e⟩:=Ze e;obtain⟨l,el,e⟩:=Ze e;rw[UX ek] at e0;have em:=Ua em;have hc:=Vy eg;simp only[av,decide_eq_true_eq] at hc;obtain⟨pm,k0,k1,hlen⟩:=hc;cases e;have hij:i≠j:=λz=>hj (z▸hi);obtain⟨p,xs,fq,hv,hp,hm,ef⟩:=r.lst_at hi em;refine⟨.ref p,hv,tyL hp,λ_=>False,s,_,λ_ z=>z.elim,r.env,e0,λz H1 fz s1 i1 _=>?_⟩;obtain⟨rfl,_⟩:=i1.int_inv;have hm':=(hm.mono s1).pureEq pm;obtain⟨y,f1,hy,iy,_⟩:=hm'.get el;have hkl:ki.toNat<xs.length:=(aU.mp hy).1;have:=Is.pure _ _ _ (GJ pm el) iy;subst this;refine⟨p,xs,ki,ki.toNat,y,rfl,rfl,s1 _ _ hp,by omega,by omega,?_,hy,?_⟩
 ·have q:(0:Int)<=ki/\ki<(xs.length:Int):=by omega
  simp[kj,show ¬ki<0 by omega,q.1,q.2]
 obtain⟨g1,a1,_⟩:=hm'.take ki.toNat;obtain⟨g2,a2,_⟩:=hm'.drop (ki.toNat+1);have a1:=a1.pureEq (PL _ pm);have a2:=a2.pureEq (PM _ pm);rw[gR];have r2:=(r.grow s1).relist hi em ef hv (a1.append a2) (by simp) λq hq=>by simp at hq
 have mu:=(r.grow s1).own i hi p (by rw[ef];exact ah);have iy':Is X.K (L2.upd H1 p (.lst (xs.take ki.toNat++xs.drop (ki.toNat+1)))) l y []:=Is.tr (TK.upd' mu.2) _ _ _ (λq hq=>by simp at hq) iy;have r3:=r2.set (i:=j) iy' (λz=>absurd z hj) (λq _ _ p hp=>by simp at hp);refine k _ _ _ r3 λq hq=>?_;have hq1:q≠j:=λz=>hq (by rw[z];simp);have hq2:q≠i:=λz=>hq (by rw[z];simp);exact⟨by rw[bJ,mN (bO hq1)],by rw[Yl hq1];exact .inl (Yl hq2)⟩
end
end VL
set_option maxHeartbeats 1000000
set_option maxHeartbeats 3200000
namespace VX
open PySem PySem.Spec PyProof.Rows L2 VL
abbrev XR:=ZS->Option aq
noncomputable def tFX(K:aG)(O:List Nat)(fx:XR)(E:XK):TS:=λ_ σ H=>∃H0 fps s n,Rel K O H0 fps s σ H/\fx s=some n/\∀C H',gq K cB n=some (some (.ref C))->Same H0 H'->E (.ref C) aA H'
noncomputable def VX(X:Cx)(O:List Nat)(E:XK)(st:bp)(fx:XR):Prop:=PS X st (tFX X.K O fx E)
abbrev XF:=ZS->Option (aq×PV)
noncomputable def sEx(f:XE):XS:=λs=>(f s).map λ_=>.nx s
theorem Zea{X:Cx}{O:List Nat}{e:bH}{f:XE}{pos:da}(he:VE X e f)(hs:gF e aA pos.line X.env=pure aB:=by rfl):VS X O [] (.Expr e pos) (sEx f):=PS.imp (Xm he hs) λD σ H ⟨H0,fps,s,out,r,e,k⟩=>by obtain⟨l,e1,rfl⟩:=map_some e;exact⟨λ_=>False,s,l,λ_ z=>z.elim,r.env,e1,λv H' fp sm is _=>k fps σ H' (r.grow sm) λj _=>⟨rfl,Kep.refl _⟩⟩
end VX
namespace PW
open PySem L2 VL
noncomputable def Ou:XS:=(Zj (Zi 1 (Yu []))
  (Zj (Yz [1] (ZE [Zc Zz [Za 0]]) (.one 2) (Yz [1] (Xv [Zd ZI (Za 2) (eC (.int 1)),Zc Zz [Za 0]]) (.one 3) (XA 1 (Zq 1 [2,3] (ZE [Zd Zv (Zd Zv (Za 0) (Za 2)) (Za 3)]) (.one 0) Zx (eP (YC [Za 1,Za 2]))))))
  (ZY (Za 1))))
noncomputable def Ww:List PV->Option PV:=Yv 4 Ou
noncomputable def Ov:XS:=(Zj (Zi 2 (Zc Ww [Za 0]))
  (Zj (Zi 3 (Lr Vc (Zc Zz [Za 0])))
  (Zj (Zi 4 (Yu []))
  (Zj (Zi 5 (Lr Vc (Zc Zz [Za 2])))
  (Zj (Zi 6 (eP (Zd Xt (Za 1) (eC (.int 2)))))
  (Zj (Yz [4,5] (ZE [Zc Zz [Za 2]]) (.one 7) (Zj (Zi 8 (Zc Zu [Zd ZI (Za 1) (Zd Xa (Zd Xa (eC (.int 53)) (Za 7)) (Za 7)),Zd ZI (eC (.int 47)) (Za 7),Zc Zz [Za 5]]))
  (Zj (V9 (xB (Zd (YW aB) (Zd Z2 (Za 1) (eC (.int 2))) (eC (.int 1)))) (Zj (Zi 8 (eP (Zd Z2 (Za 6) (Zc Zz [Za 5]))))
  (Zi 6 (eP (Zd Xt (Za 6) (Zc Zz [Za 5]))))) Z6)
  (Zj (EU 8 5 (Za 8))
  (Zj (LZ (.many [9,10]) (Zd Zv (Za 2) (Za 8)))
  (V9 (xB (Zd (YW aC) (Zd Zv (Za 3) (Za 9)) (Zd Zv (Za 3) (Za 10)))) (Zj (Zi 11 (eP (Zd Zv (Za 3) (Za 9))))
  (Zj (Zi 3 (Zq 1 [11,3,10] (Yg (Za 3)) (.one 0) Zx (eP (RP (xB (Zd (YW aB) (Za 0) (Za 1))) (Zd Zv (Za 2) (Za 3)) (Za 0)))))
  (ZZ 4 (eP (Za 8))))) Z6))))))
  (ZY (eP (Zc ZR [Zc WQ [Za 4]])))))))))
noncomputable def U3:List PV->Option PV:=Yv 12 Ov
noncomputable def R0:XS:=(Zj (Zi 2 (Zd SS (Yu [eC (.int 0)]) (Zc Zz [Za 0])))
  (Zj (Yz [2] (SO (Za 1)) (.one 3) (UY 2 (Za 3) (Zd ZI (Zd Zv (Za 2) (Za 3)) (eC (.int 1)))))
  (ZY (eP (Zc ZR [Za 2])))))
noncomputable def Ue:List PV->Option PV:=Yv 4 R0
noncomputable def U4:XS:=(Zj (Zi 2 (Zc Ww [Za 0]))
  (ZY (Zq 1 [2,1] (ZE [Zc Zz [Za 2]]) (.one 0) (xB (Zd (Uw aC) (Za 0) (Za 2))) (eP (Zd Zv (Za 1) (Za 0))))))
noncomputable def Wx:List PV->Option PV:=Yv 3 U4
noncomputable def U5:XS:=(Zj (Zi 3 (Zc Wx [Za 0,Za 1]))
  (Zj (V9 (xB (Zd (YW aB) (Zd Z2 (Za 2) (eC (.int 2))) (eC (.int 1)))) (Zj (Zi 4 (eP (Zd Xt (Zd Xt (Za 2) (eC (.int 2))) (eC (.int 479001600)))))
  (ZY (eP (Zc ZR [Zq 1 [3,4] (ZE [Zc Zz [Za 3]]) (.one 0) Zx (Zd Zv (Zd Zv (Za 1) (Za 0)) (Zd Bf (Zd Eg (Za 2) (Za 0)) (eC (.int 1))))])))) Z6)
  (ZY (eP (Zc ZR [Zq 1 [3,2] (ZE [Zc Zz [Za 3]]) (.one 0) Zx (Zd Zv (Zd Zv (Za 1) (Za 0)) (Zc Zu [Zd ZI (Za 2) (Zd Xa (Zd Xa (eC (.int 59)) (Za 0)) (Za 0)),Zd ZI (eC (.int 61)) (Za 0),eC (.int 2)]))])))))
noncomputable def U6:List PV->Option PV:=Yv 5 U5
end PW
namespace VL
open PySem PySem.Spec PyProof.Rows L2
noncomputable def BG(K:aG):V->List V->Hp->VK->Prop:=λx vs H Q=>∃(p:aK) (ns:List Int) (k:Int),x = .ref p/\vs=[.int k]/\SqL K H p (ns.map V.int)/\Q (.int ((ns.count k:Nat):Int)) H
noncomputable def eqK(k:Int):aI->Bool
 | .int c _=>c==k
 | _=>aB
theorem Ox:∀{ns:List Int}{m9:List aI},Vals (ns.map V.int) m9->∀k:Int,m9.countP (eqK k)=ns.count k
 | [],m9,r,k=>by cases r;rfl
 | n::ns,m9,r,k=>by
  rw[ag] at r
  cases r with
  | cons r1 r2=>
   obtain⟨t,rfl⟩:=r1;rw[List.countP_cons,Ox r2 k,gg];rfl
theorem GK{X:Cx}:MtR X "list.count" (BG X.K):=by
 intro m4 s σ H x vs v us Q I rx rv h;obtain⟨p,ns,k,rfl,rfl,hq,q⟩:=h;cases rx;obtain⟨u,rfl,ru⟩:=T4 rv;obtain⟨t,rfl⟩:=ru;obtain⟨m9,r,pl,hz⟩:=I.list hq;obtain⟨o,n,ho,hc,hd,hs⟩:=pl;obtain⟨cls,dd,data,sl⟩:=o;simp only at hc hd hs;subst hc hd hs;refine eQ F.slot_list_count ⟨_,ho,rfl⟩ F.entry_list_count (F.args_list_count_2 _ _) (SeqAt.list_countAt p m9.toArray n aA sl (.int k t) (eqK k)) ⟨ho,λy hy=>?_,?_⟩
 ·have hy':y∈m9:=by simpa using hy
  obtain⟨j,hj,e⟩:=dM hy';have hl:=r.length;rw[aH] at hl;obtain⟨u2,hu,ru⟩:=r.get (i:=j) (x:=.int ns[j]) (by rw[aR,aF (by omega)];rfl);obtain⟨t2,rfl⟩:=ru;rw[aF hj,e] at hu;cases hu;exact kP _ _ _ _
 ·rw[show m9.toArray.toList=m9 by simp,Ox r k];exact⟨.int _,H,I.tok _,⟨_,rfl⟩,q⟩
noncomputable def VC:PV->PV->Option PV
 | .lst l,.int k=>(YQ l).map λns=>PV.int ((ns.count k:Nat):Int)
 | _,_=>aA
section
variable {X:Cx} {o e:bH} {fo fe:XE} {apos cpos:da}
theorem NY(ho:VE X o fo)(he:VE X e fe)
  (hbase:attributeBase o "count" X.env (eval o X.env)=eval o X.env:=by rfl)
  (hfew:((dD cpos (aQ [e] X.env)).all (λx=>!x.1)&&(backToKw cpos (kz [] X.env)).all (λx=>x.1.isSome)
   &&decide (([e]:List bH).length+([]:List lM).length+(if([]:List lM).isEmpty then 0 else 1)<30))=aC:=by rfl)
  (hline:(apos.endLine==cpos.line)=aC:=by rfl) (hs:aQ [e] X.env=(aB,eval e X.env)::aQ [] X.env:=by rfl) (hplain:(dD cpos (aQ [] X.env)).any (·.1)=aB:=by rfl) :
  VE X (.Call (.Attribute o "count" apos) [e] [] cpos) (Zd VC fo fe):=
 PE.imp (Vt F.plainAttrs_list F.slot_list_count F.type_list_count GK ho (Xz he Uu hs) hbase hfew hline hs hplain) λσ H Q ⟨Rm,s,l,hd,env,e,k⟩=>by
  obtain⟨x',y',e1,e2,e⟩:=V8 e;refine⟨Rm,s,x',hd,env,e1,λv H1 fp s1 i1 n1=>?_⟩;unfold VC at e;split at e
  ·obtain⟨ns,e3,rfl⟩:=map_some e;have em:=YH e3;subst em;obtain⟨p,xs,fq,rfl,hp,hi,_⟩:=i1.lst_inv;obtain⟨rfl,rfl⟩:=hi.iL;refine⟨.inl ⟨rfl,_,.inl (.inl hp)⟩,Rm,s,[_],λq hq=>Same.mut s1 (hd q hq),env.mono s1,by show(fe s).bind _=_;rw[e2];rfl,λvs H2 fq s2 i2 n2=>?_⟩;obtain⟨w,rfl,iw⟩:=i2.one_inv;obtain⟨rfl,_⟩:=iw.int_inv;exact⟨p,ns,_,rfl,rfl,.inl (.inl (s2 _ _ hp)),k _ _ [] (s1.trans s2) (Is.int _) λr hr=>by simp at hr⟩
  ·cases e
end
theorem Inv.freezeL{X:Cx}{m4:List (aK×cx)}{σ:QF}{H:Hp}{s:aP}{d:aK}{xs:List V}{o:cx}(I:L2.Inv X m4 σ H s)(hd:H d=some (.lst xs))(ho:s.heap.get? d=some o) :
  L2.Inv X m4 σ (upd H d (.frz o (.lst xs))) s:=by
 have ne:∀b u,H b=some u->(∀k,u≠.lst k)->b≠d:=λb u q n z=>by rw[z,hd] at q;exact n _ (az q).symm
 have nn:∀b,H b=aA->b≠d:=λb q z=>by rw[z,hd] at q;cases q
 have un:Un X.fs [] H (upd H d (.frz o (.lst xs))) s.heap s.heap:=
  ⟨λb o q _ _ _=>q,λb o q _ _ _=>⟨o.slots,q⟩,λb o q n _=>by rw[upd_ne (nn b n)];exact n,λb o q _=>⟨o,q⟩,
   λb xs q=>by rw[upd_ne (ne b _ q λ_ z=>nomatch z)];exact q,λb o u q=>by rw[upd_ne (ne b _ q λ_ z=>nomatch z)];exact q,λb ps q=>⟨#[],by rw[upd_ne (ne b _ q λ_ z=>nomatch z),q];simp⟩⟩
 have hok:HOk X.prog X.w (upd H d (.frz o (.lst xs))) s.heap:=λb u q=>by
  have hown:∀c y,H c=some (.own y)->upd H d (.frz o (.lst xs)) c=some (.own y):=λc y z=>by rw[upd_ne (ne c _ z λ_ z=>nomatch z)];exact z
  have htup:∀c xs',H c=some (.tup xs')->upd H d (.frz o (.lst xs)) c=some (.tup xs'):=λc y z=>by rw[upd_ne (ne c _ z λ_ z=>nomatch z)];exact z
  by_cases hb:b=d
  ·subst hb;rw[Zp] at q;cases q;exact⟨ho,(I.hok b _ hd).stay (λ_ _ _ z=>z) (λc z=>hown c _ z) htup λc u z=>by rw[upd_ne (ne c _ z λ_ z=>nomatch z)];exact z⟩
  ·rw[upd_ne hb] at q;exact(I.hok b u q).stay (λ_ _ _ z=>z) (λc z=>hown c _ z) htup λc u z=>by rw[upd_ne (ne c _ z λ_ z=>nomatch z)];exact z
 have:=I.un (t':=s.toks) un hok;exact this
noncomputable def Oy(f:XE):XE:=λs=>(f s).bind λl=>match l with
 | .lst m=>(YQ m).map λns=>.cst (iL ns)
 | _=>aA
theorem Jt{X:Cx}{e:bH}{f:XE}(h:VM X e f):VE X e (Oy f):=by
 intro m4 s σ H Q I ⟨Rm,st,l,hd,env,ev,k⟩;obtain⟨m,e1,e2⟩:=Ze (show(f st).bind _=_ from ev)
 cases m with
 | lst ms=>
  obtain⟨ns,e3,e4⟩:=map_some (show(YQ ms).map _=_ from e2);subst e4;have em:=YH e3;subst em;refine YO (h m4 s σ H (λv H1=>∃p,v = .ref p/\H1 p=some (.lst (ns.map V.int))/\Same H H1/\H p=aA) I ⟨st,.lst (iL ns),env.free,e1,λv H' fp sm is nd nw=>?_⟩) λu s1 ⟨v,H1,I1,rv,p,hv,hp,sm,hn⟩=>?_
  ·obtain⟨p,xs,fq,rfl,hp,hi,rfl⟩:=is.lst_inv;obtain⟨rfl,rfl⟩:=hi.iL;exact⟨p,rfl,hp,sm,(nw p (by simp)).1⟩
  ·subst hv;obtain⟨z,m9,n,r,hl,e⟩:=I1.lstM hp;refine⟨.ref p,_,Inv.freezeL I1 hp e,rv,k _ _ [] (λb o q=>?_) ?_ (by simp)⟩
   ·rw[upd_ne (λw=>by rw[w,hn] at q;cases q)];exact sm b o q
   ·unfold Is;exact⟨p,_,rfl,.inl ⟨_,Zp⟩,Iss.ofInts _⟩
 | _=>cases e2
noncomputable def Zeb(K:aG):R2:=λx y H Q=>∃l b xs zs,x = .ref l/\y = .ref b/\SqL K H l xs/\SqL K H b zs/\xs.length+zs.length<=sizeLine/\∀p,H p=aA->Q (.ref p) (upd H p (.lst (xs++zs)))
theorem BH{X:Cx}:T3 X (cy .Add) (Zeb X.K):=by
 intro m4 s σ H x y v u Q I rx ry h;obtain⟨l,b,xs,zs,rfl,rfl,hH,hB,hz,q⟩:=h;cases rx;cases ry;obtain⟨m9,r,pl,z⟩:=I.list hH;obtain⟨its2,r2,pl2,z2⟩:=I.list hB;obtain⟨⟨cls,dd,data,sl⟩,n,ho,hc,hd,hs⟩:=pl;obtain⟨⟨cls2,dd2,data2,sl2⟩,n2,ho2,hc2,hd2,hs2⟩:=pl2;have hl:=r.length;have hl2:=r2.length;simp only at hc hd hs hc2 hd2 hs2;subst hc hd hs hc2 hd2 hs2;refine jD ⟨_,ho,rfl⟩ ⟨_,ho2,rfl⟩ noFill_list_add seq_list_add PySem.F.slot_list_add PySem.F.entry_list_add (PySem.F.args_list_add_2 _ _) (list_addW l b m9.toArray its2.toArray n n2 _ _ _ _ (by rw[aT,aT];omega)) ⟨ho,ho2,?_⟩;have ea:m9.toArray++its2.toArray=(m9++its2).toArray:=by simp
 rw[ea];exact⟨.ref _,_,I.lnew (t':=s.toks) (r.append r2) (by rw[aX];omega),rfl,q _ I.fresh⟩
noncomputable def NZ:PV->PV->Option PV
 | .cst m,.lst n=>(YQ m).bind λns=>(YQ n).bind λms=>if ns.length+ms.length<=10000 then some (.lst (iL (ns++ms))) else aA
 | _,_=>aA
theorem BI{X:Cx}{a b:bH}{fa fb:XE}{pos:da}(ha:VE X a fa)(hb:VM X b fb):VM X (.BinOp a .Add b pos) (Zd NZ fa fb):=PE.imp (Im BH ha hb) λσ H Q ⟨s,l,env,e,k⟩=>by
 obtain⟨x',y',e1,e2,e⟩:=V8 e;refine⟨λ_=>False,s,x',λ_ z=>z.elim,env,e1,λx H1 f1 s1 i1 _=>⟨s,y',env.mono s1,e2,λy H2 f2 s2 i2 d2 n2=>?_⟩⟩
 cases x' with
 | cst m=>cases y' with
  | lst n=>
   obtain⟨ns,em,e⟩:=Ze (show(YQ m).bind _=_ from e);obtain⟨ms,en,e⟩:=Ze e;split at e
   case isFalse=>cases e
   rename_i hl;cases e;have:=YH em;subst this;have:=YH en;subst this;obtain⟨p,xs,rfl,hp,hi⟩:=i1.cst_inv;obtain⟨p',ys,fq',rfl,hp',hi',rfl⟩:=i2.lst_inv;obtain⟨rfl,rfl⟩:=hi.iL;obtain⟨rfl,rfl⟩:=hi'.iL;refine⟨p,p',_,_,rfl,rfl,(hp.tr (Same.tk2 s2)).sq,.inl (.inl hp'),by simp only[aH];exact cF (lt_size hl),λq hq=>?_⟩;refine k _ _ [q] (s1.trans (s2.trans (Same.new hq _))) ?_ (by simp) λr hr=>?_
   ·rw[<-bB];exact Is.lst Zp (Iss.ofInts _)
   ·rw[aO.mp hr];exact⟨Same.off (s1.trans s2) hq,by rw[Zp];exact bW⟩
  | _=>cases e
 | _=>cases e
noncomputable def Ju(fk fv:XE):XE:=λs=>(fk s).bind λk=>(fv s).bind λv=>(QJ k).bind λkt=>if ZO v=aC then some (.dK [kt] [v]) else aA
theorem EV{X:Cx}{e f:bH}{pos:da}{fk fv:XE}(hk:VE X e fk)(hv:VE X f fv):VM X (.Dict [some e] [f] pos) (Ju fk fv):=PE.imp (C3 (F6 hk hv C2) rfl rfl (λz=>nomatch z) (by simp)) λσ H Q ⟨s,l,env,e,k⟩ p hp=>by
 obtain⟨kk,e2,e⟩:=Ze e;obtain⟨v,e1,e⟩:=Ze e;obtain⟨kt,e3,e⟩:=Ze e;split at e
 case isFalse=>cases e
 rename_i pl;cases e;have s0:Same H (upd H p (.dK [])):=Same.new hp _;refine⟨λ_=>False,s,kk,λ_ z=>z.elim,env.mono s0,e2,λz H1 fz s1 i2 _=>⟨λ_=>False,s,v,λ_ z=>z.elim,env.mono (s0.trans s1),e1,λy H2 fy s2 i1 _=>?_⟩⟩;obtain⟨rfl,rfl⟩:=QV e3 i2;have z1:=Is.pure _ _ _ pl i1;subst z1;have s12:=s1.trans s2;have h2:H2 p=some (.dK []):=s12 _ _ Zp;refine⟨h2,[(kt,y)],rfl,by simp,?_⟩;have mu:V4 (H2 p):=by rw[h2];exact bW
 have sw:Same H (upd H2 p (.dK [(kt,y)])):=λq u hq=>by
  have ne:q≠p:=λz=>by rw[z,hp] at hq;cases hq
  rw[upd_ne ne];exact s12 q u (s0 q u hq)
 refine k (.ref p) _ [p] sw (Is.dK Zp rfl ?_) (by simp) λq hq=>?_
 ·exact Iss.one (Is.tr (TK.upd' mu) _ _ _ (λq hq=>by simp at hq) i1)
 ·rw[aO.mp hq];exact⟨hp,by rw[Zp];exact bW⟩
end VL
namespace L2
open PySem PySem.Spec PyProof.Rows
noncomputable def Y9(X:Cx)(N':List aq)(scope:eB)(cl:List (aq×aK))(C:aK)(s:aP)(H:Hp)(ex:List aK):Cx:=
 { X with N:=N',s₀:=s,H₀:=H,env:=iE scope cl C X.env,outer:=X.stack,ex:=ex,fn:=λ_=>aC,pn:=[],xe:=λ_ _=>False }
theorem XC{x y:aq}{a c:aK}(h:([(x,a)]:List (aq×aK)).lookup y=some c):c=a:=by
 simp only[bT,lJ] at h;split at h
 ·exact(az h).symm
 ·cases h
theorem VD{x y:aq}{a c:aK}(h:([(x,a)]:List (aq×aK)).lookup y=some c):y=x:=by
 simp only[bT,lJ] at h;split at h
 ·rename_i e;simpa using e
 ·cases h
structure Ug(scope:eB)(x:aq):Prop where
 kind:scope.kind = .function
 cf:∀n,kg n scope.names []=[(x,n)]
 pc:∀h,pushCells h scope.names=h.push { cls:=.type "cell",data:=.cell aA }
 nofree:∀y∈scope.names,y.2≠.free
 cells:∀y∈scope.names,y.2 = .cell->y.1=x
 names:∀y∈scope.names,y.2 = .local->scope.names.lookup y.1=some .local
theorem EW{M:Model}{A:bt}{E:aI->aP->Prop}{s:aP}{scope:eB}{globals:aK}{qual:aq}{outer:jx}{x:aq}{Q:jx->aP->Prop}(S:Ug scope x)
  (hQ:Q (newEnv scope s.heap.objs.size globals [(x,s.heap.objs.size+1)] qual aA .none (some outer) gz) { s with heap:=(s.heap.push { cls:=.type "dict",data:=.dict #[] }).push { cls:=.type "cell",data:=.cell aA } }) :
  ay M A (iG scope globals [] [] qual aA .none (some outer)) Q E s:=by
 simp only[iG,kM,if_true];refine aM (wpAny_alloc ?_);refine aM (wpAny_layCells _ (λname kind cells=>by cases hkc:kind==dP<;>simp[hkc]) _ _ _ _ ?_);rw[jd];refine aM (aw (aw ?_));have e:(s.heap.push { cls:=.type "dict",data:=.dict #[] }).objs.size=s.heap.objs.size+1:=cC ..;rw[S.pc];simp only[S.cf,e];exact hQ
section
variable {X:Cx} {tg m8 iter:bH} {m7:List bH} {scope:eB} {pos:da} {x:aq} {wi:TI} {g:TG} {tt:TT} {te:TE}
theorem GL{m4:List (aK×cx)}{σ:St}{H2:Hp}{s2:aP}{fp:List aK}{h₁:b9}{tk:Nat}{C:aK}(S:Ug scope x)(I2:Inv X m4 σ H2 s2)(f2:∀b∈fp,Uq X m4 H2 b)(hfp:∀b∈fp,b<s2.heap.objs.size)
  (hC:s2.heap.objs.size<=C) (hns:h₁.Ns C λ_=>aA) (hcl:h₁.IsCell (C+1) aA) (old:∀b o,s2.heap.get? b=some o->h₁.get? b=some o) :
  Inv (Y9 X [x] scope [(x,C+1)] C s2 H2 fp) [] (Z9 1 [] σ) H2 { s2 with heap:=h₁,toks:=tk }:=by
 have stk:=I2.stkSub
 have okk:(Y9 X [x] scope [(x,C+1)] C s2 H2 fp).Ok:=by
  refine⟨I2.ok.mod,S.kind,I2.ok.glob,I2.ok.blt,hC,λy z c h1 h2=>(VD h1).trans (VD h2).symm,λy hy=>?_,λy c _ e=>?_,I2.ok.hd,I2.ok.frames,.inl rfl,λb hb=>⟨?_,λy c e=>?_⟩,I2.bs,?_,λb o e hb=>?_,λb hb z=>?_,I2.stack,I2.stkFree,I2.ok.tab.un I2.base,λ_ z=>absurd rfl z⟩
  ·have hy:(relabel scope X.env).names.lookup y=some .cell\/(relabel scope X.env).names.lookup y=some .free:=hy
   have ex:y=x:=by
    have:∃k',(relabel scope X.env).names.lookup y=some k'/\(k' = .cell\/k' = .free):=by
     rcases hy with h | h
     ·exact⟨_,h,.inl rfl⟩
     ·exact⟨_,h,.inr rfl⟩
    obtain⟨k',e,hk'⟩:=this;obtain⟨k,e0⟩:=WK e;have e1:=XW (env:=X.env) e0;have e:(scope.names.map λ(n,k)=>if(k==bZ&&X.env.scope.kind==.function&&X.env.kindOf n==some .cell) then(n,dP) else(n,k)).lookup y=some k':=e;rw[e1] at e;have m:=cJ e0
    cases k with
    | free=>exact absurd rfl (S.nofree _ m)
    | cell=>exact S.cells _ m rfl
    | _=>simp at e;subst e;rcases hk' with z | z<;>cases z
   refine⟨C+1,?_⟩;show([(x,C+1)]:List (aq×aK)).lookup y=_;rw[ex];simp[bT]
  ·show s2.heap.objs.size<=c;rw[XC e];exact gM hC
  ·exact bQ (ar (hfp b hb) hC)
  ·rw[XC e];exact eO (ar (hfp b hb) (gM hC))
  ·exact bX I2.ok.bsz I2.sz
  ·rcases(f2 b hb).2.2.2.1 with z | z
   ·exact I2.ok.noex b o e z
   ·exact absurd (ar (aV (I2.ok.bs b o e).1) z) (cH _)
  ·rcases af.mp (stk b z) with e | e
   ·exact(f2 b hb).2.1 e
   ·exact(f2 b hb).2.2.1 e
 refine⟨okk,rfl,I2.bare,Un.kept old,⟨_,hns,λi y v h1 h2 h3=>?_⟩,λy c e=>?_,I2.hok.fresh hC,λy c e=>?_,λp hp=>absurd (show p∈([]:List (aK×cx)) from hp) (by simp),I2.hok.kept old,rfl⟩
 ·have h2:([aA]:St)[i]?=some (some v):=h2
  cases i with
  | zero=>cases h2
  | succ i=>cases h2
 ·rw[XC e];exact⟨_,hcl⟩
 ·rw[XC e];exact I2.hok.fresh (by omega)
theorem Kb{m4:List (aK×cx)}{σ:St}{H2:Hp}{s2:aP}{fp:List aK}{it:aK}{tn:Nat->b9->Prop}{J:It}{Fin:List V->Hp->Prop}{RR:aI->aK->Result->aP->Prop}{E:aI->aP->Prop}
  (hcalm:X.calm=aC) (S:Ug scope x)
  (hg:∀cl C s H ex,PG (Y9 X [x] scope cl C s H ex) tg g) (ht:∀cl C s H ex,IB (Y9 X [x] scope cl C s H ex) m7 tt) (he:∀cl C s H ex,PE (Y9 X [x] scope cl C s H ex) m8 te)
  (I2:Inv X m4 σ H2 s2) (T:Lx X.prog X.w X.K tg J fp it tn) (st2:tn 0 s2.heap) (f2:∀b∈fp,Uq X m4 H2 b)
  {W:Nat->Nat->List V->Hp->Prop} {m0:Nat} (w0:W 0 m0 [] H2)
  (turn:∀i m ys H,W i m ys H->ys.length<=sizeLine/\
   ((J.stop i H/\Fin ys H)\/
    (J.go i H/\∃N:List V->Hp->Prop,(∀ys' H',N ys' H'->∃m',m'<m/\W (i+1) m' ys' H')/\
     ∀x H',J.yld i H x H'->g x (Z9 1 [] σ) H' λσ2 H2=>σ2.drop 1=(Z9 1 [] σ).drop 1/\tt σ2 H2 λb H3=>if b=aC then te σ2 H3 λy H4=>N (ys++[y]) H4 else N ys H3)))
  (hRR:∀(D C:aK)(oC:cx)(m:aq->Option aI)(s':aP)(H':Hp)(ys:List V),Inv X (m4++[(C,oC)]) σ (upd H' D (.lst ys)) s'->s'.heap.get? C=some oC->s'.heap.Ns C m->Uq X m4 (upd H' D (.lst ys)) C->H' D=aA->Fin ys H'->RR (.ref D) C (.ok .next) s') :
  ay (model X.prog X.w) X.A (newList []) (λacc s₃=>ay (model X.prog X.w) X.A (iG scope X.env.globals [] [] X.env.qual aA .none (some X.env)) (λcenv s₄=>
   gm (model X.prog X.w) X.A (.compStart (.ListComp m8 [⟨tg,iter,m7,0⟩] scope pos) 0 (.ref it) acc { cenv with scope:=relabel scope X.env }) (RR acc cenv.locals) s₄) E s₃) E s2:=by
 have hfp:∀b∈fp,b<s2.heap.objs.size:=λb hb=>by obtain⟨o,e,_⟩:=T.obj 0 s2.heap st2 b hb;exact aV e
 refine cq (EW S ?_)
 dsimp only
 generalize hH2:s2.heap.push { cls:=.type "list",dict:=aA,data:=.seq ([]:List aI).toArray }=G2;have hC:G2.objs.size=s2.heap.objs.size+1:=by rw[<-hH2,cC]
 have hns₀:=(b9.Ns.new G2 (.type "dict")).push { cls:=.type "cell",data:=.cell aA };generalize hh₁:(G2.push { cls:=.type "dict",data:=.dict #[] }).push { cls:=.type "cell",data:=.cell aA }=h₁ at hns₀ ⊢;have ext:∀b o,G2.get? b=some o->h₁.get? b=some o:=λb o e=>hh₁▸aJ _ (aJ _ e);have hcl:h₁.IsCell (G2.objs.size+1) aA:=by refine⟨{ cls:=.type "cell",data:=.cell aA },?_,rfl⟩;rw[<-hh₁,show G2.objs.size+1=(G2.push { cls:=.type "dict",data:=.dict #[] }).objs.size from(cC ..).symm];exact ao _ rfl
 generalize hCC:G2.objs.size=C at hns₀ hC hcl ⊢;generalize hDD:s2.heap.objs.size=D at hC ⊢;have hDC:D≠C:=by omega
 have below:∀b,b<s2.heap.objs.size->b≠C/\b≠D:=λb hb=>by rw[hDD] at hb;exact⟨bQ (by omega),bQ hb⟩
 have old:∀b o,s2.heap.get? b=some o->h₁.get? b=some o:=λb o e=>ext b o (hH2▸aJ _ e)
 have hacc:h₁.get? D=some { cls:=.type "list",data:=.seq ([]:List aI).toArray 0 }:=by
  have e0:G2.get? D=some { cls:=.type "list",data:=.seq ([]:List aI).toArray 0 }:=by rw[<-hH2,<-hDD];exact ao _ rfl
  exact ext _ _ e0
 have I0:=λtk=>GL (tk:=tk) S I2 f2 hfp (C:=C) (by omega) hns₀ hcl old
 -- what stays aC of the iterator's objects in the block
 have loop:∀s₃:aP,s₃={ s2 with heap:=h₁,toks:=s2.toks }->
   gm (model X.prog X.w) X.A (.compLoop (.ListComp m8 [⟨tg,iter,m7,0⟩] scope pos) 0 (.ref it) (.ref D) (iE scope [(x,C+1)] C X.env)) (RR (.ref D) C) s₃:=by
  rintro s₃ rfl;generalize hY:Y9 X [x] scope [(x,C+1)] C s2 H2 fp=Y at I0
  have stat:∀{H':Hp}{pn:List (aK×cx)},(∀b∈fp,H' b=aA)->(∀p∈pn,∀b∈fp,p.1≠b)->∀b∈fp,Uq Y pn H' b:=λ{H' pn} hn hp b hb=>by
   subst hY;refine⟨hn b hb,(below b (hfp b hb)).1,λz=>?_,.inl hb,λx c e=>?_,λp hp'=>hp p hp' b hb⟩
   ·exact(I0 0).ok.exfs b hb z
   ·exact((I0 0).ok.exf b hb).2 x c e
  have dfp:∀b∈fp,D≠b:=λb hb=>bO (below b (hfp b hb)).2;have hcellD:∀x c,Y.env.cells.lookup x=some c->c≠D:=λy c e z=>by subst hY;have e:=XC e;have q:C+1=D:=e.symm.trans z;omega
  have hfsD:D∉Y.fs:=λz=>by subst hY;obtain⟨_,o,ho,_⟩:=(I0 0).ok.funs.mem z;have:=aV ho;have:D<s2.heap.objs.size:=this;omega
  have eL:Y.env.locals=C:=by subst hY;rfl
  have eS:Y.s₀=s2:=by subst hY;rfl
  have eP:Y.pn=[]:=by subst hY;rfl
  refine SD (λn s'=>∃i ys m9 nn H',Inv Y [] (Z9 1 [] σ) H' s'/\tn i s'.heap/\(∀b∈fp,H' b=aA)/\s'.heap.get? D=some { cls:=.type "list",data:=.seq m9 nn }/\Vals ys m9.toList/\H' D=aA/\W i n ys H') ?_ m0
   ⟨0,[],#[],0,H2,I0 _,T.keep _ _ _ st2 λb _ o e=>old b o e,λb hb=>(f2 b hb).1,hacc,.nil,I2.hok.fresh (by omega),w0⟩
  rintro n s3 ⟨i,ys,m9,nn,H3,I3,st3,fr3,oD,vD,nD,w3⟩;obtain⟨hlen,cases3⟩:=turn i n ys H3 w3;have hsize:m9.size<=sizeLine:=by have:=vD.length;simp only[dJ] at this;omega
  have pD:Inv Y [(D,{ cls:=.type "list",data:=.seq m9 nn })] (Z9 1 [] σ) H3 s3:=I3.pins_of λp hp=>by rw[aO.mp hp];exact⟨oD,nD,by rw[eL];exact hDC,hfsD,λv z=>by cases z⟩
  have YP:Y.prog=X.prog:=by subst hY;rfl
  have Yw:Y.w=X.w:=by subst hY;rfl
  have YK:Y.K=X.K:=by subst hY;rfl
  have YA:Y.A=X.A:=by subst hY;rfl
  have Yx:Y.xe=λ_ _=>False:=by subst hY;rfl
  have Ye:Y.env=iE scope [(x,C+1)] C X.env:=by subst hY;rfl
  have ne1:∀p∈[((D,{ cls:=.type "list",data:=.seq m9 nn }):aK×cx)],∀b∈fp,p.1≠b:=λp hp b hb=>by rw[aO.mp hp];exact dfp b hb
  rcases cases3 with⟨stop,qn⟩ | ⟨go,N,hN,step⟩
  ·have d:=T.done Y YP Yw YK (by subst hY;exact hcalm) i _ s3 _ H3 (jL (model X.prog X.w) X.A (iE scope [(x,C+1)] C X.env) λe s'=>RR (.ref D) C (.error e) s') pD (stat fr3 ne1) st3 stop;rw[YA] at d;refine YO d λr s4 ⟨hr,I4⟩=>?_;subst hr;show RR (.ref D) C (.ok .next) s4;obtain⟨oD4,nD4,_⟩:=I4.pin (D,_) (by rw[eP];exact ah);obtain⟨m,hn,_⟩:=I4.loc;rw[eL] at hn;obtain⟨oC,es,ep,hoC,hdC,hrest⟩:=id hn;have hfreeC:H3 C=aA:=by have:=I4.free;rw[eL] at this;exact this
   have un:Un (Ni X.stack) fp H2 H3 s2.heap s4.heap:=by have:=I4.base;subst hY;exact this
   have lt2:∀b o,s2.heap.get? b=some o->b≠D:=λb o e=>(below b (aV e)).2
   have un':Un (Ni X.stack) fp H2 (upd H3 D (.lst ys)) s2.heap s4.heap:=by
    refine⟨un.keep,un.slot,λb o e n hx=>?_,un.there,λb xs e=>?_,λb o u e=>?_,λb ps e=>?_⟩
    ·rw[upd_ne (lt2 b o e)];exact un.free b o e n hx
    ·have q:=un.tups b xs e;rw[upd_ne (Zr q nD4)];exact q
    ·have q:=un.frzs b o u e;rw[upd_ne (Zr q nD4)];exact q
    ·obtain⟨more,q⟩:=un.tbls b ps e;exact⟨more,by rw[upd_ne (Zr q nD4)];exact q⟩
   have hok4:HOk X.prog X.w H3 s4.heap:=by have:=I4.hok;rw[YP,Yw] at this;exact this
   have hok':HOk X.prog X.w (upd H3 D (.lst ys)) s4.heap:=λb u q=>by
    by_cases hb:b=D
    ·subst hb;rw[Zp] at q;cases q;exact⟨hlen,m9.toList,nn,vD,by simpa using oD4⟩
    ·rw[upd_ne hb] at q;exact(hok4 b u q).stay (λc v _ z=>z) (λc z=>by rw[upd_ne (Zr z nD4)];exact z) (λc xs z=>by rw[upd_ne (Zr z nD4)];exact z) λc u z=>by rw[upd_ne (Zr z nD4)];exact z
   have os4:s4.os=s2.os:=by rw[I4.os,eS]
   have I5:Inv X m4 σ (upd H3 D (.lst ys)) s4:=I2.call' os4 un' hok' I4.bare λb hb=>⟨(f2 b hb).2.2.2.1,(f2 b hb).2.1,(f2 b hb).2.2.2.2.1,(f2 b hb).2.2.2.2.2⟩;have CL:C≠X.env.locals:=λz=>by exact(below _ I2.lt).1 z.symm
   have fpC:Uq X m4 (upd H3 D (.lst ys)) C:=I2.fpOk (by omega) (by rw[upd_ne (bO hDC)];exact hfreeC);refine hRR D C oC m s4 H3 ys (I5.pins_of λp hp=>?_) hoC hn fpC nD4 qn;rcases aa.mp hp with z | z
   ·exact I5.pin p (aY _ z)
   ·rw[aO.mp z];exact⟨hoC,fpC.1,fpC.2.1,fpC.2.2.1,λv z=>by rw[hdC] at z;cases z⟩
  ·have d:=T.item Y YP Yw YK (by subst hY;exact hcalm) i _ s3 _ H3 (λ_ _=>False) pD (stat fr3 ne1) st3 go;rw[YA] at d;refine bj d (λr s4 ⟨u,hr,h4⟩=>?_) λ_ _ z=>z.elim;subst hr;refine bj h4 (λ_ s5 ⟨x5,H5,I5,r5,y5,st5,fr5⟩=>?_) λ_ _ z=>z.elim;have I5':=I5.pinned (stat fr5 ne1) (T.obj _ _ st5);have hg':=hg [(x,C+1)] C s2 H2 fp;have ht':=ht [(x,C+1)] C s2 H2 fp;have he':=he [(x,C+1)] C s2 H2 fp;rw[hY] at hg' ht' he';have a6:=hg' _ s5 _ H5 x5 u _ I5' r5 (step x5 H5 y5);rw[YP,Yw,YA,Ye,Yx] at a6;refine bj a6 (λ_ s6 ⟨σ6,H6,I6,dr,q6⟩=>?_) λ_ _ z=>z.elim;have a7:=ht' _ s6 σ6 H6 _ I6 q6;rw[YP,Yw,YA,Ye,Yx] at a7;refine bj a7 (λok s7 ⟨H7,I7,q7⟩=>?_) λ_ _ z=>z.elim
   have back:∀{H8:Hp}{s8:aP},Inv Y ([((D,{ cls:=.type "list",data:=.seq m9 nn }):aK×cx)]++UQ fp s5.heap) σ6 H8 s8->
     s8.heap.get? D=some { cls:=.type "list",data:=.seq m9 nn }/\H8 D=aA/\tn (i+1) s8.heap/\(∀b∈fp,H8 b=aA):=λ{H8 s8} I8=>by
    obtain⟨e1,e2,_⟩:=I8.pin (D,{ cls:=.type "list",data:=.seq m9 nn }) (by rw[eP];exact ah);refine⟨e1,e2,T.keep _ _ _ st5 λb hb o e=>(I8.pin (b,o) (by rw[eP];exact aS _ (Wb hb e))).1,λb hb=>?_⟩;obtain⟨o,e,_⟩:=T.obj _ _ st5 b hb;exact(I8.pin (b,o) (by rw[eP];exact aS _ (Wb hb e))).2.1
   have unp:∀{H8:Hp}{s8:aP},Inv Y ([((D,{ cls:=.type "list",data:=.seq m9 nn }):aK×cx)]++UQ fp s5.heap) σ6 H8 s8->Inv Y [] (Z9 1 [] σ) H8 s8:=λ{H8 s8} I8=>
    (I8.pins_of (pins':=[]) λp hp=>absurd hp (by simp)).weak (by
     have e1:=(I0 0).len;have e2:=I8.len;rw[e1,e2]) (NG dr)
   cases ok with
   | false=>
    rw[mN au] at q7;show ∃m,m<n/\_;obtain⟨e1,e2,e3,e4⟩:=back I7;obtain⟨m',hm,w7⟩:=hN _ _ q7;exact⟨m',hm,i+1,ys,m9,nn,H7,unp I7,e3,e4,e1,vD,e2,w7⟩
   | true=>
    rw[mM rfl] at q7;show ay _ _ _ _ _ _;have a8:=he' _ s7 σ6 H7 _ I7 q7;rw[YP,Yw,YA,Ye,Yx] at a8;refine bj a8 (λyv s8 ⟨y,H8,I8,ry,q8⟩=>?_) λ_ _ z=>z.elim;obtain⟨e1,e2,e3,e4⟩:=back I8;obtain⟨m',hm,w8⟩:=hN _ _ q8;refine append_at e1 (λh9 hs9 hD9=>?_) hsize;have I9:Inv Y [] (Z9 1 [] σ) H8 { s8 with heap:=h9 }:=(unp I8).turned (t':=s8.toks) (it:=D) (λb o hb e=>hs9.extBut b o hb e) e2 (by rw[eL];exact hDC) (.inr (by rw[eS];omega)) hcellD (λp hp=>absurd (show p∈([]:List (aK×cx)) by rw[eP] at hp;exact hp) (by simp));refine⟨m',hm,i+1,ys++[y],m9.push yv,nn+1,H8,I9,T.keep _ _ _ e3 λb hb o e=>hs9.extBut b o (bO (dfp b hb)) e,e4,hD9,?_,e2,w8⟩;rw[k8];exact vD.append (.cons ry .nil)
 exact jM (loop _ rfl) (T.self X.A 0 _ _ _ (T.keep _ _ _ st2 λb _ o e=>old b o e) (loop _ rfl))
theorem EX(hcalm:X.calm=aC)(hi:PI X tg iter wi)(S:Ug scope x)
  (hg:∀cl C s H ex,PG (Y9 X [x] scope cl C s H ex) tg g) (ht:∀cl C s H ex,IB (Y9 X [x] scope cl C s H ex) m7 tt) (he:∀cl C s H ex,PE (Y9 X [x] scope cl C s H ex) m8 te)
  (hs:∀x,ba iter X.env x=pure x:=by intro _;rfl):PE X (.ListComp m8 [⟨tg,iter,m7,0⟩] scope pos) (Pj 1 [] wi g tt te):=by
 intro m4 s σ H Q I h;rw[eval_ListComp]
 have hcf:iD scope X.env=pure []:=by
  rw[VQ (λy hy hf=>absurd hf (S.nofree y hy))]
  have go:∀(l:List (aq×dk)),(∀y∈l,y.2≠.free)->Y7 X.env.cells l []=[]:=by
   intro l
   induction l with
   | nil=>intro _;rfl
   | cons a l ih=>
    intro h;obtain⟨n,k⟩:=a;have hk:(k==bZ)=aB:=by simpa using h (n,k) ah
    show Y7 X.env.cells l (if(k==bZ)=aC then _ else [])=[];rw[mN (by rw[hk];exact au)];exact ih λy hy=>h y (aS _ hy)
  rw[go _ S.nofree]
 refine fX (use:=aA) (cl:=[]) rfl hs hcf S.kind S.names (YO (hi m4 s σ H _ I h) λv s1 h1=>YO h1 λitv s2 h2=>?_);obtain⟨it,fp,tn,J,H2,e,I2,T,st2,f2,W,⟨m0,w0⟩,turn⟩:=h2;subst e;refine Kb (Fin:=λys H=>∀p,H p=aA->Q (.ref p) (upd H p (.lst ys))) (RR:=λacc C=>compPost (model X.prog X.w) X.A X.xe aA (EP X m4 σ Q) acc C) hcalm S hg ht he I2 T st2 f2 w0 turn ?_;intro D C oC m s' H' ys I5 hoC hn fpC nD fin;refine⟨m,hn,λh' hs'=>⟨.ref D,upd H' D (.lst ys),?_,rfl,fin D nD⟩⟩;exact(I5.unpinned (pl:=[(C,oC)])).turned (t':=s'.toks) (it:=C) (λb o hb e=>hs'.extBut b o hb e) fpC.1 fpC.2.1 fpC.2.2.2.1 fpC.2.2.2.2.1 fpC.2.2.2.2.2
end
end L2
namespace VL
open PySem PySem.Spec PyProof.Rows L2
section
variable {X:Cx} {tg m8 iter:bH} {m7:List bH} {scope:eB} {pos:da} {fi:XL} {T:Tgt} {ft:XT} {fe:XE}
theorem EY(x:aq)(hcalm:X.calm=aC)(hi:VI X tg iter fi)(S:Ug scope x)
  (hg:∀cl C s H ex,PG (Y9 X [x] scope cl C s H ex) tg (gT X.K T)) (ht:∀cl C s H ex,VTs (Y9 X [x] scope cl C s H ex) m7 ft) (he:∀cl C s H ex,VE (Y9 X [x] scope cl C s H ex) m8 fe)
  (hT:∀i∈T.slots,i<1:=by decide) (hs:∀x,ba iter X.env x=pure x:=by intro _;rfl):VE X (.ListComp m8 [⟨tg,iter,m7,0⟩] scope pos) (Zq 1 [] fi T ft fe):=
 PE.imp (EX hcalm hi S hg (λcl C s H ex=>(show IB (Y9 X [x] scope cl C s H ex) m7 (LP X.K ft) from ht cl C s H ex)) (λcl C s H ex=>(show PE (Y9 X [x] scope cl C s H ex) m8 (tF X.K fe) from he cl C s H ex)) hs) (IT hT)
end
section
variable {X:Cx} {x:aq} {ps:List aq} {k:Nat} {p pos:da}
theorem EZ{D:List PV->Option PV}(C:XQ X.prog X.w X.K X.mg X.base x ps (Xs X.K D 0) k)(hr:Room k X.A)(hg:Gl X x)
  (hdb:(x==("__debug__" : aq))=aB:=by decide):VM X (.Call (.Name x p) [] [] pos) (Zc D []):=by
 obtain⟨f,fd,a,b,c,d⟩:=C.ex;refine PE.imp (FY d hr hg a b c .nil AF hdb) λσ H Q ⟨s,l,env,e,q⟩=>?_;obtain⟨ls,e1,e2⟩:=Ze e;cases e1;show Xs X.K D 0 [] H Q E0;exact⟨rfl,[],[],l,.nil,e2,λv H2 fq s2 i2 d2 n2=>q v H2 fq s2 i2 d2 n2⟩
end
variable {K:aG}
noncomputable def Oz(H:Hp)(e:aK):Hp:=λb=>if b=e then aA else H b
theorem MJ{H:Hp}{e:aK}:Oz H e e=aA:=by unfold Oz;rw[mM rfl]
theorem X7{H:Hp}{e b:aK}(h:b≠e):Oz H e b=H b:=by unfold Oz;rw[mN h]
theorem TB{H:Hp}{e b:aK}(h:H b=aA):Oz H e b=aA:=by
 unfold Oz;split
 ·rfl
 ·exact h
theorem BJ{H:Hp}{e b:aK}{o:HO}(h:Oz H e b=some o):b≠e/\H b=some o:=by
 unfold Oz at h;split at h
 ·cases h
 ·rename_i n;exact⟨n,h⟩
theorem Ve{H:Hp}{e b:aK}{o u:HO}(he:H e=some o)(hb:H b=some u)(d:u≠o):b≠e:=λz=>by rw[z,he] at hb;exact d (az hb).symm
section
variable {P:bN} {w:bu} {H H':Hp} {h h':b9} {e:aK} {eo:cx} {fs:List aK}
theorem E1(x:HOk P w H h)(he:H e=some (.frz eo (.own 1))):HOk P w (Oz H e) h:=λa o ha=>by
 obtain⟨ne,ha⟩:=BJ ha
 exact(x a o ha).stay (λ_ _ _ q=>q) (λb q=>by rw[X7 (Ve he q (by nofun))];exact q) (λb xs q=>by rw[X7 (Ve he q (by nofun))];exact q)
  λb u q=>by rw[X7 (Ve he q (by intro z;cases z))];exact q
theorem Hm(x:HOk P w H h)(he:H e=aA)(ho:h.get? e=some eo):HOk P w (upd H e (.frz eo (.own 1))) h:=λb u q=>by
 by_cases z:b=e
 ·subst z;rw[Zp] at q;cases q;exact⟨ho,_,ho⟩
 ·rw[upd_ne z] at q;exact(x b u q).stay (λ_ _ _ r=>r) (λc r=>by rw[upd_ne (Zr r he)];exact r) (λc xs r=>by rw[upd_ne (Zr r he)];exact r) λc v r=>by rw[upd_ne (Zr r he)];exact r
theorem TabsH.rm{mg:aq->Option aI}{base:b9}(t:TabsH K mg base H)(he:H e=some (.frz eo (.own 1))):TabsH K mg base (Oz H e):=λq c hq hc=>by obtain⟨Pt,ps,tk,e1,e2,e3,e4⟩:=t q c hq hc;exact⟨Pt,ps,tk,e1,by rw[X7 (Ve he e2 (by nofun))];exact e2,e3,e4⟩
theorem TabsH.add{mg:aq->Option aI}{base:b9}(t:TabsH K mg base H)(he:H e=aA):TabsH K mg base (upd H e (.frz eo (.own 1))):=λq c hq hc=>by obtain⟨Pt,ps,tk,e1,e2,e3,e4⟩:=t q c hq hc;exact⟨Pt,ps,tk,e1,by rw[upd_ne (Zr e2 he)];exact e2,e3,e4⟩
theorem BK(u:Un fs [] (Oz H e) H' h h')(he:H e=some (.frz eo (.own 1)))(hn:H' e=aA):Un fs [] H (upd H' e (.frz eo (.own 1))) h h' where
 keep b o q n hf hx:=u.keep b o q (TB n) hf hx
 slot b o q n hf hx:=u.slot b o q (TB n) hf hx
 free b o q n hx:=by rw[upd_ne (λz=>by rw[z,he] at n;cases n)];exact u.free b o q (TB n) hx
 there:=u.there
 tups b xs q:=by have ne:=Ve he q (by nofun);rw[upd_ne ne];exact u.tups b xs (by rw[X7 ne];exact q)
 frzs b o v q:=by
  by_cases z:b=e
  ·subst z;rw[he] at q;cases q;exact Zp
  ·rw[upd_ne z];exact u.frzs b o v (by rw[X7 z];exact q)
 tbls b ps q:=by have ne:=Ve he q (by nofun);obtain⟨more,z⟩:=u.tbls b ps (by rw[X7 ne];exact q);exact⟨more,by rw[upd_ne ne];exact z⟩
theorem Zb2(u:Un fs [] (upd H e (.frz eo (.own 1))) H' h h')(he:H e=aA)(ho:h.get? e=some eo)(hf:e∉fs)(hok:HOk P w H' h'):Un fs [] H (Oz H' e) h h':=by
 have h1:H' e=some (.frz eo (.own 1)):=u.frzs e eo _ Zp;have h2:h'.get? e=some eo:=(hok e _ h1).1;refine⟨λb o q n hb hx=>?_,λb o q n hb hx=>?_,λb o q n hx=>?_,u.there,λb xs q=>?_,λb o v q=>?_,λb ps q=>?_⟩
 ·by_cases z:b=e
  ·subst z;rw[ho] at q;cases q;exact h2
  ·exact u.keep b o q (by rw[upd_ne z];exact n) hb hx
 ·have z:b≠e:=λz=>hf (z▸hb);exact u.slot b o q (by rw[upd_ne z];exact n) hb hx
 ·by_cases z:b=e
  ·subst z;exact MJ
  ·exact TB (u.free b o q (by rw[upd_ne z];exact n) hx)
 ·have z:=Zr q he;rw[X7 z];exact u.tups b xs (by rw[upd_ne z];exact q)
 ·have z:=Zr q he;rw[X7 z];exact u.frzs b o v (by rw[upd_ne z];exact q)
 ·have z:=Zr q he;obtain⟨more,y⟩:=u.tbls b ps (by rw[upd_ne z];exact q);exact⟨more,by rw[X7 z];exact y⟩
end
mutual
def Y3:PV->Bool
 | .non=>aC
 | .bl _=>aC
 | .int _=>aC
 | .str _=>aC
 | .ty _=>aC
 | .exc _=>aB
 | .exf _ _=>aB
 | .clo _ _=>aB
 | .tup l=>Wk l
 | .lst l=>Wk l
 | .cst l=>Wk l
 | .dK _ l=>Wk l
 | .dT _ l=>Wk l
def Wk:List PV->Bool
 | []=>aC
 | x::r=>Y3 x&&Wk r
end
theorem Rd.rm{H:Hp}{e:aK}{eo:cx}(he:H e=some (.frz eo (.own 1))){p:aK}{u:HO}(hu:u≠.own 1)(hf:∀o v,u≠.frz o v)(r:Rd H p u):Rd (Oz H e) p u:=by
 rcases r with r | ⟨o,r⟩
 ·exact .inl (by rw[X7 (Ve he r (hf _ _))];exact r)
 ·exact .inr ⟨o,by rw[X7 (Ve he r (by intro z;cases z;exact hu rfl))];exact r⟩
mutual
theorem Is.rm{H:Hp}{e:aK}{eo:cx}(he:H e=some (.frz eo (.own 1))):∀(l:PV)(v:V)(fp:List aK),Y3 l=aC->Is K H l v fp->Is K (Oz H e) l v fp
 | .non,_,_,_,h=>by simpa only[Is] using h
 | .bl _,_,_,_,h=>by simpa only[Is] using h
 | .int _,_,_,_,h=>by simpa only[Is] using h
 | .str _,_,_,_,h=>by simpa only[Is] using h
 | .ty _,_,_,_,h=>by simpa only[Is] using h
 | .exc _,_,_,hp,_=>by simp[Y3] at hp
 | .exf _ _,_,_,hp,_=>by simp[Y3] at hp
 | .clo _ _,_,_,hp,_=>by simp[Y3] at hp
 | .tup l,v,fp,hp,h=>by simp only[Is] at h ⊢;obtain⟨p,xs,e1,h1,hi⟩:=h;exact⟨p,xs,e1,by rw[X7 (Ve he h1 (by nofun))];exact h1,Iss.rm he l xs fp (by simpa only[Y3] using hp) hi⟩
 | .lst l,v,fp,hp,h=>by simp only[Is] at h ⊢;obtain⟨p,xs,fq,e1,h1,hi,e2⟩:=h;exact⟨p,xs,fq,e1,by rw[X7 (Ve he h1 (by nofun))];exact h1,Iss.rm he l xs fq (by simpa only[Y3] using hp) hi,e2⟩
 | .cst l,v,fp,hp,h=>by
  simp only[Is] at h ⊢;obtain⟨p,xs,e1,h1,hi⟩:=h;refine⟨p,xs,e1,?_,Iss.rm he l xs fp (by simpa only[Y3] using hp) hi⟩;rcases h1 with⟨o,h1⟩ | h1
  ·exact .inl ⟨o,by rw[X7 (Ve he h1 (by intro z;cases z))];exact h1⟩
  ·exact .inr h1
 | .dK ks l,v,fp,hp,h=>by simp only[Is] at h ⊢;obtain⟨p,m5,fq,e1,h1,hk,hi,e2⟩:=h;exact⟨p,m5,fq,e1,Rd.rm he (λz=>HO.noConfusion z) (λ_ _ z=>HO.noConfusion z) h1,hk,Iss.rm he l _ fq (by simpa only[Y3] using hp) hi,e2⟩
 | .dT ks l,v,fp,hp,h=>by simp only[Is] at h ⊢;obtain⟨p,m5,fq,e1,h1,hk,hi,e2⟩:=h;exact⟨p,m5,fq,e1,Rd.rm he (λz=>HO.noConfusion z) (λ_ _ z=>HO.noConfusion z) h1,hk,Iss.rm he l _ fq (by simpa only[Y3] using hp) hi,e2⟩
theorem Iss.rm{H:Hp}{e:aK}{eo:cx}(he:H e=some (.frz eo (.own 1))):∀(l:List PV)(xs:List V)(fp:List aK),Wk l=aC->Iss K H l xs fp->Iss K (Oz H e) l xs fp
 | [],_,_,_,h=>by simpa only[Iss] using h
 | l::ls,xs,fp,hp,h=>by simp only[Wk,av] at hp;obtain⟨x,r,f1,f2,e1,h1,h2,e2⟩:=h.inv;subst e1 e2;exact Iss.cons (Is.rm he l x f1 hp.1 h1) (Iss.rm he ls r f2 hp.2 h2)
end
structure OA(N ps:List aq)(L:Pp):Prop where
 kind:L.scope.kind = .function
 co:L.scope.isCoroutine=aB
 gen:L.scope.isGenerator=aB
 nocell:∀y∈L.scope.names,y.2≠.cell
 nd:N.Nodup
 eq:N=ps++[L.free]
 par:∀x∈ps,L.scope.names.lookup x=some .local
 fre:L.scope.names.lookup L.free=some .free
 one:∀y∈L.scope.names,y.2 = .free->y.1=L.free
 qn:QB L.qual=aB
noncomputable def E2(P:bN)(w:bu)(K:aG)(mg:aq->Option aI)(base:b9)(N:List aq)(L:Pp)(f c e:aK)(A:bt)(outer:List jx)(s:aP)(H:Hp):Cx where
 prog:=P
 w:=w
 K:=K
 mg:=mg
 base:=base
 A:=A.deeper (gu L.qual L.scope s.heap.objs.size f (.ref c) [(L.free,e)])
 N:=N
 s₀:=s
 H₀:=H
 env:=gu L.qual L.scope s.heap.objs.size f (.ref c) [(L.free,e)]
 outer:=outer
 stack:=gu L.qual L.scope s.heap.objs.size f (.ref c) [(L.free,e)]::outer
 ex:=[]
 calm:=aC
 fn:=λ_=>aB
 pn:=[]
 xe:=λ_ _=>False
theorem E3:∀{ps:List aq}{us:List aI}{i:Nat}{x:aq}{u:aI},ps.Nodup->ps[i]?=some x->us[i]?=some u->(ps.zip us).reverse.lookup x=some u:=by
 intro ps
 induction ps with
 | nil=>intro us i x u _ h _;simp at h
 | cons p r ih=>
  intro us i x u nd hx hu
  cases us with
  | nil=>simp at hu
  | cons v us=>
   rw[dC,List.reverse_cons,List.lookup_append]
   cases i with
   | zero=>
    have e1:p=x:=by simpa using hx
    have e2:v=u:=by simpa using hu
    subst e1 e2
    have nm:(r.zip us).reverse.lookup p=aA:=by
     rw[List.lookup_eq_none_iff];intro q hq;have:=(fj (List.mem_reverse.mp hq)).1;simp only[beq_eq_false_iff_ne,ne_eq,kq,bne_iff_ne]
     first
      | (intro z;rw[<-z] at this;exact(bG.mp nd).1 this)
      | (simp;intro z;rw[<-z] at this;exact(bG.mp nd).1 this)
    rw[nm];simp[bT]
   | succ i=>
    rw[ih (bG.mp nd).2 (by simpa using hx) (by simpa using hu)];rfl
end VL
namespace VL
open PySem PySem.Spec PyProof.Rows L2
variable {K:aG}
section
variable {P:bN} {w:bu} {mg:aq->Option aI} {base:b9}
theorem BL{N ps:List aq}{L:Pp}{f c e:aK}{A:bt}{outer:List jx}{s:aP}{H:Hp}{us:List aI}{vs:List V}{x:V}{u:aI}{h₁:b9}{tk:Nat}
  (S:OA N ps L) (hd:A.handled=aA) (e0:Env0 P w K mg base A outer s H) (hl:vs.length=ps.length) (r:Vals vs us) (he:H e=aA) (hc:s.heap.IsCell e (some u)) (rx:RelV x u)
  (hns:h₁.Ns s.heap.objs.size (λy=>(ps.zip us).reverse.lookup y)) (old:∀b o,s.heap.get? b=some o->h₁.get? b=some o) :
  Inv (E2 P w K mg base N L f c e A outer s H) [] (vs.map some++[some x]) H { s with heap:=h₁,toks:=tk }:=by
 have noA:∀b:aK,b∉(E2 P w K mg base N L f c e A outer s H).ex:=λb z=>absurd (show b∈([]:List aK) from z) (by simp);have ndP:ps.Nodup:=by have:=S.nd;rw[S.eq] at this;exact(cU.mp this).1
 have hcl:h₁.IsCell e (some u):=hc.keeps old
 refine⟨⟨e0.mod,S.kind,rfl,rfl,aZ _,λy z a h1 h2=>(VD h1).trans (VD h2).symm,λy hy=>?_,λy a z=>(by cases z),λ_=>hd,j9 e0.frames,.inr ⟨rfl,rfl⟩,λb z=>absurd z (noA b),e0.bs,e0.bsz,λb _ _=>noA b,λb z=>absurd z (noA b),e0.funs,e0.frf,e0.tab,λq _ hq hn=>?_⟩,
  rfl,e0.bare,Un.kept old,⟨_,hns,λi y v h1 h2 h3=>?_⟩,λy a h=>?_,e0.hok.fresh (aZ _),λy a h=>?_,λp hp=>absurd (show p∈([]:List (aK×cx)) from hp) (by simp),e0.hok.kept old,?_⟩
 ·have hy:L.scope.names.lookup y=some .cell\/L.scope.names.lookup y=some .free:=hy;rcases hy with hy | hy
  ·exact absurd rfl (S.nocell _ (cJ hy))
  ·have ey:y=L.free:=S.one _ (cJ hy) rfl;refine⟨e,?_⟩;show([(L.free,e)]:List (aq×aK)).lookup y=_;rw[ey];simp[bT]
 ·have:q=L.qual:=(Ip (show L.qual++_=q++_ from hq)).symm;rw[this,S.qn] at hn;cases hn
 ·have h1:N[i]?=some y:=h1;rw[S.eq] at h1;by_cases hi:i<vs.length
  ·rw[aj (by simpa using hi),aR] at h2;rw[aj (by omega)] at h1
   cases q:vs[i]? with
   | none=>rw[q] at h2;cases h2
   | some a=>
    rw[q] at h2;cases h2;obtain⟨z,hz,rv⟩:=r.get q;exact⟨z,rv,.inl ⟨S.par y (b8 h1),E3 ndP h1 hz⟩⟩
  ·rw[bF (by simpa using hi),aH] at h2;rw[bF (by omega)] at h1
   have e1:i-vs.length=0:=by
    cases q:i-vs.length with
    | zero=>rfl
    | succ n=>rw[q] at h2;simp at h2
   have e2:i-ps.length=0:=by omega
   rw[e1] at h2;rw[e2] at h1;have e3:x=v:=by simpa using h2
   have e4:L.free=y:=by simpa using h1
   subst e3 e4;refine⟨u,rx,.inr ⟨.inr S.fre,e,?_,hcl⟩⟩;show([(L.free,e)]:List (aq×aK)).lookup L.free=_;simp[bT]
 ·have h:([(L.free,e)]:List (aq×aK)).lookup y=some a:=h;rw[XC h];exact⟨_,hcl⟩
 ·have h:([(L.free,e)]:List (aq×aK)).lookup y=some a:=h;rw[XC h];exact he
 ·show _=N.length;rw[S.eq];simp[hl]
noncomputable def spL(K:aG)(L:Pp)(f:aK)(D:PV->List PV->Option PV)(n:Nat):Sp:=λvs H Q _=>vs.length=n/\∃l ls u x fp fps r,CloAt H L (.ref f) u/\RelV x u/\Is K H l x fp/\Y3 l=aC/\Iss K H ls vs fps/\Wk ls=aC/\D l ls=some r/\ZO r=aC/\
 ∀v H',Same H H'->Is K H' r v []->Q v H'
noncomputable def Hn(P:bN)(w:bu)(K:aG)(mg:aq->Option aI)(base:b9)(k:Nat)(L:Pp)(D:PV->List PV->Option PV)(n:Nat):Prop:=
 ∀(A:bt)(outer:List jx)(s:aP)(H:Hp)(f:aK)(us:List aI)(vs:List V)(Q:VK)(E:XK),Room k A->Env0 P w K mg base A outer s H->Vals vs us->spL K L f D n vs H Q E->
  gm (model P w) A (.call (.ref f) ⟨us,[]⟩) (CR LK outer P w H s Q E) s
theorem Env0.rm{A:bt}{outer:List jx}{s:aP}{H:Hp}{e:aK}{eo:cx}(e0:Env0 P w K mg base A outer s H)(he:H e=some (.frz eo (.own 1))):Env0 P w K mg base A outer s (Oz H e):=
 ⟨e0.frames,e0.mod,λb o q=>⟨(e0.bs b o q).1,TB (e0.bs b o q).2⟩,e0.bsz,e0.funs,λb hb=>TB (e0.frf b hb),TabsH.rm e0.tab he,E1 e0.hok he,e0.bare⟩
theorem Zb3{N ps:List aq}{L:Pp}{k n:Nat}(f:XE)(S:OA N ps L)
  (hb:∀(cl:List (aq×aK))(pm cdv ct:aI)(us:List aI),us.length=ps.length->iA (fA "<lambda>" L.qual L.params L.body L.scope cl pm cdv ct) ⟨us,[]⟩=pure (ps.zip us)) (hn:ps.length=n)
  (hbody:∀(fa c e:aK)(A:bt)(outer:List jx)(s:aP)(H:Hp),Room k (A.deeper (gu L.qual L.scope s.heap.objs.size fa (.ref c) [(L.free,e)]))->VE (E2 P w K mg base N L fa c e A outer s H) L.body f) :
  Hn P w K mg base (k+1) L (λl ls=>f (ls.map some++[some l])) n:=by
 intro A outer s H fa us vs Q E hr e0 rv hsp;obtain⟨hl,l,ls,u,x,fp,fps,r,⟨fa',fo,c,oc,e,eo,pm,ct,hv,hf,hfo,hc,hco,he,heo⟩,rx,il,pl,is,pls,hD,pr,q⟩:=hsp;cases hv;have ho:s.heap.get? fa=some fo:=(e0.hok fa _ hf).1;have hoc:s.heap.get? c=some oc:=(e0.hok c _ hc).1;have hoe:s.heap.get? e=some eo:=(e0.hok e _ he).1;obtain⟨cvs,ctk,hcd,hcq⟩:=hco;have hle:vs.length=ps.length:=by rw[hl,hn]
 have lim:s.heap.NoLimit:=e0.mod.nolimit.keeps λb o e=>(e0.bs b o e).1;refine PySem.W.kla_callFunE hr.depth ho hfo S.co S.gen rfl ⟨c,oc,cvs,ctk,rfl,hoc,hcd,hcq⟩ ?_;rw[hb _ _ _ _ us (by rw[<-rv.length];exact hle)];refine aw (jc S.nocell (λy hy=>S.par y.1 (fj hy).1) (λh₁ hns hsb=>?_) S.kind);have old:∀b o,s.heap.get? b=some o->h₁.get? b=some o:=λb o q=>hsb.extBut b o (bQ (aV q)) (aJ _ q);refine⟨lim.keeps old,?_⟩;show gm _ _ (.expr L.body (gu L.qual L.scope s.heap.objs.size fa (.ref c) [(L.free,e)])) _ _;refine PySem.W.kla_codeExpr ?_;have e1:=Env0.rm e0 he;have I:=BL (f:=fa) (c:=c) (tk:=s.toks+(ps.zip us).length) S hr.hd e1 hle rv MJ ⟨eo,hoe,heo⟩ rx hns old
 have env:EnvIs K (λ_=>False) (Oz H e) (ls.map some++[some l]) (vs.map some++[some x]):=⟨λi a hi=>by
  have hlv:=is.len;by_cases hlt:i<ls.length
  ·rw[aj (by simpa using hlt),aR] at hi
   cases z:ls[i]? with
   | none=>rw[z] at hi;cases hi
   | some b=>
    rw[z] at hi;cases hi;obtain⟨v,f1,h1,h2,_⟩:=is.get z;refine⟨v,f1,?_,Is.rm he _ _ _ ?_ h2,λ_ _ z=>z⟩
    ·rw[aj (by rw[aH];omega),aR,h1];rfl
    ·have all:∀(m:List PV),Wk m=aC->∀y∈m,Y3 y=aC:=by
      intro m
      induction m with
      | nil=>intro _ y hy;simp at hy
      | cons a r ih=>
       intro hm y hy;simp only[Wk,av] at hm;rcases af.mp hy with rfl | hy
       ·exact hm.1
       ·exact ih hm.2 y hy
     exact all ls pls _ (b8 z)
  ·rw[bF (by simpa using hlt),aH] at hi
   have z:i-ls.length=0:=by
    cases q:i-ls.length with
    | zero=>rfl
    | succ n=>rw[q] at hi;simp at hi
   rw[z] at hi;have e3:l=a:=by simpa using hi
   subst e3;refine⟨x,fp,?_,Is.rm he _ _ _ pl il,λ_ _ z=>z⟩;rw[bF (by rw[aH];omega),aH,show i-vs.length=0 by omega];rfl⟩
 refine bj (hbody fa c e A outer s (Oz H e) (hr.deeper _) [] _ _ _ (λv H'=>Same (Oz H e) H'/\∃fq,Is K H' r v fq) I ⟨λ_=>False,_,r,λ_ z=>z.elim,env,hD,λv H' fq sm i _=>⟨sm,fq,i⟩⟩) (λy s' hs=>?_) λ_ _ hs=>hs.elim;obtain⟨v,H',J,ry,sm,fq,i⟩:=hs;have hn':H' e=aA:=J.freeC L.free e (by show([(L.free,e)]:List (aq×aK)).lookup L.free=_;simp[bT]);have hb':Un (Ni outer) [] (Oz H e) H' s.heap s'.heap:=J.base;have enf:e∉Ni outer:=λz=>by rw[e0.frf e z] at he;cases he
 have he':s'.heap.get? e=some eo:=hb'.keep e eo hoe MJ enf (by simp);have i2:=Is.pure _ _ _ pr i;subst i2
 have sm2:Same H (upd H' e (.frz eo (.own 1))):=λb o hb=>by
  by_cases z:b=e
  ·subst z;rw[he] at hb;cases hb;exact Zp
  ·rw[upd_ne z];exact sm b o (by rw[X7 z];exact hb)
 show CE outer P w H s Q y s';exact⟨v,_,J.os,J.bare,BK hb' he hn',Hm J.hok hn' he',ry,q v _ sm2 (i.mono (Same.new hn' _))⟩
end
noncomputable def Kc(T:Pp->PV->List PV->Option PV)(i:Nat)(fs:List XE):XE:=λs=>match s[i]? with
 | some (some (.clo L l))=>(TV fs s).bind λls=>if(Y3 l&&Wk ls)=aC then(T L l ls).bind (λr=>if ZO r=aC then some r else aA) else aA
 | _=>aA
section
variable {X:Cx} {x:aq} {k:Nat} {e:bH} {es:List bH} {fs:List XE} {p pos:da}
theorem Zb4(i:Nat){T:Pp->PV->List PV->Option PV}{n:Nat}(hN:X.N[i]?=some x)(hv:Vis X.env.scope x)(hT:∀L,(∃l ls r,T L l ls=some r)->Hn X.prog X.w X.K X.mg X.base k L (T L) n)(hr:Room k X.A)(ha:VA X (e::es) fs)(hn:fs.length=n:=by rfl)
  (hdb:(x==("__debug__" : aq))=aB:=by decide) (hcd:(x==("__classdict__" : aq))=aB:=by decide) (he:aQ (e::es) X.env=(aB,eval e X.env)::aQ es X.env:=by rfl) (hpl:(dD pos (aQ es X.env)).any (·.1)=aB:=by rfl) :
  VM X (.Call (.Name x p) (e::es) [] pos) (Kc T i fs):=by
 intro m4 s σ H Q I ⟨st,r,env,ev,q⟩;unfold Kc at ev;split at ev
 ·rename_i L l hs;obtain⟨ls,e1,e2⟩:=Ze ev;split at e2
  ·rename_i hp;simp only[av] at hp;obtain⟨r',e3,e4⟩:=Ze e2;split at e4
   ·rename_i hpr;cases e4;obtain⟨v,fp,hv1,hi,_⟩:=env.is i _ hs;have hi':=hi;simp only[Is] at hi';obtain⟨u,y,hclo,ry,il⟩:=hi';obtain⟨f,fo,c,oc,ce,eo,pm,ct,ev1,hf,hfo,_⟩:=id hclo;subst ev1;have fnat:∀{s1:aP}{H1:Hp},Inv X m4 σ H1 s1->H1 f=some (.frz fo (.own 0))->PySem.W.FnAt f s1.heap:=λ{s1 H1} I1 h1=>by have:=(I1.hok f _ h1).1;obtain⟨oc',od',dat,sl'⟩:=fo;cases (show dat=_ from hfo);exact⟨_,_,_,_,this⟩
    refine dA (YO (FI (pos:=p) hN hv hdb hcd m4 s σ H (λv1 H1=>v1 = .ref f/\H1=H) I ⟨_,hv1,rfl,rfl⟩) λuf s1 ⟨v1,H1,I1,r1,ef,eH⟩=>?_);subst ef eH;obtain rfl:uf=cM f:=r1;refine PySem.W.callWith_F (fnat I1 hf) (YO (ha pos m4 s1 σ H1 (λvs H2=>Same H1 H2/\∃fps,Iss X.K H2 ls vs fps) I1 ⟨λ_=>False,st,ls,λ_ z=>z.elim,env,e1,λvs H2 fps sm i2 _=>⟨sm,fps,i2⟩⟩) λus s2 ⟨vs,H2,I2,rv,sm,fps,i2⟩=>⟨fnat I2 (sm f _ hf),?_⟩) he hpl;refine lZ (gn (hT L ⟨l,ls,r,e3⟩ X.A X.stack s2 H2 f us vs Q E0 hr I2.env0 rv ⟨by rw[i2.len,Tr e1,hn],l,ls,u,y,fp,fps,r,hclo.tr (Same.tk2 sm),ry,il.mono sm,hp.1,i2,hp.2,e3,hpr,λv H' sm' i'=>q v H' [] (sm.trans sm') i' cE λp hp=>by simp at hp⟩) λrr s' hq=>?_)
    cases rr with
    | error er=>exact(show False from hq).elim
    | ok fl=>
     cases fl with
     | ret u'=>exact I2.after hq
     | next=>exact c9 hq
     | brk=>exact c9 hq
     | cont=>exact c9 hq
   ·cases e4
  ·cases e2
 ·cases ev
end
end VL
namespace VL
open PySem PySem.Spec PyProof.Rows L2
variable {K:aG}
theorem Jw{pos pos':da}{c v:aI}{a b:Int}(l:List aI)(h:TriplesOk l)(hv:gy pos (l++[gV a,gV b,c])=some v):gy pos l=some v\/v=c:=by
 fun_induction TriplesOk l with
 | case1=>
  simp only[jU,gy,gV] at hv;split at hv
  ·exact .inr (az hv).symm
  ·cases hv
 | case2 a' t b' u x YN ih=>
  simp only[gX,gy] at hv ⊢;split at hv
  ·rename_i hc;rw[mM hc];exact .inl hv
  ·rename_i hc;rw[mN hc];exact ih h hv
 | case3 l h1 h2=>exact h.elim
noncomputable def Zfx(X:Cx)(L:Pp):TE:=λ_ H Q=>∀f fo c oc e pm ct H1,Same H H1->H1 f=some (.frz fo (.own 0))->fo.data = .func (fA "<lambda>" L.qual L.params L.body L.scope [(L.free,e)] pm (.ref c) ct)->
 H1 c=some (.frz oc (.own 0))->KZ oc L.qual->X.env.cells.lookup L.free=some e->Q (.ref f) H1
section
variable {X:Cx}
theorem Zb5{q:aq}{L:Pp}{lpos:da}(hfn:X.env.func≠aA)(hq:X.env.qual=q++".<locals>.")(hlm:QB q=aC)(hL:L.qual=Q9 q)(hdef:lj L.params X.env=([],[]))
  (hcl:∃e,X.env.cells.lookup L.free=some e/\iD L.scope X.env=pure [(L.free,e)]):PE X (.Lambda L.params L.body L.scope lpos) (Zfx X L):=by
 intro m4 s σ H Q I h;obtain⟨e,hce,hcl⟩:=hcl;have hcod:=I.ok.cod q hfn hq hlm
 obtain⟨c₀,hcode⟩:∃c₀,X.env.code = .ref c₀:=by
  cases z:X.env.code with
  | ref c=>exact⟨c,rfl⟩
  | _=>rw[z] at hcod;simp[cg] at hcod
 rw[hcode] at hcod;obtain⟨Pt,ps,tk,hC,hP,hq0,hB⟩:=(TabsH.un I.ok.tab I.base) q c₀ hlm hcod;obtain⟨q',tk',ps',eq,hg,ht1,ht2⟩:=(show ObjOk X.prog X.w H s.heap Pt (.tbl ps) from I.hok Pt _ hP);rw[hq0] at eq;cases eq;have hns:s.heap.Ns cB X.mg:=I.mod.glob.keeps I.bk;have hgP:cB≠Pt:=λz=>by obtain⟨o,es,ep,e1,hd,_⟩:=hns;rw[z,hg] at e1;cases e1;cases hd
 have hB':s.heap.BuiltinsAt X.mg Pt:=by obtain⟨bm,ob,b1,b2,b3,b4,b5,b6⟩:=hB;exact⟨bm,ob,b1,b2,b3,b4,I.bk _ _ b5,b6⟩
 have hqual:X.env.qual++"<lambda>" = L.qual:=by rw[hq,hL];rfl
 have fresh:∀b,s.heap.objs.size<=b->H b=aA:=λb hb=>I.hok.fresh hb;refine PySem.W.kla_eval hdef ?_;rw[hqual]
 cases hf:gy lpos ps'.toList with
 | none=>
  refine PySem.W.kla_makeFunction (mg:=X.mg) hcl I.ok.glob hns hcode (hC.keeps I.bk) hg ht1 hf hgP hB' λc' ctv h' tk2 hx hge hlt hrec htb=>?_;obtain⟨c2,oc,vs,t,e2,hoc,hd,hv⟩:=hrec;cases e2;generalize hfo:PySem.W.kla_obj "<lambda>" L.qual L.params L.body L.scope [(L.free,e)] ((X.mg "__name__").getD .none) c' ctv=fo;have hfd:fo.data = .func (fA "<lambda>" L.qual L.params L.body L.scope [(L.free,e)] ((X.mg "__name__").getD .none) (.ref c') ctv):=by rw[<-hfo]
  have hfne:h'.objs.size≠c':=eO hlt;have hsz:s.heap.objs.size<=h'.objs.size:=bX hge (cF hlt);have nc:H c'=aA:=fresh _ hge;have nf:H h'.objs.size=aA:=fresh _ hsz;have hP1:Pt<s.heap.objs.size:=aV hg;have up:∀b o,H b=some o->upd (upd H c' (.frz oc (.own 0))) h'.objs.size (.frz fo (.own 0)) b=some o:=λb o hb=>by rw[upd_ne (Zr hb nf),upd_ne (Zr hb nc)];exact hb
  have kk:∀b o,b≠Pt->s.heap.get? b=some o->(h'.push fo).get? b=some o:=λb o hb hbo=>aJ _ (hx b o hb hbo);have gP:(h'.push fo).get? Pt=some (fD (ps'++#[gV lpos.line,gV lpos.col,.ref c'])):=aJ _ htb
  have un:Un X.fs [] H (upd (upd H c' (.frz oc (.own 0))) h'.objs.size (.frz fo (.own 0))) s.heap (h'.push fo):=by
   refine⟨λb o hb n _ _=>kk b o (λz=>by rw[z,hP] at n;cases n) hb,λb o hb n _ _=>⟨o.slots,kk b o (λz=>by rw[z,hP] at n;cases n) hb⟩,λb o hb n _=>?_,λb o hb _=>?_,λb xs hb=>up b _ hb,λb o u hb=>up b _ hb,λb ps hb=>⟨#[],by rw[up b _ hb];simp⟩⟩
   ·have hlb:=aV hb;rw[upd_ne (bQ (ar hlb hsz)),upd_ne (bQ (ar hlb hge))];exact n
   ·by_cases z:b=Pt
    ·rw[z];exact⟨_,gP⟩
    ·exact⟨o,kk b o z hb⟩
  have gc:(h'.push fo).get? c'=some oc:=aJ _ hoc;have gf:(h'.push fo).get? h'.objs.size=some fo:=ao _ (by rw[<-hfo];rfl);have upc:upd (upd H c' (.frz oc (.own 0))) h'.objs.size (.frz fo (.own 0)) c'=some (.frz oc (.own 0)):=by rw[upd_ne (bO hfne),Zp]
  have hok:HOk X.prog X.w (upd (upd H c' (.frz oc (.own 0))) h'.objs.size (.frz fo (.own 0))) (h'.push fo):=λb u hb=>by
   by_cases z1:b=h'.objs.size
   ·subst z1;rw[Zp] at hb;cases hb;exact⟨gf,_,gf⟩
   ·rw[upd_ne z1] at hb;by_cases z2:b=c'
    ·subst z2;rw[Zp] at hb;cases hb;exact⟨gc,_,gc⟩
    ·rw[upd_ne z2] at hb;by_cases z3:b=Pt
     ·subst z3;rw[hP] at hb;cases hb;refine⟨_,tk,_,hq0,gP,?_,λpos v hv'=>?_⟩
      ·rw[fR];exact TriplesOk_snoc _ _ _ _ ht1
      ·rw[fR] at hv';rcases Jw (pos':=pos) _ ht1 hv' with hv' | hv'
       ·obtain⟨c3,o3,e1,e2,e3⟩:=ht2 pos v hv';exact⟨c3,o3,e1,up _ _ e2,e3⟩
       ·exact⟨c',oc,hv',upc,vs,t,hd,by rw[<-hL];exact hv⟩
     ·exact(I.hok b u hb).stay (λb' o hb' q=>kk b' o (by
       rcases hb' with z | z
       ·rw[z];exact z3
       ·exact λz'=>by rw[z',hP] at z;cases z) q) (λb' q=>up _ _ q) (λb' xs q=>up _ _ q) λb' u' q=>up _ _ q
  have I1:=I.un (t':=tk2) un hok;exact⟨.ref h'.objs.size,_,I1,rfl,h _ fo c' oc e _ ctv _ up Zp hfd upc ⟨vs,t,hd,hv⟩ hce⟩
 | some cv=>
  obtain⟨c',oc,e1,hc1,hc2⟩:=ht2 lpos cv hf;subst e1;refine PySem.W.kla_makeFunctionHit (mg:=X.mg) hcl I.ok.glob hns hcode (hC.keeps I.bk) hg ht1 hf hB' λctv h' tk2 hk hsz=>?_;generalize hfo:({ cls:=.type "function",data:=.func (fA "<lambda>" L.qual L.params L.body L.scope [(L.free,e)] ((X.mg "__name__").getD .none) (.ref c') ctv) }:cx)=fo;have hfd:fo.data = .func (fA "<lambda>" L.qual L.params L.body L.scope [(L.free,e)] ((X.mg "__name__").getD .none) (.ref c') ctv):=by rw[<-hfo]
  have nf:H h'.objs.size=aA:=fresh _ hsz;have up:∀b o,H b=some o->upd H h'.objs.size (.frz fo (.own 0)) b=some o:=λb o hb=>by rw[upd_ne (Zr hb nf)];exact hb
  have kk:∀b o,s.heap.get? b=some o->(h'.push fo).get? b=some o:=λb o hbo=>aJ _ (hk b o hbo);have gf:(h'.push fo).get? h'.objs.size=some fo:=ao _ (by rw[<-hfo];rfl);have un:Un X.fs [] H (upd H h'.objs.size (.frz fo (.own 0))) s.heap (h'.push fo):=Un.laid kk hsz nf;have hok:HOk X.prog X.w (upd H h'.objs.size (.frz fo (.own 0))) (h'.push fo):=I.hok.laid kk hsz ⟨gf,_,gf⟩;have I1:=I.un (t':=tk2) un hok;exact⟨.ref h'.objs.size,_,I1,rfl,h _ fo c' oc e _ ctv _ up Zp hfd (up _ _ hc1) (by rw[hL];exact hc2) hce⟩
end
section
variable {X:Cx} {x:aq} {ps:List aq} {sp:Sp} {k:Nat} {e:bH} {es:List bH} {t:TA} {p pos:da}
noncomputable def Zb6(X:Cx)(i:Nat)(y:aq)(sp:Sp)(t:TA):TE:=λσ H Q=>t σ H λvs H1=>∀ce eo u v,X.env.cells.lookup y=some ce->H1 ce=aA->σ[i]?=some (some v)->RelV v u->eo.data = .cell (some u)->
 ∃Q':VK,sp vs (upd H1 ce (.frz eo (.own 1))) Q' E0/\∀z H',H' ce=some (.frz eo (.own 1))->Q' z H'->Q z (Oz H' ce)
theorem E4(C:XQ X.prog X.w X.K X.mg X.base x ps sp k)(hr:Room k X.A)(hg:Gl X x)(i:Nat){y:aq}(hN:X.N[i]?=some y)(hk:X.env.scope.names.lookup y=some .cell)(hfn:X.fn y=aC)(hσ:∀σ H Q,t σ H Q->∃v,σ[i]?=some (some v))(ha:PA X (e::es) t)
  (hdb:(x==("__debug__" : aq))=aB:=by decide) (he:aQ (e::es) X.env=(aB,eval e X.env)::aQ es X.env:=by rfl) (hpl:(dD pos (aQ es X.env)).any (·.1)=aB:=by rfl) :
  PE X (.Call (.Name x p) (e::es) [] pos) (Zb6 X i y sp t):=by
 obtain⟨f,fd,hm,hkp,hb,F⟩:=C.ex;intro m4 s σ H Q I h;obtain⟨v,hv⟩:=hσ σ H _ h;refine dA (QR I hg hm ?_ hdb);refine kK (h₀:=X.base) I.ok.mod.kin hkp (YO (ha pos m4 s σ H _ I h) λus s1 ⟨vs,H1,I1,r,q⟩=>⟨I1.kIn,?_⟩) he hpl;obtain⟨m,hns,hl⟩:=I1.loc;obtain⟨u,ru,lk⟩:=hl i y v hN hv (.inr (.inl hk));rcases lk with⟨z,_⟩ | ⟨_,ce,hce,eo,heo,hd⟩
 ·have z:X.env.scope.names.lookup y=some .local:=z;rw[hk] at z;cases z
 have hn1:H1 ce=aA:=I1.freeC y ce hce;obtain⟨Q',hsp,hQ'⟩:=q ce eo u v hce hn1 hv ru hd;have hab:X.s₀.heap.objs.size<=ce:=I1.ok.cab y ce hfn hce
 have nfs:ce∉Ni X.stack:=λz=>by
  rcases af.mp (I1.stkSub ce z) with z | z
  ·exact I1.cne y ce hce z
  ·obtain⟨_,o,ho,_⟩:=I1.ok.funs.mem z;exact absurd (ar (aV ho) hab) (cH _)
 have e0:=I1.env0
 have e1:Env0 X.prog X.w X.K X.mg X.base X.A X.stack s1 (upd H1 ce (.frz eo (.own 1))):=by
  refine⟨e0.frames,e0.mod,λb o hb=>⟨(e0.bs b o hb).1,?_⟩,e0.bsz,e0.funs,λb hb=>?_,TabsH.add e0.tab hn1,Hm e0.hok hn1 heo,e0.bare⟩
  ·have:b≠ce:=λz=>by have:=aV hb;have h2:=I1.ok.bsz;rw[z] at this;exact absurd (ar this (bX h2 hab)) (cH _)
   rw[upd_ne this];exact(e0.bs b o hb).2
  ·have nb:b≠ce:=λz=>by rw[z] at hb;exact nfs hb
   rw[upd_ne nb];exact e0.frf b hb
 have hle:us.length=ps.length:=by rw[<-r.length];exact F.len _ _ _ _ hsp
 have hbd:=hb s1 us I1.kIn (by simpa using hle);rw[cu] at hbd;refine lZ (gn (F.run X.A X.stack s1 _ ⟨us,[]⟩ us vs Q' E0 hr e1 hbd r hsp) λrr s' hq=>?_)
 cases rr with
 | error er=>exact(show False from hq).elim
 | ok fl=>
  cases fl with
  | ret u'=>
   obtain⟨v',H',os,bare,un,hok,rv,qq⟩:=(show CE X.stack X.prog X.w _ s1 Q' u' s' from hq);have h1:H' ce=some (.frz eo (.own 1)):=un.frzs ce eo _ Zp;exact I1.after ⟨v',Oz H' ce,os,bare,Zb2 un hn1 heo nfs hok,E1 hok h1,rv,hQ' v' H' h1 qq⟩
  | next=>exact c9 hq
  | brk=>exact c9 hq
  | cont=>exact c9 hq
end
end VL
namespace VL
open PySem PySem.Spec PyProof.Rows L2
variable {K:aG}
noncomputable def OB(D:List PV->Option PV)(f1 f2:XE)(L:Pp)(i:Nat):XE:=λs=>(f1 s).bind λl1=>(f2 s).bind λl2=>match s[i]? with
 | some (some l)=>(D [l1,l2,.clo L l]).bind λr=>if Y3 r=aC then some r else aA
 | _=>aA
section
variable {X:Cx} {x:aq} {ps:List aq} {k:Nat} {a b:bH} {f1 f2:XE} {p pos lpos:da}
theorem E5{q:aq}{L:Pp}{D:List PV->Option PV}(C:XQ X.prog X.w X.K X.mg X.base x ps (Xs X.K D 3) k)(hr:Room k X.A)(hg:Gl X x)(i:Nat)(hN:X.N[i]?=some L.free)(hk:X.env.scope.names.lookup L.free=some .cell)(hfn:X.fn L.free=aC)
  (h1:VE X a f1) (h2:VE X b f2) (hfu:X.env.func≠aA) (hq:X.env.qual=q++".<locals>.") (hlm:QB q=aC) (hL:L.qual=Q9 q) (hdef:lj L.params X.env=([],[]))
  (hcl:∃e,X.env.cells.lookup L.free=some e/\iD L.scope X.env=pure [(L.free,e)])
  (hs1:aQ (a::b::[.Lambda L.params L.body L.scope lpos]) X.env=(aB,eval a X.env)::aQ (b::[.Lambda L.params L.body L.scope lpos]) X.env) (hs2:aQ (b::[.Lambda L.params L.body L.scope lpos]) X.env=(aB,eval b X.env)::aQ [.Lambda L.params L.body L.scope lpos] X.env)
  (hs3:aQ [.Lambda L.params L.body L.scope lpos] X.env=(aB,eval (.Lambda L.params L.body L.scope lpos) X.env)::aQ [] X.env) (hpl:(dD pos (aQ (b::[.Lambda L.params L.body L.scope lpos]) X.env)).any (·.1)=aB)
  (hdb:(x==("__debug__" : aq))=aB:=by decide):VM X (.Call (.Name x p) (a::b::[.Lambda L.params L.body L.scope lpos]) [] pos) (OB D f1 f2 L i):=by
 have pa:=Yc h1 (Yc h2 (Yc (Zb5 (lpos:=lpos) hfu hq hlm hL hdef hcl) Xc hs3) hs2) hs1;have pa2:=PA.imp pa (t':=λσ H Q=>(∃v,σ[i]?=some (some v))/\_) λσ H Q z=>z.2;refine PE.imp (E4 (t:=_) C hr hg i hN hk hfn (λσ H Q z=>z.1) pa2 hdb hs1 hpl) λσ H Q ⟨s,r,env,e,qq⟩=>?_;unfold OB at e;obtain⟨l1,e1,e⟩:=Ze e;obtain⟨l2,e2,e⟩:=Ze e;split at e
 ·rename_i lc hs;obtain⟨r',hD,e⟩:=Ze e;split at e
  ·rename_i hpr;cases e;obtain⟨v,fpc,hv,ic,_⟩:=env.is i _ hs;refine⟨⟨v,hv⟩,λ_=>False,s,l1,λ_ z=>z.elim,env,e1,λv1 H1 fp1 s1 i1 _=>⟨λ_=>False,s,l2,λ_ z=>z.elim,env.mono s1,e2,λv2 H2 fp2 s2 i2 _=>?_⟩⟩;intro f fo c oc ce' pm ct H3 s3 hf hfd hc hco hce' ce eo u v' hce hn hv' ru hd;have hce2:ce'=ce:=az (hce'.symm.trans hce);subst hce2;rw[hv] at hv';cases hv';have s4:Same H3 (upd H3 ce' (.frz eo (.own 1))):=Same.new hn _;have icl:Is X.K (upd H3 ce' (.frz eo (.own 1))) (.clo L lc) (.ref f) fpc:=by simp only[Is];exact⟨u,v,⟨f,fo,c,oc,ce',eo,pm,ct,rfl,s4 _ _ hf,hfd,s4 _ _ hc,hco,Zp,hd⟩,ru,ic.mono (((s1.trans s2).trans s3).trans s4)⟩
   refine⟨λz H'=>∃fq,Same (upd H3 ce' (.frz eo (.own 1))) H'/\Is X.K H' r z fq/\fq.Nodup/\∀p∈fq,upd H3 ce' (.frz eo (.own 1)) p=aA/\V4 (H' p),?_,λz H' hz ⟨fq,sm,ir,nd,nw⟩=>?_⟩
   ·exact⟨rfl,[l1,l2,.clo L lc],_,r,Iss.cons (i1.mono ((s2.trans s3).trans s4)) (Iss.cons (i2.mono (s3.trans s4)) (Iss.one icl)),hD,λz H' fq sm ir nd nw=>⟨fq,sm,ir,nd,nw⟩⟩
   ·have s5:Same H (Oz H' ce'):=λy o hy=>by have h3:H3 y=some o:=((s1.trans s2).trans s3) y o hy;rw[X7 (Zr h3 hn)];exact sm y o (s4 y o h3)
    refine qq z _ fq s5 (Is.rm hz _ _ _ hpr ir) nd λy hy=>?_;obtain⟨n1,n2⟩:=nw y hy;have ne:y≠ce':=λz=>by rw[z,Zp] at n1;cases n1
    rw[upd_ne ne] at n1;exact⟨Same.off ((s1.trans s2).trans s3) n1,by rw[X7 ne];exact n2⟩
  ·cases e
 ·cases e
theorem E6{q:aq}{L:Pp}{pa:ju}{bo:bH}{sc:eB}{i:Nat}{D:List PV->Option PV}(hLa:L.params=pa)(hLb:L.body=bo)(hLs:L.scope=sc)(C:XQ X.prog X.w X.K X.mg X.base x ps (Xs X.K D 3) k)(hr:Room k X.A)(hg:Gl X x)(hN:X.N[i]?=some L.free)(hk:X.env.scope.names.lookup L.free=some .cell)(hfn:X.fn L.free=aC)
  (h1:VE X a f1) (h2:VE X b f2) (hfu:X.env.func≠aA) (hq:X.env.qual=q++".<locals>.") (hlm:QB q=aC) (hL:L.qual=Q9 q) (hdef:lj pa X.env=([],[]))
  (hcl:∃e,X.env.cells.lookup L.free=some e/\iD sc X.env=pure [(L.free,e)])
  (hs1:aQ (a::b::[.Lambda pa bo sc lpos]) X.env=(aB,eval a X.env)::aQ (b::[.Lambda pa bo sc lpos]) X.env) (hs2:aQ (b::[.Lambda pa bo sc lpos]) X.env=(aB,eval b X.env)::aQ [.Lambda pa bo sc lpos] X.env)
  (hs3:aQ [.Lambda pa bo sc lpos] X.env=(aB,eval (.Lambda pa bo sc lpos) X.env)::aQ [] X.env) (hpl:(dD pos (aQ (b::[.Lambda pa bo sc lpos]) X.env)).any (·.1)=aB)
  (hdb:(x==("__debug__" : aq))=aB:=by decide):VM X (.Call (.Name x p) (a::b::[.Lambda pa bo sc lpos]) [] pos) (OB D f1 f2 L i):=by
 subst hLa hLb hLs;exact E5 C hr hg i hN hk hfn h1 h2 hfu hq hlm hL hdef hcl hs1 hs2 hs3 hpl hdb
end
end VL
namespace VL
open PySem PySem.Spec PyProof.Rows L2
variable {K:aG}
noncomputable def Qt(K:aG):List (aq×aK×aK):=(["tree_of","still_by","made_of"]:List aq).filterMap λx=>(gY K x).map λcp=>(x,cp)
noncomputable def S9(K:aG)(q:bN):Bool:=
 lu K&&decide ((Qt K).map (·.2.2)).Nodup&&(Qt K).all (λr=>((recsOf q).find? (λe=>e.name==r.1)).isSome)&&
 K.all λp=>match p.2.data with
  | .fields vs=>(match vs.toList with
   | _::.str n _::_=>!(QB n) || (match gY K n with
    | some (c,_)=>c==p.1
    | none=>aB)
   | _=>aC)
  | _=>aC
theorem GN{x:aq}{c Pt:aK}(h:(x,c,Pt)∈Qt K):gY K x=some (c,Pt)/\QB x=aC:=by
 unfold Qt at h;obtain⟨y,hy,e⟩:=gC.mp h
 cases z:gY K y with
 | none=>rw[z] at e;cases e
 | some cp=>
  rw[z] at e;have e:(y,cp)=(x,c,Pt):=az e;cases e;refine⟨z,?_⟩;simp only[af,cD,or_false] at hy;rcases hy with rfl | rfl | rfl<;>decide
theorem E7{x:aq}{c Pt:aK}(h:gY K x=some (c,Pt))(hl:QB x=aC):(x,c,Pt)∈Qt K:=by
 unfold Qt;refine gC.mpr ⟨x,?_,by rw[h];rfl⟩;unfold QB at hl;simp only[jY,beq_iff_eq] at hl;simp only[af,cD,or_false];rcases hl with(h | h) | h
 ·exact .inl h
 ·exact .inr (.inl h)
 ·exact .inr (.inr h)
theorem Jx{q:bN}(g:S9 K q=aC){x:aq}{c:aK}(hl:QB x=aC)(hc:cg K (.ref c) x=aC):∃Pt,(x,c,Pt)∈Qt K:=by
 unfold S9 at g;simp only[av] at g;have hall:=g.2
 have hc:(match K.lookup c with
   | some ⟨_,_,.fields vs,_⟩=>(match vs.toList with | _::.str n _::_=>n==x | _=>aB)
   | _=>aB)=aC:=hc
 split at hc
 ·rename_i oc od vs sl hlk;split at hc
  ·rename_i y n t r hvs;have hn:n=x:=beq_iff_eq.mp hc;subst hn;have h1:=bM.mp hall (c,_) (jP hlk);simp only[hvs,hl,mE,lz] at h1;split at h1
   ·rename_i c2 P2 h2;have:c2=c:=beq_iff_eq.mp h1;subst this;exact⟨P2,E7 h2 hl⟩
   ·cases h1
  ·cases hc
 ·cases hc
theorem Kd:∀{l:List (aq×aK×aK)}{x:aq}{c Pt:aK},(l.map (·.2.2)).Nodup->(x,c,Pt)∈l->l.find? (λr=>r.2.2==Pt)=some (x,c,Pt)
 | [],_,_,_,_,h=>by simp at h
 | r::l,x,c,Pt,nd,h=>by
  rw[ag] at nd;rw[bh];rcases af.mp h with e | h
  ·subst e;simp
  ·have:r.2.2≠Pt:=λz=>(bG.mp nd).1 (b7.mpr ⟨_,h,z.symm⟩);have e2:(r.2.2==Pt)=aB:=by simpa using this
   rw[e2];exact Kd (bG.mp nd).2 h
noncomputable def Jy(l:List (aq×aK×aK))(H:Hp):Hp:=λb=>match l.find? (λr=>r.2.2==b) with
 | some r=>some (.tbl #[.str (Q9 r.1) 0])
 | none=>H b
theorem GO{l:List (aq×aK×aK)}{H:Hp}{b:aK}(h:∀r∈l,r.2.2≠b):Jy l H b=H b:=by unfold Jy;rw[gD.mpr λr hr=>by simpa using h r hr]
theorem Sk(l:List (aq×aK×aK))(H:Hp)(b:aK):(∃r∈l,r.2.2=b/\Jy l H b=some (.tbl #[.str (Q9 r.1) 0]))\/((∀r∈l,r.2.2≠b)/\Jy l H b=H b):=by
 unfold Jy
 cases z:l.find? (λr=>r.2.2==b) with
 | some r=>exact .inl ⟨r,dZ z,by simpa using jZ z,rfl⟩
 | none=>exact .inr ⟨λr hr=>by simpa using gD.mp z r hr,rfl⟩
theorem GP{P:bN}{w:bu}{mg mb:aq->Option aI}{k:Nat}{fa a:aK}{fd:eF}{x:aq}{D:List PV->Option PV}{s₁:aP}{vs:List aI}{ns:List Int}{l:List (aq×aK×aK)}
  (KX:K.In s₁.heap) (hns:s₁.heap.Ns cB mg) (hb:s₁.heap.Ns gz mb) (hbb:∀x:aq,x≠"__name__"->mb x=cS x) (hlim:s₁.heap.NoLimit) (hg:s₁.gens = #[])
  (hbm:∃bm ob,mg "__builtins__" = some (.ref bm)/\bm≠gz/\s₁.heap.get? bm=some ob/\ob.cls = .type "module"/\ob.dict=some gz/\ob.data = .plain)
  (hT:∀r∈l,j5 s₁.heap r.2.1 r.2.2/\s₁.heap.get? r.2.2=some (fD #[])) (hK:lu K=aC) (hcov:∀(q:aq)(c:aK),QB q=aC->cg K (.ref c) q=aC->∃Pt,(q,c,Pt)∈l) (hnd:(l.map (·.2.2)).Nodup)
  (ha:s₁.heap.get? a=some { cls:=.type "list",data:=.seq vs.toArray }) (hi:k4 vs ns) (hl:ns.length<=sizeLine) (hr:Room k k9)
  (F:∀base:b9,K.In base->base.Ns cB mg->RG P w K mg base LK k fa fd [x] (Xs K D 1)) (hbind:∀(s:aP)(u:aI),k3 s fd ⟨[u],[]⟩ [(x,u)])
  (hD:D [.cst (iL ns)]=some (.bl aC)) :
  gm (model P w) k9 (.call (.ref fa) ⟨[.ref a],[]⟩) (λr s'=>r = .ok (.ret (.bool aC))/\OldK s₁.heap s'.heap/\s'.os=s₁.os/\jA s'.gens) s₁:=by
 have rv:=NF hi;have lenV:=hi.length
 have Ca:∀H0:Hp,CsK K H0 a (ns.map V.int)->(H0 a=aA\/(K.lookup a=aA/\∃xs,H0 a=some (.frz { cls:=.type "list",data:=.seq vs.toArray } (.lst xs))/\ObjOk P w H0 s₁.heap a (.frz { cls:=.type "list",data:=.seq vs.toArray } (.lst xs))))->(∀b,b≠a->H0 b=aA)->
   gm (model P w) k9 (.call (.ref fa) ⟨[.ref a],[]⟩) (λr s'=>r = .ok (.ret (.bool aC))/\OldK s₁.heap s'.heap/\s'.os=s₁.os/\jA s'.gens) s₁:=by
  intro H0 hS hA hO;have na:∀r∈l,r.2.2≠a:=λr hr z=>by have e:=(hT r hr).2;rw[z,ha] at e;cases e
  generalize hH:Jy l H0=H;have tb:∀r∈l,H r.2.2=some (.tbl #[.str (Q9 r.1) 0]):=λr hr=>by rw[<-hH];unfold Jy;rw[Kd (x:=r.1) (c:=r.2.1) (Pt:=r.2.2) hnd hr]
  have Ha:H a=H0 a:=by rw[<-hH];exact GO na
  have free:∀{b:aK}{o:cx},s₁.heap.get? b=some o->o≠fD #[]->b≠a->H b=aA:=λ{b o} e no nb=>by
   rw[<-hH];rcases Sk l H0 b with⟨r,hr,e2,_⟩ | ⟨_,e2⟩
   ·have e3:=(hT r hr).2;rw[e2,e] at e3;exact absurd (az e3) no
   ·rw[e2];exact hO b nb
  have base_of:∀{b:aK}{o:cx},s₁.heap.get? b=some o->H b=aA->(Nh s₁.heap H).get? b=some o:=λe n=>FH e n;have nsK:∀{b:aK}{m:aq->Option aI},s₁.heap.Ns b m->(Nh s₁.heap H).Ns b m:=λ{b m} ⟨o,es,ep,e,d,r⟩=>⟨o,es,ep,base_of e (free e (λz=>by rw[z] at d;cases d) λz=>by rw[z,ha] at e;cases e;cases d),d,r⟩
  have hKb:K.In (Nh s₁.heap H):=λb o e=>base_of (KX b o e) (by
   by_cases z:b=a
   ·subst z;rw[Ha];rcases hA with h | ⟨h,_⟩
    ·exact h
    ·rw[e] at h;cases h
   ·refine free (KX b o e) (λz2=>?_) z;have h2:=bM.mp hK (b,o) (jP e);subst z2;exact absurd (show aB=aC from h2) au)
  have hM:Mod K mg (Nh s₁.heap H):=⟨hKb,nsK hns,⟨mb,nsK hb,hbb⟩,let⟨mc,h1,h2⟩:=hlim;⟨mc,nsK h1,h2⟩⟩
  have hok:HOk P w H s₁.heap:=λb u e=>by
   rw[<-hH] at e;rcases Sk l H0 b with⟨r,hr,e2,e3⟩ | ⟨hn,e3⟩
   ·rw[e3] at e;cases e;refine⟨Q9 r.1,0,#[],rfl,?_,trivial,λpos v hv=>?_⟩
    ·rw[<-e2];exact(hT r hr).2
    ·simp[gy] at hv
   ·rw[e3] at e;by_cases z:b=a
    ·subst z;rcases hA with h | ⟨_,xs,h,ok⟩
     ·rw[h] at e;cases e
     ·rw[h] at e;cases e;obtain⟨o1,o2⟩:=ok;exact⟨o1,o2⟩
    ·rw[hO b z] at e;cases e
  have tab:TabsH K mg (Nh s₁.heap H) H:=λq c h1 h2=>by
   obtain⟨Pt,hm⟩:=hcov q c h1 h2;obtain⟨⟨o,us,file,tf,flags,tg,inF,text,tt,f1,f2,f3,f4,f5,f6,f7,f8,f9,f10⟩,hP⟩:=hT _ hm;obtain⟨bm,ob,b1,b2,b3,b4,b5,b6⟩:=hbm;refine⟨Pt,_,0,⟨o,us,file,tf,flags,tg,inF,text,tt,base_of f1 (free f1 (λz=>by rw[z] at f2;cases f2) λz=>?_),f2,f3,f4,f5,f6,f7,f8,f9,f10⟩,tb _ hm,rfl,bm,ob,b1,b2,λz=>?_,λz=>?_,base_of b3 (free b3 (λz=>by rw[z] at b4;cases b4) λz=>?_),b4,b5,b6⟩
   ·rw[z,ha] at f1;cases f1;injection f2 with f2;exact absurd f2 (by decide)
   ·obtain⟨o',es,ep,e',hd',_⟩:=hns;rw[z,e'] at b3;cases b3;rw[hd'] at b6;cases b6
   ·rw[z,hP] at b3;cases b3;cases b4
   ·rw[z,ha] at b3;cases b3;injection b4 with b4;exact absurd b4 (by decide)
  have e0:Env0 P w K mg (Nh s₁.heap H) k9 [] s₁ H:=⟨rfl,hM,λb o e=>CB e,Nat.le_of_eq (HW _ _),trivial,λb hb=>absurd (show b∈([]:List aK) from hb) (by simp),tab,hok,.of_eq hg⟩
  have hS':CsK K H a (ns.map V.int):=by
   rcases hS with⟨o,h⟩ | h
   ·exact .inl ⟨o,by rw[Ha];exact h⟩
   ·exact .inr h
  refine gn ((F _ hKb (nsK hns)).run k9 [] s₁ H ⟨[.ref a],[]⟩ [.ref a] [.ref a] (λv _=>v = .bl aC) E0 hr e0 (hbind s₁ (.ref a)) (.cons rfl .nil)
   ⟨rfl,[.cst (iL ns)],[],.bl aC,Iss.one (Is.cst hS' (Iss.ofInts ns)),hD,λv H' fq _ i _ _=>i.bl_inv.1⟩) λr s' h=>?_
  cases r with
  | error e=>exact(show False from h).elim
  | ok fl=>
   cases fl with
   | next=>exact c9 h
   | brk=>exact c9 h
   | cont=>exact c9 h
   | ret u=>
    obtain⟨v,H',os,bare,un,hok',r',q⟩:=h;have q':v = .bl aC:=q;subst q';obtain rfl:u=lN aC:=r'
    have key:∀b o,s₁.heap.get? b=some o->s'.heap.get? b=some o\/(isCodeTable s₁.heap b/\o=fD #[]/\∃ps,s'.heap.get? b=some (fD ps)):=λb o e=>by
     cases z:H b with
     | none=>exact .inl (un.keep b o e z (by intro z;exact absurd (show b∈([]:List aK) from z) (by simp)) (by simp))
     | some u=>
      have z':=z;rw[<-hH] at z';rcases Sk l H0 b with⟨r,hr,e2,e3⟩ | ⟨hn,e3⟩
      ·rw[e3] at z';cases z';obtain⟨more,z4⟩:=un.tbls b _ z;obtain⟨_,_,ps',_,e4,_⟩:=(show ObjOk P w H' s'.heap b (.tbl _) from hok' b _ z4);have h5:=(hT r hr);rw[e2] at h5;refine .inr ⟨(h5.1.tab h5.2).isCodeTable,?_,ps',e4⟩;rw[e] at h5;exact az h5.2
      ·rw[e3] at z';by_cases y:b=a
       ·subst y;rcases hA with h | ⟨_,xs,h,_⟩
        ·rw[h] at z';cases z'
        ·rw[h] at z';cases z';have z2:=un.frzs b _ _ z;have e1:=(hok b _ z).1;have e2:=(hok' b _ z2).1;rw[e] at e1;cases e1;exact .inl e2
       ·rw[hO b y] at z';cases z'
    refine⟨rfl,⟨λb o e=>?_,λb o e=>?_⟩,os,bare⟩
    ·rcases key b o e with h | ⟨h1,h2,ps,h3⟩
     ·exact .inl h
     ·subst h2;exact .inr (.inl ⟨h1,rfl,#[],ps,rfl,by rw[Array.empty_append];exact h3⟩)
    ·rcases key b o e with h | ⟨h1,h2,ps,h3⟩
     ·exact⟨_,h⟩
     ·exact⟨_,h3⟩
 cases hk:K.lookup a with
 | some o=>
  have e:=KX a o hk;rw[ha] at e;cases e;exact Ca (λ_=>aA) (.inr ⟨_,vs.toArray,_,hk,rfl,rfl,rfl,by rw[aT,lenV];exact hl,by simpa using rv⟩) (.inl rfl) λ_ _=>rfl
 | none=>
  refine Ca (λb=>if b=a then some (.frz { cls:=.type "list",data:=.seq vs.toArray } (.lst (ns.map V.int))) else aA) (.inl ⟨{ cls:=.type "list",data:=.seq vs.toArray },mM rfl⟩) (.inr ⟨hk,_,mM rfl,ha,?_⟩) λb hb=>mN hb;exact⟨by rw[aH];exact hl,vs,_,rv,ha⟩
open PySem.W PySem.Calls in
theorem law_walkT{l:PySem.W.OpenLaw}{q:bN}{loose:List aq}{XP:(aq->Option aI)->b9->Prop}{YP:bu->b9->Prop}{d:DefRec}{KK:Params->aG}{x:aq}{D:List PV->Option PV}(k:Nat)(hn:l.most=some 63)(hdf:d.params.defaults=[])
  (hr:Room k k9) (htab:∀w:bu,S9 (KK w.params) q=aC) (hD:∀ns:List Int,ns.length<=63->(∀n∈ns,n.natAbs.log2<=1048576)->D [.cst (iL ns)]=some (.bl aC))
  (hY:∀(w:bu)(h:b9),YP w h->(KK w.params).In h)
  (F:∀(w:bu)(mg:aq->Option aI)(fa:aK)(h:b9),(KK w.params).In h->h.Ns cB mg->mg d.name=some (.ref fa)->
   ∃fd:eF,(∀(s:aP)(u:aI),k3 s fd ⟨[u],[]⟩ [(x,u)])/\∀base:b9,(KK w.params).In base->base.Ns cB mg->RG l.prog w (KK w.params) mg base LK k fa fd [x] (Xs (KK w.params) D 1)) :
  PySem.W.WalkO q loose XP YP l.row.toRowW d [] (λf vs=>PySem.call f vs):=by
 intro w s₀ s₁ mg mb gr yy fa o pm cd doc dv kv ho hd hcd hdd hmg hgen args vals as hpre hlay hrd hwl hlo;obtain rfl:dv = .none:=Dflts.none hdd hdf;obtain rfl:kv = .none:=Dflts.noKw hdd;obtain⟨a,vs,ns,rfl,rfl,hobj,hints,hlen⟩:=Att.script_of hn hpre hwl
 have hw:∀n∈ns,n.natAbs.log2<=1048576:=λn h=>by
  have h1:(WData.list (ns.map km)).layable=aC:=bM.mp hlay _ (aO.mpr rfl);unfold WData.layable at h1;have h2:=of_decide_eq_true (jh.mp h1).2;have h3:WData.weightAll (ns.map km)<=1048576:=by simpa [WData.weight] using h2
  exact bX (Oj h) h3
 have kx:=hY w _ yy;obtain⟨fd,hb,hF⟩:=F w mg fa _ kx gr.T.g hmg;have g:=htab w;have g':=g;unfold S9 at g';simp only[av] at g';obtain⟨⟨⟨g1,g2⟩,g3⟩,_⟩:=g';have hT:∀r∈Qt (KK w.params),j5 s₁.heap r.2.1 r.2.2/\s₁.heap.get? r.2.2=some (fD #[]):=λr hm=>by obtain⟨d',hd'⟩:=cI.mp (bM.mp g3 r hm);exact PySem.W.tab_of gr.T kx hd' (GN (x:=r.1) (c:=r.2.1) (Pt:=r.2.2) hm).1
 have hbm:=gr.T.bmain;refine enter_call (gn (GP kx gr.T.g gr.T.b gr.T.builtins gr.T.nolimit hgen (let⟨bm,ob,b1,b2,b3,b4,b5,b6⟩:=hbm;⟨bm,ob,b1,b2,b3,b4,b5,b6⟩) hT g1 (λq c h1 h2=>Jx g h1 h2) (of_decide_eq_true g2) hobj hints (bX hlen (by decide)) hr hF hb (hD ns hlen hw)) λr s' hq=>?_);obtain⟨rfl,h2,h3,h4⟩:=hq;exact⟨.inl ⟨.bool aC,.bool aC,[],rfl,λ_=>rfl,.bool aC,Att.post_true l _,λ_=>⟨List.Pairwise.nil,λ_ hm=>(nomatch hm)⟩⟩,h2,h3,h4⟩
end VL
namespace VL
open PySem L2
noncomputable def Zec:bp->Option (ju×bH×eB)
 | .Return (some (.Call _ [_,_,.Lambda a b sc _] _ _)) _=>some (a,b,sc)
 | .Assign _ (.Call _ [_,_,.Lambda a b sc _] _ _) _=>some (a,b,sc)
 | _=>aA
noncomputable def Zed(st:bp)(i:Nat)(q free:aq):Pp:=match (YG st)[i]? with
 | some s=>(match Zec s with
  | some (a,b,sc)=>⟨Q9 q,a,b,sc,free⟩
  | none=>⟨Q9 q,Xy st,.Name free ⟨0,0,0,0⟩,Zh st,free⟩)
 | none=>⟨Q9 q,Xy st,.Name free ⟨0,0,0,0⟩,Zh st,free⟩
end VL
namespace PW
open PySem L2 VL VX
noncomputable def Vq(i:Nat):bp:=gS.main.body.getD i (.Pass ⟨0,0,0,0⟩)
noncomputable def Y6:Pp:=Zed (Vq 37) 2 "made_of" "heads"
noncomputable def TC:XE:=(Zd (YW aB) (Zd Zv (Za 3) (Za 0)) (Za 1))
open Classical in
noncomputable def TY(L:Pp)(l:PV)(ls:List PV):Option PV:=if L=Y6 then TC (ls.map some++[some l]) else aA
noncomputable def QY:XS:=(ZY (eP (Zc ZR [Zq 1 [] (ZE [eC (.int 6)]) (.one 0) Zx (Zc ZR [Zq 1 [0] (ZE [eC (.int 6)]) (.one 0) Zx (Zc UU [Zd (YW aC) (Zd Z2 (Zd Yo (Za 1) (Za 0)) (eC (.int 3))) (eC (.int 0))])])])))
noncomputable def Ra:List PV->Option PV:=Yv 0 QY
noncomputable def Rc:XS:=(Zj (V9 (xB (Zd (YW aB) (Zc Zu [Zc ZW [Za 0,eC (.int 0)],eC (.int 337),eC (.int 16)]) (eC (.int 3)))) (ZY (Zc Ra [])) Z6)
  (Zj (V9 (xB (Zd (YW aB) (Zd Z2 (Zc ZW [Za 0,eC (.int 0)]) (eC (.int 2))) (eC (.int 1)))) (ZY (Zc WT [Zc ZW [Za 0,eC (.int 1)],Za 1,Za 2])) Z6)
  (Zj (Zi 3 (eP (Zd Zv (Za 1) (Zc Zu [Zc ZW [Za 0,eC (.int 0)],eC (.int 1),Zc Zz [Za 1]]))))
  (Zj (Zi 4 (Zq 1 [3] (ZE [Za 3]) (.one 0) Zx (Zd SS (Yu [eC (.int 0)]) (Za 1))))
  (Zj (Zi 5 (eP (eC (.int 0))))
  (Zj (Yz [4] (Xv [eC (.int 1),eC (.int 13)]) (.one 6) (Zj (Zi 7 (Zc ZW [Za 0,Za 6]))
  (Zj (Zi 8 (Zc Zu [Za 7,eC (.int 13),Za 3]))
  (Zj (Zi 9 (eP (Zd Z2 (Zd ZI (Zd ZI (Za 8) (eC (.int 1))) (Zc Zu [Za 7,eC (.int 17),Zc SM [eC (.int 1),Zd Yo (Za 3) (eC (.int 1))]])) (Za 3))))
  (Zj (V9 (xB (Zd RN (Za 6) (Za 3))) (Zj (Zi 8 (eP (Za 6)))
  (Zi 9 (Zc Zu [Za 7,eC (.int 5),Za 6]))) Z6)
  (Zj (Zi 10 (eP (VR (Zd RO (Za 3) (eC (.int 1))) (VR (Zd RN (Za 5) (Za 2)) (Zd RO (Zc Zu [Za 7,eC (.int 3),eC (.int 3)]) (eC (.int 0)))))))
  (V9 (LR (xB (Zd RN (Za 6) (Za 3))) (xB (Za 10))) (Zj (Yp 4 (Za 8) (Za 9) (Zd ZI (Zd Zv (Zd Zv (Za 4) (Za 8)) (Za 9)) (eC (.int 1))))
  (Zj (Yp 4 (Za 9) (Za 8) (Zd Zv (Zd Zv (Za 4) (Za 8)) (Za 9)))
  (Zi 5 (eP (Zd ZI (Za 5) (eC (.int 1))))))) Z6)))))))
  (Zj (Zi 11 (Zc Zu [Zc ZW [Za 0,eC (.int 0)],eC (.int 7),Za 3]))
  (Zj (Zi 4 (Zq 1 [11] (Yg (Zd L4 (WM Xe (Za 4) (Wv (Za 11)) VU) (WM Xe (Za 4) VU (Wv (Za 11))))) (.one 0) Zx (Zd Ub (WM Xe (Za 0) (Wv (Za 1)) VU) (WM Xe (Za 0) VU (Wv (Za 1))))))
  (ZY (eP (Zc ZR [Zq 1 [] (Yg (Za 4)) (.one 0) Zx (Zc ZR [Za 0])])))))))))))
noncomputable def QZ:List PV->Option PV:=Yv 12 Rc
noncomputable def OC:XS:=(V9 (xB (Zd (YW aC) (Zc QW [Za 1]) (Zc S1 [Za 0]))) Jq Z6)
noncomputable def X1:List PV->Option PV:=Yv 2 OC
noncomputable def U7:XS:=(ZY (eP (Zc Nn [Zq 1 [0,1] (SO (Za 2)) (.one 0) Zx (Zd Zv (Zd Zv (Za 1) (Za 2)) (Za 0))])))
noncomputable def XJ:List PV->Option PV:=Yv 3 U7
noncomputable def WD:XS:=(Zj (Zi 2 (Yu [eP (YC [YC [],Lr Px (eC (.int 1))])]))
  (Zj (Yz [] (Yt aB [Za 1]) (.many [3,4]) (Zi 2 (Zd Ub (Za 2) (Zq 2 [3,0,4] (Yg (Za 2)) (.many [0,1]) Zx (YC [Zd Vb (Za 0) (YC [Za 2]),Zd Yo (Zd ZI (Zd ZI (Za 1) (Za 4)) (eC (.int 1))) (Zc XJ [Za 3,Za 2,Za 0])])))))
  (Zj (Zi 5 (Zq 2 [] (Yg (WM Xe (Za 2) (Wv (eC (.int 1))) VU)) (.many [0,1]) (xB (Zd RN (Za 1) (eC (.int 0)))) (eP (Za 0))))
  (ZY (eP (RP (xB (Zd RO (Zc Zz [Za 5]) (eC (.int 0)))) (Zd Zv (Za 5) (eC (.int 0))) (eC .non)))))))
noncomputable def Yn:List PV->Option PV:=Yv 6 WD
noncomputable def Sl:XS:=(Zj (Yz [] (Yt aB [Za 1]) (.many [2,3]) (V9 (xB (Zd RO (Zd VC (Za 0) (Za 2)) (Za 3))) (ZY (eP (Za 2))) Z6))
  (ZY (eP (eC .non))))
noncomputable def Vf:List PV->Option PV:=Yv 4 Sl
noncomputable def Ke:XS:=(ZY (eP (RP (xB (Zd (YW aB) (Za 1) (Zd Zv (Za 0) (eC (.int 0))))) (Zd Zv (Za 0) (eC (.int 1))) (Zd Zv (Za 0) (eC (.int 0))))))
noncomputable def Xj:List PV->Option PV:=Yv 2 Ke
noncomputable def GQ:XS:=(Zj (Zi 4 (Ju (Za 3) (Oy (Yu []))))
  (Zj (Zi 5 (Yu [eP (Za 3)]))
  (Zj (Zi 6 (eP (eC (.int 0))))
  (Zj (VZ (xB (Zd oGe (Zd VC (Za 1) (Zd Zv (Za 5) (Za 6))) (Zd Zv (Za 2) (Zd Zv (Za 5) (Za 6))))) (Zj (Zi 7 (eP (Zd Zv (Za 5) (Za 6))))
  (Zj (Yz [4,5] (Yt aC [Za 1]) (.many [8,9]) (Zj (Zi 10 (Zc Xj [Zd Zv (Za 0) (Za 8),Za 9]))
  (V9 (LQ (xB (Zd (YW aB) (Za 9) (Za 7))) (xB (Gz aC (Za 10) (Za 4)))) (Zj (sDPut 4 (Za 10) (Oy (Zd NZ (Zd W8 (Za 4) (Za 7)) (Yu [eP (Za 8)]))))
  (ZZ 5 (eP (Za 10)))) Z6)))
  (Bl 6 ZI (eC (.int 1))))))
  (ZY (eP (Zd W8 (Za 4) (Zd Zv (Za 5) (Za 6)))))))))
noncomputable def TF:List PV->Option PV:=Yv 11 GQ
noncomputable def Kf:XS:=(Zj (Zi 2 (Zc Wh [Za 0]))
  (Zj (Zi 3 (Zq 1 [] (Yg (Za 2)) (.one 0) Zx (eP (Zd Zv (Za 0) (eC (.int 0))))))
  (Zj (Zi 4 (Zc Vf [Za 3,Za 1]))
  (Zj (VZ (xB (RQ aC (Za 4))) (Zj (Zi 5 (Zc TF [Za 2,Za 3,Za 1,Za 4]))
  (Zj (Yz [3] (Yg (Za 5)) (.one 6) (UY 3 (Za 6) (Zc Xj [Zd Zv (Za 2) (Za 6),Zd Zv (Za 3) (Za 6)])))
  (Zi 4 (Zc Vf [Za 3,Za 1])))))
  (ZY (Za 3))))))
noncomputable def VF:List PV->Option PV:=Yv 7 Kf
noncomputable def Wl:XS:=(Zj (Yz [] (Yt aC [Za 0]) (.many [3,4]) (V9 (LQ (xB (Zd (Uw aC) (Za 3) (Za 1))) (xB (Zd (YW aC) (Zd (Uw aB) (Zd Zv (Za 4) (eC (.int 0))) (Za 2)) (Zd (Uw aB) (Zd Zv (Za 4) (eC (.int 1))) (Za 2))))) (ZY (eP (Za 3))) Z6))
  (ZY (eP (eC .non))))
noncomputable def Yi:List PV->Option PV:=Yv 5 Wl
noncomputable def OD:XS:=(Zj (Zi 3 (Zc Wh [Za 0]))
  (Zj (Zi 4 (Yu [eP (Za 1)]))
  (Zj (Zi 5 (Yu []))
  (Zj (Zi 6 (Yu []))
  (Zj (Zi 7 (Zc Yi [Za 3,Za 5,Za 4]))
  (Zj (VZ (xB (RQ aC (Za 7))) (Zj (ZZ 5 (eP (Za 7)))
  (Zj (Zi 8 (eP (RP (xB (Zd (Uw aB) (Zd Zv (Zd Zv (Za 3) (Za 7)) (eC (.int 0))) (Za 4))) (Zd Zv (Zd Zv (Za 3) (Za 7)) (eC (.int 1))) (Zd Zv (Zd Zv (Za 3) (Za 7)) (eC (.int 0))))))
  (Zj (Zi 9 (eP (Zc Zz [Zq 1 [8,3] (Yg (Za 5)) (.one 0) (xB (Zd (Uw aB) (Za 1) (WM VY (Zd Zv (Za 2) (Za 0)) VU (Wv (eC (.int 2)))))) (Za 0)])))
  (Zj (V9 (xV (Kc TY 2 [Za 7,Za 8,Za 9])) (Zj (ZZ 4 (eP (Za 8)))
  (ZZ 6 (eP (YC [Za 7,Za 8,Za 9])))) Z6)
  (Zi 7 (Zc Yi [Za 3,Za 5,Za 4])))))))
  (ZY (Za 6))))))))
noncomputable def Wy:List PV->Option PV:=Yv 10 OD
noncomputable def R1:XS:=(ZY (eP (Zc ZR [Zc WQ [Zq 1 [] (Yg (Zc Wy [Za 0,Za 1,Za 2])) (.one 0) Zx (Zd Zv (Za 0) (eC (.int 0)))]])))
noncomputable def Uh:List PV->Option PV:=Yv 3 R1
noncomputable def GR:XS:=(Zj (Zi 2 (Zc UD [Zc U0 [Za 1,Zd NV (YC [eC (.int 1)]) (Zc Zz [Za 0])],Zc S8 [Za 0,eC (.int 0)]]))
  (Zj (Zi 3 (eP (Oy (Zc VF [Za 0,Za 2]))))
  (Zj (Zi 4 (OB Uh (Za 0) (eC (.int 0)) Y6 3))
  (ZY (eP (YC [Za 4,Zc ZR [Zq 2 [4] (Yt aC [Za 3]) (.many [0,1]) (xB (Zd (Uw aC) (Za 0) (Za 2))) (Za 1)]]))))))
noncomputable def TH:List PV->Option PV:=Yv 5 GR
noncomputable def E8:XS:=(ZY (eP (Zc ZR [Zq 1 [0] (ZE [Zc Zz [Za 0]]) (.one 0) Zx (Zd Yo (Zd Xt (Zc Wg [Za 1,Za 0]) (eC (.int 2))) (eC (.int 1)))])))
noncomputable def Rf:List PV->Option PV:=Yv 1 E8
noncomputable def E9:XS:=(Zj (sEx (Zc X1 [Za 0,Za 1]))
  (Zj (Zi 2 (Zc Ud [Za 0,Zc UD [Za 1,Zc Rf [Za 0]],eC (.int 0)]))
  (Zj (Zi 3 (Zc Oe [Za 0,Za 1,Za 2]))
  (Zj (Zi 4 (Zc Yn [Za 0,Za 3]))
  (Zj (VZ (xB (RQ aC (Za 4))) (Zj (Zi 5 (Zc VB [Za 0,Za 4]))
  (Zj (Zi 2 (Zc U0 [Za 2,Za 5]))
  (Zj (Zi 3 (Zc Oe [Za 0,Za 3,Za 5]))
  (Zi 4 (Zc Yn [Za 0,Za 3]))))))
  (Zj (Zi 6 (Zc TH [Za 0,Za 3]))
  (ZY (eP (YC [Zc S6 [Za 2],Za 3,Zd Zv (Za 6) (eC (.int 0)),Zd Zv (Za 6) (eC (.int 1))])))))))))
noncomputable def Rh:List PV->Option PV:=Yv 7 E9
noncomputable def BM:XS:=(Zj (Zi 2 (Zc U3 [Za 0,Za 1]))
  (Zj (Zi 3 (Zc Ue [Za 0,Zc U6 [Za 0,Za 2,Za 1]]))
  (Zj (Zi 4 (eP (Zd Zv (Yu [eC (.int 1),eC (.int 1),Zd ZI (Zd Ef (eC (.int 10)) (eC (.int 20))) (eC (.int 39))]) (Zc Zu [Za 1,eC (.int 149),eC (.int 3)]))))
  (Zj (Zi 5 (Zq 1 [4,1] (ZE [Zc Zz [Za 0]]) (.one 0) Zx (eP (Zd Sb (Zd Yo (Zc Zu [Zd ZI (Za 2) (Zd Sb (eC (.int 3)) (Za 0)),eC (.int 151),eC (.int 7)]) (eC (.int 3))) (Za 1)))))
  (Zj (Zi 6 (Zc Rh [Za 0,Zc U2 [Za 0,Za 3,Za 5]]))
  (Zj (V9 (LR (SH (xB (Zc Vv [Za 6,eC (.ty "tuple")]))) (LR (xB (Zd (YW aC) (Zc Zz [Za 6]) (eC (.int 4)))) (SH (xB (Zc XB [Zd Zv (Za 6) (eC (.int 0)),Zc Zz [Za 0]]))))) (ZY (eP (eC (.bl aB)))) Z6)
  (Zj (Zi 7 (Zq 1 [5,6] (ZE [Zc Zz [Za 0]]) (.one 0) Zx (eP (Zd ZI (Zd Zv (Za 1) (Za 0)) (Zd Zv (Zd Zv (Za 2) (eC (.int 0))) (Za 0))))))
  (ZY (eP (VR (Zc XB [Zd Zv (Za 6) (eC (.int 1)),Zc Zz [Za 0]]) (VR (Zd (YW aB) (Zd Zv (Za 6) (eC (.int 1))) (Za 3)) (Zd (YW aB) (Za 7) (Zd SS (Yu [Zd Zv (Za 7) (eC (.int 0))]) (Zc Zz [Za 0]))))))))))))))
noncomputable def Q0:List PV->Option PV:=Yv 8 BM
noncomputable def AU:XS:=(Zj (Zi 1 (Zc QZ [Za 0,Yu [eC (.int 1),eC (.int 2),eC (.int 3),eC (.int 4),eC (.int 5)],eC (.int 8)]))
  (Zj (Yz [] (Yg (Zd Ub (Yu [Zc ZW [Za 0,eC (.int 12)]]) (WM Xe (Za 0) (Wv (eC (.int 13))) (Wv (eC (.int 19)))))) (.one 2) (V9 (SH (xB (Zc Q0 [Za 1,Za 2]))) (ZY (eP (eC (.bl aB)))) Z6))
  (ZY (eP (eC (.bl aC))))))
noncomputable def D_law:List PV->Option PV:=Yv 3 AU
end PW
namespace VL
open PySem PySem.Spec PyProof.Rows L2
theorem Vr{N P:List aq}{sc:eB}(a:sc.kind = .function:=by rfl)(b:sc.isCoroutine=aB:=by rfl)(c:sc.isGenerator=aB:=by rfl)(d:N.Nodup:=by decide +kernel)(e:N.take P.length=P:=by rfl)
  (f:∀x∈P,sc.names.lookup x=some .local\/sc.names.lookup x=some .cell:=by decide +kernel) (g:∀y∈sc.names,y.2≠.free:=by decide +kernel):Zw N P sc:=⟨a,b,c,d,e,f,g⟩
section
variable {X:Cx} {e e1 e2 e3 e4 e5:bH} {f f1 f2 f3 f4 f5:XE} {es:List bH} {fs:List XE} {x:aq} {p pos pos':da} {k k' n:Nat} {O W:List Nat}
theorem vo(i:Nat)(hN:X.N[i]?=some x:=by rfl)(hv:Vis X.env.scope x:=by first | exact bw rfl | exact jb (bw rfl) | exact jb (jb rfl))(hd:(x==("__debug__" : aq))=aB:=by decide)
  (hcd:(x==("__classdict__" : aq))=aB:=by decide):VE X (.Name x pos) (Za i):=NM (pv i hN hv hd hcd)
theorem XD(a:VE X e1 f1)(hs:aQ [e1] X.env=(aB,eval e1 X.env)::aQ [] X.env:=by rfl):VA X [e1] [f1]:=Xz a Uu hs
theorem WI(a:VE X e1 f1)(b:VE X e2 f2)(hs:aQ [e1,e2] X.env=(aB,eval e1 X.env)::aQ [e2] X.env:=by rfl)(h2:aQ [e2] X.env=(aB,eval e2 X.env)::aQ [] X.env:=by rfl):VA X [e1,e2] [f1,f2]:=Xz a (XD b h2) hs
theorem Rj(a:VE X e1 f1)(b:VE X e2 f2)(c:VE X e3 f3)(hs:aQ [e1,e2,e3] X.env=(aB,eval e1 X.env)::aQ [e2,e3] X.env:=by rfl)(h2:aQ [e2,e3] X.env=(aB,eval e2 X.env)::aQ [e3] X.env:=by rfl)(h3:aQ [e3] X.env=(aB,eval e3 X.env)::aQ [] X.env:=by rfl):VA X [e1,e2,e3] [f1,f2,f3]:=Xz a (WI b c h2 h3) hs
theorem va4(a:VE X e1 f1)(b:VE X e2 f2)(c:VE X e3 f3)(d:VE X e4 f4)(hs:aQ [e1,e2,e3,e4] X.env=(aB,eval e1 X.env)::aQ [e2,e3,e4] X.env:=by rfl)(h2:aQ [e2,e3,e4] X.env=(aB,eval e2 X.env)::aQ [e3,e4] X.env:=by rfl)(h3:aQ [e3,e4] X.env=(aB,eval e3 X.env)::aQ [e4] X.env:=by rfl)(h4:aQ [e4] X.env=(aB,eval e4 X.env)::aQ [] X.env:=by rfl):VA X [e1,e2,e3,e4] [f1,f2,f3,f4]:=Xz a (Rj b c d h2 h3 h4) hs
theorem TZ{ps:List aq}{D:List PV->Option PV}(C:XQ X.prog X.w X.K X.mg X.base x ps (Xs X.K D n) k)(hr:Room k' X.A)(ha:VA X (e::es) fs)(h:k<=k':=by decide)(hg:Gl X x:=by rfl)(hn:fs.length=n:=by rfl)
  (hdb:(x==("__debug__" : aq))=aB:=by decide) (he:aQ (e::es) X.env=(aB,eval e X.env)::aQ es X.env:=by rfl) (hpl:(dD pos (aQ es X.env)).any (·.1)=aB:=by rfl) :
  VM X (.Call (.Name x p) (e::es) [] pos) (Zc D fs):=IM C (hr.mono h) hg ha hn hdb he hpl
theorem UN{ps:List aq}{D:List PV->Option PV}(C:XQ X.prog X.w X.K X.mg X.base x ps (Xs X.K D n) k)(hr:Room k' X.A)(ha:VA X (e::es) fs)(h:k<=k':=by decide)(hg:Gl X x:=by rfl)(hn:fs.length=n:=by rfl)
  (hdb:(x==("__debug__" : aq))=aB:=by decide) (he:aQ (e::es) X.env=(aB,eval e X.env)::aQ es X.env:=by rfl) (hpl:(dD pos (aQ es X.env)).any (·.1)=aB:=by rfl) :
  VE X (.Call (.Name x p) (e::es) [] pos) (Zc D fs):=VM.ve (IM C (hr.mono h) hg ha hn hdb he hpl)
theorem vb{id:String}{r:List V->Hp->VK->Prop}{g:List PV->Option PV}(hc:X6 X (.builtin id) r)(hr:RC X.K r g)(hm:X.mg x=aA)(ha:VA X (e::es) fs)(hg:Gl X x:=by rfl)(hv:cS x=some (.builtin id):=by decide +kernel)(hn:x≠"__name__":=by decide)(hdb:(x==("__debug__" : aq))=aB:=by decide)
  (he:aQ (e::es) X.env=(aB,eval e X.env)::aQ es X.env:=by rfl) (hpl:(dD pos (aQ es X.env)).any (·.1)=aB:=by rfl):VE X (.Call (.Name x p) (e::es) [] pos) (Zc g fs):=LS hc hr hg hm hv ha hn hdb he hpl
theorem vmb{id:String}{r:List V->Hp->VK->Prop}{g:List PV->Option PV}(hc:X6 X (.builtin id) r)(hr:RCM X.K r g)(hm:X.mg x=aA)(ha:VA X (e::es) fs)(hg:Gl X x:=by rfl)(hv:cS x=some (.builtin id):=by decide +kernel)(hn:x≠"__name__":=by decide)(hdb:(x==("__debug__" : aq))=aB:=by decide)
  (he:aQ (e::es) X.env=(aB,eval e X.env)::aQ es X.env:=by rfl) (hpl:(dD pos (aQ es X.env)).any (·.1)=aB:=by rfl):VM X (.Call (.Name x p) (e::es) [] pos) (Zc g fs):=Eo hc hr hg hm hv ha hn hdb he hpl
theorem UP(hm:X.mg "len" = aA)(ha:VE X e f)(hg:Gl X "len":=by rfl)(he:aQ [e] X.env=(aB,eval e X.env)::aQ [] X.env:=by rfl)(hpl:(dD pos (aQ [] X.env)).any (·.1)=aB:=by rfl):VE X (.Call (.Name "len" p) [e] [] pos) (Zc Zz [f]):=
 LS FT Zbh hg hm (by decide +kernel) (XD ha he) (by decide) (by decide) he hpl
theorem YI{fe:XE}(i:Nat)(hN:X.N.Nodup)(he:VM X e fe)(hi:X.N[i]?=some x:=by rfl)(hx:Cz X.env.scope x:=by first | exact bw rfl | exact jb rfl)(hs:gF e (some (.Name x pos')) pos.line X.env=pure aB:=by rfl)(hf:X.fn x=aC\/X.env.scope.names.lookup x=some .local:=by first | exact .inl rfl | exact .inr rfl | assumption) :
  VS X O [i] (.Assign [.Name x pos'] e pos) (Zi i fe):=Zbo hN hi hx he hs hf
theorem RD(i:Nat)(hN:X.N.Nodup)(hi:X.N[i]?=some x:=by rfl)(hx:Cz X.env.scope x:=by first | exact bw rfl | exact jb rfl)(hf:X.fn x=aC\/X.env.scope.names.lookup x=some .local:=by first | exact .inl rfl | exact .inr rfl | assumption):PG X (.Name x pos) (T2 i):=ZK hN hi hx hf
end
section
variable {X:Cx} {tg iter m8 e1 e2:bH} {fi:XL} {T:Tgt} {ft:XT} {fe f1 f2:XE} {p pos pos':da} {O W:List Nat} {body:List bp} {fb:XS} {scope:eB}
theorem N0(hi:VI X tg iter fi)(hg:PG X tg (gT X.K T))(hb:VSs X O W body fb)(hp:js (model X.prog X.w) X.A X.env X.xe:=by exact gA)(hc:X.calm=aC:=by rfl)(hT:∀i∈T.slots,i∉O:=by decide)
  (hs:∀x,ba iter X.env x=pure x:=by intro _;rfl):VS X O (T.slots++W) (.For tg iter body [] pos) (Yz O fi T fb):=Zbp hp hc hi hg hb hT hs
theorem N1(hm:X.mg "range" = aA)(ha:VE X e1 f1)(hg:Gl X "range":=by rfl)(hs:aQ [e1] X.env=[(aB,eval e1 X.env)]:=by rfl):VI X tg (.Call (.Name "range" p) [e1] [] pos) (ZE [f1]):=RS hg hm (XD ha (by rw[hs];rfl)) hs
theorem vr2(hm:X.mg "range" = aA)(ha:VE X e1 f1)(hb:VE X e2 f2)(hg:Gl X "range":=by rfl)(hs:aQ [e1,e2] X.env=[(aB,eval e1 X.env),(aB,eval e2 X.env)]:=by rfl)(hs2:aQ [e2] X.env=[(aB,eval e2 X.env)]:=by rfl):VI X tg (.Call (.Name "range" p) [e1,e2] [] pos) (Xv [f1,f2]):=Gu hg hm (WI ha hb (by rw[hs,hs2]) (by rw[hs2];rfl)) hs hs2
theorem GS(o:aq)(fr:List aq)(ix:List Nat)(hi:VI X (.Name o pos') iter fi)(he:∀{cl C s H ex},VE (ZQ X ([o]++fr) scope cl C s H ex) m8 fe)(S:Us X.N X.env.scope scope [o] fr ix=aC:=by kernel_rfl)
  (nd:([o]++fr).Nodup:=by decide +kernel) (h2:∀cl C s H ex,Cz (ZQ X ([o]++fr) scope cl C s H ex).env.scope o:=by intro _ _ _ _ _;exact bw rfl) (h3:∀cl C s H ex,(ZQ X ([o]++fr) scope cl C s H ex).env.scope.names.lookup o=some .local:=by intro _ _ _ _ _;rfl) (hc:X.calm=aC:=by rfl) (hs:∀x,ba iter X.env x=pure x:=by intro _;rfl) :
  VE X (.ListComp m8 [⟨.Name o pos',iter,[],0⟩] scope pos) (Zq 1 ix fi (.one 0) Zx fe):=XY [o] fr ix hc hi S (λ_ _ _ _ _=>ZK (i:=0) nd rfl (h2 _ _ _ _ _) (.inr (h3 _ _ _ _ _))) (λ_ _ _ _ _=>Yk) (λ_ _ _ _ _=>he) (λi hi=>by cases hi with | head=>exact j0 | tail _ h=>cases h) hs
theorem vcq{m7:List bH}(o:aq)(fr:List aq)(ix:List Nat)(hi:VI X (.Name o pos') iter fi)(ht:∀{cl C s H ex},VTs (ZQ X ([o]++fr) scope cl C s H ex) m7 ft)(he:∀{cl C s H ex},VE (ZQ X ([o]++fr) scope cl C s H ex) m8 fe)(S:Us X.N X.env.scope scope [o] fr ix=aC:=by kernel_rfl)
  (nd:([o]++fr).Nodup:=by decide +kernel) (h2:∀cl C s H ex,Cz (ZQ X ([o]++fr) scope cl C s H ex).env.scope o:=by intro _ _ _ _ _;exact bw rfl) (h3:∀cl C s H ex,(ZQ X ([o]++fr) scope cl C s H ex).env.scope.names.lookup o=some .local:=by intro _ _ _ _ _;rfl) (hc:X.calm=aC:=by rfl) (hs:∀x,ba iter X.env x=pure x:=by intro _;rfl) :
  VE X (.ListComp m8 [⟨.Name o pos',iter,m7,0⟩] scope pos) (Zq 1 ix fi (.one 0) ft fe):=XY [o] fr ix hc hi S (λ_ _ _ _ _=>ZK (i:=0) nd rfl (h2 _ _ _ _ _) (.inr (h3 _ _ _ _ _))) (λ_ _ _ _ _=>ht) (λ_ _ _ _ _=>he) (λi hi=>by cases hi with | head=>exact j0 | tail _ h=>cases h) hs
end
section
variable {K:aG} {P:bN} {w:bu} {mg:aq->Option aI} {base:b9} {x a b c d e:aq} {st:bp} {N:List aq} {k m:Nat} {O W:List Nat} {f:XS}
abbrev BdA(x:aq)(st:bp)(us:List aI)(r:List (aq×aI)):Prop:=∀(kV doc pm:aI)(an:Option aK)(cdv ct:aI),iA (ck x x (Xy st) (YG st) (Zh st) .none kV doc pm an cdv ct) ⟨us,[]⟩=pure r
abbrev BN(P:bN)(w:bu)(K:aG)(mg:aq->Option aI)(base:b9)(N:List aq)(x:aq)(st:bp)(k:Nat)(O W:List Nat)(f:XS):Prop:=∀{fa:aK}{cdv:aI}{A:bt}{outer:List jx}{s:aP}{H:Hp}{E:XK},Room k (A.deeper (gW x (Zh st) s.heap.objs.size fa cdv))->VSs (Pd LK P w K mg base N x (Zh st) fa cdv A outer s H E).nox O W (YG st) f
theorem AV(O:List Nat)(D:Def K mg x st)(S:Zw N [a] (Zh st))(q:BN P w K mg base N x st k O W f)(hb:∀t,BdA x st [t] [(a,t)]:=by intro _ _ _ _ _ _ _;rfl)(hm:N.length=m:=by rfl)(hO:∀i∈O,1<=i:=by decide):XQ P w K mg base x [a] (Xs K (Yv m f) 1) (k+1):=
 PR m f D S (λ_ _ _ _ _ _ us hl=>match us,hl with | [t],_=>hb t _ _ _ _ _ _) rfl hm hO λ_ _ _ _ _ _ _ hr=>q hr
theorem N2(O:List Nat)(D:Def K mg x st)(S:Zw N [a,b] (Zh st))(q:BN P w K mg base N x st k O W f)(hb:∀t u,BdA x st [t,u] [(a,t),(b,u)]:=by intro _ _ _ _ _ _ _ _;rfl)(hm:N.length=m:=by rfl)(hO:∀i∈O,2<=i:=by decide):XQ P w K mg base x [a,b] (Xs K (Yv m f) 2) (k+1):=
 PR m f D S (λ_ _ _ _ _ _ us hl=>match us,hl with | [t,u],_=>hb t u _ _ _ _ _ _) rfl hm hO λ_ _ _ _ _ _ _ hr=>q hr
theorem FG(O:List Nat)(D:Def K mg x st)(S:Zw N [a,b,c] (Zh st))(q:BN P w K mg base N x st k O W f)(hb:∀t u v,BdA x st [t,u,v] [(a,t),(b,u),(c,v)]:=by intro _ _ _ _ _ _ _ _ _;rfl)(hm:N.length=m:=by rfl)(hO:∀i∈O,3<=i:=by decide):XQ P w K mg base x [a,b,c] (Xs K (Yv m f) 3) (k+1):=
 PR m f D S (λ_ _ _ _ _ _ us hl=>match us,hl with | [t,u,v],_=>hb t u v _ _ _ _ _ _) rfl hm hO λ_ _ _ _ _ _ _ hr=>q hr
theorem dk4(O:List Nat)(D:Def K mg x st)(S:Zw N [a,b,c,d] (Zh st))(q:BN P w K mg base N x st k O W f)(hb:∀t u v y,BdA x st [t,u,v,y] [(a,t),(b,u),(c,v),(d,y)]:=by intro _ _ _ _ _ _ _ _ _ _;rfl)(hm:N.length=m:=by rfl)(hO:∀i∈O,4<=i:=by decide):XQ P w K mg base x [a,b,c,d] (Xs K (Yv m f) 4) (k+1):=
 PR m f D S (λ_ _ _ _ _ _ us hl=>match us,hl with | [t,u,v,y],_=>hb t u v y _ _ _ _ _ _) rfl hm hO λ_ _ _ _ _ _ _ hr=>q hr
end
end VL
namespace PW
open PySem L2 VL VX
section
variable (P:bN) (w:bu) (K:aG) (mg:aq->Option aI) (base:b9)
abbrev Ui:Prop:=XQ P w K mg base "_law_pick" ["_law_cell","_law_salt","_law_many"] (Xs K Zu 3) 1
abbrev Ho:Prop:=XQ P w K mg base "_law_six" ([]:List aq) (Xs K Ra 0) 1
abbrev UG:Prop:=XQ P w K mg base "_law_read_web" ["_law_number","_law_sizes","_law_most"] (Xs K WT 3) 1
abbrev MK:Prop:=XQ P w K mg base "_law_at" ["_law_script","_law_k"] (Xs K ZW 2) 1
abbrev ML:Prop:=XQ P w K mg base "_law_web" ["_law_script","_law_sizes","_law_most"] (Xs K QZ 3) 2
abbrev Rk:Prop:=XQ P w K mg base "_law_ties" ["_law_web_here"] (Xs K Ww 1) 1
abbrev OE:Prop:=XQ P w K mg base "_law_tree" ["_law_web_here","_law_cell"] (Xs K U3 2) 2
abbrev R3:Prop:=XQ P w K mg base "_law_coins" ["_law_web_here","_law_ends_here"] (Xs K Ue 2) 1
abbrev MM:Prop:=XQ P w K mg base "total" ["purse"] (Xs K QW 1) 1
abbrev Uj:Prop:=XQ P w K mg base "ties_of" ["web"] (Xs K Wh 1) 1
abbrev MN:Prop:=XQ P w K mg base "loops" ["web"] (Xs K S1 1) 2
abbrev Vg:Prop:=XQ P w K mg base "refuse_total" ["web","purse"] (Xs K X1 2) 3
abbrev R4:Prop:=XQ P w K mg base "reduced" ["row","by","place","divisor"] (Xs K Wi 4) 1
abbrev OF:Prop:=XQ P w K mg base "evened" ["rows"] (Xs K U1 1) 2
abbrev Vh:Prop:=XQ P w K mg base "solved_below" ["square","column"] (Xs K Xi 2) 3
abbrev TJ:Prop:=XQ P w K mg base "ties_at" ["web","house"] (Xs K Wg 2) 1
abbrev OG:Prop:=XQ P w K mg base "row_of" ["web","house","others"] (Xs K S5 3) 2
abbrev Wm:Prop:=XQ P w K mg base "square_without" ["web","base"] (Xs K Yy 2) 3
abbrev R5:Prop:=XQ P w K mg base "nearing" ["web","purse","base"] (Xs K Ud 3) 4
abbrev Jz:Prop:=XQ P w K mg base "gain" ["web","script","house"] (Xs K Od 3) 1
abbrev Dc:Prop:=XQ P w K mg base "run" ["web","purse","script"] (Xs K Oe 3) 2
abbrev U8:Prop:=XQ P w K mg base "ties_to" ["web","house","others"] (Xs K XJ 3) 1
abbrev WE:Prop:=XQ P w K mg base "lacking_among" ["web","purse"] (Xs K Yn 2) 2
abbrev Q1:Prop:=XQ P w K mg base "minus" ["one","other"] (Xs K UD 2) 1
abbrev Sm:Prop:=XQ P w K mg base "overfull" ["heads","wanted"] (Xs K Vf 2) 1
abbrev VG:Prop:=XQ P w K mg base "other_end" ["tie","end"] (Xs K Xj 2) 1
abbrev R6:Prop:=XQ P w K mg base "way_out" ["ties","heads","wanted","house"] (Xs K TF 4) 2
abbrev U9:Prop:=XQ P w K mg base "heads_for" ["web","wanted"] (Xs K VF 2) 3
abbrev Wn:Prop:=XQ P w K mg base "tie_to_look_at" ["ties","looked","fire"] (Xs K Yi 3) 1
abbrev OH:Prop:=XQ P w K mg base "walked" ["web","base","burns"] (Xs K Wy 3) 2
abbrev R7:Prop:=XQ P w K mg base "tree_by" ["web","base","burns"] (Xs K Uh 3) 3
abbrev MO:Prop:=XQ P w K mg base "plus" ["one","other"] (Xs K U0 2) 1
abbrev OI:Prop:=XQ P w K mg base "one_at" ["web","house"] (Xs K S8 2) 1
abbrev R8:Prop:=XQ P w K mg base "made_of" ["web","purse"] (Xs K TH 2) 4
abbrev Ta:Prop:=XQ P w K mg base "borrowing" ["web","houses"] (Xs K VB 2) 1
abbrev MP:Prop:=XQ P w K mg base "least" ["script"] (Xs K S6 1) 1
abbrev OJ:Prop:=XQ P w K mg base "middle" ["web"] (Xs K Rf 1) 2
abbrev OK:Prop:=XQ P w K mg base "broken" ["web","purse"] (Xs K Rh 2) 5
abbrev Tb:Prop:=XQ P w K mg base "_law_outside" ["_law_web_here","_law_tree_here"] (Xs K Wx 2) 2
abbrev OL:Prop:=XQ P w K mg base "_law_ends" ["_law_web_here","_law_tree_here","_law_cell"] (Xs K U6 3) 3
abbrev OM:Prop:=XQ P w K mg base "_law_lend" ["_law_web_here","_law_purse","_law_script"] (Xs K U2 3) 1
abbrev R9:Prop:=XQ P w K mg base "_law_whole" ["_law_found"] (Xs K Uc 1) 1
abbrev Sn:Prop:=XQ P w K mg base "_law_wholes" ["_law_found","_law_many"] (Xs K XB 2) 2
abbrev MQ:Prop:=XQ P w K mg base "_law_one" ["_law_web_here","_law_cell"] (Xs K Q0 2) 6
end
section
variable {P:bN} {w:bu} {K:aG} {mg:aq->Option aI} {base:b9}
theorem JA:OA (["tie","house","seen","heads"]:List aq) (["tie","house","seen"]:List aq) Y6:=⟨rfl,rfl,rfl,by decide +kernel,by decide +kernel,rfl,by decide +kernel,rfl,by decide +kernel,by decide +kernel⟩
theorem JB(B:WV mg):Hn P w K mg base 1 Y6 (λl ls=>TC (ls.map some++[some l])) 3:=
 Zb3 (k:=0) TC JA (λ_ _ _ _ us hl=>match us,hl with | [_,_,_],_=>rfl) rfl (λfa c e A outer s H hr=>(Ez hr.units (Zm (NM (pv 3)) (NM (pv 0))) (NM (pv 1))))
theorem BO(B:WV mg):∀L,(∃l ls r,TY L l ls=some r)->Hn P w K mg base 1 L (TY L) 3:=by
 intro L ⟨l,ls,r,h⟩;by_cases e_made_of:L=Y6
 ·have q:TY L=λl ls=>TC (ls.map some++[some l]):=by funext l ls;unfold TY;rw[mM e_made_of]
  rw[q,e_made_of];exact JB B
 unfold TY at h;rw[mN e_made_of] at h;cases h
abbrev ON:bp:=Vq 44
theorem sc_l_pick:Zw ["_law_cell","_law_salt","_law_many","_law_number"] ["_law_cell","_law_salt","_law_many"] (Zh ON):=Vr
theorem GU(Df:Def K mg "_law_pick" ON)(B:WV mg):Ui P w K mg base:=
 FG [] Df sc_l_pick λhr=>
  (Zf (YI 3 sc_l_pick.nd (VE.pure (Xd (Ut (Z4 (Xd (vo 0) Zg) (vo 1)) (Z4 (vo 1) Zg)) Zg)))
  (Zf (YI 3 sc_l_pick.nd (VE.pure (Xd (Z4 (Z4 (Ut (vo 3) (vo 3)) (Xn (vo 0) Zg)) (vo 1)) Zg)))
  (Zl (ZJ (VE.pure (Xd (Xn (vo 3) Zg) (vo 2)))))))
abbrev MR:bp:=Vq 46
theorem Dd:Zw ([]:List aq) ([]:List aq) (Zh MR):=Vr
theorem De(Df:Def K mg "_law_six" MR)(B:WV mg):XQ P w K mg base "_law_six" ([]:List aq) (Xs K Ra 0) 1:=
 PR (O:=[]) (k:=0) 0 QY Df Dd (λ_ _ _ _ _ _ us hl=>match us,hl with | [],_=>rfl) rfl rfl (by decide) (λfa cdv A outer s H E hr=>
  (Zl (ZJ (VE.pure (ZL Zy ZT rfl B.tuple (by decide +kernel) (Xz (EY "_law_one_here" rfl (RS rfl B.range (Xz Zg Uu)) ⟨rfl,λ_=>rfl,λ_=>rfl,by decide +kernel,by decide +kernel,by decide +kernel⟩ (λ_ _ _ _ _=>(ZK (i:=0) (show((["_law_one_here"]:List aq)).Nodup by decide +kernel) rfl (jb rfl) (.inl rfl))) (λ_ _ _ _ _=>Yk) (λ_ _ _ _ _=>(ZL Zy ZT rfl B.tuple (by decide +kernel) (Xz (XY (["_law_other"]:List aq) (["_law_one_here"]:List aq) [0] rfl (RS rfl B.range (Xz Zg Uu)) (by kernel_rfl) (λ_ _ _ _ _=>(ZK (i:=0) (show((["_law_other"]:List aq)++(["_law_one_here"]:List aq)).Nodup by decide +kernel) rfl (bw rfl) (.inr rfl))) (λ_ _ _ _ _=>Yk) (λ_ _ _ _ _=>(ZL Nv IP rfl B.int (by decide +kernel) (Xz (Zd7 hr.units (Xd (Xu (NM (pv 1)) (NM (pv 0))) Zg) Zg) Uu)))) Uu)))) Uu))))))
abbrev UH:bp:=Vq 45
theorem sc_l_read_web:Zw ["_law_number","_law_sizes","_law_most","_law_many","_law_order","_law_pairs","_law_k","_law_more","_law_one_here","_law_rows","_law_other","_law_times"] ["_law_number","_law_sizes","_law_most"] (Zh UH):=Vr
theorem Nr(Df:Def K mg "_law_read_web" UH)(B:WV mg):UG P w K mg base:=
 BC (O:=[4,5,9]) (k:=0) 12 WR Df sc_l_read_web (λ_ _ _ _ _ _ us hl=>match us,hl with | [_,_,_],_=>rfl) rfl rfl (by decide) (λfa cdv A outer s H E hr=>
  (Y5 (YI 3 sc_l_read_web.nd (VE.pure (Zm (vo 1) (Xd (vo 0) (UP B.len (vo 1))))))
  (Y5 (YI 0 sc_l_read_web.nd (VE.pure (Xn (vo 0) (UP B.len (vo 1)))))
  (Y5 (YI 4 sc_l_read_web.nd (We Xo))
  (Y5 (YI 5 sc_l_read_web.nd (We Xo))
  (Y5 (N0 (N1 B.range (vo 3)) (RD 6 sc_l_read_web.nd) (Zf (NQ (Xm (Vt bP iX iY NI (pv 4) (Yc (Xd (vo 0) (Z4 (vo 6) Zg)) (Yc (vo 6) Xc)))))
  (Zl (YI 0 sc_l_read_web.nd (VE.pure (Xn (vo 0) (Z4 (vo 6) Zg)))))))
  (Y5 (N0 (vr2 B.range Zg (vo 3)) (RD 6 sc_l_read_web.nd) (Zf (XI (Xm (Vt bP bx bz XH (pv 5) (Yc (VE.pure (Wd (WI (vo 6) (Xd (vo 0) (vo 6))))) Xc))))
  (Zl (YI 0 sc_l_read_web.nd (VE.pure (Xn (vo 0) (vo 6)))))))
  (Y5 (YI 7 sc_l_read_web.nd (VE.pure (Ut (ZL Nv IP rfl B.int (by decide +kernel) (XD (Eh (vo 3) Zg))) (Xd (vo 0) (Z4 (Xu (vo 2) (vo 3)) Zg)))))
  (Y5 (YI 0 sc_l_read_web.nd (VE.pure (Xn (vo 0) (Z4 (Xu (vo 2) (vo 3)) Zg))))
  (Y5 (N0 (N1 B.range (vo 7)) (RD 6 sc_l_read_web.nd) (Zf (YI 8 sc_l_read_web.nd (VE.pure (Xd (vo 0) (vo 3))))
  (Zf (YI 0 sc_l_read_web.nd (VE.pure (Xn (vo 0) (vo 3))))
  (Zf (XI (Xm (Vt bP bx bz XH (pv 5) (Yc (VE.pure (Wd (WI (vo 8) (Xd (Z4 (Z4 (vo 8) Zg) (Xd (vo 0) (Xu (vo 3) Zg))) (vo 3))))) Xc))))
  (Zl (YI 0 sc_l_read_web.nd (VE.pure (Xn (vo 0) (Xu (vo 3) Zg)))))))))
  (Y5 (UA (["_law_house"]:List aq) (["_law_many"]:List aq) [3] (i:=9) sc_l_read_web.nd rfl rfl rfl (N1 B.range (vo 3)) (by kernel_rfl) (λ_ _ _ _ _=>(ZK (i:=0) (show((["_law_house"]:List aq)++(["_law_many"]:List aq)).Nodup by decide +kernel) rfl (bw rfl) (.inr rfl))) (λ_ _ _ _ _=>Yk) (λ_ _ _ _ _=>(MA (Sh (XD Zg)) (vo 1))))
  (GF (O':=[9]) (VSs.r (Zf (N0 (Y1 (vo 5)) (Xb (n:=2) rfl (ZG (RD 8 sc_l_read_web.nd) (ZG (RD 10 sc_l_read_web.nd) YF))) (Zf (YI 11 sc_l_read_web.nd (VE.pure (Z4 (Zm (Zm (vo 9) (Zm (vo 4) (vo 8))) (Zm (vo 4) (vo 10))) Zg)))
  (Zf (Tu (Sf (vo 11) (RE (LD ix_list (pv 9) (Zm (vo 4) (vo 8)) (λ_ _=>rfl)) (Zm (vo 4) (vo 10)) V5)))
  (Zl (Tu (Sf (vo 11) (RE (LD ix_list (pv 9) (Zm (vo 4) (vo 10)) (λ_ _=>rfl)) (Zm (vo 4) (vo 8)) V5)))))))
  (Zl (ZJ (VE.pure (ZL Zy ZT rfl B.tuple (by decide +kernel) (XD (GS "_law_row" [] [] (Y1 (vo 9)) (ZL Zy ZT rfl B.tuple (by decide +kernel) (XD (vo 0)))))))))))))))))))))))
abbrev JC:bp:=Vq 43
theorem BP:Zw ["_law_script","_law_k"] ["_law_script","_law_k"] (Zh JC):=Vr
theorem BQ(Df:Def K mg "_law_at" JC)(B:WV mg):MK P w K mg base:=
 N2 [] Df BP λhr=>
  (Zl (ZJ (VE.pure (SI (II (vo 1) (UP B.len (vo 0))) (Zm (vo 0) (vo 1)) Zg))))
abbrev MS:bp:=Vq 47
theorem sc_q_web:Zw ["_law_script","_law_sizes","_law_most","_law_many","_law_rows","_law_ties_here","_law_k","_law_cell","_law_one_here","_law_other","_law_more","_law_by"] ["_law_script","_law_sizes","_law_most"] (Zh MS):=Vr
theorem Dg(Df:Def K mg "_law_web" MS)(B:WV mg)(C_l_pick:Ui P w K mg base)(C_l_at:MK P w K mg base)(C_l_six:Ho P w K mg base)(C_l_read_web:UG P w K mg base):ML P w K mg base:=
 FG [4] Df sc_q_web λhr=>
  (Zf (W5 (Sa hr.units (UN C_l_pick hr (Rj (UN C_l_at hr (WI (vo 0) Zg)) Zg Zg)) Zg) (Zl (ZJ (EZ C_l_six (hr.mono (by decide)) rfl))) Y2)
  (Zf (W5 (Sa hr.units (Xd (UN C_l_at hr (WI (vo 0) Zg)) Zg) Zg) (Zl (ZJ (TZ C_l_read_web hr (Rj (UN C_l_at hr (WI (vo 0) Zg)) (vo 1) (vo 2))))) Y2)
  (Zf (YI 3 sc_q_web.nd (VE.pure (Zm (vo 1) (UN C_l_pick hr (Rj (UN C_l_at hr (WI (vo 0) Zg)) Zg (UP B.len (vo 1)))))))
  (Zf (UA (["_law_house"]:List aq) (["_law_many"]:List aq) [3] (i:=4) sc_q_web.nd rfl rfl rfl (N1 B.range (vo 3)) (by kernel_rfl) (λ_ _ _ _ _=>(ZK (i:=0) (show((["_law_house"]:List aq)++(["_law_many"]:List aq)).Nodup by decide +kernel) rfl (bw rfl) (.inr rfl))) (λ_ _ _ _ _=>Yk) (λ_ _ _ _ _=>(MA (Sh (XD Zg)) (vo 1))))
  (Zf (YI 5 sc_q_web.nd (VE.pure Zg))
  (Zf (N0 (vr2 B.range Zg Zg) (RD 6 sc_q_web.nd) (Zf (YI 7 sc_q_web.nd (TZ C_l_at hr (WI (vo 0) (vo 6))))
  (Zf (YI 8 sc_q_web.nd (TZ C_l_pick hr (Rj (vo 7) Zg (vo 3))))
  (Zf (YI 9 sc_q_web.nd (VE.pure (Xd (Z4 (Z4 (vo 8) Zg) (UN C_l_pick hr (Rj (vo 7) Zg (vb (Gb rfl) Bj B.max (WI Zg (Xu (vo 3) Zg)))))) (vo 3))))
  (Zf (W5 (II (vo 6) (vo 3)) (Zf (YI 8 sc_q_web.nd (VE.pure (vo 6)))
  (Zl (YI 9 sc_q_web.nd (TZ C_l_pick hr (Rj (vo 7) Zg (vo 6)))))) Y2)
  (Zf (YI 10 sc_q_web.nd (VE.pure (Pw (Eh (vo 3) Zg) (Pw (Zd0 (vo 5) (vo 2)) (Jh (Eh (UN C_l_pick hr (Rj (vo 7) Zg Zg)) Zg))))))
  (Zl (W5 (VW.vt (IK (II (vo 6) (vo 3)) (Jg (Pu (vo 10))))) (Zf (Tu (Sf (Z4 (Zm (Zm (vo 4) (vo 8)) (vo 9)) Zg) (RE (LD ix_list (pv 4) (vo 8) (λ_ _=>rfl)) (vo 9) V5)))
  (Zf (Tu (Sf (Zm (Zm (vo 4) (vo 8)) (vo 9)) (RE (LD ix_list (pv 4) (vo 9) (λ_ _=>rfl)) (vo 8) V5)))
  (Zl (YI 5 sc_q_web.nd (VE.pure (Z4 (vo 5) Zg)))))) Y2))))))))
  (Zf (YI 11 sc_q_web.nd (TZ C_l_pick hr (Rj (UN C_l_at hr (WI (vo 0) Zg)) Zg (vo 3))))
  (Zf (UA (["_law_row"]:List aq) (["_law_by"]:List aq) [11] (i:=4) sc_q_web.nd rfl rfl rfl (Y1 (BE (WX (vo 4) (Ws (vo 11)) Vx) (WX (vo 4) Vx (Ws (vo 11))))) (by kernel_rfl) (λ_ _ _ _ _=>(ZK (i:=0) (show((["_law_row"]:List aq)++(["_law_by"]:List aq)).Nodup by decide +kernel) rfl (bw rfl) (.inr rfl))) (λ_ _ _ _ _=>Yk) (λ_ _ _ _ _=>(Mz (WX (vo 0) (Ws (vo 1)) Vx) (WX (vo 0) Vx (Ws (vo 1))))))
  (Zl (ZJ (VE.pure (ZL Zy ZT rfl B.tuple (by decide +kernel) (XD (GS "_law_row" [] [] (Y1 (vo 4)) (ZL Zy ZT rfl B.tuple (by decide +kernel) (XD (vo 0)))))))))))))))))
abbrev OO:bp:=Vq 52
theorem sc_l_ties:Zw ["_law_web_here","_law_found","_law_one_here","_law_other"] ["_law_web_here"] (Zh OO):=Vr
theorem GV(Df:Def K mg "_law_ties" OO)(B:WV mg):Rk P w K mg base:=
 AV [1] Df sc_l_ties λhr=>
  (Zf (YI 1 sc_l_ties.nd (We Xo))
  (Zf (N0 (N1 B.range (UP B.len (vo 0))) (RD 2 sc_l_ties.nd) (Zl (N0 (vr2 B.range (Z4 (vo 2) Zg) (UP B.len (vo 0))) (RD 3 sc_l_ties.nd) (Zl (NP (Xm (Vt bP iZ i5 NC (pv 1) (Yc (Uz (["_law_nth"]:List aq) (["_law_one_here","_law_other"]:List aq) [2,3] rfl (N1 B.range (Zm (Zm (vo 0) (vo 2)) (vo 3))) (by kernel_rfl) (λ_ _ _ _ _=>(ZK (i:=0) (show((["_law_nth"]:List aq)++(["_law_one_here","_law_other"]:List aq)).Nodup by decide +kernel) rfl (bw rfl) (.inr rfl))) (λ_ _ _ _ _=>Yk) (λ_ _ _ _ _=>(VE.pure (Wd (WI (vo 1) (vo 2)))))) Xc))))))))
  (Zl (QU (pv 1)))))
abbrev OP:bp:=Vq 53
theorem sc_l_tree:Zw ["_law_web_here","_law_cell","_law_ties_here","_law_marks","_law_found","_law_left","_law_number","_law_k","_law_at_here","_law_one_here","_law_other","_law_gone"] ["_law_web_here","_law_cell"] (Zh OP):=Vr
theorem GW(Df:Def K mg "_law_tree" OP)(B:WV mg)(C_l_ties:Rk P w K mg base)(C_l_pick:Ui P w K mg base):OE P w K mg base:=
 N2 [4,5] Df sc_l_tree λhr=>
  (Zf (YI 2 sc_l_tree.nd (TZ C_l_ties hr (XD (vo 0))))
  (Zf (YI 3 sc_l_tree.nd (S4 rfl rfl B.list rfl B.range (UP B.len (vo 0))))
  (Zf (YI 4 sc_l_tree.nd (We Xo))
  (Zf (YI 5 sc_l_tree.nd (S4 rfl rfl B.list rfl B.range (UP B.len (vo 2))))
  (Zf (YI 6 sc_l_tree.nd (VE.pure (Xn (vo 1) Zg)))
  (Zf (N0 (N1 B.range (UP B.len (vo 2))) (RD 7 sc_l_tree.nd) (Zf (YI 8 sc_l_tree.nd (TZ C_l_pick hr (Rj (Z4 (vo 1) (Ut (Ut Zg (vo 7)) (vo 7))) (Z4 Zg (vo 7)) (UP B.len (vo 5)))))
  (Zf (W5 (Sa hr.units (Xd (vo 1) Zg) Zg) (Zf (YI 8 sc_l_tree.nd (VE.pure (Xd (vo 6) (UP B.len (vo 5)))))
  (Zl (YI 6 sc_l_tree.nd (VE.pure (Xn (vo 6) (UP B.len (vo 5))))))) Y2)
  (Zf (Zb1 (FN (i:=8) sc_l_tree.nd rfl (bw rfl) (Vt bP PySem.F.slot_list_pop PySem.F.type_list_pop F2 (pv 5) (Yc (vo 8) Xc))))
  (Zf (Bn (T:=(.many [9,10])) (Sf (Zm (vo 2) (vo 8)) (Xb (n:=2) rfl (ZG (RD 9 sc_l_tree.nd) (ZG (RD 10 sc_l_tree.nd) YF)))))
  (Zl (W5 (NR hr.units (Zm (vo 3) (vo 9)) (Zm (vo 3) (vo 10))) (Zf (YI 11 sc_l_tree.nd (VE.pure (Zm (vo 3) (vo 9))))
  (Zf (YI 3 sc_l_tree.nd (Uz (["_law_mark"]:List aq) (["_law_gone","_law_marks","_law_other"]:List aq) [11,3,10] rfl (Y1 (vo 3)) (by kernel_rfl) (λ_ _ _ _ _=>(ZK (i:=0) (show((["_law_mark"]:List aq)++(["_law_gone","_law_marks","_law_other"]:List aq)).Nodup by decide +kernel) rfl (bw rfl) (.inr rfl))) (λ_ _ _ _ _=>Yk) (λ_ _ _ _ _=>(VE.pure (SI (Sa hr.units (vo 0) (vo 1)) (Zm (vo 2) (vo 3)) (vo 0))))))
  (Zl (XI (Xm (Vt bP bx bz XH (pv 4) (Yc (VE.pure (vo 8)) Xc))))))) Y2)))))))
  (Zl (ZJ (VE.pure (ZL Zy ZT rfl B.tuple (by decide +kernel) (XD (VM.ve (vmb S3 Og B.sorted (XD (vo 4)))))))))))))))
abbrev Qa:bp:=Vq 56
theorem sc_b_coins:Zw ["_law_web_here","_law_ends_here","_law_coins_here","_law_end"] ["_law_web_here","_law_ends_here"] (Zh Qa):=Vr
theorem JD(Df:Def K mg "_law_coins" Qa)(B:WV mg):R3 P w K mg base:=
 N2 [2] Df sc_b_coins λhr=>
  (Zf (YI 2 sc_b_coins.nd (MA (Sh (XD Zg)) (UP B.len (vo 0))))
  (Zf (N0 (Mu (vo 1)) (RD 3 sc_b_coins.nd) (Zl (LY (Sf (Z4 (Zm (vo 2) (vo 3)) Zg) (RE (pv 2) (vo 3) V5)))))
  (Zl (ZJ (VE.pure (ZL Zy ZT rfl B.tuple (by decide +kernel) (XD (vo 2))))))))
abbrev MT:bp:=Vq 10
theorem Dh:Zw ["purse"] ["purse"] (Zh MT):=Vr
theorem Di(Df:Def K mg "total" MT)(B:WV mg):MM P w K mg base:=
 AV [] Df Dh λhr=>
  (Zl (ZJ (VE.pure (vb (Tq rfl) Mr B.sum (XD (vo 0))))))
abbrev Qb:bp:=Vq 7
theorem sc_ties_of:Zw ["web","ties","a","row","b"] ["web"] (Zh Qb):=Vr
theorem JE(Df:Def K mg "ties_of" Qb)(B:WV mg):Uj P w K mg base:=
 AV [1] Df sc_ties_of λhr=>
  (Zf (YI 1 sc_ties_of.nd (We Xo))
  (Zf (N0 (WL aB rfl B.enumerate (XD (vo 0))) (Xb (n:=2) rfl (ZG (RD 2 sc_ties_of.nd) (ZG (RD 3 sc_ties_of.nd) YF))) (Zl (N0 (vr2 B.range (Z4 (vo 2) Zg) (UP B.len (vo 0))) (RD 4 sc_ties_of.nd) (Zl (NP (Xm (Vt bP iZ i5 NC (pv 1) (Yc (Uz (["nth"]:List aq) (["a","b"]:List aq) [2,4] rfl (N1 B.range (Zm (vo 3) (vo 4))) (by kernel_rfl) (λ_ _ _ _ _=>(ZK (i:=0) (show((["nth"]:List aq)++(["a","b"]:List aq)).Nodup by decide +kernel) rfl (bw rfl) (.inr rfl))) (λ_ _ _ _ _=>Yk) (λ_ _ _ _ _=>(VE.pure (Wd (Rj (vo 1) (vo 2) (vo 0)))))) Xc))))))))
  (Zl (QU (pv 1)))))
abbrev MU:bp:=Vq 8
theorem Dj:Zw ["web"] ["web"] (Zh MU):=Vr
theorem Dk(Df:Def K mg "loops" MU)(B:WV mg)(C_ties_of:Uj P w K mg base):MN P w K mg base:=
 AV [] Df Dj λhr=>
  (Zl (ZJ (VE.pure (Z4 (Xu (UP B.len (UN C_ties_of hr (XD (vo 0)))) (UP B.len (vo 0))) Zg))))
abbrev Vi:bp:=Vq 33
theorem QK:Zw ["web","purse"] ["web","purse"] (Zh Vi):=Vr
theorem QL(Df:Def K mg "refuse_total" Vi)(B:WV mg)(C_total:MM P w K mg base)(C_loops:MN P w K mg base):Vg P w K mg base:=
 N2 [] Df QK λhr=>
  (Zl (W5 (NR hr.units (UN C_total hr (XD (vo 1))) (UN C_loops hr (XD (vo 0)))) (Zl (EN (W:=[]))) Y2))
abbrev Qc:bp:=Vq 20
theorem JF:Zw ["row","by","place","divisor"] ["row","by","place","divisor"] (Zh Qc):=Vr
theorem JG(Df:Def K mg "reduced" Qc)(B:WV mg):R4 P w K mg base:=
 dk4 [] Df JF λhr=>
  (Zl (ZJ (VE.pure (ZL Zy ZT rfl B.tuple (by decide +kernel) (XD (XY (["number","other"]:List aq) (["divisor","by","place","row"]:List aq) [3,1,2,0] rfl (Mw aB aB rfl B.zip (WI (vo 0) (vo 1))) (by kernel_rfl) (λ_ _ _ _ _=>(Xb (n:=2) rfl (ZG (ZK (i:=0) (show((["number","other"]:List aq)++(["divisor","by","place","row"]:List aq)).Nodup by decide +kernel) rfl (bw rfl) (.inr rfl)) (ZG (ZK (i:=1) (show((["number","other"]:List aq)++(["divisor","by","place","row"]:List aq)).Nodup by decide +kernel) rfl (bw rfl) (.inr rfl)) YF)))) (λ_ _ _ _ _=>Yk) (λ_ _ _ _ _=>(L9 (Xu (QX (Zm (vo 3) (vo 4)) (vo 0)) (QX (Zm (vo 5) (vo 4)) (vo 1))) (vo 2)))))))))
abbrev OQ:bp:=Vq 19
theorem sc_evened:Zw ["rows","left","divisor","place","by"] ["rows"] (Zh OQ):=Vr
theorem GX(Df:Def K mg "evened" OQ)(B:WV mg)(C_reduced:R4 P w K mg base):OF P w K mg base:=
 AV [1] Df sc_evened λhr=>
  (Zf (YI 1 sc_evened.nd (Gp Mh Ep rfl B.list (by decide +kernel) (XD (vo 0))))
  (Zf (YI 2 sc_evened.nd (VE.pure Zg))
  (Zf (N0 (N1 B.range (UP B.len (vo 0))) (RD 3 sc_evened.nd) (Zf (YI 4 sc_evened.nd (VE.pure (Zm (vo 1) (vo 3))))
  (Zf (UA (["at","row"]:List aq) (["place","by","divisor"]:List aq) [3,4,2] (i:=1) sc_evened.nd rfl rfl rfl (WL aC rfl B.enumerate (XD (vo 1))) (by kernel_rfl) (λ_ _ _ _ _=>(Xb (n:=2) rfl (ZG (ZK (i:=0) (show((["at","row"]:List aq)++(["place","by","divisor"]:List aq)).Nodup by decide +kernel) rfl (bw rfl) (.inr rfl)) (ZG (ZK (i:=1) (show((["at","row"]:List aq)++(["place","by","divisor"]:List aq)).Nodup by decide +kernel) rfl (bw rfl) (.inr rfl)) YF)))) (λ_ _ _ _ _=>Yk) (λ_ _ _ _ _=>(VE.pure (SI (Sa hr.units (vo 0) (vo 2)) (vo 1) (UN C_reduced hr (va4 (vo 1) (vo 3) (vo 2) (vo 4)))))))
  (Zl (YI 2 sc_evened.nd (VE.pure (Zm (vo 4) (vo 3))))))))
  (Zl (ET (FU (Yc (vo 2) (Yc (pv 1) Xc))))))))
abbrev Vj:bp:=Vq 18
theorem sc_solved_below:Zw ["square","column","told"] ["square","column"] (Zh Vj):=Vr
theorem QM(Df:Def K mg "solved_below" Vj)(B:WV mg)(C_evened:OF P w K mg base):Vh P w K mg base:=
 N2 [] Df sc_solved_below λhr=>
  (Zf (YI 2 sc_solved_below.nd (TZ C_evened hr (XD (XY (["row","number"]:List aq) ([]:List aq) [] rfl (Mw aB aB rfl B.zip (WI (vo 0) (vo 1))) (by kernel_rfl) (λ_ _ _ _ _=>(Xb (n:=2) rfl (ZG (ZK (i:=0) (show((["row","number"]:List aq)++([]:List aq)).Nodup by decide +kernel) rfl (bw rfl) (.inr rfl)) (ZG (ZK (i:=1) (show((["row","number"]:List aq)++([]:List aq)).Nodup by decide +kernel) rfl (bw rfl) (.inr rfl)) YF)))) (λ_ _ _ _ _=>Yk) (λ_ _ _ _ _=>(W3 MD ME (vo 0) (Wd (XD (vo 1)))))))))
  (Zl (ZJ (Uz (["row"]:List aq) (["told"]:List aq) [2] rfl (Y1 (Zm (vo 2) Zg)) (by kernel_rfl) (λ_ _ _ _ _=>(ZK (i:=0) (show((["row"]:List aq)++(["told"]:List aq)).Nodup by decide +kernel) rfl (bw rfl) (.inr rfl))) (λ_ _ _ _ _=>Yk) (λ_ _ _ _ _=>(VE.pure (L9 (Zm (vo 0) (Mq Zg)) (Zm (vo 1) Zg))))))))
abbrev Qd:bp:=Vq 6
theorem JH:Zw ["web","house"] ["web","house"] (Zh Qd):=Vr
theorem JI(Df:Def K mg "ties_at" Qd)(B:WV mg):TJ P w K mg base:=
 N2 [] Df JH λhr=>
  (Zl (ZJ (VE.pure (vb (Tq rfl) Mr B.sum (XD (Zm (vo 0) (vo 1)))))))
abbrev OR:bp:=Vq 23
theorem GY:Zw ["web","house","others"] ["web","house","others"] (Zh OR):=Vr
theorem GZ(Df:Def K mg "row_of" OR)(B:WV mg)(C_ties_at:TJ P w K mg base):OG P w K mg base:=
 FG [] Df GY λhr=>
  (Zl (ZJ (VE.pure (ZL Zy ZT rfl B.tuple (by decide +kernel) (XD (GS "other" ["house","web"] [1,0] (Y1 (vo 2)) (SI (Sa hr.units (vo 0) (vo 1)) (UN C_ties_at hr (WI (vo 2) (vo 1))) (Mq (Zm (Zm (vo 2) (vo 1)) (vo 0))))))))))
abbrev Wo:bp:=Vq 22
theorem sc_square_without:Zw ["web","base","others"] ["web","base"] (Zh Wo):=Vr
theorem Rl(Df:Def K mg "square_without" Wo)(B:WV mg)(C_row_of:OG P w K mg base):Wm P w K mg base:=
 N2 [] Df sc_square_without λhr=>
  (Zf (YI 2 sc_square_without.nd (Uz (["house"]:List aq) (["base"]:List aq) [1] rfl (N1 B.range (UP B.len (vo 0))) (by kernel_rfl) (λ_ _ _ _ _=>(ZK (i:=0) (show((["house"]:List aq)++(["base"]:List aq)).Nodup by decide +kernel) rfl (bw rfl) (.inr rfl))) (λ_ _ _ _ _=>(SQ (NR hr.units (vo 0) (vo 1)))) (λ_ _ _ _ _=>(VE.pure (vo 0)))))
  (Zl (ZJ (VE.pure (ZL Zy ZT rfl B.tuple (by decide +kernel) (XD (GS "house" ["web","others"] [0,2] (Y1 (vo 2)) (UN C_row_of hr (Rj (vo 1) (vo 0) (vo 2))))))))))
abbrev Qe:bp:=Vq 25
theorem sc_nearing:Zw ["web","purse","base","column","script"] ["web","purse","base"] (Zh Qe):=Vr
theorem JJ(Df:Def K mg "nearing" Qe)(B:WV mg)(C_solved_below:Vh P w K mg base)(C_square_without:Wm P w K mg base):R5 P w K mg base:=
 FG [4] Df sc_nearing λhr=>
  (Zf (YI 3 sc_nearing.nd (VE.pure (W3 MD ME (RT (vo 1) Vx (Ws (vo 2))) (RT (vo 1) (Ws (Z4 (vo 2) Zg)) Vx))))
  (Zf (YI 4 sc_nearing.nd (TZ C_solved_below hr (WI (UN C_square_without hr (WI (vo 0) (vo 2))) (vo 3))))
  (Zf (NQ (Xm (Vt bP iX iY NI (pv 4) (Yc (vo 2) (Yc Zg Xc)))))
  (Zl (ZJ (VE.pure (ZL Zy ZT rfl B.tuple (by decide +kernel) (XD (vo 4)))))))))
abbrev JK:bp:=Vq 13
theorem BR:Zw ["web","script","house"] ["web","script","house"] (Zh JK):=Vr
theorem BS(Df:Def K mg "gain" JK)(B:WV mg):Jz P w K mg base:=
 FG [] Df BR λhr=>
  (Zl (ZJ (VE.pure (vb (Tq rfl) Mr B.sum (XD (XY (["other","times"]:List aq) (["script","house"]:List aq) [1,2] rfl (WL aB rfl B.enumerate (XD (Zm (vo 0) (vo 2)))) (by kernel_rfl) (λ_ _ _ _ _=>(Xb (n:=2) rfl (ZG (ZK (i:=0) (show((["other","times"]:List aq)++(["script","house"]:List aq)).Nodup by decide +kernel) rfl (bw rfl) (.inr rfl)) (ZG (ZK (i:=1) (show((["other","times"]:List aq)++(["script","house"]:List aq)).Nodup by decide +kernel) rfl (bw rfl) (.inr rfl)) YF)))) (λ_ _ _ _ _=>Yk) (λ_ _ _ _ _=>(Ut (vo 1) (Xu (Zm (vo 2) (vo 0)) (Zm (vo 2) (vo 3)))))))))))
abbrev Dl:bp:=Vq 12
theorem Zb7:Zw ["web","purse","script"] ["web","purse","script"] (Zh Dl):=Vr
theorem Zb8(Df:Def K mg "run" Dl)(B:WV mg)(C_gain:Jz P w K mg base):Dc P w K mg base:=
 FG [] Df Zb7 λhr=>
  (Zl (ZJ (VE.pure (ZL Zy ZT rfl B.tuple (by decide +kernel) (XD (XY (["house","coins"]:List aq) (["web","script"]:List aq) [0,2] rfl (WL aB rfl B.enumerate (XD (vo 1))) (by kernel_rfl) (λ_ _ _ _ _=>(Xb (n:=2) rfl (ZG (ZK (i:=0) (show((["house","coins"]:List aq)++(["web","script"]:List aq)).Nodup by decide +kernel) rfl (bw rfl) (.inr rfl)) (ZG (ZK (i:=1) (show((["house","coins"]:List aq)++(["web","script"]:List aq)).Nodup by decide +kernel) rfl (bw rfl) (.inr rfl)) YF)))) (λ_ _ _ _ _=>Yk) (λ_ _ _ _ _=>(Z4 (vo 1) (UN C_gain hr (Rj (vo 2) (vo 3) (vo 0)))))))))))
abbrev Tc:bp:=Vq 4
theorem MV:Zw ["web","house","others"] ["web","house","others"] (Zh Tc):=Vr
theorem MW(Df:Def K mg "ties_to" Tc)(B:WV mg):U8 P w K mg base:=
 FG [] Df MV λhr=>
  (Zl (ZJ (VE.pure (vb (Tq rfl) Mr B.sum (XD (GS "other" ["web","house"] [0,1] (Mu (vo 2)) (Zm (Zm (vo 1) (vo 2)) (vo 0))))))))
abbrev WG:bp:=Vq 34
theorem sc_lacking_among:Zw ["web","purse","groups","house","coins","lacks"] ["web","purse"] (Zh WG):=Vr
theorem Qf(Df:Def K mg "lacking_among" WG)(B:WV mg)(C_b_ties_to:U8 P w K mg base):WE P w K mg base:=
 N2 [] Df sc_lacking_among λhr=>
  (Zf (YI 2 sc_lacking_among.nd (We (SJ (VE.pure (Wd (WI (Wd Uu) (Mq Zg)))) Xo)))
  (Zf (N0 (WL aB rfl B.enumerate (XD (vo 1))) (Xb (n:=2) rfl (ZG (RD 3 sc_lacking_among.nd) (ZG (RD 4 sc_lacking_among.nd) YF))) (Zl (YI 2 sc_lacking_among.nd (Mz (vo 2) (XY (["group","over"]:List aq) (["house","web","coins"]:List aq) [3,0,4] rfl (Y1 (vo 2)) (by kernel_rfl) (λ_ _ _ _ _=>(Xb (n:=2) rfl (ZG (ZK (i:=0) (show((["group","over"]:List aq)++(["house","web","coins"]:List aq)).Nodup by decide +kernel) rfl (bw rfl) (.inr rfl)) (ZG (ZK (i:=1) (show((["group","over"]:List aq)++(["house","web","coins"]:List aq)).Nodup by decide +kernel) rfl (bw rfl) (.inr rfl)) YF)))) (λ_ _ _ _ _=>Yk) (λ_ _ _ _ _=>(Wd (WI (W3 MD ME (vo 0) (Wd (XD (vo 2)))) (Xu (Z4 (Z4 (vo 1) (vo 4)) Zg) (UN C_b_ties_to hr (Rj (vo 3) (vo 2) (vo 0))))))))))))
  (Zf (UA (["group","over"]:List aq) ([]:List aq) [] (i:=5) sc_lacking_among.nd rfl rfl rfl (Y1 (WX (vo 2) (Ws Zg) Vx)) (by kernel_rfl) (λ_ _ _ _ _=>(Xb (n:=2) rfl (ZG (ZK (i:=0) (show((["group","over"]:List aq)++([]:List aq)).Nodup by decide +kernel) rfl (bw rfl) (.inr rfl)) (ZG (ZK (i:=1) (show((["group","over"]:List aq)++([]:List aq)).Nodup by decide +kernel) rfl (bw rfl) (.inr rfl)) YF)))) (λ_ _ _ _ _=>(SQ (II (vo 1) Zg))) (λ_ _ _ _ _=>(VE.pure (vo 0))))
  (Zl (ZJ (VE.pure (SI (AH (UP B.len (vo 5)) Zg) (Zm (vo 5) Zg) Jd)))))))
abbrev MX:bp:=Vq 16
theorem Dm:Zw ["one","other"] ["one","other"] (Zh MX):=Vr
theorem Dn(Df:Def K mg "minus" MX)(B:WV mg):Q1 P w K mg base:=
 N2 [] Df Dm λhr=>
  (Zl (ZJ (VE.pure (ZL Zy ZT rfl B.tuple (by decide +kernel) (XD (XY (["first","second"]:List aq) ([]:List aq) [] rfl (Mw aB aB rfl B.zip (WI (vo 0) (vo 1))) (by kernel_rfl) (λ_ _ _ _ _=>(Xb (n:=2) rfl (ZG (ZK (i:=0) (show((["first","second"]:List aq)++([]:List aq)).Nodup by decide +kernel) rfl (bw rfl) (.inr rfl)) (ZG (ZK (i:=1) (show((["first","second"]:List aq)++([]:List aq)).Nodup by decide +kernel) rfl (bw rfl) (.inr rfl)) YF)))) (λ_ _ _ _ _=>Yk) (λ_ _ _ _ _=>(Xu (vo 0) (vo 1)))))))))
abbrev So:bp:=Vq 39
theorem sc_overfull:Zw ["heads","wanted","house","many"] ["heads","wanted"] (Zh So):=Vr
theorem Kg(Df:Def K mg "overfull" So)(B:WV mg):Sm P w K mg base:=
 N2 [] Df sc_overfull λhr=>
  (Zf (N0 (WL aB rfl B.enumerate (XD (vo 1))) (Xb (n:=2) rfl (ZG (RD 2 sc_overfull.nd) (ZG (RD 3 sc_overfull.nd) YF))) (Zl (W5 (AH (NY (vo 0) (vo 2)) (vo 3)) (Zl (ZJ (VE.pure (vo 2)))) Y2)))
  (Zl (ZJ (VE.pure Jd))))
abbrev Td:bp:=Vq 41
theorem MY:Zw ["tie","end"] ["tie","end"] (Zh Td):=Vr
theorem MZ(Df:Def K mg "other_end" Td)(B:WV mg):VG P w K mg base:=
 N2 [] Df MY λhr=>
  (Zl (ZJ (VE.pure (SI (Sa hr.units (vo 1) (Zm (vo 0) Zg)) (Zm (vo 0) Zg) (Zm (vo 0) Zg)))))
abbrev Qg:bp:=Vq 40
theorem sc_way_out:Zw ["ties","heads","wanted","house","ways","found","looked","here","tie","head","there"] ["ties","heads","wanted","house"] (Zh Qg):=Vr
theorem JL(Df:Def K mg "way_out" Qg)(B:WV mg)(C_other_end:VG P w K mg base):R6 P w K mg base:=
 dk4 [4,5] Df sc_way_out λhr=>
  (Zf (YI 4 sc_way_out.nd (EV (vo 3) (Jt (We Xo))))
  (Zf (YI 5 sc_way_out.nd (We (SJ (VE.pure (vo 3)) Xo)))
  (Zf (YI 6 sc_way_out.nd (VE.pure Zg))
  (Zf (SR gA (Zd3 (NY (vo 1) (Zm (vo 5) (vo 6))) (Zm (vo 2) (Zm (vo 5) (vo 6)))) (Zf (YI 7 sc_way_out.nd (VE.pure (Zm (vo 5) (vo 6))))
  (Zf (N0 (WL aC rfl B.enumerate (XD (vo 1))) (Xb (n:=2) rfl (ZG (RD 8 sc_way_out.nd) (ZG (RD 9 sc_way_out.nd) YF))) (Zf (YI 10 sc_way_out.nd (TZ C_other_end hr (WI (Zm (vo 0) (vo 8)) (vo 9))))
  (Zl (W5 (VW.vt (Ej (Sa hr.units (vo 9) (vo 7)) (IJ (GA (IA hr) (vo 10) (vo 4))))) (Zf (Bp (C1 (IA hr) (pv 4) (vo 10) (Jt (BI (Hd (IA hr) (vo 4) (vo 7)) (We (SJ (VE.pure (vo 8)) Xo)))) rfl))
  (Zl (XI (Xm (Vt bP bx bz XH (pv 5) (Yc (VE.pure (vo 10)) Xc)))))) Y2))))
  (Zl (Bm (Zag (i:=6) sc_way_out.nd rfl (bw rfl) Zg Zah))))))
  (Zl (ZJ (VE.pure (Hd (IA hr) (vo 4) (Zm (vo 5) (vo 6))))))))))
abbrev Te:bp:=Vq 38
theorem sc_heads_for:Zw ["web","wanted","ties","heads","full","way","tie"] ["web","wanted"] (Zh Te):=Vr
theorem M0(Df:Def K mg "heads_for" Te)(B:WV mg)(C_ties_of:Uj P w K mg base)(C_overfull:Sm P w K mg base)(C_way_out:R6 P w K mg base)(C_other_end:VG P w K mg base):U9 P w K mg base:=
 N2 [3] Df sc_heads_for λhr=>
  (Zf (YI 2 sc_heads_for.nd (TZ C_ties_of hr (XD (vo 0))))
  (Zf (UA (["tie"]:List aq) ([]:List aq) [] (i:=3) sc_heads_for.nd rfl rfl rfl (Y1 (vo 2)) (by kernel_rfl) (λ_ _ _ _ _=>(ZK (i:=0) (show((["tie"]:List aq)++([]:List aq)).Nodup by decide +kernel) rfl (bw rfl) (.inr rfl))) (λ_ _ _ _ _=>Yk) (λ_ _ _ _ _=>(VE.pure (Zm (vo 0) Zg))))
  (Zf (YI 4 sc_heads_for.nd (TZ C_overfull hr (WI (vo 3) (vo 1))))
  (Zf (SR gA (Mp (vo 4)) (Zf (YI 5 sc_heads_for.nd (TZ C_way_out hr (va4 (vo 2) (vo 3) (vo 1) (vo 4))))
  (Zf (N0 (Y1 (vo 5)) (RD 6 sc_heads_for.nd) (Zl (LY (Sf (UN C_other_end hr (WI (Zm (vo 2) (vo 6)) (Zm (vo 3) (vo 6)))) (RE (pv 3) (vo 6) V5)))))
  (Zl (YI 4 sc_heads_for.nd (TZ C_overfull hr (WI (vo 3) (vo 1))))))))
  (Zl (QU (pv 3)))))))
abbrev Wq:bp:=Vq 30
theorem sc_tie_to_look_at:Zw ["ties","looked","fire","tie","ends"] ["ties","looked","fire"] (Zh Wq):=Vr
theorem Rn(Df:Def K mg "tie_to_look_at" Wq)(B:WV mg):Wn P w K mg base:=
 FG [] Df sc_tie_to_look_at λhr=>
  (Zf (N0 (WL aC rfl B.enumerate (XD (vo 0))) (Xb (n:=2) rfl (ZG (RD 3 sc_tie_to_look_at.nd) (ZG (RD 4 sc_tie_to_look_at.nd) YF))) (Zl (W5 (VW.vt (Ej (PQ hr.units (vo 3) (vo 1)) (IJ (NR hr.units (AM hr.units (Zm (vo 4) Zg) (vo 2)) (AM hr.units (Zm (vo 4) Zg) (vo 2)))))) (Zl (ZJ (VE.pure (vo 3)))) Y2)))
  (Zl (ZJ (VE.pure Jd))))
abbrev OS:bp:=Vq 29
theorem sc_walked:Zw ["web","base","burns","ties","fire","looked","burning","tie","house","seen"] ["web","base","burns"] (Zh OS):=Vr
theorem G0(Df:Def K mg "walked" OS)(B:WV mg)(C_ties_of:Uj P w K mg base)(C_tie_to_look_at:Wn P w K mg base):OH P w K mg base:=
 FG [4,5,6] Df sc_walked λhr=>
  (Zf (YI 3 sc_walked.nd (TZ C_ties_of hr (XD (vo 0))))
  (Zf (YI 4 sc_walked.nd (We (SJ (VE.pure (vo 1)) Xo)))
  (Zf (YI 5 sc_walked.nd (We Xo))
  (Zf (YI 6 sc_walked.nd (We Xo))
  (Zf (YI 7 sc_walked.nd (TZ C_tie_to_look_at hr (Rj (vo 3) (vo 5) (vo 4))))
  (Zf (SR gA (Mp (vo 7)) (Zf (XI (Xm (Vt bP bx bz XH (pv 5) (Yc (VE.pure (vo 7)) Xc))))
  (Zf (YI 8 sc_walked.nd (VE.pure (SI (EA hr.units (Zm (Zm (vo 3) (vo 7)) Zg) (vo 4)) (Zm (Zm (vo 3) (vo 7)) Zg) (Zm (Zm (vo 3) (vo 7)) Zg))))
  (Zf (YI 9 sc_walked.nd (VE.pure (UP B.len (vcq "other" ["house","ties"] [8,3] (Y1 (vo 5)) (SQ (EA hr.units (vo 1) (RT (Zm (vo 2) (vo 0)) Vx (Ws Zg)))) (vo 0)))))
  (Zf (W5 (Ek (VM.ve (Zb4 2 rfl (bw rfl) (BO B) (hr.mono (by decide)) (Rj (vo 7) (vo 8) (vo 9))))) (Zf (XI (Xm (Vt bP bx bz XH (pv 4) (Yc (VE.pure (vo 8)) Xc))))
  (Zl (XI (Xm (Vt bP bx bz XH (pv 6) (Yc (VE.pure (Wd (Rj (vo 7) (vo 8) (vo 9)))) Xc)))))) Y2)
  (Zl (YI 7 sc_walked.nd (TZ C_tie_to_look_at hr (Rj (vo 3) (vo 5) (vo 4))))))))))
  (Zl (QU (pv 6)))))))))
abbrev Qh:bp:=Vq 28
theorem JM:Zw ["web","base","burns"] ["web","base","burns"] (Zh Qh):=Vr
theorem JN(Df:Def K mg "tree_by" Qh)(B:WV mg)(C_walked:OH P w K mg base):R7 P w K mg base:=
 FG [] Df JM λhr=>
  (Zl (ZJ (VE.pure (ZL Zy ZT rfl B.tuple (by decide +kernel) (XD (VM.ve (vmb S3 Og B.sorted (XD (GS "burnt_by" [] [] (Y1 (UN C_walked hr (Rj (vo 0) (vo 1) (vo 2)))) (Zm (vo 0) Zg))))))))))
abbrev JO:bp:=Vq 15
theorem BU:Zw ["one","other"] ["one","other"] (Zh JO):=Vr
theorem BV(Df:Def K mg "plus" JO)(B:WV mg):MO P w K mg base:=
 N2 [] Df BU λhr=>
  (Zl (ZJ (VE.pure (ZL Zy ZT rfl B.tuple (by decide +kernel) (XD (XY (["first","second"]:List aq) ([]:List aq) [] rfl (Mw aB aB rfl B.zip (WI (vo 0) (vo 1))) (by kernel_rfl) (λ_ _ _ _ _=>(Xb (n:=2) rfl (ZG (ZK (i:=0) (show((["first","second"]:List aq)++([]:List aq)).Nodup by decide +kernel) rfl (bw rfl) (.inr rfl)) (ZG (ZK (i:=1) (show((["first","second"]:List aq)++([]:List aq)).Nodup by decide +kernel) rfl (bw rfl) (.inr rfl)) YF)))) (λ_ _ _ _ _=>Yk) (λ_ _ _ _ _=>(Z4 (vo 0) (vo 1)))))))))
abbrev OT:bp:=Vq 11
theorem G1:Zw ["web","house"] ["web","house"] (Zh OT):=Vr
theorem G3(Df:Def K mg "one_at" OT)(B:WV mg):OI P w K mg base:=
 N2 [] Df G1 λhr=>
  (Zl (ZJ (VE.pure (ZL Zy ZT rfl B.tuple (by decide +kernel) (XD (GS "other" ["house"] [1] (N1 B.range (UP B.len (vo 0))) (SI (Sa hr.units (vo 0) (vo 1)) Zg Zg)))))))
abbrev Qi:bp:=Vq 37
theorem sc_made_of:Zw ["web","purse","wanted","heads","tree"] ["web","purse"] (Zh Qi):=Vr
theorem JP(Df:Def K mg "made_of" Qi)(B:WV mg)(Z_BASE:Cst mg "BASE" 0)(C_minus:Q1 P w K mg base)(C_one_at:OI P w K mg base)(C_plus:MO P w K mg base)(C_heads_for:U9 P w K mg base)(C_tree_by:R7 P w K mg base):R8 P w K mg base:=
 N2 [] Df sc_made_of λhr=>
  (Zf (YI 2 sc_made_of.nd (TZ C_minus hr (WI (UN C_plus hr (WI (vo 1) (W3 Bv Bw (Wd (XD Zg)) (UP B.len (vo 0))))) (UN C_one_at hr (WI (vo 0) (Jr rfl Z_BASE))))))
  (Zf (YI 3 sc_made_of.nd (VE.pure (Jt (TZ C_heads_for hr (WI (vo 0) (vo 2))))))
  (Zf (YI 4 sc_made_of.nd (E6 (q:="made_of") (L:=Y6) (i:=3) rfl rfl rfl C_tree_by (hr.mono (by decide)) rfl rfl rfl rfl (vo 0) (Jr rfl Z_BASE) (Option.some_ne_none _) rfl (by decide) rfl rfl ⟨_,rfl,rfl⟩ rfl rfl rfl rfl))
  (Zl (ZJ (VE.pure (Wd (WI (vo 4) (ZL Zy ZT rfl B.tuple (by decide +kernel) (XD (XY (["tie","head"]:List aq) (["tree"]:List aq) [4] rfl (WL aC rfl B.enumerate (XD (vo 3))) (by kernel_rfl) (λ_ _ _ _ _=>(Xb (n:=2) rfl (ZG (ZK (i:=0) (show((["tie","head"]:List aq)++(["tree"]:List aq)).Nodup by decide +kernel) rfl (bw rfl) (.inr rfl)) (ZG (ZK (i:=1) (show((["tie","head"]:List aq)++(["tree"]:List aq)).Nodup by decide +kernel) rfl (bw rfl) (.inr rfl)) YF)))) (λ_ _ _ _ _=>(SQ (PQ hr.units (vo 0) (vo 2)))) (λ_ _ _ _ _=>(vo 1)))))))))))))
abbrev Tf:bp:=Vq 26
theorem M1:Zw ["web","houses"] ["web","houses"] (Zh Tf):=Vr
theorem M3(Df:Def K mg "borrowing" Tf)(B:WV mg):Ta P w K mg base:=
 N2 [] Df M1 λhr=>
  (Zl (ZJ (VE.pure (ZL Zy ZT rfl B.tuple (by decide +kernel) (XD (GS "house" ["houses"] [1] (N1 B.range (UP B.len (vo 0))) (SI (EA hr.units (vo 0) (vo 1)) (Mq Zg) Zg)))))))
abbrev M4:bp:=Vq 14
theorem sc_least:Zw ["script","lowest"] ["script"] (Zh M4):=Vr
theorem Dp(Df:Def K mg "least" M4)(B:WV mg):MP P w K mg base:=
 AV [] Df sc_least λhr=>
  (Zf (YI 1 sc_least.nd (VE.pure (vb (GC rfl) Bz B.min (XD (vo 0)))))
  (Zl (ZJ (VE.pure (ZL Zy ZT rfl B.tuple (by decide +kernel) (XD (GS "often" ["lowest"] [1] (Mu (vo 0)) (Xu (vo 0) (vo 1)))))))))
abbrev OU:bp:=Vq 36
theorem G4:Zw ["web"] ["web"] (Zh OU):=Vr
theorem G5(Df:Def K mg "middle" OU)(B:WV mg)(C_ties_at:TJ P w K mg base):OJ P w K mg base:=
 AV [] Df G4 λhr=>
  (Zl (ZJ (VE.pure (ZL Zy ZT rfl B.tuple (by decide +kernel) (XD (GS "house" ["web"] [0] (N1 B.range (UP B.len (vo 0))) (Xu (Xn (UN C_ties_at hr (WI (vo 1) (vo 0))) Zg) Zg)))))))
abbrev OV:bp:=Vq 35
theorem sc_broken:Zw ["web","purse","script","near","houses","step","made"] ["web","purse"] (Zh OV):=Vr
theorem G6(Df:Def K mg "broken" OV)(B:WV mg)(Z_BASE:Cst mg "BASE" 0)(C_refuse_total:Vg P w K mg base)(C_nearing:R5 P w K mg base)(C_minus:Q1 P w K mg base)(C_middle:OJ P w K mg base)(C_run:Dc P w K mg base)(C_lacking_among:WE P w K mg base)(C_borrowing:Ta P w K mg base)(C_plus:MO P w K mg base)(C_made_of:R8 P w K mg base)(C_least:MP P w K mg base):OK P w K mg base:=
 N2 [] Df sc_broken λhr=>
  (Zf (Zea (UN C_refuse_total hr (WI (vo 0) (vo 1))))
  (Zf (YI 2 sc_broken.nd (TZ C_nearing hr (Rj (vo 0) (UN C_minus hr (WI (vo 1) (UN C_middle hr (XD (vo 0))))) (Jr rfl Z_BASE))))
  (Zf (YI 3 sc_broken.nd (TZ C_run hr (Rj (vo 0) (vo 1) (vo 2))))
  (Zf (YI 4 sc_broken.nd (TZ C_lacking_among hr (WI (vo 0) (vo 3))))
  (Zf (SR gA (Mp (vo 4)) (Zf (YI 5 sc_broken.nd (TZ C_borrowing hr (WI (vo 0) (vo 4))))
  (Zf (YI 2 sc_broken.nd (TZ C_plus hr (WI (vo 2) (vo 5))))
  (Zf (YI 3 sc_broken.nd (TZ C_run hr (Rj (vo 0) (vo 3) (vo 5))))
  (Zl (YI 4 sc_broken.nd (TZ C_lacking_among hr (WI (vo 0) (vo 3)))))))))
  (Zf (YI 6 sc_broken.nd (TZ C_made_of hr (WI (vo 0) (vo 3))))
  (Zl (ZJ (VE.pure (Wd (va4 (UN C_least hr (XD (vo 2))) (vo 3) (Zm (vo 6) Zg) (Zm (vo 6) Zg))))))))))))
abbrev Tg:bp:=Vq 54
theorem sc_l_outside:Zw ["_law_web_here","_law_tree_here","_law_ties_here"] ["_law_web_here","_law_tree_here"] (Zh Tg):=Vr
theorem M5(Df:Def K mg "_law_outside" Tg)(B:WV mg)(C_l_ties:Rk P w K mg base):Tb P w K mg base:=
 N2 [] Df sc_l_outside λhr=>
  (Zf (YI 2 sc_l_outside.nd (TZ C_l_ties hr (XD (vo 0))))
  (Zl (ZJ (Uz (["_law_k"]:List aq) (["_law_ties_here","_law_tree_here"]:List aq) [2,1] rfl (N1 B.range (UP B.len (vo 2))) (by kernel_rfl) (λ_ _ _ _ _=>(ZK (i:=0) (show((["_law_k"]:List aq)++(["_law_ties_here","_law_tree_here"]:List aq)).Nodup by decide +kernel) rfl (bw rfl) (.inr rfl))) (λ_ _ _ _ _=>(SQ (PQ hr.units (vo 0) (vo 2)))) (λ_ _ _ _ _=>(VE.pure (Zm (vo 1) (vo 0))))))))
abbrev OW:bp:=Vq 55
theorem sc_l_ends:Zw ["_law_web_here","_law_tree_here","_law_cell","_law_some","_law_number"] ["_law_web_here","_law_tree_here","_law_cell"] (Zh OW):=Vr
theorem G7(Df:Def K mg "_law_ends" OW)(B:WV mg)(C_l_outside:Tb P w K mg base)(C_l_pick:Ui P w K mg base):OL P w K mg base:=
 FG [] Df sc_l_ends λhr=>
  (Zf (YI 3 sc_l_ends.nd (TZ C_l_outside hr (WI (vo 0) (vo 1))))
  (Zf (W5 (Sa hr.units (Xd (vo 2) Zg) Zg) (Zf (YI 4 sc_l_ends.nd (VE.pure (Xn (Xn (vo 2) Zg) Zg)))
  (Zl (ZJ (VE.pure (ZL Zy ZT rfl B.tuple (by decide +kernel) (XD (GS "_law_k" ["_law_some","_law_number"] [3,4] (N1 B.range (UP B.len (vo 3))) (Zm (Zm (vo 1) (vo 0)) (Bg (Zbe (vo 2) (vo 0)) Zg))))))))) Y2)
  (Zl (ZJ (VE.pure (ZL Zy ZT rfl B.tuple (by decide +kernel) (XD (GS "_law_k" ["_law_some","_law_cell"] [3,2] (N1 B.range (UP B.len (vo 3))) (Zm (Zm (vo 1) (vo 0)) (UN C_l_pick hr (Rj (Z4 (vo 2) (Ut (Ut Zg (vo 0)) (vo 0))) (Z4 Zg (vo 0)) Zg)))))))))))
abbrev OX:bp:=Vq 50
theorem sc_l_lend:Zw ["_law_web_here","_law_purse","_law_script","_law_found","_law_house","_law_coins_here","_law_other","_law_step"] ["_law_web_here","_law_purse","_law_script"] (Zh OX):=Vr
theorem G8(Df:Def K mg "_law_lend" OX)(B:WV mg):OM P w K mg base:=
 FG [3] Df sc_l_lend λhr=>
  (Zf (YI 3 sc_l_lend.nd (We Xo))
  (Zf (N0 (N1 B.range (UP B.len (vo 0))) (RD 4 sc_l_lend.nd) (Zf (YI 5 sc_l_lend.nd (VE.pure (Zm (vo 1) (vo 4))))
  (Zf (N0 (N1 B.range (UP B.len (vo 0))) (RD 6 sc_l_lend.nd) (Zf (YI 7 sc_l_lend.nd (VE.pure (Xu (Zm (vo 2) (vo 4)) (Zm (vo 2) (vo 6)))))
  (Zl (YI 5 sc_l_lend.nd (VE.pure (Xu (vo 5) (Ut (Zm (Zm (vo 0) (vo 4)) (vo 6)) (vo 7))))))))
  (Zl (XI (Xm (Vt bP bx bz XH (pv 3) (Yc (VE.pure (vo 5)) Xc))))))))
  (Zl (ZJ (VE.pure (ZL Zy ZT rfl B.tuple (by decide +kernel) (XD (vo 3))))))))
abbrev Qj:bp:=Vq 48
theorem JQ:Zw ["_law_found"] ["_law_found"] (Zh Qj):=Vr
theorem JR(Df:Def K mg "_law_whole" Qj)(B:WV mg):R9 P w K mg base:=
 AV [] Df JQ λhr=>
  (Zl (ZJ (VE.pure (Pw (vb Vu QS B.isinstance (WI (vo 0) (IQ rfl B.int (by decide +kernel)))) (Jh (Zbg (vb Vu QS B.isinstance (WI (vo 0) (IQ rfl B.bool (by decide +kernel))))))))))
abbrev Sq:bp:=Vq 49
theorem Kh:Zw ["_law_found","_law_many"] ["_law_found","_law_many"] (Zh Sq):=Vr
theorem Ki(Df:Def K mg "_law_wholes" Sq)(B:WV mg)(C_l_whole:R9 P w K mg base):Sn P w K mg base:=
 N2 [] Df Kh λhr=>
  (Zf (W5 (VW.vt (IK (Mo (Pu (vb Vu QS B.isinstance (WI (vo 0) (IQ rfl B.tuple (by decide +kernel)))))) (Jg (NR hr.units (UP B.len (vo 0)) (vo 1))))) (Zl (ZJ (VE.pure IF))) Y2)
  (Zl (ZJ (VE.pure (vb (Gm rfl) Zbi B.all (XD (GS "_law_one_here" [] [] (Mu (vo 0)) (UN C_l_whole hr (XD (vo 0))))))))))
abbrev M6:bp:=Vq 57
theorem sc_l_one:Zw ["_law_web_here","_law_cell","_law_tree_here","_law_purse","_law_far","_law_lends","_law_found","_law_both"] ["_law_web_here","_law_cell"] (Zh M6):=Vr
theorem Dq(Df:Def K mg "_law_one" M6)(B:WV mg)(C_l_tree:OE P w K mg base)(C_b_coins:R3 P w K mg base)(C_l_ends:OL P w K mg base)(C_l_pick:Ui P w K mg base)(C_broken:OK P w K mg base)(C_l_lend:OM P w K mg base)(C_l_wholes:Sn P w K mg base):MQ P w K mg base:=
 N2 [] Df sc_l_one λhr=>
  (Zf (YI 2 sc_l_one.nd (TZ C_l_tree hr (WI (vo 0) (vo 1))))
  (Zf (YI 3 sc_l_one.nd (TZ C_b_coins hr (WI (vo 0) (UN C_l_ends hr (Rj (vo 0) (vo 2) (vo 1))))))
  (Zf (YI 4 sc_l_one.nd (VE.pure (Zm (Sh (Rj Zg Zg (Z4 (Zbd Zg Zg) Zg))) (UN C_l_pick hr (Rj (vo 1) Zg Zg)))))
  (Zf (YI 5 sc_l_one.nd (Uz (["_law_k"]:List aq) (["_law_far","_law_cell"]:List aq) [4,1] rfl (N1 B.range (UP B.len (vo 0))) (by kernel_rfl) (λ_ _ _ _ _=>(ZK (i:=0) (show((["_law_k"]:List aq)++(["_law_far","_law_cell"]:List aq)).Nodup by decide +kernel) rfl (bw rfl) (.inr rfl))) (λ_ _ _ _ _=>Yk) (λ_ _ _ _ _=>(VE.pure (QX (Xu (UN C_l_pick hr (Rj (Z4 (vo 2) (QX Zg (vo 0))) Zg Zg)) Zg) (vo 1))))))
  (Zf (YI 6 sc_l_one.nd (TZ C_broken hr (WI (vo 0) (UN C_l_lend hr (Rj (vo 0) (vo 3) (vo 5))))))
  (Zf (W5 (VW.vt (IK (Mo (Pu (vb Vu QS B.isinstance (WI (vo 6) (IQ rfl B.tuple (by decide +kernel)))))) (IK (NR hr.units (UP B.len (vo 6)) Zg) (Jg (Mo (Pu (UN C_l_wholes hr (WI (Zm (vo 6) Zg) (UP B.len (vo 0)))))))))) (Zl (ZJ (VE.pure IF))) Y2)
  (Zf (UA (["_law_k"]:List aq) (["_law_lends","_law_found"]:List aq) [5,6] (i:=7) sc_l_one.nd rfl rfl rfl (N1 B.range (UP B.len (vo 0))) (by kernel_rfl) (λ_ _ _ _ _=>(ZK (i:=0) (show((["_law_k"]:List aq)++(["_law_lends","_law_found"]:List aq)).Nodup by decide +kernel) rfl (bw rfl) (.inr rfl))) (λ_ _ _ _ _=>Yk) (λ_ _ _ _ _=>(VE.pure (Z4 (Zm (vo 1) (vo 0)) (Zm (Zm (vo 2) Zg) (vo 0))))))
  (Zl (ZJ (VE.pure (Pw (UN C_l_wholes hr (WI (Zm (vo 6) Zg) (UP B.len (vo 0)))) (Pw (Ez hr.units (Zm (vo 6) Zg) (vo 3)) (Jh (Ez hr.units (vo 7) (VM.ve (MA (Sh (XD (Zm (vo 7) Zg))) (UP B.len (vo 0))))))))))))))))))
abbrev Dr:bp:=Vq 58
theorem sc_law:Zw ["_law_script","_law_web_here","_law_cell"] ["_law_script"] (Zh Dr):=Vr
theorem Zb9{ff:aK}{fd:eF}(Fn:Fun K "law" "law" Dr ff fd)(B:WV mg)(C_q_web:ML P w K mg base)(C_l_at:MK P w K mg base)(C_l_one:MQ P w K mg base):RG P w K mg base LK 7 ff fd (["_law_script"]:List aq) (Xs K D_law 1):=
 Zbr (O:=[]) (k:=6) 3 AU Fn sc_law rfl rfl (by decide) (λfa cdv A outer s H E hr=>
  (Zf (YI 1 sc_law.nd (TZ C_q_web hr (Rj (vo 0) (Sh (Xz Zg (va4 Zg Zg Zg Zg))) Zg)))
  (Zf (N0 (Y1 (VM.ve (Mz (Sh (XD (UN C_l_at hr (WI (vo 0) Zg)))) (WX (vo 0) (Ws Zg) (Ws Zg))))) (RD 2 sc_law.nd) (Zl (W5 (Mo (Pu (UN C_l_one hr (WI (vo 1) (vo 2))))) (Zl (ZJ (VE.pure IF))) Y2)))
  (Zl (ZJ (VE.pure IF))))))
end
end PW
namespace PW
open L2 VL
theorem OY{W:List (List Int)}{h:Nat}(hh:h<W.length):Wg [wP W,.int (h:Int)]=some (.int (ZA W h).sum):=by simp[Wg,NW,Yv,Z8,Tv hh]
theorem Ds(l:List Int):QW [pP l]=some (.int l.sum):=by simp[QW,Hh,Yv,Z8]
theorem Dt(i:Int):Uc [.int i]=some (.bl aC):=by simp[Uc,NX,Yv,Z8]
noncomputable def Sr(a b:List Int):List Int:=(aD a.length).map λi=>Zt a i+Zt b i
noncomputable def OZ(a b:List Int):List Int:=(aD a.length).map λi=>Zt a i-Zt b i
theorem Hq{a b:List Int}(h:b.length=a.length)(hl:a.length<=1000):U0 [pP a,pP b]=some (pP (Sr a b)):=by
 have hz:Si (iL a) (iL b)=(aD a.length).map λ(i:Nat)=>.tup [.int (Zt a i),.int (Zt b i)]:=by rw[UC _ _ (by simpa using h),aH];apply ak;intro i hi;have hi:=aW.mp hi;rw[X0 a i hi,X0 b i (by omega)]
 have hc:Zq 2 [] (TX aB aB [Za 0,Za 1]) (.many [0,1]) Zx (Zd ZI (Za 0) (Za 1)) [some (pP a),some (pP b)]=some (.lst (iL (Sr a b))):=by rw[ZM (aD a.length) (λ(i:Nat)=>.tup [.int (Zt a i),.int (Zt b i)]) (λi=>.int (Zt a i+Zt b i)) (by simp[hz]) (by simp;omega) (λi _=>⟨_,rfl,rfl,by simp[setAll,compEnv]⟩)];simp[Sr]
 simp[U0,EK,Yv,Z8,hc]
theorem Kj{a b:List Int}(h:b.length=a.length)(hl:a.length<=1000):UD [pP a,pP b]=some (pP (OZ a b)):=by
 have hz:Si (iL a) (iL b)=(aD a.length).map λ(i:Nat)=>.tup [.int (Zt a i),.int (Zt b i)]:=by rw[UC _ _ (by simpa using h),aH];apply ak;intro i hi;have hi:=aW.mp hi;rw[X0 a i hi,X0 b i (by omega)]
 have hc:Zq 2 [] (TX aB aB [Za 0,Za 1]) (.many [0,1]) Zx (Zd Yo (Za 0) (Za 1)) [some (pP a),some (pP b)]=some (.lst (iL (OZ a b))):=by rw[ZM (aD a.length) (λ(i:Nat)=>.tup [.int (Zt a i),.int (Zt b i)]) (λi=>.int (Zt a i-Zt b i)) (by simp[hz]) (by simp;omega) (λi _=>⟨_,rfl,rfl,by simp[setAll,compEnv]⟩)];simp[OZ]
 simp[UD,Hi,Yv,Z8,hc]
theorem Hr(l:List Int):Y8 (iL l)=(aD l.length).map λ(i:Nat)=>.tup [.int (i:Int),.int (Zt l i)]:=by rw[Xg,aH];apply ak;intro i hi;rw[X0 l i (aW.mp hi)]
noncomputable def Sd(W:List (List Int))(S:List Int)(h:Nat):Int:=((aD W.length).map λi=>ZV W h i*(Zt S i-Zt S h)).sum
theorem BW{W:List (List Int)}{S:List Int}{h:Nat}(ok:ZN W)(hh:h<W.length)(hs:S.length=W.length):Od [wP W,pP S,.int (h:Int)]=some (.int (Sd W S h)):=by
 have hr:=ok.sq h hh;have hf:=ok.few
 have hc:Zq 2 [1,2] (Yt aB [Zd Zv (Za 0) (Za 2)]) (.many [0,1]) Zx (Zd Xa (Za 1) (Zd Yo (Zd Zv (Za 2) (Za 0)) (Zd Zv (Za 2) (Za 3)))) [some (wP W),some (pP S),some (.int (h:Int))]=some (.lst (iL ((aD W.length).map λi=>ZV W h i*(Zt S i-Zt S h)))):=by
  rw[ZM (aD W.length) (λ(i:Nat)=>.tup [.int (i:Int),.int (ZV W h i)]) (λi=>.int (ZV W h i*(Zt S i-Zt S h))) (by simp[Tv hh,Hr,hr];intro a _;rfl) (by simp;omega) (λi hi=>?_)]
  ·simp
  ·have hi:=aW.mp hi;refine⟨_,rfl,rfl,?_⟩;have b1:=ok.lo h i hh hi;have b2:=ok.hi h i hh hi;have hm:∀j,CMul (ZV W h i) j:=λj=>Jp (by omega) (by omega);simp[setAll,compEnv,Yq (show i<S.length by omega),Yq (show h<S.length by omega),hm]
 simp[Od,EJ,Yv,Z8,hc,Sd,-bS]
noncomputable def YT(W:List (List Int))(D S:List Int):List Int:=(aD D.length).map λh=>Zt D h+Sd W S h
theorem Du{W:List (List Int)}{D S:List Int}(ok:ZN W)(hd:D.length=W.length)(hs:S.length=W.length):Oe [wP W,pP D,pP S]=some (pP (YT W D S)):=by
 have hf:=ok.few
 have hc:Zq 2 [0,2] (Yt aB [Za 1]) (.many [0,1]) Zx (Zd ZI (Za 1) (Zc Od [Za 2,Za 3,Za 0])) [some (wP W),some (pP D),some (pP S)]=some (.lst (iL (YT W D S))):=by
  rw[ZM (aD D.length) (λ(i:Nat)=>.tup [.int (i:Int),.int (Zt D i)]) (λh=>.int (Zt D h+Sd W S h)) (by simp[Hr]) (by simp;omega) (λi hi=>?_)]
  ·simp[YT]
  ·have hi:=aW.mp hi;refine⟨_,rfl,rfl,?_⟩;simp[setAll,compEnv,BW ok (show i<W.length by omega) hs]
 simp[Oe,AR,Yv,Z8,hc]
noncomputable def XG(W:List (List Int))(a b:Nat):List (List Int):=(aD (ZV W a b).toNat).map λ(t:Nat)=>[(a:Int),(b:Int),(t:Int)]
noncomputable def Uk(W:List (List Int))(a:Nat):List (List Int):=(aD (W.length-(a+1))).flatMap λj=>XG W a (a+1+j)
noncomputable def Y0(W:List (List Int)):List (List Int):=(aD W.length).flatMap (Uk W)
theorem Xr{α:Type}(f:Nat->List α)(i:Nat):(aD (i+1)).flatMap f=(aD i).flatMap f++f i:=by rw[di,List.flatMap_append];simp
theorem JS{W:List (List Int)}(ok:ZN W){a b:Nat}(ha:a<W.length)(hb:b<W.length):(XG W a b).length<=9:=by have:=ok.hi a b ha hb;unfold XG;simp;omega
theorem G9{W:List (List Int)}(ok:ZN W){a b:Nat}(ha:a<W.length)(hb:b<W.length)(t:Option PV):Zq 1 [2,4] (ZE [Zd Zv (Za 3) (Za 4)]) (.one 0) Zx (eP (YC [Za 1,Za 2,Za 0])) [some (wP W),t,some (.int (a:Int)),some (pP (ZA W a)),some (.int (b:Int))]=some (.lst ((XG W a b).map pP)):=by
 have hr:=ok.sq a ha;have b1:=ok.lo a b ha hb;have b2:=ok.hi a b ha hb;rw[ZM (aD (ZV W a b).toNat) (λ(i:Nat)=>.int (i:Int)) (λ(t:Nat)=>pP [(a:Int),(b:Int),(t:Int)]) ?_ (by simp;omega) (λi hi=>⟨_,rfl,rfl,by simp[compEnv]⟩)]
 ·simp[XG]
 ·exact Z1 (by simp[Yq (show b<(ZA W a).length by omega)];show ZV W a b=max (ZV W a b) 0;omega) (by omega)
theorem JT{W:List (List Int)}(ok:ZN W){a:Nat}(ha:a<W.length)(acc:List (List Int))(hacc:acc.length<=1000)(b0:Option PV) :
  ∃b',WN (.one 4) (XA 1 (Zq 1 [2,4] (ZE [Zd Zv (Za 3) (Za 4)]) (.one 0) Zx (eP (YC [Za 1,Za 2,Za 0])))) (WB ((a:Int)+1) (W.length-(a+1))) [some (wP W),some (.lst (acc.map pP)),some (.int (a:Int)),some (pP (ZA W a)),b0]
   = some (.nx [some (wP W),some (.lst ((acc++Uk W a).map pP)),some (.int (a:Int)),some (pP (ZA W a)),b'])/\(Uk W a).length<=63:=by
 have hf:=ok.few
 obtain⟨s',h1,b',h2,h3⟩:=Yh (T:=.one 4) (fb:=XA 1 (Zq 1 [2,4] (ZE [Zd Zv (Za 3) (Za 4)]) (.one 0) Zx (eP (YC [Za 1,Za 2,Za 0])))) (ls:=WB ((a:Int)+1) (W.length-(a+1))) (s:=[some (wP W),some (.lst (acc.map pP)),some (.int (a:Int)),some (pP (ZA W a)),b0])
  (λj st=>∃b',st=[some (wP W),some (.lst ((acc++(aD j).flatMap λj=>XG W a (a+1+j)).map pP)),some (.int (a:Int)),some (pP (ZA W a)),b']/\((aD j).flatMap λj=>XG W a (a+1+j)).length<=9*j)
  ⟨b0,by simp,by simp⟩ (λj l st hl hJ=>by
   obtain⟨hj,rfl⟩:=SX hl;obtain⟨b',rfl,hlen⟩:=hJ;have hb:a+1+j<W.length:=by omega
   have e1:(a:Int)+1+(j:Int)=((a+1+j:Nat):Int):=by omega
   rw[e1];have hc:=G9 ok ha hb (some (.lst ((acc++(aD j).flatMap λj=>XG W a (a+1+j)).map pP)));have hl2:=JS ok ha hb;have hg:(acc.length+((aD j).flatMap λj=>XG W a (a+1+j)).length)+(XG W a (a+1+j)).length<=10000:=by omega
   refine⟨_,_,rfl,?_,some (.int ((a+1+j:Nat):Int)),rfl,?_⟩
   ·refine(P8 hc rfl (by rw[aH,aH,aX];exact hg)).trans ?_;simp[Xr]
   ·rw[Xr,aX];omega)
 rw[L7] at h2 h3;refine⟨b',?_,?_⟩
 ·rw[h1,h2];rfl
 ·have:Uk W a=(aD (W.length-(a+1))).flatMap λj=>XG W a (a+1+j):=rfl;rw[this];omega
theorem Wr{W:List (List Int)}(ok:ZN W):Wh [wP W]=some (.lst ((Y0 W).map pP))/\(Y0 W).length<=441:=by
 have hf:=ok.few;have enumW:Y8 (W.map pP)=(aD W.length).map λ(i:Nat)=>.tup [.int (i:Int),pP (ZA W i)]:=by rw[Xg,aH];apply ak;intro i hi;rw[EI W i (aW.mp hi)]
 obtain⟨s',h1,x,y,z,h2,h3⟩:=Yh (T:=.many [2,3]) (fb:=Yz [1] (Xv [Zd ZI (Za 2) (eC (.int 1)),Zc Zz [Za 0]]) (.one 4) (XA 1 (Zq 1 [2,4] (ZE [Zd Zv (Za 3) (Za 4)]) (.one 0) Zx (eP (YC [Za 1,Za 2,Za 0]))))) (ls:=Y8 (W.map pP)) (s:=[some (wP W),some (.lst []),aA,aA,aA])
  (λi st=>∃x y z,st=[some (wP W),some (.lst (((aD i).flatMap (Uk W)).map pP)),x,y,z]/\((aD i).flatMap (Uk W)).length<=63*i)
  ⟨aA,aA,aA,by simp,by simp⟩ (λi l st hl hJ=>by
   obtain⟨x,y,z,rfl,hlen⟩:=hJ;have hi:i<W.length:=by have:=(aU.mp hl).1;rw[WW,aH] at this;exact this
   rw[enumW,aR,bq hi] at hl;cases hl;obtain⟨b',e1,e2⟩:=JT ok hi ((aD i).flatMap (Uk W)) (by omega) z;refine⟨_,_,rfl,?_,some (.int (i:Int)),some (pP (ZA W i)),b',rfl,?_⟩
   ·have hr:Xv [Zd ZI (Za 2) (eC (.int 1)),Zc Zz [Za 0]] (ZX [1] [some (wP W),some (.lst (((aD i).flatMap (Uk W)).map pP)),some (.int (i:Int)),some (pP (ZA W i)),z])=some (WB ((i:Int)+1) (W.length-(i+1))):=by rw[Tw (i:=(i:Int)+1) (j:=(W.length:Int)) (by simp[ZX]) (by simp[ZX]) ⟨by omega,by omega⟩ ⟨by omega,by omega⟩];congr 2;omega
    show Yz _ _ _ _ [some (wP W),_,some (.int (i:Int)),some (pP (ZA W i)),z]=_;rw[P7,hr];simp only[aL];rw[e1,Xr]
   ·rw[Xr,aX];omega)
 rw[WW,aH] at h2 h3;refine⟨?_,by have:Y0 W=(aD W.length).flatMap (Uk W):=rfl;rw[this];omega⟩;have hs:Yv 5 RW [wP W]=some (.lst ((Y0 W).map pP)):=by unfold RW;simp only[Yv,Z8,ag,dN,bA,jV,PZ,Zs,ED,Bq,cQ,aL];rw[P7];simp only[GB];have:(ZX [1] (([some (wP W)]++aN (5-(0+1)) aA:ZS).set 1 (some (.lst []))))=[some (wP W),aA,aA,aA,aA]:=rfl;rw[this];simp only[EC,List.getElem?_cons_zero,Option.join_some,aL,Zbz,cQ];show((WN _ _ (Y8 (W.map pP)) [some (wP W),some (.lst []),aA,aA,aA]).bind _).bind Xq=_;rw[h1,h2];rfl
 exact hs
theorem Dv{W:List (List Int)}(ok:ZN W):S1 [wP W]=some (.int (((Y0 W).length:Int)-(W.length:Int)+1)):=by simp[S1,Hg,Yv,Z8,(Wr ok).1]
noncomputable def tk(e:Tie):List Xl:=[.inl (e.1:Int),.inl (e.2.1:Int)]
theorem Dw{i:Nat}{fk fv:XE}{s:ZS}{d k v d':PV}(hv:fv s=some v)(hk:fk s=some k)(hd:(s[i]?).join=some d)(hp:Zbq d k v=some d'):VL.sDPut i fk fv s=some (.nx (s.set i (some d'))):=by unfold VL.sDPut;rw[hv,hk];simp only[aL,hd,hp,cQ]
noncomputable def Rq(W:List (List Int)):Prop:=∀P:Nat->Prop,(∀a b,a<W.length->b<W.length->0<ZV W a b->(P a↔P b))->∀i j,i<W.length->j<W.length->(P i↔P j)
theorem Kk:∀{l m:List Int},l.Nodup->(∀x∈l,x∈m)->l.length<=m.length
 | [],m,_,_=>eu _
 | x::r,m,nd,h=>by have hx:x∈m:=h x (by simp);have nd':=bG.mp nd;have:=Kk (l:=r) (m:=m.erase x) nd'.2 λy hy=>(ji (show y≠x from λz=>nd'.1 (by rw[<-z];exact hy))).mpr (h y (by simp[hy]));rw[i6 hx] at this;have hp:=jQ hx;rw[bA];omega
theorem QN{n:Nat}{l:List Int}(nd:l.Nodup)(h:∀x∈l,∃k:Nat,k<n/\x=(k:Int))(hl:l.length=n){j:Nat}(hj:j<n):(j:Int)∈l:=by
 by_cases q:(j:Int)∈l
 ·exact q
 ·have:=Kk (l:=(j:Int)::l) (m:=(aD n).map λ(k:Nat)=>(k:Int)) (bG.mpr ⟨q,nd⟩) (λx hx=>by
   rcases af.mp hx with rfl | hx
   ·exact b7.mpr ⟨j,aW.mpr hj,rfl⟩
   ·obtain⟨k,hk,rfl⟩:=h x hx;exact b7.mpr ⟨k,aW.mpr hk,rfl⟩)
  rw[bA,aH,cV] at this;omega
noncomputable def rL(M:List (List Int)):List PV:=M.map λr=>.lst (iL r)
theorem JU{M:List (List Int)}{a:Nat}(h:a<M.length):(rL M)[a]?=some (.lst (iL (ZA M a))):=by unfold rL;rw[aR,Pn h];rfl
theorem Dx{M:List (List Int)}{a b:Nat}{t:Int}:(rL M).set a (.lst ((iL (ZA M a)).set b (.int t)))=rL (V7 M a b t):=by unfold rL V7;rw[gv];show _=(List.map (λr=>PV.lst (iL r)) M).set a (PV.lst (((ZA M a).set b t).map PV.int));rw[gv]
theorem Dy(l:List Int)(k:Nat)(x:Int):(iL l).take k++PV.int x::(iL l).drop k=iL (l.take k++x::l.drop k):=by show(l.map PV.int).take k++PV.int x::(l.map PV.int).drop k=(l.take k++x::l.drop k).map PV.int;rw[bB,ag,fZ,fg]
theorem AW(neg:Bool)(a:Int)(l:List Int):Uw neg (.int a) (.lst (iL l))=some (.bl (if neg then !decide (a∈l) else decide (a∈l))):=by
 unfold Uw;have c:((iL l).all λz=>Wu 8 z (.int a))=aC:=by rw[jO,bM];intro x _;rfl
 show(some (iL l)).bind _=_;simp only[aL,mM c]
 have:decide (PV.int a∈iL l)=decide (a∈l):=decide_eq_decide.mpr (by
  rw[b7];constructor
  ·rintro⟨x,hx,e⟩;cases e;exact hx
  ·intro h;exact⟨a,h,rfl⟩)
 rw[this]
theorem ZF{f g:XS}{s s1:ZS}(e1:f s=some (.nx s1)):Zj f g s=g s1:=by simp only[PZ,e1,aL]
theorem Th(a b:List Int):(Sr a b).length=a.length:=by simp[Sr]
theorem Kl(a b:List Int):(OZ a b).length=a.length:=by simp[OZ]
theorem Vk(W:List (List Int))(D S:List Int):(YT W D S).length=D.length:=by simp[YT]
theorem Km{a b:List Int}{i:Nat}(h:i<a.length):Zt (Sr a b) i=Zt a i+Zt b i:=ZP h
theorem Kn{a b:List Int}{i:Nat}(h:i<a.length):Zt (OZ a b) i=Zt a i-Zt b i:=ZP h
theorem Dz{W:List (List Int)}{a b:List Int}{i:Nat}(h:i<a.length):Zt (YT W a b) i=Zt a i+Sd W b i:=ZP h
theorem Q2{a b:List Int}(hl:a.length=b.length)(h:∀i,i<a.length->Zt a i=Zt b i):a=b:=by rw[<-RM a,<-RM b,hl];apply ak;intro i hi;exact h i (by rw[hl];exact aW.mp hi)
theorem Q3{W:List (List Int)}(ok:ZN W){i:Nat}(hi:i<W.length):(ZA W i).sum=((aD W.length).map λj=>ZV W i j).sum:=by rw[<-Mn (ZA W i),ok.sq i hi];rfl
theorem JV{W:List (List Int)}(ok:ZN W):((Y0 W).length:Int)=((aD W.length).map λa=>((aD (W.length-(a+1))).map λj=>ZV W a (a+1+j)).sum).sum:=by
 have len_flat:∀(f:Nat->List (List Int))(n:Nat),(((aD n).flatMap f).length:Int)=((aD n).map λi=>((f i).length:Int)).sum:=by
  intro f n
  induction n with
  | zero=>rfl
  | succ n ih=>rw[Xr,aX,Yf,<-ih];omega
 unfold Y0;rw[len_flat];apply YX;intro a ha;unfold Uk;rw[len_flat];apply YX;intro j hj;have:=ok.lo a (a+1+j) ha (by omega);unfold XG;rw[aH,cV];omega
theorem DA{W:List (List Int)}(ok:ZN W):((aD W.length).map λi=>(ZA W i).sum).sum=2*((Y0 W).length:Int):=by rw[JV ok,<-Eb (λi j=>ZV W i j) W.length (λi j hi hj=>ok.sym i j hi hj) (λi hi=>ok.dia i hi)];apply YX;intro i hi;exact Q3 ok hi
theorem Ul{n m:Nat}{ix:List Nat}{fi:XL}{ft:XT}{fe:XE}{s:ZS}(g:Nat->Int)(hfi:fi s=some (Ux m))(hm:m<=1000)(h:∀i:Nat,i<m->∃s1,Vw (.one 0) (.int (i:Int)) (compEnv n ix s)=some s1/\ft s1=some aC/\fe s1=some (.int (g i))) :
  Zq n ix fi (.one 0) ft fe s=some (.lst (iL ((aD m).map g))):=by
 rw[ZM (aD m) (λ(i:Nat)=>.int (i:Int)) (λi=>.int (g i)) hfi (by simp;omega) (λi hi=>h i (aW.mp hi))];simp
theorem Ko(f g:Nat->Int)(n:Nat):((aD n).map λi=>f i+g i).sum=((aD n).map f).sum+((aD n).map g).sum:=by
 induction n with
 | zero=>rfl
 | succ n ih=>rw[Yf,Yf,Yf,ih];omega
theorem DB(f:Nat->Nat->Int)(n m:Nat):((aD n).map λi=>((aD m).map λj=>f i j).sum).sum=((aD m).map λj=>((aD n).map λi=>f i j).sum).sum:=by
 induction n with
 | zero=>
  have:((aD m).map λj=>((aD 0).map λi=>f i j).sum).sum=0:=by have:=Gn 0 m;simpa using this
  rw[this];rfl
 | succ n ih=>
  rw[Yf,ih,<-Ko];apply YX;intro j _;rw[Yf]
theorem DC{W:List (List Int)}(ok:ZN W)(S:List Int):((aD W.length).map λh=>Sd W S h).sum=0:=by
 have e1:((aD W.length).map λh=>Sd W S h).sum=((aD W.length).map λi=>((aD W.length).map λj=>ZV W i j*Zt S j).sum).sum-((aD W.length).map λi=>((aD W.length).map λj=>ZV W i j*Zt S i).sum).sum:=by rw[<-IE];apply YX;intro i _;unfold Sd;rw[<-IE];apply YX;intro j _;rw[iS]
 have e2:((aD W.length).map λi=>((aD W.length).map λj=>ZV W i j*Zt S i).sum).sum=((aD W.length).map λi=>((aD W.length).map λj=>ZV W i j*Zt S j).sum).sum:=by rw[DB];apply YX;intro i hi;apply YX;intro j hj;rw[ok.sym j i hj hi]
 rw[e1,e2];omega
theorem M7{W:List (List Int)}{D S:List Int}(ok:ZN W)(hd:D.length=W.length):(YT W D S).sum=D.sum:=by unfold YT;rw[Ko,Mn,hd,DC ok,gx]
theorem nth_set{l:List Int}{h i:Nat}{v:Int}(hi:i<l.length):Zt (l.set h v) i=if i=h then v else Zt l i:=by
 unfold Zt;rw[aE,aE,bJ];by_cases e:h=i
 ·subst e;rw[mM rfl,mM rfl,mM hi];rfl
 ·rw[mN e,mN (bO e)]
theorem DD(l:List Int)(k:Nat):Wf (iL l) aA (some (k:Int))=iL (l.take k):=by
 unfold Wf;rw[HT.sIx_none,HT.sIx_nat,aH,lx,Nat.sub_zero,<-fZ];congr 1;by_cases h:k<=l.length
 ·rw[dh h]
 ·rw[ij (by omega),bg (aZ _),bg (by omega)]
theorem DE(l:List Int)(k:Nat):Wf (iL l) (some (k:Int)) aA=iL (l.drop k):=by
 unfold Wf;rw[HT.sIx_none,HT.sIx_nat,aH,<-fg,<-fZ];congr 1;by_cases h:k<=l.length
 ·rw[dh h,bg (by rw[bK];omega)]
 ·rw[ij (by omega),gK (aZ _),gK (by omega)];simp
theorem BX{l:List Int}{x:Int}(h:x∈l):∃i,i<l.length/\Zt l i=x:=by obtain⟨i,hi,e⟩:=dM h;refine⟨i,hi,?_⟩;unfold Zt;rw[aE,aF hi,e];rfl
noncomputable def X2(l:List Int):List Int:=(aD l.length).map λi=>Zt l i-XM l
theorem JW(l:List Int):(X2 l).length=l.length:=by simp[X2]
theorem JX{l:List Int}{i:Nat}(h:i<l.length):Zt (X2 l) i=Zt l i-XM l:=ZP h
end PW
namespace PW
noncomputable def sN:Nat->(Nat->Int)->Int
 | 0,_=>0
 | n+1,f=>sN n f+f n
theorem Zn{f g:Nat->Int}:∀{n:Nat},(∀i,i<n->f i=g i)->sN n f=sN n g
 | 0,_=>rfl
 | n+1,h=>by show sN n f+f n=sN n g+g n;rw[Zn λi hi=>h i (by omega),h n (by omega)]
theorem X3{f:Nat->Int}{n:Nat}(h:∀i,i<n->f i=0):sN n f=0:=by
 rw[Zn (g:=λ_=>0) h];clear h
 induction n with
 | zero=>rfl
 | succ n ih=>show sN n _+0=0;rw[ih];rfl
theorem Yr(f g:Nat->Int):∀n,sN n (λi=>f i+g i)=sN n f+sN n g
 | 0=>rfl
 | n+1=>by show sN n _+(f n+g n)=(sN n f+f n)+(sN n g+g n);rw[Yr f g n];omega
theorem Ym(c:Int)(f:Nat->Int):∀n,sN n (λi=>c*f i)=c*sN n f
 | 0=>by show(0:Int)=c*0;simp
 | n+1=>by show sN n _+c*f n=c*(sN n f+f n);rw[Ym c f n,jj]
theorem TL(f:Nat->Nat->Int)(m:Nat):∀n,sN n (λi=>sN m (f i))=sN m (λj=>sN n λi=>f i j)
 | 0=>by show(0:Int)=sN m λ_=>0;rw[X3 (λ_ _=>rfl)]
 | n+1=>by show sN n (λi=>sN m (f i))+sN m (f n)=sN m (λj=>(sN n λi=>f i j)+f n j);rw[Yr,TL f m n]
theorem YJ{f:Nat->Int}{k:Nat}:∀{n:Nat},k<n->(∀i,i<n->i≠k->f i=0)->sN n f=f k
 | 0,h,_=>by omega
 | n+1,h,z=>by
  show sN n f+f n=f k;by_cases q:k=n
  ·subst q;rw[X3 λi hi=>z i (by omega) (by omega)];omega
  ·rw[YJ (n:=n) (by omega) λi hi=>z i (by omega),z n (by omega) (by omega)];omega
theorem DF{f:Nat->Int}{k:Nat}:∀{n:Nat},k+1<n->(∀i,i<n->i≠k->i≠k+1->f i=0)->sN n f=f k+f (k+1)
 | 0,h,_=>by omega
 | n+1,h,z=>by
  show sN n f+f n=_;by_cases q:k+1=n
  ·subst q;rw[YJ (k:=k) (by omega) λi hi hk=>z i (by omega) hk (by omega)]
  ·rw[DF (n:=n) (by omega) λi hi=>z i (by omega),z n (by omega) (by omega) (by omega)];omega
theorem WU(f:Nat->Int)(n:Nat):((aD n).map f).sum=sN n f:=by
 induction n with
 | zero=>rfl
 | succ n ih=>rw[di,bB,dI,ih];simp[sN]
abbrev Mt:=Nat->Nat->Int
noncomputable def QO(i:Nat)(A:Mt):Mt:=λr c=>A (if r<i then r else r+1) (c+1)
noncomputable def sg:Nat->Int
 | 0=>1
 | n+1=>- sg n
noncomputable def Vl:Nat->Mt->Int
 | 0,_=>1
 | n+1,A=>sN (n+1) λi=>sg i*A i 0*Vl n (QO i A)
theorem Wz(n:Nat)(A:Mt):Vl (n+1) A=sN (n+1) λi=>sg i*A i 0*Vl n (QO i A):=rfl
theorem WY:∀{n:Nat}{A B:Mt},(∀r c,r<n->c<n->A r c=B r c)->Vl n A=Vl n B
 | 0,_,_,_=>rfl
 | n+1,A,B,h=>by rw[Wz,Wz];refine Zn λi hi=>?_;rw[h i 0 hi (by omega),WY (n:=n) (A:=QO i A) (B:=QO i B) λr c hr hc=>?_];unfold QO;exact h _ _ (by split<;>omega) (by omega)
theorem Hs:∀{n:Nat}{A B C:Mt}{k:Nat}{x y:Int},k<n->(∀r c,r<n->c<n->r≠k->A r c=C r c/\B r c=C r c)->(∀c,c<n->C k c=x*A k c+y*B k c)->Vl n C=x*Vl n A+y*Vl n B
 | 0,_,_,_,k,_,_,h,_,_=>by omega
 | n+1,A,B,C,k,x,y,hk,h1,h2=>by
  rw[Wz,Wz,Wz,<-Ym,<-Ym,<-Yr];refine Zn λi hi=>?_;by_cases q:i=k
  ·subst q;have e1:Vl n (QO i A)=Vl n (QO i C):=WY λr c hr hc=>by unfold QO;exact(h1 _ _ (by split<;>omega) (by omega) (by split<;>omega)).1
   have e2:Vl n (QO i B)=Vl n (QO i C):=WY λr c hr hc=>by unfold QO;exact(h1 _ _ (by split<;>omega) (by omega) (by split<;>omega)).2
   rw[e1,e2,h2 0 (by omega),jj,je];simp only[cR,eV]
  ·obtain⟨a1,a2⟩:=h1 i 0 hi (by omega) q
   have e:Vl n (QO i C)=x*Vl n (QO i A)+y*Vl n (QO i B):=Hs (k:=if k<i then k else k-1) (by split<;>omega) (λr c hr hc hrk=>by
    unfold QO
    exact h1 _ _ (by split<;>omega) (by omega) (by split at hrk<;>split<;>omega)) (λc hc=>by
    have e:(if(if k<i then k else k-1)<i then(if k<i then k else k-1) else(if k<i then k else k-1)+1)=k:=by split<;>(try split)<;>omega
    unfold QO;rw[e];exact h2 (c+1) (by omega))
   rw[a1,a2,e,jj];simp only[cR,eV]
theorem Q4:∀{n:Nat}{A:Mt}{k:Nat},k+1<n->(∀c,c<n->A k c=A (k+1) c)->Vl n A=0
 | 0,_,k,h,_=>by omega
 | n+1,A,k,hk,he=>by
  rw[Wz,DF hk]
  ·have e:Vl n (QO k A)=Vl n (QO (k+1) A):=WY λr c hr hc=>by
    unfold QO;by_cases q:r<k
    ·rw[mM q,mM (by omega)]
    ·rw[mN q];by_cases q2:r=k
     ·subst q2;rw[mM (by omega)];exact(he (c+1) (by omega)).symm
     ·rw[mN (by omega)]
   rw[e,he 0 (by omega)];show sg k*_*_ + - sg k*_*_=0;rw[dQ,dQ];omega
  ·intro i hi h1 h2;rw[Q4 (n:=n) (A:=QO i A) (k:=if k+1<i then k else k-1) (by split<;>omega) λc hc=>?_,fI];have e1:(if(if k+1<i then k else k-1)<i then(if k+1<i then k else k-1) else(if k+1<i then k else k-1)+1)=k:=by split<;>(try split)<;>omega
   have e2:(if(if k+1<i then k else k-1)+1<i then(if k+1<i then k else k-1)+1 else(if k+1<i then k else k-1)+1+1)=k+1:=by split<;>(try split)<;>omega
   unfold QO;rw[e1,e2];exact he (c+1) (by omega)
noncomputable def put(k:Nat)(v:Nat->Int)(A:Mt):Mt:=λr=>if r=k then v else A r
theorem Y4(k:Nat)(v:Nat->Int)(A:Mt):put k v A k=v:=by unfold put;rw[mM rfl]
theorem V0{k r:Nat}(v:Nat->Int)(A:Mt)(h:r≠k):put k v A r=A r:=by unfold put;rw[mN h]
theorem Rr{n k:Nat}{A:Mt}{u v:Nat->Int}{x y:Int}(hk:k<n):Vl n (put k (λc=>x*u c+y*v c) A)=x*Vl n (put k u A)+y*Vl n (put k v A):=
 Hs hk (λr c _ _ h=>by rw[V0 _ _ h,V0 _ _ h,V0 _ _ h];exact⟨rfl,rfl⟩) (λc _=>by rw[Y4,Y4,Y4])
noncomputable def swp(k:Nat)(A:Mt):Mt:=put k (A (k+1)) (put (k+1) (A k) A)
theorem BY{n k:Nat}{A:Mt}(hk:k+1<n):Vl n (swp k A) = - Vl n A:=by
 have two:∀u v:Nat->Int,Vl n (put k (λc=>1*u c+1*v c) (put (k+1) (λc=>1*u c+1*v c) A))=0:=λu v=>Q4 hk λc _=>by rw[Y4,V0 _ _ (by omega),Y4]
 have same:∀u:Nat->Int,Vl n (put k u (put (k+1) u A))=0:=λu=>Q4 hk λc _=>by rw[Y4,V0 _ _ (by omega),Y4]
 have comm:∀u v:Nat->Int,put k u (put (k+1) v A)=put (k+1) v (put k u A):=λu v=>by
  funext r;unfold put;by_cases q:r=k
  ·rw[mM q,mN (by omega),mM q]
  ·rw[mN q];by_cases q2:r=k+1
   ·rw[mM q2,mM q2]
   ·rw[mN q2,mN q2,mN q]
 have h:=two (A k) (A (k+1));rw[Rr (by omega),comm,Rr hk,comm,Rr hk,<-comm,<-comm,<-comm,<-comm,same,same] at h
 have e:put k (A k) (put (k+1) (A (k+1)) A)=A:=by
  funext r;unfold put;by_cases q:r=k
  ·rw[mM q,q]
  ·rw[mN q];by_cases q2:r=k+1
   ·rw[mM q2,q2]
   ·rw[mN q2]
 rw[e] at h;unfold swp;omega
theorem Ti:∀(d:Nat){n i:Nat}{A:Mt},i+1+d<n->(∀c,c<n->A i c=A (i+1+d) c)->Vl n A=0
 | 0,n,i,A,h,e=>Q4 h e
 | d+1,n,i,A,h,e=>by
  have h1:Vl n (swp (i+1+d) A)=0:=Ti d (n:=n) (i:=i) (by omega) λc hc=>by unfold swp;rw[V0 _ _ (by omega),V0 _ _ (by omega),Y4];exact e c hc
  rw[BY (by omega)] at h1;omega
theorem Kp{n i j:Nat}{A:Mt}(hi:i<n)(hj:j<n)(hij:i≠j)(e:∀c,c<n->A i c=A j c):Vl n A=0:=by
 rcases Nat.lt_or_gt_of_ne hij with h | h
 ·exact Ti (j-i-1) (i:=i) (by omega) λc hc=>by rw[show i+1+(j-i-1)=j by omega];exact e c hc
 ·exact Ti (i-j-1) (i:=j) (by omega) λc hc=>by rw[show j+1+(i-j-1)=i by omega];exact(e c hc).symm
theorem Kq:∀{n:Nat}{A:Mt},(∀c,c<n->A n c=0)->Vl (n+1) A=A n n*Vl n A
 | 0,A,_=>by show 0+1*A 0 0*1=A 0 0*1;omega
 | n+1,A,h=>by
  rw[Wz (n+1)];show sN (n+1) _+sg (n+1)*A (n+1) 0*_=_;rw[h 0 (by omega),fI,dO,gx,Wz n,<-Ym];refine Zn λi hi=>?_;rw[Kq (n:=n) (A:=QO i A) λc hc=>?_]
  ·have e:QO i A n n=A (n+1) (n+1):=by unfold QO;rw[mN (by omega)]
   rw[e];simp only[cR,eV]
  ·unfold QO;rw[mN (by omega)];exact h (c+1) (by omega)
theorem O0{n j:Nat}{A:Mt}{a:Nat->Int}{v:Nat->Nat->Int}(hj:j<n):∀m,Vl n (put j (λc=>sN m λk=>a k*v k c) A)=sN m λk=>a k*Vl n (put j (v k) A)
 | 0=>by have:Vl n (put j (λc=>0*(0:Int)+0*(0:Int)) A)=0*Vl n (put j (λ_=>0) A)+0*Vl n (put j (λ_=>0) A):=Rr (u:=λ_=>0) (v:=λ_=>0) hj;simp only[dO,gx] at this;exact this
 | m+1=>by have:=Rr (n:=n) (A:=A) (u:=λc=>sN m λk=>a k*v k c) (v:=v m) (x:=1) (y:=a m) hj;simp only[iT] at this;show Vl n (put j (λc=>(sN m λk=>a k*v k c)+a m*v m c) A)=_;rw[this,O0 hj m];rfl
theorem BZ{n j:Nat}{A:Mt}{a:Nat->Int}(hj:j<n):Vl n (put j (λc=>sN n λk=>a k*A k c) A)=a j*Vl n A:=by
 rw[O0 hj n,YJ (k:=j) hj]
 ·have:put j (A j) A=A:=by funext r;unfold put;split<;>simp_all
  rw[this]
 ·intro i hi hij;rw[Kp (i:=i) (j:=j) hi hj hij λc _=>by rw[V0 _ _ hij,Y4],fI]
noncomputable def Kr(n:Nat)(A:Mt)(i j:Nat):Int:=Vl n (put j (λc=>if c=i then 1 else 0) A)
theorem B0{n:Nat}{A:Mt}{j:Nat}(hj:j<n)(v:Nat->Int):sN n (λi=>v i*Kr n A i j)=Vl n (put j v A):=by
 unfold Kr;rw[<-O0 (v:=λi c=>if c=i then 1 else 0) hj n];refine WY λr c hr hc=>?_;unfold put;split
 ·show sN n (λk=>v k*if c=k then 1 else 0)=v c;rw[YJ (k:=c) hc]
  ·simp
  ·intro i hi hic;rw[mN (λz=>hic z.symm),fI]
 ·rfl
theorem Ht{n:Nat}{A:Mt}{k j:Nat}(hk:k<n)(hj:j<n):sN n (λi=>A k i*Kr n A i j)=if k=j then Vl n A else 0:=by
 rw[B0 hj];split
 ·rename_i h;subst h;have:put k (A k) A=A:=by funext r;unfold put;split<;>simp_all
  rw[this]
 ·rename_i h;exact Kp (i:=k) (j:=j) hk hj h λc _=>by rw[V0 _ _ h,Y4]
abbrev ZU:=Nat×Nat
noncomputable def ind(a b:Nat):Int:=if a=b then 1 else 0
theorem Zca{f g:Nat->Int}{q:Nat}:∀{n:Nat},q<n->(∀x,x<n->x≠q->f x=g x)->sN n f=sN n g+(f q-g q):=by
 intro n hq h;have e:=Yr (λx=>g x) (λx=>f x-g x) n;have e2:sN n f=sN n λx=>g x+(f x-g x):=Zn λx _=>by omega
 rw[e2,e,YJ (f:=λx=>f x-g x) hq (λx hx hxq=>by rw[h x hx hxq];omega)]
theorem DG{f:Nat->Int}:∀{n:Nat},(∀x,x<n->0<=f x)->0<=sN n f
 | 0,_=>cw 0
 | n+1,h=>by have h1:=DG (n:=n) λx hx=>h x (by omega);have h2:=h n (by omega);show 0<=sN n f+f n;omega
noncomputable def prs(n:Nat):List ZU:=(aD n).flatMap λa=>(aD (n-(a+1))).map λj=>(a,a+1+j)
theorem mem_prs{n a b:Nat}:(a,b)∈prs n↔a<b/\b<n:=by
 unfold prs;simp only[fJ,aW,b7,Prod.mk.injEq];constructor
 ·rintro⟨x,hx,j,hj,rfl,rfl⟩;omega
 ·rintro⟨h1,h2⟩;exact⟨a,by omega,b-(a+1),by omega,rfl,by omega⟩
structure Wt(n:Nat)(w:Nat->Nat->Int):Prop where
 nn:∀a b,a<n->b<n->0<=w a b
 sy:∀a b,a<n->b<n->w a b=w b a
 dg:∀a,a<n->w a a=0
noncomputable def N3(n:Nat)(w:Nat->Nat->Int):List ZU:=(prs n).flatMap λp=>aN (w p.1 p.2).toNat p
theorem B1(f:ZU->Int):∀n,((prs n).map f).sum=sN n λa=>sN n λb=>if a<b then f (a,b) else 0:=by
 intro n;unfold prs
 have flat:∀(l:List Nat)(g:Nat->List ZU),((l.flatMap g).map f).sum=(l.map λa=>((g a).map f).sum).sum:=by
  intro l g
  induction l with
  | nil=>rfl
  | cons a l ih=>rw[ka,bB,dI,ih,ag,bc]
 rw[flat,WU];refine Zn λa ha=>?_;rw[bS,WU]
 -- the tail of the row
 have tail:∀k,sN (a+1+k) (λb=>if a<b then f (a,b) else 0)=sN k λj=>f (a,a+1+j):=by
  intro k
  induction k with
  | zero=>exact X3 λi hi=>mN (by omega)
  | succ k ih=>
   show sN (a+1+k) _+(if a<a+1+k then f (a,a+1+k) else 0)=sN k _+f (a,a+1+k);rw[ih,mM (by omega)]
 have:=tail (n-(a+1));rw[show a+1+(n-(a+1))=n by omega] at this;rw[this];rfl
theorem Hu(f:ZU->Int)(p:ZU):∀k:Nat,((aN k p).map f).sum=(k:Int)*f p
 | 0=>by simp
 | k+1=>by rw[cK,ag,bc,Hu f p k,Int.natCast_succ,je];omega
theorem Fb{n:Nat}{w:Nat->Nat->Int}(ok:Wt n w)(f:ZU->Int):((N3 n w).map f).sum=sN n λa=>sN n λb=>if a<b then w a b*f (a,b) else 0:=by
 unfold N3
 have flat:∀(l:List ZU)(g:ZU->List ZU),((l.flatMap g).map f).sum=(l.map λa=>((g a).map f).sum).sum:=by
  intro l g
  induction l with
  | nil=>rfl
  | cons a l ih=>rw[ka,bB,dI,ih,ag,bc]
 rw[flat,B1 (λp=>((aN (w p.1 p.2).toNat p).map f).sum)];refine Zn λa ha=>Zn λb hb=>?_;split
 ·rw[Hu];show((w a b).toNat:Int)*_=_;rw[kB (ok.nn a b ha hb)]
 ·rfl
end PW
namespace PK
open PW
theorem DH{f:Nat->Int}{n p q:Nat}(hp:p<n)(hq:q<n)(ne:p≠q)(h:∀i,i<n->i≠p->i≠q->f i=0):sN n f=f p+f q:=by
 have e:sN n f=sN n (λi=>(if i=p then f p else 0)+(if i=q then f q else 0)):=Zn λi hi=>by
  by_cases a:i=p
  ·subst a;simp[ne]
  ·by_cases b:i=q
   ·subst b;simp[a]
   ·simp[a,b,h i hi a b]
 rw[e,Yr,YJ (k:=p) hp (λi _ hi=>mN hi),YJ (k:=q) hq (λi _ hi=>mN hi),mM rfl,mM rfl]
theorem DI(f g:Nat->Int)(n:Nat):sN n (λi=>f i-g i)=sN n f-sN n g:=by
 have:sN n (λi=>f i-g i)=sN n (λi=>f i+(-1)*g i):=Zn λi _=>by omega
 rw[this,Yr,Ym];omega
noncomputable def Xx(m:Nat->Nat)(G:List Nat)(v:Nat):Bool:=G.any λg=>m g==v
theorem hasM_iff{m:Nat->Nat}{G:List Nat}{v:Nat}:Xx m G v=aC↔∃g,g∈G/\m g=v:=by unfold Xx;simp[ik]
noncomputable def b1(b:Bool):Int:=if b=aC then 1 else 0
noncomputable def Fc(n:Nat)(m:Nat->Nat)(G:List Nat):Int:=sN n λv=>b1 (Xx m G v)
noncomputable def Yj(m:Nat->Nat)(a b:Nat):Nat->Nat:=λx=>if m x=m a then m b else m x
theorem Zee{m:Nat->Nat}{a b:Nat}{G:List Nat}(ne:m a≠m b):Xx (Yj m a b) G (m a)=aB:=by
 cases q:Xx (Yj m a b) G (m a) with
 | false=>rfl
 | true=>
  obtain⟨g,_,e⟩:=hasM_iff.mp q;unfold Yj at e;split at e
  ·exact absurd e.symm ne
  ·rename_i z;exact absurd e z
theorem Zef{m:Nat->Nat}{a b:Nat}{G:List Nat}:Xx (Yj m a b) G (m b)=(Xx m G (m a) || Xx m G (m b)):=by
 rw[g9,jY,hasM_iff,hasM_iff,hasM_iff];constructor
 ·rintro⟨g,hg,e⟩;unfold Yj at e;split at e
  ·rename_i z;exact .inl ⟨g,hg,z⟩
  ·exact .inr ⟨g,hg,e⟩
 ·rintro(⟨g,hg,e⟩ | ⟨g,hg,e⟩)
  ·exact⟨g,hg,by unfold Yj;rw[mM e]⟩
  ·exact⟨g,hg,by unfold Yj;split<;>first | rfl | exact e⟩
theorem Zeg{m:Nat->Nat}{a b v:Nat}{G:List Nat}(h1:v≠m a)(h2:v≠m b):Xx (Yj m a b) G v=Xx m G v:=by
 rw[g9,hasM_iff,hasM_iff];constructor
 ·rintro⟨g,hg,e⟩;unfold Yj at e;split at e
  ·exact absurd e.symm h2
  ·exact⟨g,hg,e⟩
 ·rintro⟨g,hg,e⟩;exact⟨g,hg,by unfold Yj;rw[mN (by rw[e];exact h1)];exact e⟩
theorem Ks{n:Nat}{m:Nat->Nat}{a b:Nat}{G:List Nat}(ha:m a<n)(hb:m b<n)(ne:m a≠m b):Fc n (Yj m a b) G=Fc n m G-b1 (Xx m G (m a)&&Xx m G (m b)):=by
 have e:Fc n (Yj m a b) G-Fc n m G=sN n (λv=>b1 (Xx (Yj m a b) G v)-b1 (Xx m G v)):=(DI _ _ n).symm;rw[DH ha hb ne (λi _ h1 h2=>by rw[Zeg h1 h2];omega),Zee ne,Zef] at e;have:b1 aB-b1 (Xx m G (m a))+(b1 (Xx m G (m a) || Xx m G (m b))-b1 (Xx m G (m b))) = - b1 (Xx m G (m a)&&Xx m G (m b)):=by cases Xx m G (m a)<;>cases Xx m G (m b)<;>decide
 omega
theorem Kt(b:Bool):0<=b1 b:=by cases b<;>decide
theorem Zeh(b:Bool):b1 b<=1:=by cases b<;>decide
noncomputable def N4(G:List Nat)(e:ZU):Bool:=decide (e.1∈G)&&decide (e.2∈G)
noncomputable def XN(G:List Nat)(E:List ZU):Int:=(E.map λe=>b1 (N4 G e)).sum
theorem N5(G:List Nat)(E:List ZU)(e:ZU):XN G (E++[e])=XN G E+b1 (N4 G e):=by unfold XN;simp
structure MkOk(n:Nat)(m:Nat->Nat)(T:List ZU):Prop where
 lt:∀x,x<n->m x<n
 le:∀G:List Nat,G.Nodup->(∀g∈G,g<n)->XN G T+Fc n m G<=G.length
 eq:XN (aD n) T+Fc n m (aD n)=n
 inn:∀e∈T,e.1<n/\e.2<n
theorem Hv:∀{l m:List Nat},l.Nodup->(∀x∈l,x∈m)->l.length<=m.length
 | [],m,_,_=>eu _
 | x::l,m,nd,sub=>by have nd':=bG.mp nd;have hx:=sub x (by simp);have:=Hv (l:=l) (m:=m.erase x) nd'.2 λy hy=>(ji (λz:y=x=>nd'.1 (by rw[<-z];exact hy))).mpr (sub y (by simp[hy]));rw[i6 hx] at this;have:0<m.length:=jQ hx;simp only[bA];omega
theorem Qk(p:Nat->Bool):∀n,sN n (λv=>b1 (p v))=(((aD n).filter p).length:Int)
 | 0=>rfl
 | n+1=>by
  show sN n _+b1 (p n)=_;rw[Qk p n,di,kR,aX];cases h:p n<;>simp[jk,h,b1]
theorem MkOk.start(n:Nat):MkOk n (λx=>x) []:=by
 have hid:∀(G:List Nat)(v:Nat),Xx (λx=>x) G v=decide (v∈G):=λG v=>by rw[g9,hasM_iff,decide_eq_true_eq];exact⟨λ⟨g,h,e⟩=>e▸h,λh=>⟨v,h,rfl⟩⟩
 refine⟨λx h=>h,λG nd hG=>?_,?_,by simp⟩
 ·unfold Fc;rw[Zn (g:=λv=>b1 (decide (v∈G))) λi _=>by rw[hid],Qk]
  have:=Hv (l:=(aD n).filter λv=>decide (v∈G)) (m:=G) (fK.filter _) (λx hx=>by
   have:=(cN.mp hx).2;simpa using this)
  show(0:Int)+_<=_;omega
 ·unfold Fc;rw[Zn (g:=λv=>b1 (decide (v∈aD n))) λi _=>by rw[hid],Qk];rw[gk.mpr λa ha=>by simpa using ha];show(0:Int)+_=_;simp
theorem MkOk.step{n:Nat}{m:Nat->Nat}{T:List ZU}{a b:Nat}(h:MkOk n m T)(ha:a<n)(hb:b<n)(ne:m a≠m b):MkOk n (Yj m a b) (T++[(a,b)]):=by
 have la:=h.lt a ha;have lb:=h.lt b hb;have has:∀{G:List Nat}{x:Nat},x∈G->Xx m G (m x)=aC:=λ{G x} hx=>hasM_iff.mpr ⟨x,hx,rfl⟩;refine⟨λx hx=>?_,λG nd hG=>?_,?_,λe he=>?_⟩
 ·unfold Yj;split
  ·exact lb
  ·exact h.lt x hx
 ·have:=h.le G nd hG;rw[N5,Ks la lb ne]
  cases q:N4 G (a,b) with
  | true=>
   unfold N4 at q;simp only[av,decide_eq_true_eq] at q;rw[has q.1,has q.2];show _+b1 aC+(_-b1 aC)<=_;omega
  | false=>
   have:=Kt (Xx m G (m a)&&Xx m G (m b));show _+(0:Int)+_<=_;omega
 ·have:=h.eq;rw[N5,Ks la lb ne];have q:N4 (aD n) (a,b)=aC:=by unfold N4;simp[ha,hb]
  rw[q,has (aW.mpr ha),has (aW.mpr hb)];show _+b1 aC+(_-b1 aC)=_;omega
 ·rcases aa.mp he with z | z
  ·exact h.inn e z
  ·rw[aO.mp z];exact⟨ha,hb⟩
theorem MkOk.few{n:Nat}{m:Nat->Nat}{T:List ZU}(h:MkOk n m T){G:List Nat}(nd:G.Nodup)(hG:∀g∈G,g<n)(ne:G≠[]):XN G T<=(G.length:Int)-1:=by
 have h1:=h.le G nd hG;obtain⟨g,hg⟩:=fO G ne
 have h2:(1:Int)<=Fc n m G:=by
  have lg:=h.lt g (hG g hg);unfold Fc
  have le:sN n (λv=>if v=m g then(1:Int) else 0)<=sN n λv=>b1 (Xx m G v):=by
   have:0<=sN n (λv=>b1 (Xx m G v)-(if v=m g then(1:Int) else 0)):=by
    have nn:∀k,0<=sN k (λv=>b1 (Xx m G v)-(if v=m g then(1:Int) else 0)):=by
     intro k
     induction k with
     | zero=>exact cw _
     | succ k ih=>
      show 0<=sN k _+(b1 (Xx m G k)-(if k=m g then(1:Int) else 0));by_cases z:k=m g
      ·rw[z,hasM_iff.mpr ⟨g,hg,rfl⟩,mM rfl];show 0<=sN (m g) _+((1:Int)-1);rw[z] at ih;omega
      ·rw[mN z];have:=Kt (Xx m G k);omega
    exact nn n
   rw[DI] at this;omega
  rw[YJ lg λi _ hi=>mN hi,mM rfl] at le;exact le
 omega
theorem MkOk.all{n:Nat}{m:Nat->Nat}{T:List ZU}(h:MkOk n m T)(hn:0<n)(one:∀x,x<n->m x=m 0):(T.length:Int)=n-1:=by
 have e:=h.eq
 have e1:XN (aD n) T=T.length:=by
  have:∀T:List ZU,(∀e∈T,e.1<n/\e.2<n)->XN (aD n) T=T.length:=by
   intro T
   induction T with
   | nil=>intro _;rfl
   | cons e T ih=>
    intro hh;have q:N4 (aD n) e=aC:=by have:=hh e (by simp);unfold N4;simp[this.1,this.2]
    have:=ih λx hx=>hh x (by simp[hx]);unfold XN at this ⊢;rw[ag,bc,this,q,bA];show(1:Int)+_=_;omega
  exact this T h.inn
 have e2:Fc n m (aD n)=1:=by
  unfold Fc;rw[YJ (k:=m 0) (h.lt 0 hn) λi hi ni=>?_]
  ·rw[hasM_iff.mpr ⟨0,aW.mpr hn,rfl⟩];rfl
  ·cases q:Xx m (aD n) i with
   | false=>rfl
   | true=>
    obtain⟨g,hg,eg⟩:=hasM_iff.mp q;rw[one g (aW.mp hg)] at eg;exact absurd eg.symm ni
 omega
theorem O1{α:Type}:∀{l:List α}{p:Nat}(h:p<l.length),(l[p]::l.eraseIdx p).Perm l
 | a::l,0,h=>List.Perm.refl _
 | a::l,p+1,h=>by have:=O1 (l:=l) (p:=p) (by simpa using h);simp only[List.getElem_cons_succ,List.eraseIdx_cons_succ];exact(List.Perm.swap _ _ _).trans (this.cons a)
noncomputable def ZC(E:List ZU)(i:Nat):ZU:=E.getD i (0,0)
structure TrOk(n:Nat)(E:List ZU)(m:Nat->Nat)(F L:List Nat):Prop where
 mark:MkOk n m (F.map (ZC E))
 nd:(F++L).Nodup
 inn:∀i∈F++L,i<E.length
 done:∀i,i<E.length->i∉L->m (ZC E i).1=m (ZC E i).2
theorem TrOk.start(n:Nat)(E:List ZU):TrOk n E (λx=>x) [] (aD E.length):=
 ⟨MkOk.start n,by simpa using fK,λi hi=>by simpa using hi,λi hi hn=>absurd (aW.mpr hi) hn⟩
theorem JY{m:Nat->Nat}{a b x y:Nat}(h:m x=m y):Yj m a b x=Yj m a b y:=by unfold Yj;rw[h]
theorem TrOk.step{n:Nat}{E:List ZU}{m:Nat->Nat}{F L:List Nat}{p:Nat}(h:TrOk n E m F L)(hE:∀e∈E,e.1<n/\e.2<n)(hp:p<L.length) :
  (m (ZC E L[p]).1≠m (ZC E L[p]).2->TrOk n E (Yj m (ZC E L[p]).1 (ZC E L[p]).2) (F++[L[p]]) (L.eraseIdx p))/\
  (m (ZC E L[p]).1=m (ZC E L[p]).2->TrOk n E m F (L.eraseIdx p)):=by
 have pm:(L[p]::L.eraseIdx p).Perm L:=O1 hp;have li:L[p]<E.length:=h.inn _ (aY _ (bY hp));have eE:ZC E L[p]∈E:=by unfold ZC;rw[aE,aF li];exact bY li
 have sub:∀i∈L.eraseIdx p,i∈L:=λi hi=>List.mem_of_mem_eraseIdx hi;constructor
 ·intro ne;refine⟨?_,?_,λi hi=>?_,λi hi hn=>?_⟩
  ·rw[bB];exact h.mark.step (hE _ eE).1 (hE _ eE).2 ne
  ·have:(F++[L[p]]++L.eraseIdx p).Perm (F++L):=by rw[dm];exact List.Perm.append_left F pm
   exact(this.nodup_iff).mpr h.nd
  ·rw[dm] at hi;rcases aa.mp hi with z | z
   ·exact h.inn i (bC _ z)
   ·rcases aa.mp z with z | z
    ·rw[aO.mp z];exact li
    ·exact h.inn i (aY _ (sub i z))
  ·by_cases e:i=L[p]
   ·subst e;unfold Yj;rw[mM rfl];split
    ·rfl
    ·rfl
   ·refine JY (h.done i hi λz=>?_);rcases af.mp (pm.mem_iff.mpr z) with y | y
    ·exact e y
    ·exact hn y
 ·intro eq;refine⟨h.mark,?_,λi hi=>?_,λi hi hn=>?_⟩
  ·have:=h.nd;rw[cU] at this ⊢;exact⟨this.1,this.2.1.sublist (List.eraseIdx_sublist _ _),λa ha b hb=>this.2.2 a ha b (sub b hb)⟩
  ·rcases aa.mp hi with z | z
   ·exact h.inn i (bC _ z)
   ·exact h.inn i (aY _ (sub i z))
  ·by_cases e:i=L[p]
   ·subst e;exact eq
   ·refine h.done i hi λz=>?_;rcases af.mp (pm.mem_iff.mpr z) with y | y
    ·exact e y
    ·exact hn y
theorem DJ{l m:List Int}(h:l.Perm m):l.sum=m.sum:=by
 induction h with
 | nil=>rfl
 | cons x _ ih=>simp[ih]
 | swap x y l=>simp;omega
 | trans _ _ a b=>exact a.trans b
theorem B2{l m:List Nat}(h1:l.Nodup)(h2:m.Nodup)(h:∀x,x∈l↔x∈m):l.Perm m:=(List.perm_ext_iff_of_nodup h1 h2).mpr h
noncomputable def O2(E:List ZU)(F:List Nat):List Nat:=(aD E.length).filter λk=>decide (k∉F)
theorem N6(p:Nat->Bool)(f:Nat->Int):∀l:List Nat,(l.map f).sum=((l.filter p).map f).sum+((l.filter λk=>!p k).map f).sum
 | []=>rfl
 | a::l=>by
  have:=N6 p f l;cases h:p a<;>simp[jk,h]<;>omega
theorem Rt{α:Type}(l:List α)(d:α):(aD l.length).map (λi=>l.getD i d)=l:=by
 apply fL
 ·simp
 ·intro i h1 h2;simp at h1;simp[h1]
theorem Hw{E:List ZU}{F:List Nat}(nd:F.Nodup)(inn:∀i∈F,i<E.length)(f:ZU->Int):(E.map f).sum=((F.map (ZC E)).map f).sum+(((O2 E F).map (ZC E)).map f).sum:=by
 have e:E.map f=(aD E.length).map λi=>f (ZC E i):=by
  conv=>lhs;rw[<-Rt E (0,0)]
  rw[bS];rfl
 have pm:((aD E.length).filter λk=>decide (k∈F)).Perm F:=B2 (fK.filter _) nd λx=>by rw[cN,aW,decide_eq_true_eq];exact⟨λh=>h.2,λh=>⟨inn x h,h⟩⟩
 rw[e,N6 (λk=>decide (k∈F)) _ (aD E.length),bS,bS];congr 1
 ·exact DJ (pm.map _)
 ·unfold O2;congr 2;refine List.filter_congr λk _=>?_;by_cases q:k∈F<;>simp[q]
noncomputable def Qu(β:Nat->Bool)(k:Nat)(e:ZU):Nat:=if β k=aC then e.2 else e.1
noncomputable def X8(β:Nat->Bool):Nat->List ZU->List Nat
 | _,[]=>[]
 | k,e::S=>Qu β k e::X8 β (k+1) S
theorem N7(β:Nat->Bool):∀(S:List ZU)(k:Nat),(X8 β k S).length=S.length
 | [],k=>rfl
 | e::S,k=>by rw[X8,bA,bA,N7 β S]
theorem Ku{β:Nat->Bool}{n:Nat}:∀{S:List ZU}{k:Nat},(∀e∈S,e.1<n/\e.2<n)->∀x∈X8 β k S,x<n
 | [],k,_,x,h=>by simp[X8] at h
 | e::S,k,hS,x,h=>by
  rw[X8] at h;rcases af.mp h with rfl | h
  ·have:=hS e (by simp);unfold Qu;split
   ·exact this.2
   ·exact this.1
  ·exact Ku (λe he=>hS e (by simp[he])) x h
theorem DK{x:Nat}:∀{G:List Nat},G.Nodup->(G.map λg=>b1 (x==g)).sum=b1 (decide (x∈G))
 | [],_=>rfl
 | g::G,nd=>by
  have nd':=bG.mp nd;rw[ag,bc,DK nd'.2];by_cases e:x=g
  ·subst e;have:decide (x∈G)=aB:=by simp[nd'.1]
   rw[this];simp[b1]
  ·have h1:(x==g)=aB:=by simp[e]
   rw[h1];by_cases z:x∈G<;>simp[e,z,b1]
theorem Tj(f g:Nat->Int):∀l:List Nat,(l.map λi=>f i+g i).sum=(l.map f).sum+(l.map g).sum
 | []=>rfl
 | a::l=>by simp only[ag,bc,Tj f g l];omega
theorem Ru{G:List Nat}(nd:G.Nodup):∀X:List Nat,(G.map λg=>((X.count g:Nat):Int)).sum=(X.map λx=>b1 (decide (x∈G))).sum
 | []=>by
  have:∀G:List Nat,(G.map λg=>(((([]:List Nat)).count g:Nat):Int)).sum=0:=by
   intro G
   induction G with
   | nil=>rfl
   | cons a G ih=>simpa using ih
  rw[this];rfl
 | x::X=>by
  rw[ag,bc,<-Ru nd X,<-DK nd,<-Tj];congr 1;refine ak λg _=>?_;rw[gg];by_cases e:x=g
  ·subst e;simp[b1];omega
  ·have:(x==g)=aB:=by simp[e]
   simp[this,b1]
theorem Hx{G:List Nat}(β:Nat->Bool):∀(S:List ZU)(k:Nat),XN G S<=((X8 β k S).map λx=>b1 (decide (x∈G))).sum
 | [],k=>cw _
 | e::S,k=>by
  have:=Hx (G:=G) β S (k+1);rw[X8,ag,bc];unfold XN at this ⊢;rw[ag,bc]
  have h:b1 (N4 G e)<=b1 (decide (Qu β k e∈G)):=by
   cases q:N4 G e with
   | false=>exact Kt _
   | true=>
    unfold N4 at q;simp only[av,decide_eq_true_eq] at q
    have:Qu β k e∈G:=by
     unfold Qu;split
     ·exact q.2
     ·exact q.1
    simp[this]
  omega
theorem DL{n:Nat}{E:List ZU}{m:Nat->Nat}{F:List Nat}(h:TrOk n E m F []){G:List Nat}(nd:G.Nodup)(hG:∀g∈G,g<n)(ne:G≠[])(β:Nat->Bool) :
  XN G E-(G.length:Int)+1<=(G.map λg=>(((X8 β 0 ((O2 E F).map (ZC E))).count g:Nat):Int)).sum:=by
 have ndF:F.Nodup:=by have:=h.nd;simpa using this
 have inF:∀i∈F,i<E.length:=λi hi=>h.inn i (by simp[hi]);rw[Ru nd];have h1:=Hx (G:=G) β ((O2 E F).map (ZC E)) 0;have h2:=h.mark.few nd hG ne;have h3:=Hw ndF inF (λe=>b1 (N4 G e));have h4:XN G E=XN G (F.map (ZC E))+XN G ((O2 E F).map (ZC E)):=h3;omega
theorem Kv{n:Nat}{E:List ZU}{m:Nat->Nat}{F:List Nat}(h:TrOk n E m F [])(hn:0<n)(one:∀x,x<n->m x=m 0):((O2 E F).length:Int)=(E.length:Int)-n+1:=by
 have ndF:F.Nodup:=by have:=h.nd;simpa using this
 have inF:∀i∈F,i<E.length:=λi hi=>h.inn i (by simp[hi]);have h1:=h.mark.all hn one;rw[aH] at h1;have h3:=Hw ndF inF (λ_=>(1:Int))
 have ones:∀{α:Type}(l:List α),(l.map λ_=>(1:Int)).sum=l.length:=λl=>by
  induction l with
  | nil=>rfl
  | cons a l ih=>simp[ih];omega
 rw[ones,ones,ones,aH,aH] at h3;omega
noncomputable def Z3:Nat->List (List Nat)
 | 0=>[[]]
 | n+1=>Z3 n++(Z3 n).map (·++[n])
theorem UI:∀{n:Nat}{G:List Nat},G∈Z3 n->G.Pairwise (· < ·)/\(∀g∈G,g<n)/\G.length<=n/\(G.length=n->G=aD n)
 | 0,G,h=>by rw[Z3,aO] at h;subst h;simp
 | n+1,G,h=>by
  rw[Z3] at h;rcases aa.mp h with h | h
  ·obtain⟨a,b,c,d⟩:=UI h;exact⟨a,λg hg=>dq (b g hg),by omega,λe=>by omega⟩
  ·obtain⟨G',h',rfl⟩:=b7.mp h;obtain⟨a,b,c,d⟩:=UI h';refine⟨?_,λg hg=>?_,by simp;omega,λe=>?_⟩
   ·rw[List.pairwise_append];exact⟨a,by simp,λx hx y hy=>by rw[aO.mp hy];exact b x hx⟩
   ·rcases aa.mp hg with z | z
    ·exact dq (b g z)
    ·rw[aO.mp z];exact eG _
   ·rw[aX] at e;simp only[cz] at e;rw[d (by omega),di]
theorem TM:∀n,∃r,Z3 n=[]::r/\∀G∈r,G≠[]
 | 0=>⟨[],rfl,by simp⟩
 | n+1=>by
  obtain⟨r,e,h⟩:=TM n;refine⟨r++(Z3 n).map (·++[n]),by rw[Z3,e];rfl,λG hG=>?_⟩;rcases aa.mp hG with z | z
  ·exact h G z
  ·obtain⟨G',_,rfl⟩:=b7.mp z;simp
theorem VH(p:Nat->Bool):∀n,(aD n).filter p∈Z3 n
 | 0=>by simp[Z3]
 | n+1=>by
  rw[di,kR,Z3];have:=VH p n;cases h:p n
  ·simp only[jk,h];rw[cu];exact bC _ this
  ·simp only[jk,h];exact aY _ (List.mem_map_of_mem this)
theorem O3:∀n,(Z3 n).length=2^n
 | 0=>rfl
 | n+1=>by rw[Z3,aX,aH,O3 n,Nat.pow_succ];omega
section
variable (w:Nat->Nat->Int)
noncomputable def M8(h:Nat)(G:List Nat):Int:=(G.map (w h)).sum
noncomputable def tw(G:List Nat):Int:=(G.map λi=>M8 w i G).sum
theorem B3{n:Nat}(sy:∀a b,a<n->b<n->w a b=w b a)(dg:∀a,a<n->w a a=0){G:List Nat}(hG:∀g∈G,g<n){h:Nat}(hh:h<n):tw w (G++[h])=tw w G+2*M8 w h G:=by
 unfold tw M8;rw[bB,dI];simp only[ag,dN,bc,List.sum_nil,bB,dI];rw[Tj (λi=>(G.map (w i)).sum) (λi=>w i h+0) G,dg h hh];have:(G.map λi=>w i h+0).sum=(G.map (w h)).sum:=by congr 1;refine ak λg hg=>?_;rw[sy g h (hG g hg) hh];omega
 rw[this];omega
noncomputable def Qv(D:Nat->Int)(G:List Nat):Int:=(G.map D).sum+G.length-1-tw w G/2
theorem DM{n:Nat}(sy:∀a b,a<n->b<n->w a b=w b a)(dg:∀a,a<n->w a a=0)(D:Nat->Int){G:List Nat}(hG:∀g∈G,g<n){h:Nat}(hh:h<n):Qv w D (G++[h])=Qv w D G+D h+1-M8 w h G:=by unfold Qv;rw[B3 w sy dg hG hh,bB,dI,aX];simp only[ag,dN,bc,List.sum_nil,cz];omega
end
theorem TN{n:Nat}(f:Nat->Int):∀{G:List Nat},G.Nodup->(∀g∈G,g<n)->(G.map f).sum=sN n λi=>b1 (decide (i∈G))*f i
 | [],_,_=>by rw[X3 λi _=>by simp[b1]];rfl
 | g::G,nd,hG=>by
  have nd':=bG.mp nd;rw[ag,bc,TN f nd'.2 λx hx=>hG x (by simp[hx])]
  have:sN n (λi=>b1 (decide (i∈g::G))*f i)=sN n (λi=>(if i=g then f g else 0)+b1 (decide (i∈G))*f i):=Zn λi hi=>by
   by_cases e:i=g
   ·subst e;simp[nd'.1,b1]
   ·simp[e]
  rw[this,Yr,YJ (k:=g) (hG g (by simp)) λi _ hi=>mN hi,mM rfl]
theorem B4{n:Nat}{u:Nat->Nat->Int}(sy:∀a b,a<n->b<n->u a b=u b a)(dg:∀a,a<n->u a a=0):sN n (λa=>sN n (u a))=2*sN n (λa=>sN n λb=>if a<b then u a b else 0):=by
 have e:sN n (λa=>sN n (u a))=sN n (λa=>sN n (λb=>if a<b then u a b else 0)+sN n (λb=>if b<a then u b a else 0)):=Zn λa ha=>by
  rw[<-Yr];refine Zn λb hb=>?_;by_cases h1:a<b
  ·rw[mM h1,mN (by omega)];omega
  ·by_cases h2:b<a
   ·rw[mN h1,mM h2,sy a b ha hb];omega
   ·have:a=b:=by omega
    subst this;rw[mN h1,dg a ha];simp
 rw[e,Yr,TL (λa b=>if b<a then u b a else 0) n n];omega
end PK
namespace PW
open L2 VL
theorem DN{f g:XS}{s:ZS}{v:PV}(e1:f s=some (.rt v)):Zj f g s=some (.rt v):=by rw[PZ,e1];rfl
section
variable {s:ZS} {f g:XE} {a b:Int} {C:Int->Int->Prop} [∀i j,Decidable (C i j)] {op:Int->Int->Int}
theorem vC(h1:f s=some (.int a))(h2:g s=some (.int b))(c:C a b):Zd (FF C op) f g s=some (.int (op a b)):=by rw[Ya,h1,h2];simp only[aL,Zbs,mM c]
theorem vI(h1:f s=some (.int a))(h2:g s=some (.int b)):Zd (gI op) f g s=some (.int (op a b)):=by rw[Ya,h1,h2];rfl
theorem vP(h1:f s=some (.int a)):eP f s=some (.int a):=by rw[YR,h1];rfl
theorem Vm{v:PV}(h1:f s=some v):ZY f s=some (.rt v):=by rw[EE,h1];rfl
end
noncomputable def Fd(M:List (List Int))(a b:Nat)(t:Int):List (List Int):=V7 (V7 M a b t) b a t
theorem Q5{n:Nat}{M:List (List Int)}{a b:Nat}{t:Int}(ok:MatOk n M)(ha:a<n)(hb:b<n)(i j:Nat):ZV (Fd M a b t) i j=if b=i/\a=j then t else if a=i/\b=j then t else ZV M i j:=by obtain⟨l1,r1⟩:=W0 (t:=t) (b:=b) ok.len ok.row ha;unfold Fd;rw[Po l1 r1 hb ha,Po ok.len ok.row ha hb]
theorem Zcc{n:Nat}{M:List (List Int)}{a b:Nat}{t:Int}(ok:MatOk n M)(ha:a<n)(hb:b<n)(hab:a≠b)(h1:0<=t)(h9:t<=9):MatOk n (Fd M a b t):=by
 obtain⟨l1,r1⟩:=W0 (t:=t) (b:=b) ok.len ok.row ha;obtain⟨l2,r2⟩:=W0 (t:=t) (b:=a) l1 r1 hb;have E:=Q5 (t:=t) ok ha hb;refine⟨l2,r2,λi j hi hj=>?_,λi j hi hj=>?_,λi j hi hj=>?_,λi hi=>?_⟩
 ·have:=ok.lo i j hi hj;rw[E];split<;>(try split)<;>omega
 ·have:=ok.hi i j hi hj;rw[E];split<;>(try split)<;>omega
 ·have:=ok.sym i j hi hj;rw[E,E];by_cases p:b=i/\a=j
  ·rw[mM p];by_cases p2:b=j/\a=i
   ·rw[mM p2]
   ·rw[mN p2,mM ⟨p.2,p.1⟩]
  ·rw[mN p];by_cases p2:a=i/\b=j
   ·rw[mM p2,mM ⟨p2.2,p2.1⟩]
   ·rw[mN p2,mN (λz=>p2 ⟨z.2,z.1⟩),mN (λz=>p ⟨z.2,z.1⟩)];exact this
 ·rw[E,mN (λz=>hab (by omega)),mN (λz=>hab (by omega))];exact ok.dia i hi
theorem N8{s:ZS}{n:Nat}(h:s[3]?=some (some (.int (n:Int))))(hn:n<=7):Zq 1 [3] (ZE [Za 3]) (.one 0) Zx (Zd SS (Yu [eC (.int 0)]) (Za 1)) s=some (.lst (rL (aN n (aN n 0)))):=by
 rw[ZM (aD n) (λ(i:Nat)=>.int (i:Int)) (λ_=>.lst (iL (aN n 0))) (Z1 (by simp[h]) (by omega)) (by simp;omega) (λi _=>⟨_,rfl,rfl,?_⟩)]
 ·unfold rL;rw[List.map_const',cV,kS]
 ·have e:SS (.lst [.int 0]) (.int (n:Int))=some (.lst (iL (aN n 0))):=by show(if ZH [PV.int 0]=aC/\(-1000000:Int)<=(n:Int)/\(n:Int)<=1000000/\[PV.int 0].length*((n:Int)).toNat<=10000 then some (PV.lst (aN ((n:Int)).toNat [PV.int 0]).flatten) else aA)=_;rw[mM ⟨rfl,by omega,by omega,by simp;omega⟩,bR,SF];simp
  simp[compEnv,h,e]
noncomputable def Grown(M:List (List Int))(l:List Int)(k:Nat):Prop:=∀j,1<=j->j<k->∃j',j'<j/\0<ZV M (Zt l j).toNat (Zt l j').toNat
theorem Grown.mono{M M':List (List Int)}{l:List Int}{k:Nat}(h:Grown M l k)(g:∀i j,0<ZV M i j->0<ZV M' i j):Grown M' l k:=λj h1 h2=>by obtain⟨j',a,b⟩:=h j h1 h2;exact⟨j',a,g _ _ b⟩
theorem Grown.conn{M:List (List Int)}{l:List Int}{n:Nat}(h:Grown M l n)(hl:M.length=n)(nk:NamesOk n l):Rq M:=by
 intro P hP i j hi hj;rw[hl] at hi hj;have h0:0<n:=by omega
 have lt:∀x,x<n->(Zt l x).toNat<M.length:=λx hx=>by have:=nk.at hx;omega
 have all:∀k,k<n->(P (Zt l k).toNat↔P (Zt l 0).toNat):=by
  intro k
  induction k using Nat.strongRecOn with
  | ind k ih=>
   intro hk;by_cases q:k=0
   ·subst q;exact Iff.rfl
   ·obtain⟨j',a,b⟩:=h k (by omega) hk;exact(hP _ _ (lt k hk) (lt j' (by omega)) b).trans (ih j' a (by omega))
 have at':∀i,i<n->∃x,x<n/\(Zt l x).toNat=i:=λi hi=>by have:=QN (n:=n) nk.nd (λx hx=>⟨x.toNat,by have:=nk.hi x hx;have:=nk.lo x hx;omega,by have:=nk.lo x hx;omega⟩) nk.len hi;obtain⟨x,hx,e⟩:=BX this;exact⟨x,by rw[<-nk.len];exact hx,by rw[e];rfl⟩
 obtain⟨x,hx,rfl⟩:=at' i hi;obtain⟨y,hy,rfl⟩:=at' j hj;exact(all x hx).trans (all y hy).symm
theorem B5{n:Nat}{M:List (List Int)}{a b:Nat}{t:Int}(ok:MatOk n M)(ha:a<n)(hb:b<n)(ht:0<t):(∀i j,0<ZV M i j->0<ZV (Fd M a b t) i j)/\0<ZV (Fd M a b t) a b:=by
 refine⟨λi j h=>?_,?_⟩
 ·rw[Q5 ok ha hb];split
  ·exact ht
  ·split
   ·exact ht
   ·exact h
 ·rw[Q5 ok ha hb];split
  ·exact ht
  ·rw[mM ⟨rfl,rfl⟩];exact ht
noncomputable def nL(l:List Nat):List Int:=l.map λ(i:Nat)=>(i:Int)
theorem O4{y:Nat}{l:List Nat}:(y:Int)∈nL l↔y∈l:=by unfold nL;rw[b7];exact⟨λ⟨a,h,e⟩=>by rw[show y=a by omega];exact h,λh=>⟨y,h,rfl⟩⟩
theorem Ql{α:Type}{T:Tgt}{fb:XS}{q g:α->PV}{c:α->Bool}(S:ZS->Prop):∀{ls:List α}{s:ZS},(∀a∈ls,∀s,S s->∃s1,Vw T (q a) s=some s1/\((c a=aC->fb s1=some (.rt (g a)))/\(c a=aB->∃s2,fb s1=some (.nx s2)/\S s2)))->S s->
  match ls.find? c with | some a=>WN T fb (ls.map q) s=some (.rt (g a)) | none=>∃s',WN T fb (ls.map q) s=some (.nx s')/\S s'
 | [],s,_,h0=>⟨s,rfl,h0⟩
 | a::r,s,h,h0=>by
  obtain⟨s1,e1,ht,hf⟩:=h a ah s h0;rw[bh]
  cases ca:c a with
  | true=>
   show WN T fb (q a::r.map q) s=_;unfold WN;rw[e1];simp only[aL,ht ca]
  | false=>
   obtain⟨s2,e2,h2⟩:=hf ca;have ih:=Ql S (ls:=r) (s:=s2) (λb hb=>h b (aS _ hb)) h2
   have e:WN T fb ((a::r).map q) s=WN T fb (r.map q) s2:=by
    show WN T fb (q a::r.map q) s=_;unfold WN;rw[e1];simp only[aL,e2];cases r.map q<;>rfl
   rw[e];exact ih
noncomputable def QP:Option Nat->PV
 | none=>.non
 | some h=>.int (h:Int)
theorem JZ(y:Nat)(l:List Nat):Uw aC (.int (y:Int)) (.lst (iL (nL l)))=some (.bl (!decide (y∈l))):=by rw[AW];have:=O4 (y:=y) (l:=l);simp[this]
theorem M9(y:Nat)(l:List Nat):Uw aB (.int (y:Int)) (.lst (iL (nL l)))=some (.bl (decide (y∈l))):=by rw[AW];have:=O4 (y:=y) (l:=l);simp[this]
end PW
namespace PW
theorem Qm{f:Nat->Int}{q:Nat}:∀{m:Nat},q<=m->(∀k,q<=k->k<m->f k=0)->sN m f=sN q f
 | 0,h,_=>by rw[show q=0 by omega]
 | m+1,h,z=>by
  by_cases e:q=m+1
  ·rw[e]
  ·show sN m f+f m=_;rw[Qm (m:=m) (by omega) (λk h1 h2=>z k h1 (by omega)),z m (by omega) (by omega)];omega
theorem Hy{f:Nat->Int}{q i:Nat}:∀{m:Nat},q<=i->i<m->(∀k,q<=k->k<m->k≠i->f k=0)->sN m f=sN q f+f i
 | 0,_,h,_=>by omega
 | m+1,hq,hi,z=>by
  show sN m f+f m=_;by_cases e:i=m
  ·subst e;rw[Qm (q:=q) (by omega) λk h1 h2=>z k h1 (by omega) (by omega)]
  ·rw[Hy (m:=m) hq (by omega) (λk h1 h2=>z k h1 (by omega)),z m (by omega) (by omega) (λq=>e q.symm)];omega
noncomputable def XU(m:Nat)(X:Mt):Nat->Mt×Int
 | 0=>(X,1)
 | p+1=>(λi j=>if i=p then(XU m X p).1 i j else((XU m X p).1 p p*(XU m X p).1 i j-(XU m X p).1 i p*(XU m X p).1 p j).fdiv (XU m X p).2,(XU m X p).1 p p)
structure BOk(m:Nat)(A X:Mt):Prop where
 sym:∀i j,i<m->j<m->A i j=A j i
 inj:∀p,p<=m->∀z:Nat->Int,(∀j,j<p->sN p (λk=>z k*A k j)=0)->∀k,k<p->z k=0
 ext:∀i j,i<m->j<m->X i j=A i j
structure Zfy(m p:Nat)(X:Mt)(E:Mt)(d:Int)(i:Nat)(a:Nat->Int):Prop where
 off:∀k,k<m->p<=k->k≠i->a k=0
 on:p<=i->a i=d
 val:∀j,j<=m->E i j=sN m (λk=>a k*X k j)
 uni:∀j,j<p->E i j=if i=j then d else 0
structure Zce(m:Nat)(A X:Mt)(p:Nat)(E:Mt)(d:Int):Prop where
 de:d=Vl p A
 nz:d≠0
 row:∀i,i<m->∃a,Zfy m p X E d i a
theorem O5{m:Nat}{A X:Mt}{p:Nat}{E:Mt}{d:Int}(ok:BOk m A X)(hp:p<m)(I:Zce m A X p E d) :
  Zce m A X (p+1) (λi j=>if i=p then E i j else(E p p*E i j-E i p*E p j).fdiv d) (E p p)/\∀i j,i<m->j<=m->i≠p->∃q,E p p*E i j-E i p*E p j=d*q:=by
 obtain⟨ap,Rp⟩:=I.row p hp;have hd:=I.nz
 -- the pivot's row
 have rowp:∀j,j<m->E p j=sN (p+1) (λk=>ap k*A k j):=λj hj=>by
  rw[Rp.val j (by omega),Qm (q:=p+1) (by omega) λk h1 h2=>by rw[Rp.off k h2 (by omega) (by omega),dO]];exact Zn λk hk=>by rw[ok.ext k j (by omega) hj]
 have pd:E p p=Vl (p+1) A:=by
  have h1:=BZ (n:=p+1) (j:=p) (A:=A) (a:=ap) (by omega);have h2:=Kq (n:=p) (A:=put p (λc=>sN (p+1) λk=>ap k*A k c) A) λc hc=>by rw[Y4];show sN (p+1) (λk=>ap k*A k c)=0;rw[<-rowp c (by omega),Rp.uni c hc,mN (by omega)]
  have h3:Vl p (put p (λc=>sN (p+1) λk=>ap k*A k c) A)=Vl p A:=WY λr c hr hc=>by rw[V0 _ _ (by omega)]
  rw[Y4,h3,h1,Rp.on (aZ p),<-I.de] at h2;have h4:d*Vl (p+1) A=E p p*d:=by rw[h2];show sN (p+1) (λk=>ap k*A k p)*d=_;rw[<-rowp p hp]
  have h5:d*(Vl (p+1) A)=d*E p p:=by rw[h4,cG]
  exact(iM hd h5).symm
 have pz:E p p≠0:=λz=>by
  have:=ok.inj (p+1) (by omega) ap (λj hj=>by
   rw[<-rowp j (by omega)];by_cases q:j=p
   ·rw[q];exact z
   ·rw[Rp.uni j (by omega),mN (by omega)]) p (by omega)
  rw[Rp.on (aZ p)] at this;exact hd this
 -- the other rows
 have other:∀i,i<m->i≠p->∃b:Nat->Int,(∀k,k<m->p+1<=k->k≠i->b k=0)/\(p+1<=i->b i=E p p)/\(∀l,l<p+1->sN m (λk=>b k*A k l)=if i=l then E p p else 0)/\∀j,j<=m->E p p*E i j-E i p*E p j=d*sN m (λk=>b k*X k j):=by
  intro i hi hip
  obtain⟨b,b1,b2,b3⟩:∃b:Nat->Int,(∀k,k<m->p+1<=k->k≠i->b k=0)/\(p+1<=i->b i=E p p)/\(∀l,l<p+1->sN m (λk=>b k*A k l)=if i=l then E p p else 0):=by
   have cm:∀j l,j<p+1->l<p+1->sN (p+1) (λk=>Kr (p+1) A k j*A k l)=if l=j then E p p else 0:=λj l hj hl=>by
    rw[pd,<-Ht (A:=A) hl hj];exact Zn λk hk=>by rw[ok.sym l k (by omega) (by omega),cG]
   by_cases q:i<p
   ·obtain⟨b,hb⟩:∃b:Nat->Int,∀k,b k=if k<p+1 then Kr (p+1) A k i else 0:=⟨_,λ_=>rfl⟩
    refine⟨b,λk hk h1 _=>by rw[hb,mN (by omega)],λh=>by omega,λl hl=>?_⟩;rw[Qm (q:=p+1) (by omega) λk h1 h2=>by rw[hb,mN (by omega),dO]];rw[Zn (g:=λk=>Kr (p+1) A k i*A k l) λk hk=>by rw[hb,mM hk],cm i l (by omega) hl];by_cases e:i=l
    ·rw[mM e,mM e.symm]
    ·rw[mN e,mN (λz=>e z.symm)]
   ·obtain⟨b,hb⟩:∃b:Nat->Int,∀k,b k=if k<p+1 then-sN (p+1) (λj=>A i j*Kr (p+1) A k j) else if k=i then E p p else 0:=⟨_,λ_=>rfl⟩
    have hbi:b i=E p p:=by rw[hb,mN (by omega),mM rfl]
    refine⟨b,λk hk h1 h2=>by rw[hb,mN (by omega),mN h2],λh=>hbi,λl hl=>?_⟩;rw[Hy (q:=p+1) (i:=i) (by omega) hi λk h1 h2 h3=>by rw[hb,mN (by omega),mN h3,dO]];rw[hbi,mN (show ¬i=l by omega)]
    have e1:sN (p+1) (λk=>b k*A k l)=sN (p+1) (λk=>(-1)*sN (p+1) (λj=>A i j*(Kr (p+1) A k j*A k l))):=Zn λk hk=>by
     rw[hb,mM hk,dQ,cG _ (A k l),<-Ym,dQ,iT];congr 1;exact Zn λj _=>by rw[cG (A k l),cR]
    rw[e1,Ym,TL];have e2:(sN (p+1) λj=>sN (p+1) λk=>A i j*(Kr (p+1) A k j*A k l))=A i l*E p p:=by rw[Zn (g:=λj=>A i j*(if l=j then E p p else 0)) λj hj=>by rw[Ym,cm j l hj hl]];rw[YJ (k:=l) hl λj _ hjl=>by rw[mN (λz=>hjl z.symm),fI],mM rfl]
    rw[e2,cG (E p p)];omega
  refine⟨b,b1,b2,b3,?_⟩;obtain⟨ai,Ri⟩:=I.row i hi
  have hw:∀k,k<m->E p p*ai k-E i p*ap k-d*b k=0:=by
   have hi2:∀k,k<m->p+1<=k->E p p*ai k-E i p*ap k-d*b k=0:=λk hk h1=>by
    have zp:=Rp.off k hk (by omega) (by omega);by_cases q:k=i
    ·subst q;rw[Ri.on (by omega),zp,b2 h1,cG d];omega
    ·rw[Ri.off k hk (by omega) q,zp,b1 k hk h1 q];omega
   intro k hk;by_cases q:k<p+1
   ·refine ok.inj (p+1) (by omega) (λk=>E p p*ai k-E i p*ap k-d*b k) (λl hl=>?_) k q;rw[<-Qm (q:=p+1) (m:=m) (by omega) λk h1 h2=>by rw[hi2 k h2 h1,dO]]
    have e1:sN m (λk=>(E p p*ai k-E i p*ap k-d*b k)*A k l)=E p p*sN m (λk=>ai k*A k l)+((- E i p)*sN m (λk=>ap k*A k l)+(- d)*sN m (λk=>b k*A k l)):=by
     rw[<-Ym,<-Ym,<-Ym,<-Yr,<-Yr];exact Zn λk _=>by rw[Int.sub_mul,Int.sub_mul];simp only[cR,dQ];omega
    have eX:∀a:Nat->Int,sN m (λk=>a k*X k l)=sN m (λk=>a k*A k l):=λa=>Zn λk hk=>by rw[ok.ext k l hk (by omega)]
    rw[e1,b3 l hl,<-eX,<-eX,<-Ri.val l (by omega),<-Rp.val l (by omega)];by_cases q2:l=p
    ·subst q2;rw[mN hip,cG (E l l),dQ];omega
    ·rw[Ri.uni l (by omega),Rp.uni l (by omega),mN (show ¬p=l by omega)];by_cases q3:i=l
     ·rw[mM q3,mM q3,dQ d,cG d];omega
     ·rw[mN q3,mN q3];omega
   ·exact hi2 k hk (by omega)
  intro j hj;rw[Ri.val j hj,Rp.val j hj,<-Ym,<-Ym,<-Ym];have:sN m (λk=>E p p*(ai k*X k j))=sN m (λk=>d*(b k*X k j))+sN m (λk=>E i p*(ap k*X k j)):=by rw[<-Yr];refine Zn λk hk=>?_;have:=hw k hk;rw[<-cR,<-cR,<-cR,<-je];congr 1;omega
  omega
 refine⟨⟨pd,pz,λi hi=>?_⟩,λi j hi hj hip=>?_⟩
 ·by_cases hip:i=p
  ·subst hip;refine⟨ap,λk hk h1 h2=>Rp.off k hk (by omega) h2,λh=>by omega,λj hj=>by rw[mM rfl];exact Rp.val j hj,λj hj=>?_⟩;rw[mM rfl];by_cases q:i=j
   ·subst q;rw[mM rfl]
   ·rw[mN q,Rp.uni j (by omega),mN q]
  ·obtain⟨b,b1,b2,b3,b4⟩:=other i hi hip;have hv:∀j,j<=m->(E p p*E i j-E i p*E p j).fdiv d=sN m (λk=>b k*X k j):=λj hj=>by rw[b4 j hj,i7 _ hd]
   refine⟨b,b1,b2,λj hj=>by rw[mN hip];exact hv j hj,λj hj=>?_⟩;rw[mN hip,hv j (by omega),<-b3 j hj];exact Zn λk hk=>by rw[ok.ext k j hk (by omega)]
 ·obtain⟨b,b1,b2,b3,b4⟩:=other i hi hip;exact⟨_,b4 j hj⟩
theorem WZ{m:Nat}{A X:Mt}(ok:BOk m A X):∀{p:Nat},p<=m->Zce m A X p (XU m X p).1 (XU m X p).2
 | 0,_=>⟨rfl,(show(1:Int)≠0 by decide),λi hi=>⟨λk=>if k=i then 1 else 0,λk _ _ h=>mN h,λ_=>mM rfl,λj hj=>by rw[YJ (k:=i) hi λk _ hk=>by rw[mN hk,dO],mM rfl,iT];rfl,λj hj=>by omega⟩⟩
 | p+1,h=>(O5 ok (by omega) (WZ ok (p:=p) (by omega))).1
theorem Fe{m:Nat}{A X:Mt}(ok:BOk m A X){k:Nat}(hk:k<m):sN m (λi=>A k i*(XU m X m).1 i m)=(XU m X m).2*X k m:=by
 have I:=WZ ok (aZ m);generalize hE:(XU m X m).1=E at I ⊢;generalize hd:(XU m X m).2=d at I ⊢;have nz:=I.nz
 have hr:∀k,k<m->sN m (λi=>A k i*sN m (λj=>Kr m A i j*X j m))=d*X k m:=λk hk=>by
  rw[Zn (g:=λi=>sN m (λj=>A k i*(Kr m A i j*X j m))) λi _=>by rw[Ym]]
  rw[TL,Zn (g:=λj=>(if k=j then d else 0)*X j m) λj hj=>by
   rw[I.de,<-Ht (A:=A) hk hj,cG _ (X j m),<-Ym];exact Zn λi _=>by rw[cG (X j m),cR]]
  rw[YJ (k:=k) hk λj _ h=>by rw[mN (λz=>h z.symm),dO],mM rfl]
 have he:∀i,i<m->E i m=sN m (λj=>Kr m A i j*X j m):=λi hi=>by
  obtain⟨a,R⟩:=I.row i hi;refine iM nz ?_;rw[R.val m (aZ m),<-Ym];have e1:sN m (λk=>d*(a k*X k m))=sN m (λk=>a k*sN m (λl=>A k l*sN m (λj=>Kr m A l j*X j m))):=Zn λk hk=>by rw[hr k hk,eV]
  rw[e1,Zn (g:=λk=>sN m (λl=>a k*A k l*sN m (λj=>Kr m A l j*X j m))) λk _=>by rw[<-Ym];exact Zn λl _=>by rw[cR]]
  rw[TL,Zn (g:=λl=>(if i=l then d else 0)*sN m (λj=>Kr m A l j*X j m)) λl hl=>by
   rw[<-R.uni l hl,R.val l (by omega),cG _ (sN m λj=>Kr m A l j*X j m),<-Ym];exact Zn λk hk=>by rw[ok.ext k l hk hl,cG]]
  rw[YJ (k:=i) hi λl _ h=>by rw[mN (λz=>h z.symm),dO],mM rfl]
 rw[Zn (g:=λi=>A k i*sN m (λj=>Kr m A i j*X j m)) λi hi=>by rw[he i hi]];exact hr k hk
open L2 VL
theorem DO{z:Int}(h:z.natAbs<2^1000):z.natAbs.log2<1000:=by
 by_cases h0:z.natAbs=0
 ·rw[h0];decide +kernel
 ·exact(Nat.log2_lt h0).mpr h
theorem Q6{a b:Int}(h:a.natAbs<2^1000)(h':b.natAbs<2^1000):CMulW a b:=⟨by have:=DO h;omega,by have:=DO h';omega⟩
theorem Hz{a b:Int}(h0:b≠0)(h:b.natAbs<2^1000):Oi a b:=⟨h0,by have:=DO h;omega⟩
noncomputable def Mb:Nat->Nat
 | 0=>2^7
 | p+1=>2*Mb p*Mb p
noncomputable def Nb:Nat->Nat
 | 0=>2^208
 | p+1=>2*Mb p*Nb p
theorem Zei{p:Nat}(h:p<=6):Mb p<2^1000:=by
 have:p=0\/p=1\/p=2\/p=3\/p=4\/p=5\/p=6:=by omega
 rcases this with rfl | rfl | rfl | rfl | rfl | rfl | rfl<;>decide +kernel
theorem Zfz{p:Nat}(h:p<=6):Nb p<2^1000:=by
 have:p=0\/p=1\/p=2\/p=3\/p=4\/p=5\/p=6:=by omega
 rcases this with rfl | rfl | rfl | rfl | rfl | rfl | rfl<;>decide +kernel
theorem HA{a b c d:Int}{M N:Nat}(ha:a.natAbs<=M)(hb:b.natAbs<=N)(hc:c.natAbs<=M)(hd:d.natAbs<=N):(a*b-c*d).natAbs<=2*M*N:=by
 have h1:(a*b).natAbs<=M*N:=by rw[gO];exact fE ha hb
 have h2:(c*d).natAbs<=M*N:=by rw[gO];exact fE hc hd
 have h3:(a*b-c*d).natAbs<=(a*b).natAbs+(c*d).natAbs:=by omega
 have h4:2*M*N=M*N+M*N:=by rw[Nat.mul_assoc];omega
 omega
theorem Kw{x d q:Int}(hd:d≠0)(e:x=d*q):(x.fdiv d).natAbs<=x.natAbs:=by
 rw[e,i7 _ hd,gO];have:1<=d.natAbs:=by omega
 calc q.natAbs=1*q.natAbs:=by omega
  _<=d.natAbs*q.natAbs:=fF _ this
theorem B6(p:Nat):Mb p<=Mb (p+1):=by
 have h:∀p,1<=Mb p:=λp=>by
  induction p with
  | zero=>decide
  | succ p ih=>show 1<=2*Mb p*Mb p;exact fE (show 1<=2*Mb p by omega) ih
 show Mb p<=2*Mb p*Mb p
 calc Mb p=1*Mb p:=by omega
  _<=2*Mb p*Mb p:=fF _ (by have:=h p;omega)
theorem B7(p:Nat):Nb p<=Nb (p+1):=by
 have h:∀p,1<=Mb p:=λp=>by
  induction p with
  | zero=>decide
  | succ p ih=>show 1<=2*Mb p*Mb p;exact fE (show 1<=2*Mb p by omega) ih
 show Nb p<=2*Mb p*Nb p
 calc Nb p=1*Nb p:=by omega
  _<=2*Mb p*Nb p:=fF _ (by have:=h p;omega)
theorem Qn{m:Nat}{A X:Mt}(ok:BOk m A X)(h0:∀i j,i<m->j<m->(X i j).natAbs<=2^7)(h1:∀i,i<m->(X i m).natAbs<=2^208):∀{p:Nat},p<=m->(∀i j,i<m->j<m->((XU m X p).1 i j).natAbs<=Mb p)/\∀i,i<m->((XU m X p).1 i m).natAbs<=Nb p
 | 0,_=>⟨h0,h1⟩
 | p+1,hp=>by
  obtain⟨b1,b2⟩:=Qn ok h0 h1 (p:=p) (by omega);have I:=WZ ok (p:=p) (by omega);have ex:=(O5 ok (by omega) I).2;refine⟨λi j hi hj=>?_,λi hi=>?_⟩
  ·show(if i=p then(XU m X p).1 i j else _).natAbs<=_;split
   ·exact bX (b1 i j hi hj) (B6 p)
   ·rename_i hip;obtain⟨q,e⟩:=ex i j hi (by omega) hip;exact bX (Kw I.nz e) (HA (b1 p p (by omega) (by omega)) (b1 i j hi hj) (b1 i p hi (by omega)) (b1 p j (by omega) hj))
  ·show(if i=p then(XU m X p).1 i m else _).natAbs<=_;split
   ·exact bX (b2 i hi) (B7 p)
   ·rename_i hip;obtain⟨q,e⟩:=ex i m hi (by omega) hip;exact bX (Kw I.nz e) (HA (b1 p p (by omega) (by omega)) (b2 i hi) (b1 i p hi (by omega)) (b2 p (by omega)))
noncomputable def Z7(w:Nat)(f:Nat->Int):List Int:=(aD w).map f
theorem X4(w:Nat)(f:Nat->Int):(Z7 w f).length=w:=by simp[Z7]
theorem Tn{w:Nat}{f:Nat->Int}{j:Nat}(h:j<w):Zt (Z7 w f) j=f j:=ZP h
theorem J0{l:List Int}:(eK ((eK (some (PV.lst (iL l))) λx=>(TV [] s).map (x::·)).bind ZR) λl=>if ZO l=aC then some l else aA)=some (pP l):=by show(if ZO (pP l)=aC then some (pP l) else aA)=_;rw[mM (by simp)]
theorem J1{w p:Nat}{f g:Nat->Int}{d:Int}(hw:w<=100)(hp:p<w)(hf:∀j,j<w->(f j).natAbs<2^1000)(hg:∀j,j<w->(g j).natAbs<2^1000)(hd:d≠0)(hdb:d.natAbs<2^1000) :
  Wi [pP (Z7 w f),pP (Z7 w g),.int (p:Int),.int d]=some (pP (Z7 w λj=>(g p*f j-f p*g j).fdiv d)):=by
 have hz:Si (iL (Z7 w f)) (iL (Z7 w g))=(aD w).map λ(j:Nat)=>.tup [.int (f j),.int (g j)]:=by rw[UC _ _ (by simp[X4]),aH,X4];apply ak;intro i hi;have hi:=aW.mp hi;rw[X0 _ i (by rw[X4];exact hi),X0 _ i (by rw[X4];exact hi),Tn hi,Tn hi]
 have hx:TX aB aB [Za 0,Za 1] [some (pP (Z7 w f)),some (pP (Z7 w g)),some (.int (p:Int)),some (.int d)]=some ((aD w).map λ(j:Nat)=>.tup [.int (f j),.int (g j)]):=by show some (Si (iL (Z7 w f)) (iL (Z7 w g)))=_;rw[hz]
 have hc:Zq 2 [3,1,2,0] (TX aB aB [Za 0,Za 1]) (.many [0,1]) Zx (Zd L8 (Zd Yo (Zd Sb (Zd Zv (Za 3) (Za 4)) (Za 0)) (Zd Sb (Zd Zv (Za 5) (Za 4)) (Za 1))) (Za 2)) [some (pP (Z7 w f)),some (pP (Z7 w g)),some (.int (p:Int)),some (.int d)]=some (.lst (iL (Z7 w λj=>(g p*f j-f p*g j).fdiv d))):=by
  rw[ZM (aD w) (λ(j:Nat)=>.tup [.int (f j),.int (g j)]) (λj=>.int ((g p*f j-f p*g j).fdiv d)) hx (by simp;omega) (λj hj=>⟨[some (.int (f j)),some (.int (g j)),some (.int d),some (pP (Z7 w g)),some (.int (p:Int)),some (pP (Z7 w f))],rfl,rfl,?_⟩)]
  ·simp[Z7]
  ·have hj:=aW.mp hj;have i1:=Yq (l:=Z7 w g) (k:=p) (by rw[X4];exact hp);have i2:=Yq (l:=Z7 w f) (k:=p) (by rw[X4];exact hp);rw[Tn hp] at i1 i2;exact(vC (C:=Oi) (op:=mL) (vI (vC (C:=CMulW) (op:=(· * ·)) (a:=g p) (b:=f j) i1 rfl (Q6 (hg p hp) (hf j hj))) (vC (C:=CMulW) (op:=(· * ·)) (a:=f p) (b:=g j) i2 rfl (Q6 (hf p hp) (hg j hj)))) rfl (Hz hd hdb))
 show Yv 4 RY _=_;unfold RY;show(ZY _ [some (pP (Z7 w f)),some (pP (Z7 w g)),some (.int (p:Int)),some (.int d)]).bind Xq=_;rw[Vm (v:=pP (Z7 w λj=>(g p*f j-f p*g j).fdiv d)) (by rw[YR,ZD,Zk,hc];exact J0)];rfl
noncomputable def V1(m w:Nat)(E:Mt):List (List Int):=(aD m).map λi=>Z7 w (E i)
theorem B8(m w:Nat)(E:Mt):(V1 m w E).length=m:=by simp[V1]
noncomputable def tL(M:List (List Int)):List PV:=M.map pP
theorem O6(m w:Nat)(E:Mt):tL (V1 m w E)=(aD m).map λi=>pP (Z7 w (E i)):=by unfold tL V1;rw[bS];rfl
theorem O7(m w:Nat)(E:Mt):(tL (V1 m w E)).length=m:=by simp[tL,B8]
theorem J2{m w:Nat}{E:Mt}{i:Nat}(h:i<m):(tL (V1 m w E))[i]?=some (pP (Z7 w (E i))):=by rw[O6,aR,bq h];rfl
theorem HB(M:List (List Int)):ZH (tL M)=aC:=P0 M
theorem Ff{m w:Nat}{A X:Mt}(hm:m<=6)(hw:m<=w)(hw1:w<=m+1)(ok:BOk m A X)(h0:∀i j,i<m->j<m->(X i j).natAbs<=2^7)(h1:∀i,i<m->(X i m).natAbs<=2^208){R:PV}(hR:R = .lst (tL (V1 m w X))\/R = .tup (tL (V1 m w X))) :
  U1 [R]=some (.tup [.int (XU m X m).2,.lst (tL (V1 m w (XU m X m).1))]):=by
 have bd:∀{p:Nat},p<=m->∀i j,i<m->j<m+1->((XU m X p).1 i j).natAbs<2^1000:=λ{p} hp i j hi hj=>by
  obtain⟨b1,b2⟩:=Qn ok h0 h1 hp;by_cases q:j<m
  ·exact dU (b1 i j hi q) (Zei (by omega))
  ·rw[show j=m by omega];exact dU (b2 i hi) (Zfz (by omega))
 have db:∀{p:Nat},p<=m->(XU m X p).2.natAbs<2^1000:=λ{p} hp=>by
  cases p with
  | zero=>show(1:Int).natAbs<_;decide +kernel
  | succ p=>exact bd (p:=p) (by omega) p p (by omega) (by omega)
 let st:Nat->Option PV->Option PV->ZS:=λp x3 x4=>[some R,some (.lst (tL (V1 m w (XU m X p).1))),some (.int (XU m X p).2),x3,x4]
 have e1:Zi 1 (Zc UT [Za 0]) [some R,aA,aA,aA,aA]=some (.nx [some R,some (.lst (tL (V1 m w X))),aA,aA,aA]):=by
  have:Zc UT [Za 0] [some R,aA,aA,aA,aA]=some (.lst (tL (V1 m w X))):=by
   show UT [R]=_;rcases hR with rfl | rfl
   ·rw[EG,mM (HB _)]
   ·rw[EF,mM (HB _)]
  rw[Zs,this];rfl
 have e2:Zi 2 (eP (eC (.int 1))) [some R,some (.lst (tL (V1 m w X))),aA,aA,aA]=some (.nx (st 0 aA aA)):=by rw[Zs,vP (a:=1) rfl];rfl
 let fb:XS:=(Zj (Zi 4 (eP (Zd Zv (Za 1) (Za 3))))
  (Zj (Zi 1 (Zq 2 [3,4,2] (Yt aC [Za 1]) (.many [0,1]) Zx (eP (RP (xB (Zd (YW aB) (Za 0) (Za 2))) (Za 1) (Zc Wi [Za 1,Za 3,Za 2,Za 4])))))
  (Zi 2 (eP (Zd Zv (Za 4) (Za 3))))))
 obtain⟨s',f1,x3,x4,hs⟩:=Yh (T:=.one 3) (fb:=fb) (ls:=Ux m) (s:=st 0 aA aA) (λp s=>∃x3 x4,s=st p x3 x4) ⟨aA,aA,rfl⟩ (by
  rintro p l s hl ⟨x3,x4,rfl⟩;obtain⟨hp,rfl⟩:=W9 hl;generalize hE:(XU m X p).1=E;generalize hd:(XU m X p).2=d;have I:=WZ ok (p:=p) (by omega);have bE:∀i j,i<m->j<w->(E i j).natAbs<2^1000:=by rw[<-hE];exact λi j hi hj=>bd (by omega) i j hi (by omega)
  have bD:d.natAbs<2^1000:=by rw[<-hd];exact db (by omega)
  rw[hE,hd] at I;let E':Mt:=λi j=>if i=p then E i j else(E p p*E i j-E i p*E p j).fdiv d
  have hs1:(XU m X (p+1)).1=E':=by show(λi j=>if i=p then(XU m X p).1 i j else((XU m X p).1 p p*(XU m X p).1 i j-(XU m X p).1 i p*(XU m X p).1 p j).fdiv (XU m X p).2)=E';rw[hE,hd]
  have hs2:(XU m X (p+1)).2=E p p:=by rw[<-hE];rfl
  have q0:st p (some (.int (p:Int))) x4=[some R,some (.lst (tL (V1 m w E))),some (.int d),some (.int (p:Int)),x4]:=by rw[<-hE,<-hd]
  have q1:Zi 4 (eP (Zd Zv (Za 1) (Za 3))) [some R,some (.lst (tL (V1 m w E))),some (.int d),some (.int (p:Int)),x4]=some (.nx [some R,some (.lst (tL (V1 m w E))),some (.int d),some (.int (p:Int)),some (pP (Z7 w (E p)))]):=by
   have:Sx (tL (V1 m w E)) (p:Int)=some (pP (Z7 w (E p))):=Tp (J2 hp);have:eP (Zd Zv (Za 1) (Za 3)) [some R,some (.lst (tL (V1 m w E))),some (.int d),some (.int (p:Int)),x4]=some (pP (Z7 w (E p))):=by show(eK (Sx (tL (V1 m w E)) (p:Int)) λl=>if ZO l=aC then some l else aA)=_;rw[this];show(if ZO (pP (Z7 w (E p)))=aC then _ else _)=_;rw[mM (by simp)]
   rw[Zs,this];rfl
  have q2:Zi 1 (Zq 2 [3,4,2] (Yt aC [Za 1]) (.many [0,1]) Zx (eP (RP (xB (Zd (YW aB) (Za 0) (Za 2))) (Za 1) (Zc Wi [Za 1,Za 3,Za 2,Za 4])))) [some R,some (.lst (tL (V1 m w E))),some (.int d),some (.int (p:Int)),some (pP (Z7 w (E p)))]=some (.nx [some R,some (.lst (tL (V1 m w E'))),some (.int d),some (.int (p:Int)),some (pP (Z7 w (E p)))]):=by
   have hx:Yt aC [Za 1] [some R,some (.lst (tL (V1 m w E))),some (.int d),some (.int (p:Int)),some (pP (Z7 w (E p)))]=some ((aD m).map λ(i:Nat)=>.tup [.int (i:Int),pP (Z7 w (E i))]):=by show some (Y8 (tL (V1 m w E)))=_;rw[Xg,O7];congr 1;apply ak;intro i hi;have hi:=aW.mp hi;rw[aE,J2 hi];rfl
   have hc:Zq 2 [3,4,2] (Yt aC [Za 1]) (.many [0,1]) Zx (eP (RP (xB (Zd (YW aB) (Za 0) (Za 2))) (Za 1) (Zc Wi [Za 1,Za 3,Za 2,Za 4]))) [some R,some (.lst (tL (V1 m w E))),some (.int d),some (.int (p:Int)),some (pP (Z7 w (E p)))]=some (.lst (tL (V1 m w E'))):=by
    rw[ZM (aD m) (λ(i:Nat)=>.tup [.int (i:Int),pP (Z7 w (E i))]) (λi=>pP (Z7 w (E' i))) hx (by simp;omega) (λi hi=>⟨[some (.int (i:Int)),some (pP (Z7 w (E i))),some (.int (p:Int)),some (pP (Z7 w (E p))),some (.int d)],rfl,rfl,?_⟩),O6];have hi:=aW.mp hi
    have ev:RP (xB (Zd (YW aB) (Za 0) (Za 2))) (Za 1) (Zc Wi [Za 1,Za 3,Za 2,Za 4]) [some (.int (i:Int)),some (pP (Z7 w (E i))),some (.int (p:Int)),some (pP (Z7 w (E p))),some (.int d)]=some (pP (Z7 w (E' i))):=by
     by_cases q:i=p
     ·have t:xB (Zd (YW aB) (Za 0) (Za 2)) [some (.int (i:Int)),some (pP (Z7 w (E i))),some (.int (p:Int)),some (pP (Z7 w (E p))),some (.int d)]=some aC:=by simp[q]
      rw[WO,t];have:E' i=E i:=by funext j;show(if i=p then _ else _)=_;rw[mM q]
      rw[this];rfl
     ·have q':¬(i:Int)=(p:Int):=by omega
      have t:xB (Zd (YW aB) (Za 0) (Za 2)) [some (.int (i:Int)),some (pP (Z7 w (E i))),some (.int (p:Int)),some (pP (Z7 w (E p))),some (.int d)]=some aB:=by simp[q']
      rw[WO,t];have:E' i=λj=>(E p p*E i j-E i p*E p j).fdiv d:=by funext j;show(if i=p then _ else _)=_;rw[mN q]
      rw[this];exact J1 (f:=E i) (g:=E p) (by omega) (by omega) (λj hj=>bE i j hi hj) (λj hj=>bE p j hp hj) I.nz bD
    rw[YR,ev];show(if ZO (pP (Z7 w (E' i)))=aC then _ else _)=_;rw[mM (by simp)]
   rw[Zs,hc];rfl
  have q3:Zi 2 (eP (Zd Zv (Za 4) (Za 3))) [some R,some (.lst (tL (V1 m w E'))),some (.int d),some (.int (p:Int)),some (pP (Z7 w (E p)))]=some (.nx [some R,some (.lst (tL (V1 m w E'))),some (.int (E p p)),some (.int (p:Int)),some (pP (Z7 w (E p)))]):=by have:=Yq (l:=Z7 w (E p)) (k:=p) (by rw[X4];omega);rw[Tn (by omega)] at this;rw[Zs,vP (a:=E p p) this];rfl
  refine⟨st p (some (.int (p:Int))) x4,st (p+1) (some (.int (p:Int))) (some (pP (Z7 w (E p)))),rfl,?_,_,_,rfl⟩;rw[q0];show Zj _ _ _=_;rw[ZF q1,ZF q2,q3];show _=some (Out.nx [some R,some (.lst (tL (V1 m w (XU m X (p+1)).1))),some (.int (XU m X (p+1)).2),_,_]);rw[hs1,hs2])
 subst hs;rw[Va] at f1
 have e3:Yz [1] (ZE [Zc Zz [Za 0]]) (.one 3) fb (st 0 aA aA)=some (.nx (st m x3 x4)):=by
  show(ZE [Zc Zz [Za 0]] (ZX [1] (st 0 aA aA))).bind _=_
  have:Zc Zz [Za 0] (ZX [1] (st 0 aA aA))=some (.int (m:Int)):=by
   rcases hR with rfl | rfl
   ·show some (PV.int ((tL (V1 m w X)).length:Int))=_;rw[O7]
   ·show some (PV.int ((tL (V1 m w X)).length:Int))=_;rw[O7]
  rw[Z1 (n:=m) this (by omega)];exact f1
 show Yv 5 Ol _=_;unfold Ol;show(Zj _ _ [some R,aA,aA,aA,aA]).bind Xq=_;rw[ZF e1,ZF e2,ZF e3];rfl
theorem Fg{m:Nat}{A X:Mt}(hm:m<=6)(ok:BOk m A X)(h0:∀i j,i<m->j<m->(X i j).natAbs<=2^7)(h1:∀i,i<m->(X i m).natAbs<=2^208) :
  Xi [wP (V1 m m A),pP (Z7 m λi=>X i m)]=some (.lst (iL (Z7 m λi=>((XU m X m).1 i m).fdiv (XU m X m).2))):=by
 let R:PV:=wP (V1 m m A);let Cc:PV:=pP (Z7 m λi=>X i m);let T:PV:=.tup [.int (XU m X m).2,.lst (tL (V1 m (m+1) (XU m X m).1))]
 have e1:Zi 2 (Zc U1 [Zq 2 [] (TX aB aB [Za 0,Za 1]) (.many [0,1]) Zx (Zd Vb (Za 0) (YC [Za 1]))]) [some R,some Cc,aA]=some (.nx [some R,some Cc,some T]):=by
  have hz:Si (tL (V1 m m A)) (iL (Z7 m λi=>X i m))=(aD m).map λ(i:Nat)=>.tup [pP (Z7 m (A i)),.int (X i m)]:=by rw[UC _ _ (by rw[O7,aH,X4]),O7];apply ak;intro i hi;have hi:=aW.mp hi;rw[X0 _ i (by rw[X4];exact hi),Tn hi,aE,J2 hi];rfl
  have hx:TX aB aB [Za 0,Za 1] [some R,some Cc,aA]=some ((aD m).map λ(i:Nat)=>.tup [pP (Z7 m (A i)),.int (X i m)]):=by show some (Si (tL (V1 m m A)) (iL (Z7 m λi=>X i m)))=_;rw[hz]
  have hc:Zq 2 [] (TX aB aB [Za 0,Za 1]) (.many [0,1]) Zx (Zd Vb (Za 0) (YC [Za 1])) [some R,some Cc,aA]=some (.lst (tL (V1 m (m+1) X))):=by
   rw[ZM (aD m) (λ(i:Nat)=>.tup [pP (Z7 m (A i)),.int (X i m)]) (λi=>pP (Z7 (m+1) (X i))) hx (by simp;omega) (λi hi=>⟨[some (pP (Z7 m (A i))),some (.int (X i m))],rfl,rfl,?_⟩),O6];have hi:=aW.mp hi;have hl:(iL (Z7 m (A i))).length+[PV.int (X i m)].length<=10000:=by simp[X4];omega
   have e:Vb (pP (Z7 m (A i))) (.tup [.int (X i m)])=some (.tup (iL (Z7 m (A i))++[.int (X i m)])):=by show(if _ then _ else _)=_;rw[mM hl]
   have e2:iL (Z7 m (A i))++[PV.int (X i m)]=iL (Z7 (m+1) (X i)):=by unfold Z7;rw[di,bB];simp;exact λj hj=>(ok.ext i j hi hj).symm
   show(Zd Vb (Za 0) (YC [Za 1])) [some (pP (Z7 m (A i))),some (.int (X i m))]=some (.tup (iL (Z7 (m+1) (X i))));rw[<-e2,<-e];rfl
  have:Zc U1 [Zq 2 [] (TX aB aB [Za 0,Za 1]) (.many [0,1]) Zx (Zd Vb (Za 0) (YC [Za 1]))] [some R,some Cc,aA]=some T:=by rw[ZD,Zk,hc];exact Ff hm (by omega) (by omega) ok h0 h1 (.inl rfl)
  rw[Zs,this];rfl
 have I:=WZ ok (aZ m)
 have bD:(XU m X m).2.natAbs<2^1000:=by
  obtain⟨b1,b2⟩:=Qn ok h0 h1 (p:=m-1) (by omega);by_cases q:m=0
  ·rw[q];show(1:Int).natAbs<_;decide +kernel
  ·have:(XU m X m).2=(XU m X (m-1)).1 (m-1) (m-1):=by obtain⟨k,rfl⟩:∃k,m=k+1:=⟨m-1,by omega⟩;rfl
   rw[this];exact dU (b1 _ _ (by omega) (by omega)) (Zei (by omega))
 have hc:Zq 1 [2] (Yg (Zd Zv (Za 2) (eC (.int 1)))) (.one 0) Zx (eP (Zd L8 (Zd Zv (Za 0) (Lr Px (eC (.int 1)))) (Zd Zv (Za 1) (eC (.int 0))))) [some R,some Cc,some T]=some (.lst (iL (Z7 m λi=>((XU m X m).1 i m).fdiv (XU m X m).2))):=by
  have hx:Yg (Zd Zv (Za 2) (eC (.int 1))) [some R,some Cc,some T]=some ((aD m).map λi=>pP (Z7 (m+1) ((XU m X m).1 i))):=by show some (tL (V1 m (m+1) (XU m X m).1))=_;rw[O6]
  rw[ZM (aD m) (λi=>pP (Z7 (m+1) ((XU m X m).1 i))) (λi=>.int (((XU m X m).1 i m).fdiv (XU m X m).2)) hx (by simp;omega) (λi hi=>⟨[some (pP (Z7 (m+1) ((XU m X m).1 i))),some T],rfl,rfl,?_⟩)]
  ·simp[Z7]
  ·have hi:=aW.mp hi
   have ix:Sx (iL (Z7 (m+1) ((XU m X m).1 i))) (-1)=some (.int ((XU m X m).1 i m)):=by
    have:Lq (iL (Z7 (m+1) ((XU m X m).1 i))).length (-1)=some m:=by rw[aH,X4];unfold Lq;rw[mN (by omega),mM (by omega)];congr 1;omega
    unfold Sx;rw[this];show(iL (Z7 (m+1) ((XU m X m).1 i)))[m]?=_;rw[P4 (by rw[X4];omega),Tn (by omega)]
   exact vP (vC (C:=Oi) (op:=mL) ix rfl (Hz I.nz bD))
 show Yv 3 Vd _=_;unfold Vd;show(Zj _ _ [some R,some Cc,aA]).bind Xq=_;rw[ZF e1,Vm hc];rfl
noncomputable def VJ(b i:Nat):Nat:=if i<b then i else i+1
noncomputable def HC(b h:Nat):Nat:=if h<b then h else h-1
theorem DP(b i:Nat):VJ b i≠b:=by unfold VJ;split<;>omega
theorem UJ{b i m:Nat}(h:i<m):VJ b i<m+1:=by unfold VJ;split<;>omega
theorem HD(b i:Nat):HC b (VJ b i)=i:=by unfold HC VJ;split<;>(try split)<;>omega
theorem Q7{b h:Nat}(q:h≠b):VJ b (HC b h)=h:=by unfold HC VJ;split<;>(try split)<;>omega
theorem J3{b h m:Nat}(hb:b<m+1)(hh:h<m+1)(q:h≠b):HC b h<m:=by unfold HC;split<;>omega
theorem Kx{n b:Nat}(hn:n<=7)(hb:b<n):(aD n).filter (λh=>!decide (h=b))=(aD (n-1)).map (VJ b):=by
 have:∀n,n<8->∀b,b<8->b<n->(aD n).filter (λh=>!decide (h=b))=(aD (n-1)).map (VJ b):=by decide
 exact this n (by omega) b (by omega) hb
theorem DQ{f:Nat->Int}{b:Nat}(h0:f b=0):∀{m:Nat},b<m+1->sN (m+1) f=sN m (λi=>f (VJ b i))
 | 0,h=>by
  have:b=0:=by omega
  subst this;show 0+f 0=0;rw[h0];rfl
 | m+1,h=>by
  by_cases q:b=m+1
  ·subst q;show sN (m+1) f+f (m+1)=_;rw[h0,gx];exact Zn λi hi=>by unfold VJ;rw[mM hi]
  ·show sN (m+1) f+f (m+1)=sN m (λi=>f (VJ b i))+f (VJ b m);rw[DQ h0 (m:=m) (by omega),show VJ b m=m+1 by unfold VJ;rw[mN (by omega)]]
theorem Qw{f:Nat->Int}:∀{n:Nat},(∀i,i<n->0<=f i)->sN n f<=0->∀i,i<n->f i=0
 | 0,_,_,i,h=>by omega
 | n+1,h,s,i,hi=>by
  have s:sN n f+f n<=0:=s
  have h1:0<=sN n f:=by
   have:∀k,k<=n->0<=sN k f:=by
    intro k
    induction k with
    | zero=>intro _;exact cw 0
    | succ k ih=>intro hk;have:=ih (by omega);have:=h k (by omega);show 0<=sN k f+f k;omega
   exact this n (aZ n)
  have h2:=h n (by omega);by_cases q:i=n
  ·subst q;omega
  ·exact Qw (n:=n) (λi hi=>h i (by omega)) (by omega) i (by omega)
theorem TQ{f:Nat->Int}:∀{n:Nat},(∀i,i<n->0<=f i)->0<=sN n f
 | 0,_=>cw 0
 | n+1,h=>by have:=TQ (n:=n) λi hi=>h i (by omega);have:=h n (by omega);show 0<=sN n f+f n;omega
theorem Ky(Y:Nat->Int):∀{n:Nat},0<n->∃h,h<n/\∀g,g<n->Y h<=Y g
 | 0,h=>by omega
 | 1,_=>⟨0,by omega,λg hg=>by rw[show g=0 by omega];exact cw _⟩
 | n+2,_=>by
  obtain⟨h,h1,h2⟩:=Ky Y (n:=n+1) (by omega);by_cases q:Y h<=Y (n+1)
  ·exact⟨h,by omega,λg hg=>by
    by_cases e:g=n+1
    ·rw[e];exact q
    ·exact h2 g (by omega)⟩
  ·exact⟨n+1,by omega,λg hg=>by
    by_cases e:g=n+1
    ·rw[e];exact cw _
    ·have:=h2 g (by omega);omega⟩
noncomputable def gN(W:List (List Int))(Y:Nat->Int)(h:Nat):Int:=sN W.length (λg=>ZV W h g*(Y g-Y h))
theorem Zej{W:List (List Int)}(ok:ZN W)(cn:Rq W){Y:Nat->Int}{b:Nat}(hb:b<W.length)(hyp:∀h,h<W.length->h≠b->Y h<Y b->gN W Y h<=0):∀h,h<W.length->Y b<=Y h:=by
 intro h hh;refine Int.not_lt.mp λhlt=>?_;obtain⟨h0,l0,m0⟩:=Ky Y (n:=W.length) (by omega);have lt0:Y h0<Y b:=by have:=m0 h hh;omega
 have step:∀a c,a<W.length->c<W.length->0<ZV W a c->Y a=Y h0->Y c=Y h0:=λa c ha hc hp ea=>by
  have s:=hyp a ha (λz=>by rw[z] at ea;omega) (by omega);have t:=Qw (f:=λg=>ZV W a g*(Y g-Y a)) (λg hg=>jm (ok.lo a g ha hg) (by have:=m0 g hg;omega)) s c hc
  have:Y c-Y a=0:=by
   rcases Int.mul_eq_zero.mp t with z | z
   ·omega
   ·exact z
  omega
 have:=(cn (λx=>Y x=Y h0) (λa c ha hc hp=>⟨step a c ha hc hp,step c a hc ha (by rw[ok.sym c a hc ha];exact hp)⟩) h0 b l0 hb).mp rfl;omega
theorem J4{W:List (List Int)}(Y Z:Nat->Int)(h:Nat):gN W (λx=>Y x+Z x) h=gN W Y h+gN W Z h:=by
 unfold gN;rw[<-Yr];exact Zn λg _=>by show ZV W h g*(Y g+Z g-(Y h+Z h))=_;rw[<-jj];congr 1;omega
theorem DR{W:List (List Int)}(c:Int)(Y:Nat->Int)(h:Nat):gN W (λx=>c*Y x) h=c*gN W Y h:=by
 unfold gN;rw[<-Ym];exact Zn λg _=>by show ZV W h g*(c*Y g-c*Y h)=_;rw[<-iS,eV]
theorem Kz{W:List (List Int)}{Y Z:Nat->Int}{h:Nat}(hh:h<W.length)(e:∀g,g<W.length->Y g=Z g):gN W Y h=gN W Z h:=Zn λg hg=>by rw[e g hg,e h hh]
theorem B9(W:List (List Int))(S:List Int)(h:Nat):Sd W S h=gN W (Zt S) h:=by unfold Sd gN;rw[WU]
noncomputable def UO(W:List (List Int))(b:Nat):Mt:=λi j=>if VJ b j=VJ b i then(ZA W (VJ b i)).sum else-ZV W (VJ b i) (VJ b j)
noncomputable def WH(W:List (List Int))(b:Nat)(c:Nat->Int):Mt:=λi j=>if j<W.length-1 then UO W b i j else c (VJ b i)
theorem DS{W:List (List Int)}(ok:ZN W){b:Nat}(hb:b<W.length){Y:Nat->Int}(h0:Y b=0){k:Nat}(hk:k<W.length-1):gN W Y (VJ b k) = - sN (W.length-1) (λi=>UO W b k i*Y (VJ b i)):=by
 have hp:=ok.pos;obtain⟨m,hm⟩:∃m,W.length=m+1:=⟨W.length-1,by omega⟩;have hm1:W.length-1=m:=by omega
 rw[hm1] at hk ⊢;generalize hh:VJ b k=h;have hhn:h<W.length:=by rw[hm,<-hh];exact UJ hk
 have e1:sN m (λi=>UO W b k i*Y (VJ b i))=sN (m+1) (λg=>(if g=h then(ZA W h).sum else-ZV W h g)*Y g):=by
  rw[DQ (b:=b) (f:=λg=>(if g=h then(ZA W h).sum else-ZV W h g)*Y g) (by rw[h0,fI]) (by omega)];exact Zn λi _=>by unfold UO;rw[hh]
 have e2:sN (m+1) (λg=>(if g=h then(ZA W h).sum else-ZV W h g)*Y g)=(-1)*sN (m+1) (λg=>ZV W h g*Y g)+(ZA W h).sum*Y h:=by
  have:sN (m+1) (λg=>if g=h then(ZA W h).sum*Y h else 0)=(ZA W h).sum*Y h:=by rw[YJ (k:=h) (by omega) λi _ hi=>mN hi,mM rfl]
  rw[<-this,<-Ym,<-Yr];refine Zn λg hg=>?_;by_cases q:g=h
  ·subst q;rw[mM rfl,mM rfl,ok.dia g hhn];omega
  ·rw[mN q,mN q,dQ,dQ,iT];omega
 have e3:(ZA W h).sum=sN (m+1) (λg=>ZV W h g):=by rw[Q3 ok hhn,WU,hm]
 have e4:gN W Y h=sN (m+1) (λg=>ZV W h g*Y g)+(- Y h)*sN (m+1) (λg=>ZV W h g):=by
  unfold gN;rw[hm,<-Ym,<-Yr];exact Zn λg _=>by rw[iS,cG (- Y h),Int.mul_neg];omega
 rw[e4,e1,e2,e3,cG (sN (m+1) λg=>ZV W h g) (Y h),dQ];omega
theorem DT{W:List (List Int)}(ok:ZN W)(cn:Rq W){b:Nat}(hb:b<W.length)(c:Nat->Int):BOk (W.length-1) (UO W b) (WH W b c):=by
 have hp:=ok.pos;obtain⟨m,hm⟩:∃m,W.length=m+1:=⟨W.length-1,by omega⟩;have hm1:W.length-1=m:=by omega
 have sym:∀i j,i<m->j<m->UO W b i j=UO W b j i:=λi j hi hj=>by
  unfold UO;by_cases q:VJ b j=VJ b i
  ·rw[mM q,mM q.symm,q]
  ·rw[mN q,mN (λz=>q z.symm),ok.sym _ _ (by rw[hm];exact UJ hi) (by rw[hm];exact UJ hj)]
 rw[hm1];refine⟨sym,λp hp' z hz k hk=>?_,λi j hi hj=>by unfold WH;rw[hm1,mM hj]⟩;obtain⟨Z,hZ⟩:∃Z:Nat->Int,∀h,Z h=if h=b then 0 else if HC b h<p then z (HC b h) else 0:=⟨_,λ_=>rfl⟩
 have Zb:Z b=0:=by rw[hZ,mM rfl]
 have Zo:∀i,Z (VJ b i)=if i<p then z i else 0:=λi=>by rw[hZ,mN (DP b i),HD]
 have flat:∀j,j<p->gN W Z (VJ b j)=0:=λj hj=>by
  rw[DS ok hb Zb (by omega),hm1]
  have e:sN m (λi=>UO W b j i*Z (VJ b i))=sN p (λk=>z k*UO W b k j):=by
   rw[Qm (q:=p) hp' λk h1 h2=>by rw[Zo,mN (by omega),fI]];exact Zn λk hk=>by rw[Zo,mM hk,sym j k (by omega) (by omega),cG]
  rw[e,hz j hj];rfl
 have off:∀h,h<W.length->Z h≠0->gN W Z h=0:=λh hh ne=>by
  have hb':h≠b:=λz=>ne (by rw[z];exact Zb);have hi:HC b h<p:=by refine Nat.not_le.mp λq=>ne ?_;rw[hZ,mN hb',mN (by omega)]
  have:=flat _ hi;rw[Q7 hb'] at this;exact this
 have up:=Zej ok cn (Y:=Z) hb (λh hh _ hlt=>by rw[off h hh (by rw[Zb] at hlt;omega)];exact cw _)
 have dn:=Zej ok cn (Y:=λx=>(-1)*Z x) hb (λh hh _ hlt=>by
  simp only[Zb] at hlt;rw[DR,off h hh (by omega)];decide)
 have h1:=up (VJ b k) (by rw[hm];exact UJ (by omega));have h2:=dn (VJ b k) (by rw[hm];exact UJ (by omega));simp only[Zb,Zo,mM hk] at h1 h2;omega
theorem Fh{W:List (List Int)}(ok:ZN W)(cn:Rq W){b:Nat}(hb:b<W.length)(c:Nat->Int) :
  ∃R:Nat->Int,R b=0/\(∀i,i<W.length-1->R (VJ b i)=(XU (W.length-1) (WH W b c) (W.length-1)).1 i (W.length-1))/\∀h,h<W.length->h≠b->gN W R h = - ((XU (W.length-1) (WH W b c) (W.length-1)).2*c h):=by
 have hp:=ok.pos;have bk:=DT ok cn hb c;obtain⟨R,hR⟩:∃R:Nat->Int,∀h,R h=if h=b then 0 else(XU (W.length-1) (WH W b c) (W.length-1)).1 (HC b h) (W.length-1):=⟨_,λ_=>rfl⟩
 have Rb:R b=0:=by rw[hR,mM rfl]
 have Ro:∀i,R (VJ b i)=(XU (W.length-1) (WH W b c) (W.length-1)).1 i (W.length-1):=λi=>by rw[hR,mN (DP b i),HD]
 refine⟨R,Rb,λi _=>Ro i,λh hh hne=>?_⟩;have hk:HC b h<W.length-1:=J3 (m:=W.length-1) (by omega) (by omega) hne;have e:=DS ok hb Rb hk;rw[Q7 hne] at e;have s:=Fe bk hk;have x:WH W b c (HC b h) (W.length-1)=c h:=by unfold WH;rw[mN (by omega),Q7 hne]
 rw[x] at s;rw[e,<-s];congr 1;exact Zn λi _=>by rw[Ro]
theorem DU(l:List Int)(g:Int->Int):l.map g=(aD l.length).map λi=>g (Zt l i):=by refine Q2 (by simp) λi hi=>?_;rw[aH] at hi;rw[ZP (by omega)];simp[Zt,aE,aF hi]
theorem J5{n:Nat}{ix:List Nat}{fi:XL}{ft:XT}{fe:XE}{s:ZS}{l:List Int}(g:Int->Int)(hfi:fi s=some (iL l))(hl:l.length<=1000)(h:∀x∈l,∃s1,Vw (.one 0) (.int x) (compEnv n ix s)=some s1/\ft s1=some aC/\fe s1=some (.int (g x))) :
  Zq n ix fi (.one 0) ft fe s=some (.lst (iL (l.map g))):=by
 rw[ZM l (λ(x:Int)=>.int x) (λx=>.int (g x)) hfi (by omega) (λx hx=>h x hx)];simp
theorem J6{l:List Int}(hp:0<l.length)(hl:l.length<=1000):S6 [pP l]=some (pP (X2 l)):=by
 have hc:Zq 1 [1] (SO (Za 0)) (.one 0) Zx (Zd Yo (Za 0) (Za 1)) [some (pP l),some (.int (XM l))]=some (.lst (iL (X2 l))):=by rw[show X2 l=l.map λx=>x-XM l from(DU l λx=>x-XM l).symm];exact J5 (λx=>x-XM l) (P6 rfl) hl λx hx=>⟨_,rfl,rfl,by simp[compEnv]⟩
 have hm:=BA XM (l:=l) (kC.mp hp);simp[S6,Hl,Yv,Z8,hm,hc]
theorem Fi{W:List (List Int)}{h m:Nat}{f:Nat->Nat}(ok:ZN W)(hh:h<W.length)(hm:m<=6)(hf:∀i,i<m->f i<W.length) :
  S5 [wP W,.int (h:Int),.lst (iL (nL ((aD m).map f)))]=some (pP (Z7 m λj=>if f j=h then(ZA W h).sum else-ZV W h (f j))):=by
 have hc:Zq 1 [1,0] (Yg (Za 2)) (.one 0) Zx (RP (xB (Zd (YW aB) (Za 0) (Za 1))) (Zc Wg [Za 2,Za 1]) (Lr Px (Zd Zv (Zd Zv (Za 2) (Za 1)) (Za 0)))) [some (wP W),some (.int (h:Int)),some (.lst (iL (nL ((aD m).map f))))]=some (.lst (iL (Z7 m λj=>if f j=h then(ZA W h).sum else-ZV W h (f j)))):=by
  rw[ZM (aD m) (λ(j:Nat)=>.int ((f j:Nat):Int)) (λj=>.int (if f j=h then(ZA W h).sum else-ZV W h (f j))) (by simp[nL]) (by simp;omega) (λj hj=>⟨[some (.int ((f j:Nat):Int)),some (.int (h:Int)),some (wP W)],rfl,rfl,?_⟩)]
  ·simp[Z7]
  ·have hj:=aW.mp hj;have hfj:=hf j hj;by_cases q:f j=h
   ·have t:xB (Zd (YW aB) (Za 0) (Za 1)) [some (.int ((f j:Nat):Int)),some (.int (h:Int)),some (wP W)]=some aC:=by simp[q]
    rw[mM q];rw[WO,t];exact OY hh
   ·have q':¬((f j:Nat):Int)=(h:Int):=by omega
    have t:xB (Zd (YW aB) (Za 0) (Za 1)) [some (.int ((f j:Nat):Int)),some (.int (h:Int)),some (wP W)]=some aB:=by simp[q']
    rw[mN q];rw[WO,t];have:=Yq (l:=ZA W h) (k:=f j) (by rw[ok.sq h hh];exact hfj);simp[Tv hh,this,Px];rfl
 show Yv 3 Om _=_;unfold Om;show(ZY _ [some (wP W),some (.int (h:Int)),some (.lst (iL (nL ((aD m).map f))))]).bind Xq=_;rw[Vm (v:=pP (Z7 m λj=>if f j=h then(ZA W h).sum else-ZV W h (f j))) (by rw[YR,ZD,Zk,hc];exact J0)];rfl
theorem Rv{W:List (List Int)}{b:Nat}(ok:ZN W)(hb:b<W.length) :
  Yy [wP W,.int (b:Int)]=some (wP (V1 (W.length-1) (W.length-1) (UO W b))):=by
 have hp:=ok.pos;have hf:=ok.few;obtain⟨m,hm⟩:∃m,W.length=m+1:=⟨W.length-1,by omega⟩;have hm1:W.length-1=m:=by omega
 rw[hm1];let os:=(aD m).map (VJ b);have fo:∀i,i<m->VJ b i<W.length:=λi hi=>by rw[hm];exact UJ hi
 have e1:Zi 2 (Zq 1 [1] (ZE [Zc Zz [Za 0]]) (.one 0) (xB (Zd (YW aC) (Za 0) (Za 1))) (eP (Za 0))) [some (wP W),some (.int (b:Int)),aA]=some (.nx [some (wP W),some (.int (b:Int)),some (.lst (iL (nL os)))]):=by
  have hc:Zq 1 [1] (ZE [Zc Zz [Za 0]]) (.one 0) (xB (Zd (YW aC) (Za 0) (Za 1))) (eP (Za 0)) [some (wP W),some (.int (b:Int)),aA]=some (.lst (iL (nL os))):=by
   rw[XZ (aD W.length) (λ(i:Nat)=>.int (i:Int)) (λ(i:Nat)=>.int (i:Int)) (λh=>!decide (h=b)) (Z1 (n:=W.length) (by simp) (by omega)) (by simp;omega) λy hy=>⟨[some (.int (y:Int)),some (.int (b:Int))],rfl,?_,λ_=>by simp⟩]
   ·rw[Kx hf hb,hm1];simp[nL,os]
   ·by_cases q:y=b
    ·simp[q]
    ·have q':¬(y:Int)=(b:Int):=by omega
     simp[q,q']
  rw[Zs,hc];rfl
 have hc:Zq 1 [0,2] (Yg (Za 2)) (.one 0) Zx (Zc S5 [Za 1,Za 0,Za 2]) [some (wP W),some (.int (b:Int)),some (.lst (iL (nL os)))]=some (.lst (tL (V1 m m (UO W b)))):=by rw[ZM (aD m) (λ(i:Nat)=>.int ((VJ b i:Nat):Int)) (λi=>pP (Z7 m (UO W b i))) (by simp[nL,os]) (by simp;omega) (λi hi=>⟨[some (.int ((VJ b i:Nat):Int)),some (wP W),some (.lst (iL (nL os)))],rfl,rfl,?_⟩),O6];exact Fi (f:=VJ b) ok (fo i (aW.mp hi)) (by omega) fo
 show Yv 3 Wj _=_;unfold Wj;show(Zj _ _ [some (wP W),some (.int (b:Int)),aA]).bind Xq=_
 rw[ZF e1,Vm (v:=wP (V1 m m (UO W b))) (by
  rw[YR,ZD,Zk,hc];show(if ZO (wP (V1 m m (UO W b)))=aC then some (wP (V1 m m (UO W b))) else aA)=_;rw[mM (by rw[NS];exact P0 _)])]
 rfl
theorem HE{l:List Int}{b h:Nat}{x:Int}(hb:b<=l.length)(hh:h<l.length+1):Zt (l.take b++x::l.drop b) h=if h=b then x else Zt l (HC b h):=by
 unfold Zt HC;rw[aE,aE];by_cases q:h<b
 ·rw[mN (by omega),mM q,aj (by rw[bU];omega),du q]
 ·rw[bF (by rw[bU];omega),bU,dh hb];by_cases q2:h=b
  ·rw[mM q2,q2,Nat.sub_self];rfl
  ·rw[mN q2,mN q,show h-b=(h-b-1)+1 by omega,List.getElem?_cons_succ,eR,show b+(h-b-1)=h-1 by omega]
theorem HF{f:Nat->Int}:∀{n:Nat},(∀i,i<n->0<=f i/\f i<=9)->0<=sN n f/\sN n f<=9*n
 | 0,_=>⟨cw _,by show(0:Int)<=_;omega⟩
 | n+1,h=>by
  obtain⟨a,b⟩:=HF (n:=n) λi hi=>h i (by omega);have:=h n (by omega);refine⟨?_,?_⟩
  ·show 0<=sN n f+f n;omega
  ·show sN n f+f n<=_;omega
theorem Fj{W:List (List Int)}(ok:ZN W){b:Nat}{c:Nat->Int}{i j:Nat}(hi:i<W.length-1)(hj:j<W.length-1):(WH W b c i j).natAbs<=2^7:=by
 have hp:=ok.pos;have hf:=ok.few;have h1:VJ b i<W.length:=by have:=UJ (b:=b) hi;omega
 have h2:VJ b j<W.length:=by have:=UJ (b:=b) hj;omega
 unfold WH UO;rw[mM hj];split
 ·rw[Q3 ok h1,WU];obtain⟨a,b⟩:=HF (f:=λj=>ZV W (VJ b i) j) (n:=W.length) λj hj=>⟨ok.lo _ j h1 hj,ok.hi _ j h1 hj⟩;omega
 ·have:=ok.lo _ _ h1 h2;have:=ok.hi _ _ h1 h2;omega
theorem J7{W:List (List Int)}{D:List Int}{b:Nat}(ok:ZN W)(cn:Rq W)(hd:D.length=W.length)(hb:b<W.length)(hD:∀h,h<W.length->(Zt D h).natAbs<=2^208) :
  ∃(S0:List Int) (d:Int) (R:Nat->Int),Ud [wP W,pP D,.int (b:Int)]=some (pP S0)/\S0.length=W.length/\0<d/\R b=0/\Zt S0 b=0/\(∀h,h<W.length->d*Zt S0 h<=R h/\R h<d*Zt S0 h+d)/\∀h,h<W.length->h≠b->gN W R h = - (d*Zt D h):=by
 have hp:=ok.pos;have hf:=ok.few;obtain⟨m,hm⟩:∃m,W.length=m+1:=⟨W.length-1,by omega⟩;have hm1:W.length-1=m:=by omega
 obtain⟨R,Rb,Ro,Rg⟩:=Fh ok cn hb (Zt D);have bk:=DT ok cn hb (Zt D);have I:=WZ bk (aZ _)
 have se:=Fg (m:=W.length-1) (by omega) bk (λi j hi hj=>Fj ok hi hj) (λi hi=>by
  show(WH W b (Zt D) i (W.length-1)).natAbs<=_;unfold WH;rw[mN (by omega)];exact hD _ (by have:=UJ (b:=b) hi;omega))
 generalize hE:(XU (W.length-1) (WH W b (Zt D)) (W.length-1)).1=E at Ro I se;generalize hdd:(XU (W.length-1) (WH W b (Zt D)) (W.length-1)).2=d at Rg I se;rw[hm1] at Ro se I;have nz:=I.nz
 have cc:D.take b++D.drop (b+1)=Z7 m λi=>WH W b (Zt D) i m:=by
  refine Q2 (by rw[aX,bU,bK,X4];omega) λi hi=>?_;have hi:i<m:=by rw[aX,bU,bK] at hi;omega
  rw[Tn hi];unfold WH;rw[hm1,mN (by omega)];unfold VJ Zt;rw[aE,aE];by_cases q:i<b
  ·rw[mM q,aj (by rw[bU];omega),du q]
  ·rw[mN q,bF (by rw[bU];omega),bU,dh (by omega),eR];congr 2;omega
 have e1:Zi 3 (eP (Zd Vb (WM VY (Za 1) VU (Wv (Za 2))) (WM VY (Za 1) (Wv (Zd ZI (Za 2) (eC (.int 1)))) VU))) [some (wP W),some (pP D),some (.int (b:Int)),aA,aA]=some (.nx [some (wP W),some (pP D),some (.int (b:Int)),some (pP (Z7 m λi=>WH W b (Zt D) i m)),aA]):=by
  have s1:VY (pP D) aA (some (b:Int))=some (pP (D.take b)):=by show(if HT.sIx (iL D).length 0 aA=0/\HT.sIx (iL D).length (iL D).length (some (b:Int))=(iL D).length then aA else some (PV.tup (Wf (iL D) aA (some (b:Int)))))=_;rw[mN (by rw[HT.sIx_nat,aH,hd];omega),DD]
  have s2:VY (pP D) (some ((b:Int)+1)) aA=some (pP (D.drop (b+1))):=by show(if HT.sIx (iL D).length 0 (some ((b:Int)+1))=0/\HT.sIx (iL D).length (iL D).length aA=(iL D).length then aA else some (PV.tup (Wf (iL D) (some ((b:Int)+1)) aA)))=_;rw[show((b:Int)+1)=((b+1:Nat):Int) by omega,mN (by rw[HT.sIx_nat,aH,hd];omega),DE]
  have s3:Vb (pP (D.take b)) (pP (D.drop (b+1)))=some (pP (Z7 m λi=>WH W b (Zt D) i m)):=by show(if(iL (D.take b)).length+(iL (D.drop (b+1))).length<=10000 then some (PV.tup (iL (D.take b)++iL (D.drop (b+1)))) else aA)=_;rw[mM (by rw[aH,aH,bU,bK];omega),<-bB,cc]
  have:Zd Vb (WM VY (Za 1) VU (Wv (Za 2))) (WM VY (Za 1) (Wv (Zd ZI (Za 2) (eC (.int 1)))) VU) [some (wP W),some (pP D),some (.int (b:Int)),aA,aA]=some (pP (Z7 m λi=>WH W b (Zt D) i m)):=by show(eK (VY (pP D) aA (some (b:Int))) λx=>eK (VY (pP D) (some ((b:Int)+1)) aA) λy=>Vb x y)=_;rw[s1,s2];exact s3
  rw[Zs,YR,this];show Option.map _ (if ZO (pP (Z7 m λi=>WH W b (Zt D) i m))=aC then _ else _)=_;rw[mM (by simp)];rfl
 have e3:Zi 4 (Zc Xi [Zc Yy [Za 0,Za 2],Za 3]) [some (wP W),some (pP D),some (.int (b:Int)),some (pP (Z7 m λi=>WH W b (Zt D) i m)),aA]=some (.nx [some (wP W),some (pP D),some (.int (b:Int)),some (pP (Z7 m λi=>WH W b (Zt D) i m)),some (.lst (iL (Z7 m λi=>(E i m).fdiv d)))]):=by
  have sq:=Rv ok hb;rw[hm1] at sq;have:Zc Xi [Zc Yy [Za 0,Za 2],Za 3] [some (wP W),some (pP D),some (.int (b:Int)),some (pP (Z7 m λi=>WH W b (Zt D) i m)),aA]=some (.lst (iL (Z7 m λi=>(E i m).fdiv d))):=by have c1:Zc Yy [Za 0,Za 2] [some (wP W),some (pP D),some (.int (b:Int)),some (pP (Z7 m λi=>WH W b (Zt D) i m)),aA]=some (wP (V1 m m (UO W b))):=sq;rw[ZD,Zk,c1];exact se
  rw[Zs,this];rfl
 generalize hl:Z7 m (λi=>(E i m).fdiv d)=l at e3;have ll:l.length=m:=by rw[<-hl,X4]
 generalize pP (Z7 m λi=>WH W b (Zt D) i m)=col at e1 e3;have e4:Vz 4 (Za 2) (eC (.int 0)) [some (wP W),some (pP D),some (.int (b:Int)),some col,some (.lst (iL l))]=some (.nx [some (wP W),some (pP D),some (.int (b:Int)),some col,some (.lst (iL (l.take b++0::l.drop b)))]):=by rw[P9 (k:=(b:Int)) (l:=.int 0) (m:=iL l) rfl rfl rfl (Z5 l) rfl (by omega) (by omega) (by rw[aH,ll];omega),bR,Dy];rfl
 have S0at:∀h,h<W.length->Zt (l.take b++0::l.drop b) h=(R h).fdiv d:=λh hh=>by
  rw[HE (by omega) (by omega)];by_cases q:h=b
  ·rw[mM q,q,Rb];simp
  ·rw[mN q,<-hl,Tn (J3 (m:=m) (by omega) (by omega) q),<-Ro _ (J3 (m:=m) (by omega) (by omega) q),Q7 q]
 have run:Ud [wP W,pP D,.int (b:Int)]=some (pP (l.take b++0::l.drop b)):=by show Yv 5 RZ _=_;unfold RZ;show(Zj _ _ [some (wP W),some (pP D),some (.int (b:Int)),aA,aA]).bind Xq=_;rw[ZF e1,ZF e3,ZF e4];generalize l.take b++0::l.drop b=z;simp
 have len:(l.take b++0::l.drop b).length=W.length:=by rw[aX,bU,bA,bK,ll];omega
 have S0b:Zt (l.take b++0::l.drop b) b=0:=by rw[HE (by omega) (by omega),mM rfl]
 rcases Int.lt_or_gt_of_ne nz with neg | pos
 ·refine⟨_,- d,λh=>- R h,run,len,by omega,by show-R b=0;rw[Rb];rfl,S0b,λh hh=>?_,λh hh hne=>?_⟩
  ·have e:(R h).fdiv d=(- R h)/(- d):=by rw[<-Int.neg_fdiv_neg,dS _ (by omega)]
   rw[S0at h hh,e];exact⟨jn (by omega),i8 (by omega)⟩
  ·have:=DR (W:=W) (-1) R h;rw[Rg h hh hne] at this;rw[Kz (Z:=λx=>(-1)*R x) hh (λg _=>by show-R g=(-1)*R g;omega),this,dQ d];omega
 ·refine⟨_,d,R,run,len,pos,Rb,S0b,λh hh=>?_,Rg⟩;rw[S0at h hh,dS _ (by omega)];exact⟨jn (by omega),i8 pos⟩
theorem La{c:XT}{fb:XS}(Jv:Nat->ZS->Prop)(step:∀k st,Jv k st->c st=some aB\/(c st=some aC/\∃s2 k',fb st=some (.nx s2)/\k'<k/\Jv k' s2)){k:Nat}{s:ZS}(h0:Jv k s) :
  ∃s' k',VZ c fb s=some (.nx s')/\Jv k' s'/\c s'=some aB:=by
 have gen:∀(n k:Nat)(st:ZS),k<n->Jv k st->∃s' k',Xf c fb n st=some (.nx s')/\Jv k' s'/\c s'=some aB:=by
  intro n
  induction n with
  | zero=>intro k st h;omega
  | succ n ih=>
   intro k st hk hJ;rcases step k st hJ with hc | ⟨hc,s2,k',e,hm,hJ2⟩
   ·exact⟨st,k,by unfold Xf;rw[hc];rfl,hJ,hc⟩
   ·obtain⟨s',k2,a,b,d⟩:=ih k' s2 (by omega) hJ2;refine⟨s',k2,?_,b,d⟩;unfold Xf;rw[hc];simp only[aL,if_true,e];exact a
 obtain⟨s',k',a,b,d⟩:=gen (k+1) k s (by omega) h0;exact⟨s',k',Gx a,b,d⟩
noncomputable def V2(n:Nat)(L:List Nat):List Int:=(aD n).map λh=>if h∈L then -1 else 0
theorem HG{n:Nat}{L:List Nat}{h:Nat}(hh:h<n):Zt (V2 n L) h=if h∈L then -1 else 0:=ZP hh
theorem O8{W:List (List Int)}{D S:List Int}{h:Nat}(hh:h<D.length):Zt (YT W D S) h=Zt D h+gN W (Zt S) h:=by rw[Dz hh,B9]
theorem gIx_p{n:Nat}{l:List Int}(h:l.length=n):∀k:Nat,k<n->Zv (pP l) (.int (k:Int))=some (.int (Zt l k)):=λk hk=>Yq (by omega)
theorem DV{n:Nat}{l:List Int}(h:l.length=n):∀k:Nat,k<n->Zv (.lst (iL l)) (.int (k:Int))=some (.int (Zt l k)):=λk hk=>Yq (by omega)
theorem KA{W:List (List Int)}{T:Nat->Int}{c:Int}(e:∀h,h<W.length->T h=c){h:Nat}(hh:h<W.length):gN W T h=0:=X3 λg hg=>by rw[e g hg,e h hh];simp
theorem J8{f:Nat->Int}{M:Nat}:∀{n:Nat},(∀i,i<n->(f i).natAbs<=M)->(sN n f).natAbs<=n*M
 | 0,_=>by show(0:Int).natAbs<=_;simp
 | n+1,h=>by have h1:=J8 (n:=n) λi hi=>h i (by omega);have h2:=h n (by omega);show(sN n f+f n).natAbs<=_;rw[Nat.add_mul,Nat.one_mul];omega
theorem Zcf{W:List (List Int)}(ok:ZN W){Y:Nat->Int}{M:Nat}(hY:∀g,g<W.length->(Y g).natAbs<=M){h:Nat}(hh:h<W.length):(gN W Y h).natAbs<=126*M:=by
 have hf:=ok.few
 have:=J8 (f:=λg=>ZV W h g*(Y g-Y h)) (M:=18*M) (n:=W.length) λg hg=>by
  have lo:=ok.lo h g hh hg;have hi:=ok.hi h g hh hg;rw[gO];have h1:(ZV W h g).natAbs<=9:=by omega
  have h2:(Y g-Y h).natAbs<=2*M:=by have:=hY g hg;have:=hY h hh;omega
  calc (ZV W h g).natAbs*(Y g-Y h).natAbs<=9*(2*M):=fE h1 h2
   _=18*M:=by omega
 unfold gN;have h3:W.length*(18*M)<=7*(18*M):=fF _ hf;omega
theorem J9(l:List Int):l.sum=sN l.length (Zt l):=by rw[<-WU,Mn]
theorem O9{α:Type}{p q:α->Bool}:∀{l:List α},(∀x∈l,p x=q x)->l.find? p=l.find? q
 | [],_=>rfl
 | a::r,h=>by rw[bh,bh,h a ah,O9 (l:=r) λx hx=>h x (aS _ hx)]
theorem Qo{f:Nat->Int}:∀{n:Nat},(∀i,i<n->0<=f i)->∀{k:Nat},k<n->f k<=sN n f
 | 0,_,k,h=>by omega
 | n+1,z,k,h=>by
  show f k<=sN n f+f n;have h0:=z n (by omega);by_cases q:k=n
  ·subst q;have:=TQ (n:=k) λi hi=>z i (by omega);omega
  ·have:=Qo (n:=n) (λi hi=>z i (by omega)) (k:=k) (by omega);omega
noncomputable def Fl(n h:Nat):List Int:=(aD n).map λg=>if g=h then 1 else 0
theorem Fm{W:List (List Int)}{h:Nat}(hf:W.length<=7):S8 [wP W,.int (h:Int)]=some (pP (Fl W.length h)):=by
 have hc:Zq 1 [1] (ZE [Zc Zz [Za 0]]) (.one 0) Zx (RP (xB (Zd (YW aB) (Za 0) (Za 1))) (eC (.int 1)) (eC (.int 0))) [some (wP W),some (.int (h:Int))]=some (.lst (iL (Fl W.length h))):=
  Ul (λg=>if g=h then 1 else 0) (Z1 (n:=W.length) (by simp) (by omega)) (by omega) λg hg=>⟨[some (.int (g:Int)),some (.int (h:Int))],rfl,rfl,by
   by_cases q:g=h
   ·subst q;simp
   ·have q':¬(g:Int)=(h:Int):=by omega
    simp[q,q']⟩
 show Yv 2 Ot _=_;unfold Ot;show(ZY _ [some (wP W),some (.int (h:Int))]).bind Xq=_;rw[Vm (v:=pP (Fl W.length h)) (by rw[YR,ZD,Zk,hc];exact J0)];rfl
theorem Rw{ns:List Int}(h:ns.length<=63)(k:Nat):ZW [.cst (iL ns),.int (k:Int)]=some (.int (Zt ns k)):=by
 have c:xB (Zd RN (Za 1) (Zc Zz [Za 0])) [some (.cst (iL ns)),some (.int (k:Int))]=some (decide (k<ns.length)):=by
  show some (decide ((k:Int)<((iL ns).length:Int)))=_;congr 1;rw[aH];by_cases q:k<ns.length
  ·rw[decide_eq_true q,decide_eq_true (by omega)]
  ·rw[decide_eq_false q,decide_eq_false (by omega)]
 have v:RP (xB (Zd RN (Za 1) (Zc Zz [Za 0]))) (Zd Zv (Za 0) (Za 1)) (eC (.int 0)) [some (.cst (iL ns)),some (.int (k:Int))]=some (.int (Zt ns k)):=by
  rw[WO,c];by_cases q:k<ns.length
  ·rw[decide_eq_true q];exact Yq q
  ·rw[decide_eq_false q];have:Zt ns k=0:=by unfold Zt;rw[aE,cX (by omega)];rfl
   rw[this];rfl
 show Yv 2 Js _=_;unfold Js;show(ZY _ [some (.cst (iL ns)),some (.int (k:Int))]).bind Xq=_;rw[Vm (vP v)];rfl
theorem YY(c:Int){t m:Nat}(ht:t<=1000)(hm:0<m):∃v:Nat,v<m/\Zu [.int c,.int (t:Int),.int (m:Int)]=some (.int (v:Int)):=by
 have hm':(0:Int)<(m:Int):=by omega
 have fin:∀x:Int,∃v:Nat,v<m/\x%(m:Int)=(v:Int):=λx=>by have h0:=gh x (show(m:Int)≠0 by omega);have h1:=gE x hm';exact⟨(x%(m:Int)).toNat,by omega,by omega⟩
 generalize hx1:(c%999983+(t:Int))*((t:Int)+389)%999983=x1;have b1:0<=x1/\x1<2000000:=by have h0:=gh ((c%999983+(t:Int))*((t:Int)+389)) (show(999983:Int)≠0 by decide);have h1:=gE ((c%999983+(t:Int))*((t:Int)+389)) (show(0:Int)<999983 by decide);omega
 have b0:0<=c%999983/\c%999983<999983:=⟨gh _ (by decide),gE _ (by decide)⟩;generalize hx2:(x1*x1+c/999983+(t:Int))%999979=x2;obtain⟨v,hv,ev⟩:=fin (x2/3);refine⟨v,hv,?_⟩;have cm1:CMul (c%999983+(t:Int)) ((t:Int)+389):=.inl (by omega);have cm2:CMul x1 x1:=.inl (by omega)
 have e1:Zi 3 (eP (Zd Z2 (Zd Xa (Zd ZI (Zd Z2 (Za 0) (eC (.int 999983))) (Za 1)) (Zd ZI (Za 1) (eC (.int 389)))) (eC (.int 999983)))) [some (.int c),some (.int (t:Int)),some (.int (m:Int)),aA]=some (.nx [some (.int c),some (.int (t:Int)),some (.int (m:Int)),some (.int x1)]):=by
  rw[Zs,vP (a:=x1) (by
   rw[<-hx1];exact vC (C:=λ_ j=>0<j) (op:=(· % ·)) (vC (C:=CMul) (op:=(· * ·)) (vI (op:=(· + ·)) (vC (C:=λ_ j=>0<j) (op:=(· % ·)) (a:=c) rfl rfl (by decide)) rfl) (vI (op:=(· + ·)) (a:=(t:Int)) rfl rfl) cm1) rfl (by decide))]
  rfl
 have e2:Zi 3 (eP (Zd Z2 (Zd ZI (Zd ZI (Zd Xa (Za 3) (Za 3)) (Zd Xt (Za 0) (eC (.int 999983)))) (Za 1)) (eC (.int 999979)))) [some (.int c),some (.int (t:Int)),some (.int (m:Int)),some (.int x1)]=some (.nx [some (.int c),some (.int (t:Int)),some (.int (m:Int)),some (.int x2)]):=by
  rw[Zs,vP (a:=x2) (by
   rw[<-hx2];exact vC (C:=λ_ j=>0<j) (op:=(· % ·)) (vI (op:=(· + ·)) (vI (op:=(· + ·)) (vC (C:=CMul) (op:=(· * ·)) (a:=x1) (b:=x1) rfl rfl cm2) (vC (C:=UM) (op:=(· / ·)) (a:=c) rfl rfl ⟨by decide,by decide⟩)) rfl) rfl (by decide))]
  rfl
 show Yv 4 Oo _=_;unfold Oo;show(Zj _ _ [some (.int c),some (.int (t:Int)),some (.int (m:Int)),aA]).bind Xq=_
 rw[ZF e1,ZF e2,Vm (v:=.int (v:Int)) (vP (by
  rw[<-ev];exact vC (C:=λ_ j=>0<j) (op:=(· % ·)) (vC (C:=UM) (op:=(· / ·)) (a:=x2) rfl rfl ⟨by decide,by decide⟩) rfl hm'))]
 rfl
theorem Qx{α:Type}(l:List α)(f:α->Int):iL (l.map f)=l.map λg=>.int (f g):=bS
theorem Zcg(a:List Int)(x:Int):iL (a++[x])=iL a++[.int x]:=bB ..
noncomputable def Na(n:Nat)(M:List (List Int)):Int:=sN n (λi=>sN n (λj=>ZV M i j))
structure Tied(n:Nat)(M:List (List Int))(t:Nat):Prop where
 mat:MatOk n M
 few:∀i j,i<n->j<n->ZV M i j<=(t:Int)
 sum:Na n M=2*(t:Int)
noncomputable def Fo(M:List (List Int))(a b:Nat):List (List Int):=Fd M a b (ZV M a b+1)
theorem DW{n:Nat}{M:List (List Int)}{a b:Nat}(ok:MatOk n M)(ha:a<n)(hb:b<n)(ne:a≠b)(i j:Nat):ZV (Fo M a b) i j=ZV M i j+((if i=a then(if j=b then 1 else 0) else 0)+(if i=b then(if j=a then 1 else 0) else 0)):=by
 unfold Fo;rw[Q5 ok ha hb];by_cases q1:b=i/\a=j
 ·obtain⟨rfl,rfl⟩:=q1;rw[mM ⟨rfl,rfl⟩,mN (λz=>ne z.symm),mM rfl,mM rfl,ok.sym a b ha hb];omega
 ·rw[mN q1];by_cases q2:a=i/\b=j
  ·obtain⟨rfl,rfl⟩:=q2;rw[mM ⟨rfl,rfl⟩,mM rfl,mM rfl,mN ne];omega
  ·rw[mN q2]
   have h1:(if i=a then(if j=b then(1:Int) else 0) else 0)=0:=by
    by_cases z:i=a
    ·rw[mM z,mN (λy=>q2 ⟨z.symm,y.symm⟩)]
    ·rw[mN z]
   have h2:(if i=b then(if j=a then(1:Int) else 0) else 0)=0:=by
    by_cases z:i=b
    ·rw[mM z,mN (λy=>q1 ⟨z.symm,y.symm⟩)]
    ·rw[mN z]
   rw[h1,h2];omega
theorem HH{n a b:Nat}(ha:a<n)(hb:b<n):sN n (λi=>sN n (λj=>if i=a then(if j=b then(1:Int) else 0) else 0))=1:=by rw[YJ (k:=a) ha λi _ hi=>X3 λj _=>mN hi];rw[YJ (k:=b) hb λj _ hj=>by rw[mM rfl,mN hj],mM rfl,mM rfl]
theorem Tied.up{n t:Nat}{M:List (List Int)}{a b:Nat}(h:Tied n M t)(h8:t<=8)(ha:a<n)(hb:b<n)(ne:a≠b):Tied n (Fo M a b) (t+1):=by
 have f:=h.few a b ha hb;have lo:=h.mat.lo a b ha hb;refine⟨Zcc h.mat ha hb ne (by omega) (by omega),λi j hi hj=>?_,?_⟩
 ·rw[DW h.mat ha hb ne];have g:=h.few i j hi hj;by_cases q1:i=a
  ·have:i≠b:=λz=>ne (q1.symm.trans z);rw[mM q1,mN this];split<;>omega
  ·rw[mN q1];by_cases q2:i=b
   ·rw[mM q2];split<;>omega
   ·rw[mN q2];omega
 ·unfold Na
  have:sN n (λi=>sN n (λj=>ZV (Fo M a b) i j))=sN n (λi=>sN n (λj=>ZV M i j)+(sN n (λj=>if i=a then(if j=b then(1:Int) else 0) else 0)+sN n (λj=>if i=b then(if j=a then(1:Int) else 0) else 0))):=
   Zn λi _=>by rw[<-Yr,<-Yr];exact Zn λj _=>DW h.mat ha hb ne i j
  rw[this,Yr,Yr,HH ha hb,HH hb ha];have:=h.sum;unfold Na at this;omega
theorem Tied.zero(n:Nat):Tied n (aN n (aN n 0)) 0:=by
 have z:∀i j,i<n->j<n->ZV (aN n (aN n (0:Int))) i j=0:=λi j hi hj=>by
  have a:=(MatOk.zero n).lo i j hi hj;have:ZA (aN n (aN n (0:Int))) i=aN n 0:=by unfold ZA;rw[aE,bV,mM hi];rfl
  unfold ZV;rw[this];unfold Zt;rw[aE,bV,mM hj];rfl
 refine⟨MatOk.zero n,λi j hi hj=>by rw[z i j hi hj];omega,?_⟩;unfold Na;exact X3 λi hi=>X3 λj hj=>z i j hi hj
theorem Tied.grow{n t:Nat}{M:List (List Int)}{a b:Nat}(h:Tied n M t)(ha:a<n)(hb:b<n):(∀i j,0<ZV M i j->0<ZV (Fo M a b) i j)/\0<ZV (Fo M a b) a b:=by have lo:=h.mat.lo a b ha hb;exact B5 h.mat ha hb (by omega)
theorem KC{i:Nat}{fa fb ft:XE}{s:ZS}{n:Nat}{M:List (List Int)}{a b:Nat}(ok:MatOk n M)(ha:a<n)(hb:b<n)(hs:Jn s i=some (rL M))(t:Int)(e1:fa s=some (.int (a:Int)))(e2:fb s=some (.int (b:Int)))(e3:ft s=some (.int t)) :
  Yp i fa fb ft s=some (.nx (s.set i (some (.lst (rL (V7 M a b t)))))):=by
 have lenM:(rL M).length=n:=by unfold rL;rw[aH];exact ok.len
 rw[Oa (l:=.int t) (a:=(a:Int)) (b:=(b:Int)) (j:=a) (c:=b) (m:=rL M) (n:=iL (ZA M a)) e3 e1 e2 hs (Tz (by rw[lenM];exact ha)) (JU (by rw[ok.len];exact ha)) (Z5 _) rfl (Tz (by rw[aH,ok.row a ha];exact hb)),Dx]
theorem N9{i:Nat}{fa fb ft:XE}{s:ZS}{n:Nat}{M:List (List Int)}{a b:Nat}{u:Int}(ok:MatOk n M)(ha:a<n)(hb:b<n)(hs:Jn s i=some (rL (V7 M a b u)))(t:Int)(e1:fa s=some (.int (b:Int)))(e2:fb s=some (.int (a:Int)))(e3:ft s=some (.int t)) :
  Yp i fa fb ft s=some (.nx (s.set i (some (.lst (rL (V7 (V7 M a b u) b a t)))))):=by
 have sh:=W0 (t:=u) (b:=b) ok.len ok.row ha;have lenM:(rL (V7 M a b u)).length=n:=by unfold rL;rw[aH];exact sh.1
 rw[Oa (l:=.int t) (a:=(b:Int)) (b:=(a:Int)) (j:=b) (c:=a) (m:=rL (V7 M a b u)) (n:=iL (ZA (V7 M a b u) b)) e3 e1 e2 hs (Tz (by rw[lenM];exact hb)) (JU (by rw[sh.1];exact hb)) (Z5 _) rfl (Tz (by rw[aH,sh.2 b hb];exact ha)),Dx]
theorem Lb{s:ZS}{fm fa fb:XE}{n:Nat}{M:List (List Int)}{a b:Nat}(hl:M.length=n)(hr:∀i,i<n->(ZA M i).length=n)(ha:a<n)(hb:b<n)(e0:fm s=some (.lst (rL M)))(e1:fa s=some (.int (a:Int)))(e2:fb s=some (.int (b:Int))):Zd Zv (Zd Zv fm fa) fb s=some (.int (ZV M a b)):=by
 have i1:Sx (rL M) (a:Int)=some (.lst (iL (ZA M a))):=Tp (JU (by rw[hl];exact ha));have i2:Sx (iL (ZA M a)) (b:Int)=some (.int (ZV M a b)):=Yq (by rw[hr a ha];exact hb);have h1:Zd Zv fm fa s=some (.lst (iL (ZA M a))):=by rw[Ya,e0,e1];exact i1
 rw[Ya,h1,e2];exact i2
theorem HI{M:List (List Int)}{n k:Nat}{s:ZS}(hl:M.length<=7)(h:s[k]?=some (some (.lst (rL M)))):eP (Zc ZR [Zq 1 [] (Yg (Za k)) (.one 0) Zx (Zc ZR [Za 0])]) s=some (wP M):=by
 have a:Za k s=some (.lst (rL M)):=by show s[k]?.bind id=_;rw[h];rfl
 have hc:Zq 1 [] (Yg (Za k)) (.one 0) Zx (Zc ZR [Za 0]) s=some (.lst (tL M)):=by refine ZM M (λr=>.lst (iL r)) pP (by unfold Yg;rw[a];rfl) (by omega) (λr _=>⟨[some (.lst (iL r))],rfl,rfl,rfl⟩)
 rw[YR,ZD,Zk,hc];show(if ZO (wP M)=aC then some (wP M) else aA)=_;rw[mM (by rw[NS];exact P0 _)]
abbrev YS:PV:=.lst (iL [1,2,3,4,5])
theorem KD(v:Nat)(h:v<5):∃n:Nat,1<=n/\n<=5/\Zv YS (.int (v:Int))=some (.int (n:Int)):=by
 have:v=0\/v=1\/v=2\/v=3\/v=4:=by omega
 rcases this with rfl | rfl | rfl | rfl | rfl
 ·exact⟨1,by omega,by omega,rfl⟩
 ·exact⟨2,by omega,by omega,rfl⟩
 ·exact⟨3,by omega,by omega,rfl⟩
 ·exact⟨4,by omega,by omega,rfl⟩
 ·exact⟨5,by omega,by omega,rfl⟩
theorem X5(x:Int){m:Nat}(h:0<m):∃v:Nat,v<m/\x%(m:Int)=(v:Int):=by have h0:=gh x (show(m:Int)≠0 by omega);have h1:=gE x (show(0:Int)<(m:Int) by omega);exact⟨(x%(m:Int)).toNat,by omega,by omega⟩
noncomputable def Zch(n:Nat)(p:Nat×Nat):Prop:=p.1<n/\p.2<n/\p.1≠p.2
noncomputable def YM(p:Nat×Nat):PV:=.tup [.int (p.1:Int),.int (p.2:Int)]
abbrev WA(x:Int)(n:Nat)(o:List Int)(ps:List (Nat×Nat))(x6 x7 x8:Option PV):ZS:=[some (.int x),some YS,some (.int 8),some (.int (n:Int)),some (.lst (iL o)),some (.lst (ps.map YM)),x6,x7,x8,aA,aA,aA]
theorem KG(x:Int):∃(W:List (List Int)) (t:Nat),WT [.int x,YS,.int 8]=some (wP W)/\ZN W/\Rq W/\W.length<=5/\Na W.length W=2*(t:Int)/\t<=8:=by
 obtain⟨v,hv,ev⟩:=X5 x (m:=5) (by omega);obtain⟨n,n1,n4,en⟩:=KD v hv
 have e1:Zi 3 (eP (Zd Zv (Za 1) (Zd Z2 (Za 0) (Zc Zz [Za 1])))) [some (.int x),some YS,some (.int 8),aA,aA,aA,aA,aA,aA,aA,aA,aA]=some (.nx [some (.int x),some YS,some (.int 8),some (.int (n:Int)),aA,aA,aA,aA,aA,aA,aA,aA]):=by
  have a:Zd Z2 (Za 0) (Zc Zz [Za 1]) [some (.int x),some YS,some (.int 8),aA,aA,aA,aA,aA,aA,aA,aA,aA]=some (.int (v:Int)):=by rw[<-ev];exact vC (C:=λ_ j=>0<j) (op:=(· % ·)) (a:=x) (b:=((5:Nat):Int)) rfl rfl (by decide)
  rw[Zs,vP (a:=(n:Int)) (by rw[Ya,a];exact en)];rfl
 have e2:Zi 0 (eP (Zd Xt (Za 0) (Zc Zz [Za 1]))) [some (.int x),some YS,some (.int 8),some (.int (n:Int)),aA,aA,aA,aA,aA,aA,aA,aA]=some (.nx [some (.int (x/5)),some YS,some (.int 8),some (.int (n:Int)),aA,aA,aA,aA,aA,aA,aA,aA]):=by rw[Zs,vP (a:=x/5) (vC (C:=UM) (op:=(· / ·)) (a:=x) (b:=5) rfl rfl ⟨by decide,by decide⟩)];rfl
 -- the order
 let f1:XS:=(Zj (Vz 4 (Zd Z2 (Za 0) (Zd ZI (Za 6) (eC (.int 1)))) (Za 6)) (Zi 0 (eP (Zd Xt (Za 0) (Zd ZI (Za 6) (eC (.int 1)))))))
 obtain⟨s1,g1,y1,o,z6,hs1,nk⟩:=Yh (T:=.one 6) (fb:=f1) (ls:=Ux n) (s:=WA (x/5) n [] [] aA aA aA) (λi s=>∃y o z6,s=WA y n o [] z6 aA aA/\NamesOk i o) ⟨x/5,[],aA,rfl,NamesOk.nil⟩ (by
  rintro i l s hl ⟨y,o,z6,rfl,nk⟩;obtain⟨hi,rfl⟩:=W9 hl;obtain⟨r,hr,er⟩:=X5 y (m:=i+1) (by omega);have ci:(i:Int)+1=((i+1:Nat):Int):=by omega
  have a:Zd Z2 (Za 0) (Zd ZI (Za 6) (eC (.int 1))) (WA y n o [] (some (.int (i:Int))) aA aA)=some (.int (r:Int)):=by rw[<-er,<-ci];exact vC (C:=λ_ j=>0<j) (op:=(· % ·)) (a:=y) rfl (vI (op:=(· + ·)) (a:=(i:Int)) rfl rfl) (by omega)
  have q1:Vz 4 (Zd Z2 (Za 0) (Zd ZI (Za 6) (eC (.int 1)))) (Za 6) (WA y n o [] (some (.int (i:Int))) aA aA)=some (.nx (WA y n (o.take r++(i:Int)::o.drop r) [] (some (.int (i:Int))) aA aA)):=by rw[P9 (k:=(r:Int)) (l:=.int (i:Int)) (m:=iL o) a rfl rfl (Z5 o) rfl (by omega) (by omega) (by rw[aH,nk.len];omega),bR,Dy];rfl
  have q2:Zi 0 (eP (Zd Xt (Za 0) (Zd ZI (Za 6) (eC (.int 1))))) (WA y n (o.take r++(i:Int)::o.drop r) [] (some (.int (i:Int))) aA aA)=some (.nx (WA (y/((i:Int)+1)) n (o.take r++(i:Int)::o.drop r) [] (some (.int (i:Int))) aA aA)):=by rw[Zs,vP (a:=y/((i:Int)+1)) (vC (C:=UM) (op:=(· / ·)) (a:=y) rfl (vI (op:=(· + ·)) (a:=(i:Int)) rfl rfl) ⟨by omega,by omega⟩)];rfl
  exact⟨WA y n o [] (some (.int (i:Int))) aA aA,_,rfl,(by show Zj _ _ _=_;rw[ZF q1,q2]),_,_,_,rfl,nk.ins r⟩)
 subst hs1;rw[Va] at nk;have e5:Yz [4,5,9] (ZE [Za 3]) (.one 6) f1 (WA (x/5) n [] [] aA aA aA)=some (.nx (WA y1 n o [] z6 aA aA)):=by show(ZE [Za 3] (ZX [4,5,9] (WA (x/5) n [] [] aA aA aA))).bind _=_;rw[Z1 (n:=n) rfl (by omega)];exact g1
 -- each to one ahead
 let f2:XS:=(Zj (ZZ 5 (eP (YC [Za 6,Zd Z2 (Za 0) (Za 6)]))) (Zi 0 (eP (Zd Xt (Za 0) (Za 6)))));let Pre:List (Nat×Nat)->Prop:=λps=>∀j p,ps[j]?=some p->p.1=j+1/\p.2<j+1
 obtain⟨s2,g2,y2,ps,w6,hs2,lp,pre⟩:=Yh (T:=.one 6) (fb:=f2) (ls:=WB 1 (n-1)) (s:=WA y1 n o [] z6 aA aA) (λi s=>∃y ps z6,s=WA y n o ps z6 aA aA/\ps.length=i/\Pre ps) ⟨y1,[],z6,rfl,rfl,λj p h=>by simp at h⟩ (by
  rintro i l s hl ⟨y,ps,z6,rfl,lp,pre⟩;obtain⟨hi,rfl⟩:=SX hl;have ci:(1:Int)+(i:Int)=((i+1:Nat):Int):=by omega
  rw[ci];obtain⟨r,hr,er⟩:=X5 y (m:=i+1) (by omega)
  have q1:ZZ 5 (eP (YC [Za 6,Zd Z2 (Za 0) (Za 6)])) (WA y n o ps (some (.int ((i+1:Nat):Int))) aA aA)=some (.nx (WA y n o (ps++[(i+1,r)]) (some (.int ((i+1:Nat):Int))) aA aA)):=by
   have a:Zd Z2 (Za 0) (Za 6) (WA y n o ps (some (.int ((i+1:Nat):Int))) aA aA)=some (.int (r:Int)):=by rw[<-er];exact vC (C:=λ_ j=>0<j) (op:=(· % ·)) (a:=y) rfl rfl (by omega)
   rw[Xh (l:=YM (i+1,r)) (m:=ps.map YM) (by
    rw[YR,show YC [Za 6,Zd Z2 (Za 0) (Za 6)] (WA y n o ps (some (.int ((i+1:Nat):Int))) aA aA)=some (YM (i+1,r)) by
     show(TV [Za 6,Zd Z2 (Za 0) (Za 6)] (WA y n o ps (some (.int ((i+1:Nat):Int))) aA aA)).map PV.tup=_;rw[Zk,Zk,a];rfl]
    rfl) rfl (by simp;omega)]
   show some (Out.nx [_,_,_,_,_,some (.lst (ps.map YM++[YM (i+1,r)])),_,_,_,_,_,_])=some (Out.nx [_,_,_,_,_,some (.lst ((ps++[(i+1,r)]).map YM)),_,_,_,_,_,_]);rw[bB];rfl
  have q2:Zi 0 (eP (Zd Xt (Za 0) (Za 6))) (WA y n o (ps++[(i+1,r)]) (some (.int ((i+1:Nat):Int))) aA aA)=some (.nx (WA (y/((i+1:Nat):Int)) n o (ps++[(i+1,r)]) (some (.int ((i+1:Nat):Int))) aA aA)):=by rw[Zs,vP (a:=y/((i+1:Nat):Int)) (vC (C:=UM) (op:=(· / ·)) (a:=y) rfl rfl ⟨by omega,by omega⟩)];rfl
  refine⟨WA y n o ps (some (.int ((i+1:Nat):Int))) aA aA,_,rfl,(by show Zj _ _ _=_;rw[ZF q1,q2]),_,_,_,rfl,by simp[lp],λj p h=>?_⟩;by_cases z:j<ps.length
  ·rw[aj z] at h;exact pre j p h
  ·rw[bF (by omega)] at h;have:j=ps.length:=by have:=(aU.mp h).1;simp at this;omega
   subst this;simp at h;subst h;rw[lp];exact⟨rfl,hr⟩)
 subst hs2;rw[show(WB 1 (n-1)).length=n-1 by simp[WB]] at lp;have e6:Yz [4,5,9] (Xv [eC (.int 1),Za 3]) (.one 6) f2 (WA y1 n o [] z6 aA aA)=some (.nx (WA y2 n o ps w6 aA aA)):=by show(Xv [eC (.int 1),Za 3] (ZX [4,5,9] (WA y1 n o [] z6 aA aA))).bind _=_;rw[Tw (i:=1) (j:=(n:Int)) rfl rfl (by omega) (by omega),show((n:Int)-1).toNat=n-1 by omega];exact g2
 -- how many more
 obtain⟨r,hr,er⟩:=X5 y2 (m:=10-n) (by omega);have c7:(8:Int)-(n:Int)+2=((10-n:Nat):Int):=by omega
 have am:∀z7,Zd Z2 (Za 0) (Zd ZI (Zd Yo (Za 2) (Za 3)) (eC (.int 2))) (WA y2 n o ps w6 z7 aA)=some (.int (r:Int)):=λz7=>by rw[<-er,<-c7];exact vC (C:=λ_ j=>0<j) (op:=(· % ·)) (a:=y2) rfl (vI (op:=(· + ·)) (vI (op:=(· - ·)) (a:=8) rfl rfl) rfl) (by omega)
 obtain⟨mo,hmo,em,m1⟩:∃mo:Nat,mo+n<=9/\Zi 7 (eP (Zd Xa (Zc UU [Zd RO (Za 3) (eC (.int 1))]) (Zd Z2 (Za 0) (Zd ZI (Zd Yo (Za 2) (Za 3)) (eC (.int 2)))))) (WA y2 n o ps w6 aA aA)=some (.nx (WA y2 n o ps w6 (some (.int (mo:Int))) aA))/\(1<=mo->2<=n):=by
  by_cases q:1<n
  ·have g:Zc UU [Zd RO (Za 3) (eC (.int 1))] (WA y2 n o ps w6 aA aA)=some (.int 1):=by
    have q':(n:Int)>1:=by omega
    have:Zd RO (Za 3) (eC (.int 1)) (WA y2 n o ps w6 aA aA)=some (.bl aC):=by show some (PV.bl (decide ((n:Int)>1)))=_;rw[decide_eq_true q']
    rw[ZD,Zk,this];rfl
   refine⟨r,by omega,?_,λ_=>by omega⟩;rw[Zs,vP (a:=1*(r:Int)) (vC (C:=CMul) (op:=(· * ·)) g (am aA) (.inl (by omega)))];rw[iT];rfl
  ·have g:Zc UU [Zd RO (Za 3) (eC (.int 1))] (WA y2 n o ps w6 aA aA)=some (.int 0):=by
    have q':¬(n:Int)>1:=by omega
    have:Zd RO (Za 3) (eC (.int 1)) (WA y2 n o ps w6 aA aA)=some (.bl aB):=by show some (PV.bl (decide ((n:Int)>1)))=_;rw[decide_eq_false q']
    rw[ZD,Zk,this];rfl
   refine⟨0,by omega,?_,λh=>by omega⟩;rw[Zs,vP (a:=0*(r:Int)) (vC (C:=CMul) (op:=(· * ·)) g (am aA) (.inl (by omega)))];rw[dO];rfl
 have e8:Zi 0 (eP (Zd Xt (Za 0) (Zd ZI (Zd Yo (Za 2) (Za 3)) (eC (.int 2))))) (WA y2 n o ps w6 (some (.int (mo:Int))) aA)=some (.nx (WA (y2/((8:Int)-(n:Int)+2)) n o ps w6 (some (.int (mo:Int))) aA)):=by rw[Zs,vP (a:=y2/((8:Int)-(n:Int)+2)) (vC (C:=UM) (op:=(· / ·)) (a:=y2) rfl (vI (op:=(· + ·)) (vI (op:=(· - ·)) (a:=8) rfl rfl) rfl) ⟨by omega,by omega⟩)];rfl
 -- more pairs
 let f3:XS:=(Zj (Zi 8 (eP (Zd Z2 (Za 0) (Za 3)))) (Zj (Zi 0 (eP (Zd Xt (Za 0) (Za 3)))) (Zj (ZZ 5 (eP (YC [Za 8,Zd Z2 (Zd ZI (Zd ZI (Za 8) (eC (.int 1))) (Zd Z2 (Za 0) (Zd Yo (Za 3) (eC (.int 1))))) (Za 3)]))) (Zi 0 (eP (Zd Xt (Za 0) (Zd Yo (Za 3) (eC (.int 1)))))))));let All:List (Nat×Nat)->Prop:=λqs=>(∀j,j<n-1->qs[j]?=ps[j]?)/\∀p∈qs,Zch n p
 have all0:All ps:=⟨λj _=>rfl,λp hp=>by
  obtain⟨j,hj,e⟩:=dM hp;have:=pre j p (by rw[aF hj,e]);exact⟨by omega,by omega,by omega⟩⟩
 obtain⟨s3,g3,y3,qs,v6,v8,hs3,lq,all⟩:=Yh (T:=.one 6) (fb:=f3) (ls:=Ux mo) (s:=WA (y2/((8:Int)-(n:Int)+2)) n o ps w6 (some (.int (mo:Int))) aA) (λi s=>∃y qs z6 z8,s=WA y n o qs z6 (some (.int (mo:Int))) z8/\qs.length=n-1+i/\All qs) ⟨_,ps,w6,aA,rfl,by omega,all0⟩ (by
  rintro i l s hl ⟨y,qs,z6,z8,rfl,lq,all⟩;obtain⟨hi,rfl⟩:=W9 hl;have n2:=m1 (by omega);obtain⟨a,ha,ea⟩:=X5 y (m:=n) (by omega);obtain⟨b,hb,eb⟩:=X5 (y/(n:Int)) (m:=n-1) (by omega);obtain⟨c,hc,ec⟩:=X5 ((a:Int)+1+(b:Int)) (m:=n) (by omega);have cn:(n:Int)-1=((n-1:Nat):Int):=by omega
  have ne:a≠c:=λz=>by
   subst z;have h1:((a:Int)+1+(b:Int))=((a+1+b:Nat):Int):=by omega
   rw[h1] at ec;have ec':(a+1+b)%n=a:=by have:=ec;rw[<-ku] at this;omega
   by_cases w:a+1+b<n
   ·rw[dR w] at ec';omega
   ·rw[iI (by omega),dR (by omega)] at ec';omega
  have q1:Zi 8 (eP (Zd Z2 (Za 0) (Za 3))) (WA y n o qs (some (.int (i:Int))) (some (.int (mo:Int))) z8)=some (.nx (WA y n o qs (some (.int (i:Int))) (some (.int (mo:Int))) (some (.int (a:Int))))):=by rw[Zs,vP (a:=(a:Int)) (by rw[<-ea];exact vC (C:=λ_ j=>0<j) (op:=(· % ·)) (a:=y) rfl rfl (by omega))];rfl
  have q2:Zi 0 (eP (Zd Xt (Za 0) (Za 3))) (WA y n o qs (some (.int (i:Int))) (some (.int (mo:Int))) (some (.int (a:Int))))=some (.nx (WA (y/(n:Int)) n o qs (some (.int (i:Int))) (some (.int (mo:Int))) (some (.int (a:Int))))):=by rw[Zs,vP (a:=y/(n:Int)) (vC (C:=UM) (op:=(· / ·)) (a:=y) rfl rfl ⟨by omega,by omega⟩)];rfl
  have q3:ZZ 5 (eP (YC [Za 8,Zd Z2 (Zd ZI (Zd ZI (Za 8) (eC (.int 1))) (Zd Z2 (Za 0) (Zd Yo (Za 3) (eC (.int 1))))) (Za 3)])) (WA (y/(n:Int)) n o qs (some (.int (i:Int))) (some (.int (mo:Int))) (some (.int (a:Int))))=some (.nx (WA (y/(n:Int)) n o (qs++[(a,c)]) (some (.int (i:Int))) (some (.int (mo:Int))) (some (.int (a:Int))))):=by
   have a1:Zd Z2 (Za 0) (Zd Yo (Za 3) (eC (.int 1))) (WA (y/(n:Int)) n o qs (some (.int (i:Int))) (some (.int (mo:Int))) (some (.int (a:Int))))=some (.int (b:Int)):=by rw[<-eb,<-cn];exact vC (C:=λ_ j=>0<j) (op:=(· % ·)) (a:=y/(n:Int)) rfl (vI (op:=(· - ·)) (a:=(n:Int)) rfl rfl) (by omega)
   have a2:Zd Z2 (Zd ZI (Zd ZI (Za 8) (eC (.int 1))) (Zd Z2 (Za 0) (Zd Yo (Za 3) (eC (.int 1))))) (Za 3) (WA (y/(n:Int)) n o qs (some (.int (i:Int))) (some (.int (mo:Int))) (some (.int (a:Int))))=some (.int (c:Int)):=by rw[<-ec];exact vC (C:=λ_ j=>0<j) (op:=(· % ·)) (vI (op:=(· + ·)) (vI (op:=(· + ·)) (a:=(a:Int)) rfl rfl) a1) rfl (by omega)
   rw[Xh (l:=YM (a,c)) (m:=qs.map YM) (by
    rw[YR,show YC [Za 8,Zd Z2 (Zd ZI (Zd ZI (Za 8) (eC (.int 1))) (Zd Z2 (Za 0) (Zd Yo (Za 3) (eC (.int 1))))) (Za 3)] (WA (y/(n:Int)) n o qs (some (.int (i:Int))) (some (.int (mo:Int))) (some (.int (a:Int))))=some (YM (a,c)) by
     show(TV [Za 8,Zd Z2 (Zd ZI (Zd ZI (Za 8) (eC (.int 1))) (Zd Z2 (Za 0) (Zd Yo (Za 3) (eC (.int 1))))) (Za 3)] (WA (y/(n:Int)) n o qs (some (.int (i:Int))) (some (.int (mo:Int))) (some (.int (a:Int))))).map PV.tup=_;rw[Zk,Zk,a2];rfl]
    rfl) rfl (by simp;omega)]
   show some (Out.nx [_,_,_,_,_,some (.lst (qs.map YM++[YM (a,c)])),_,_,_,_,_,_])=some (Out.nx [_,_,_,_,_,some (.lst ((qs++[(a,c)]).map YM)),_,_,_,_,_,_]);rw[bB];rfl
  have q4:Zi 0 (eP (Zd Xt (Za 0) (Zd Yo (Za 3) (eC (.int 1))))) (WA (y/(n:Int)) n o (qs++[(a,c)]) (some (.int (i:Int))) (some (.int (mo:Int))) (some (.int (a:Int))))=some (.nx (WA (y/(n:Int)/((n:Int)-1)) n o (qs++[(a,c)]) (some (.int (i:Int))) (some (.int (mo:Int))) (some (.int (a:Int))))):=by rw[Zs,vP (a:=y/(n:Int)/((n:Int)-1)) (vC (C:=UM) (op:=(· / ·)) (a:=y/(n:Int)) rfl (vI (op:=(· - ·)) (a:=(n:Int)) rfl rfl) ⟨by omega,by omega⟩)];rfl
  refine⟨WA y n o qs (some (.int (i:Int))) (some (.int (mo:Int))) z8,_,rfl,(by show Zj _ _ _=_;rw[ZF q1,ZF q2,ZF q3,q4]),_,_,_,_,rfl,by simp[lq];omega,λj hj=>?_,λp hp=>?_⟩
  ·rw[aj (by omega)];exact all.1 j hj
  ·rcases aa.mp hp with hp | hp
   ·exact all.2 p hp
   ·rw[aO.mp hp];exact⟨ha,hc,ne⟩)
 subst hs3;rw[Va] at lq;have e9:Yz [4,5,9] (ZE [Za 7]) (.one 6) f3 (WA (y2/((8:Int)-(n:Int)+2)) n o ps w6 (some (.int (mo:Int))) aA)=some (.nx (WA y3 n o qs v6 (some (.int (mo:Int))) v8)):=by show(ZE [Za 7] (ZX [4,5,9] (WA (y2/((8:Int)-(n:Int)+2)) n o ps w6 (some (.int (mo:Int))) aA))).bind _=_;rw[Z1 (n:=mo) rfl (by omega)];exact g3
 -- the rows
 let Z:=aN n (aN n (0:Int));let stT:List (List Int)->Option PV->Option PV->Option PV->ZS:=λM z8 z10 z11=>[some (.int y3),some YS,some (.int 8),some (.int (n:Int)),some (.lst (iL o)),some (.lst (qs.map YM)),v6,some (.int (mo:Int)),z8,some (.lst (rL M)),z10,z11];have e10:Zi 9 (Zq 1 [3] (ZE [Za 3]) (.one 0) Zx (Zd SS (Yu [eC (.int 0)]) (Za 1))) (WA y3 n o qs v6 (some (.int (mo:Int))) v8)=some (.nx (stT Z v8 aA aA)):=by rw[Zs,N8 (n:=n) rfl (by omega)];rfl
 let f4:XS:=(Zj (Zi 11 (eP (Zd ZI (Zd Zv (Zd Zv (Za 9) (Zd Zv (Za 4) (Za 8))) (Zd Zv (Za 4) (Za 10))) (eC (.int 1))))) (Zj (Yp 9 (Zd Zv (Za 4) (Za 8)) (Zd Zv (Za 4) (Za 10)) (Za 11)) (Yp 9 (Zd Zv (Za 4) (Za 10)) (Zd Zv (Za 4) (Za 8)) (Za 11))))
 obtain⟨s4,g4,M,t8,t10,t11,hs4,td,gr⟩:=Yh (T:=.many [8,10]) (fb:=f4) (ls:=qs.map YM) (s:=stT Z v8 aA aA) (λi s=>∃M z8 z10 z11,s=stT M z8 z10 z11/\Tied n M i/\Grown M o (min (i+1) n)) ⟨Z,v8,aA,aA,rfl,Tied.zero n,λj h1 h2=>by omega⟩ (by
  rintro i l s hl ⟨M,z8,z10,z11,rfl,td,gr⟩
  obtain⟨⟨p1,p2⟩,hp,rfl⟩:∃p,qs[i]?=some p/\l=YM p:=by
   rw[aR] at hl
   cases q:qs[i]? with
   | none=>rw[q] at hl;cases hl
   | some p=>rw[q] at hl;cases hl;exact⟨p,rfl,rfl⟩
  have hi:i<qs.length:=(aU.mp hp).1;obtain⟨h1,h2,h3⟩:=all.2 _ (b8 hp);have h1:p1<n:=h1;have h2:p2<n:=h2;have h3:p1≠p2:=h3;have na:=nk.at (x:=p1) h1;have nb:=nk.at (x:=p2) h2;have nn:=nk.ne (x:=p1) (y:=p2) h1 h2 h3;obtain⟨a,ea⟩:∃a:Nat,Zt o p1=(a:Int):=⟨(Zt o p1).toNat,by omega⟩;obtain⟨b,eb⟩:∃b:Nat,Zt o p2=(b:Int):=⟨(Zt o p2).toNat,by omega⟩;have ha:a<n:=by omega
  have hb:b<n:=by omega
  have ab:a≠b:=by omega
  have ia:∀M z11,Zd Zv (Za 4) (Za 8) (stT M (some (.int (p1:Int))) (some (.int (p2:Int))) z11)=some (.int (a:Int)):=λM z11=>by have:=Yq (l:=o) (k:=p1) (by rw[nk.len];exact h1);rw[ea] at this;exact this
  have ib:∀M z11,Zd Zv (Za 4) (Za 10) (stT M (some (.int (p1:Int))) (some (.int (p2:Int))) z11)=some (.int (b:Int)):=λM z11=>by have:=Yq (l:=o) (k:=p2) (by rw[nk.len];exact h2);rw[eb] at this;exact this
  let t:=ZV M a b+1;have q1:Zi 11 (eP (Zd ZI (Zd Zv (Zd Zv (Za 9) (Zd Zv (Za 4) (Za 8))) (Zd Zv (Za 4) (Za 10))) (eC (.int 1)))) (stT M (some (.int (p1:Int))) (some (.int (p2:Int))) z11)=some (.nx (stT M (some (.int (p1:Int))) (some (.int (p2:Int))) (some (.int t)))):=by rw[Zs,vP (vI (op:=(· + ·)) (Lb td.mat.len td.mat.row ha hb rfl (ia M z11) (ib M z11)) rfl)];rfl
  have q2:Yp 9 (Zd Zv (Za 4) (Za 8)) (Zd Zv (Za 4) (Za 10)) (Za 11) (stT M (some (.int (p1:Int))) (some (.int (p2:Int))) (some (.int t)))=some (.nx (stT (V7 M a b t) (some (.int (p1:Int))) (some (.int (p2:Int))) (some (.int t)))):=by rw[KC td.mat ha hb rfl t (ia M _) (ib M _) rfl];rfl
  have q3:Yp 9 (Zd Zv (Za 4) (Za 10)) (Zd Zv (Za 4) (Za 8)) (Za 11) (stT (V7 M a b t) (some (.int (p1:Int))) (some (.int (p2:Int))) (some (.int t)))=some (.nx (stT (Fo M a b) (some (.int (p1:Int))) (some (.int (p2:Int))) (some (.int t)))):=by rw[N9 td.mat ha hb rfl t (ib _ _) (ia _ _) rfl];rfl
  obtain⟨gr1,gr2⟩:=td.grow ha hb;refine⟨stT M (some (.int (p1:Int))) (some (.int (p2:Int))) z11,_,rfl,(by show Zj _ _ _=_;rw[ZF q1,ZF q2,q3]),_,_,_,_,rfl,td.up (by omega) ha hb ab,λj h1 h2=>?_⟩;by_cases w:j<min (i+1) n
  ·exact(gr.mono gr1) j h1 w
  ·have hj:j=i+1:=by omega
   have hin:i<n-1:=by omega
   have pp:=pre i (p1,p2) (by rw[<-all.1 i hin];exact hp);refine⟨p2,by omega,?_⟩;have e1:p1=j:=by have:=pp.1;simp at this;omega
   rw[<-e1,ea,eb];exact gr2)
 subst hs4;rw[aH,lq] at td gr;have e11:Yz [9] (Yg (Za 5)) (.many [8,10]) f4 (stT Z v8 aA aA)=some (.nx (stT M t8 t10 t11)):=by show(Yg (Za 5) (ZX [9] (stT Z v8 aA aA))).bind _=_;exact g4
 have ok:ZN M:=td.mat.web (by omega) (by omega);refine⟨M,n-1+mo,?_,ok,Grown.conn (n:=n) (λj h1 h2=>gr j h1 (by omega)) td.mat.len nk,by rw[td.mat.len];exact n4,by rw[td.mat.len];exact td.sum,by omega⟩;show Yv 12 WR _=_;unfold WR;show(Zj _ _ [some (.int x),some YS,some (.int 8),aA,aA,aA,aA,aA,aA,aA,aA,aA]).bind Xq=_;rw[ZF e1,ZF e2,ZF (s1:=[some (.int (x/5)),some YS,some (.int 8),some (.int (n:Int)),some (.lst (iL [])),aA,aA,aA,aA,aA,aA,aA]) rfl,ZF (s1:=WA (x/5) n [] [] aA aA aA) rfl,ZF e5,ZF e6,ZF em,ZF e8,ZF e9,ZF e10,ZF e11,Vm (HI (n:=n) (by rw[td.mat.len];omega) rfl)];rfl
theorem Ma{n t:Nat}{W:List (List Int)}(ok:ZN W)(hn:W.length=n)(hs:Na n W=2*(t:Int))(h8:t<=8):(Y0 W).length<=8:=by
 have h1:=DA ok;rw[WU] at h1
 have h2:sN W.length (λi=>(ZA W i).sum)=Na n W:=by
  unfold Na;rw[hn];exact Zn λi hi=>by rw[Q3 ok (by omega),WU,hn]
 rw[h2,hs] at h1;omega
theorem Aa(l:List PV){k:Nat}(h:k<=l.length):Wf l aA (some (k:Int))=l.take k:=by unfold Wf;rw[HT.sIx_nat,HT.sIx_none,dh h,lx,Nat.sub_zero]
theorem HJ(l:List PV){k:Nat}(h:k<=l.length):Wf l (some (k:Int)) aA=l.drop k:=by unfold Wf;rw[HT.sIx_nat,HT.sIx_none,dh h,bg (by rw[bK];omega)]
noncomputable def Qp{α:Type}(k:Nat)(l:List α):List α:=l.drop k++l.take k
theorem Lc{α:Type}{k:Nat}{l:List α}(h:k<=l.length):(Qp k l).length=l.length:=by unfold Qp;rw[aX,bK,bU];omega
theorem Ld{α:Type}{k i:Nat}{l:List α}(h:k<=l.length)(hi:i<l.length):(Qp k l)[i]?=l[(i+k)%l.length]?:=by
 unfold Qp;by_cases q:i<l.length-k
 ·rw[aj (by rw[bK];exact q),eR,dR (by omega),Nat.add_comm]
 ·rw[bF (by rw[bK];omega),bK,iI (by omega),dR (by omega),du (by omega)];congr 1;omega
noncomputable def Rx(k:Nat)(M:List (List Int)):List (List Int):=(Qp k M).map (Qp k)
theorem Vn{n k:Nat}{M:List (List Int)}(ok:MatOk n M)(hk:k<n){i j:Nat}(hi:i<n)(hj:j<n):ZV (Rx k M) i j=ZV M ((i+k)%n) ((j+k)%n):=by
 have hm:(i+k)%n<n:=jR _ (by omega);have r1:ZA (Rx k M) i=Qp k (ZA M ((i+k)%n)):=by unfold ZA Rx;rw[aE,aR,Ld (by rw[ok.len];omega) (by rw[ok.len];exact hi),ok.len,aF (by rw[ok.len];exact hm),aE,aF (by rw[ok.len];exact hm)];rfl
 have lr:=ok.row _ hm;unfold ZV;rw[r1];unfold Zt;rw[aE,aE,Ld (by rw[lr];omega) (by rw[lr];exact hj),lr]
theorem HK{n k:Nat}{M:List (List Int)}(ok:MatOk n M)(hk:k<n):MatOk n (Rx k M):=by
 have hm:∀i,(i+k)%n<n:=λi=>jR _ (by omega);refine⟨by unfold Rx;rw[aH,Lc (by rw[ok.len];omega),ok.len],λi hi=>?_,λi j hi hj=>?_,λi j hi hj=>?_,λi j hi hj=>?_,λi hi=>?_⟩
 ·have:ZA (Rx k M) i=Qp k (ZA M ((i+k)%n)):=by unfold ZA Rx;rw[aE,aR,Ld (by rw[ok.len];omega) (by rw[ok.len];exact hi),ok.len,aF (by rw[ok.len];exact hm i),aE,aF (by rw[ok.len];exact hm i)];rfl
  rw[this,Lc (by rw[ok.row _ (hm i)];omega),ok.row _ (hm i)]
 ·rw[Vn ok hk hi hj];exact ok.lo _ _ (hm i) (hm j)
 ·rw[Vn ok hk hi hj];exact ok.hi _ _ (hm i) (hm j)
 ·rw[Vn ok hk hi hj,Vn ok hk hj hi];exact ok.sym _ _ (hm i) (hm j)
 ·rw[Vn ok hk hi hi];exact ok.dia _ (hm i)
theorem KH{n k:Nat}(hn:n<=5)(hk:k<n)(f:Nat->Int):sN n (λi=>f ((i+k)%n))=sN n f:=by
 have:n=1\/n=2\/n=3\/n=4\/n=5:=by omega
 have:k=0\/k=1\/k=2\/k=3\/k=4:=by omega
 rcases ‹n=1\/_› with rfl | rfl | rfl | rfl | rfl<;>rcases ‹k=0\/_› with rfl | rfl | rfl | rfl | rfl<;>first
  | (exfalso;omega)
  | (simp[sN];done)
  | (simp[sN];omega)
theorem Ac{n k:Nat}{M:List (List Int)}(ok:MatOk n M)(hn:n<=5)(hk:k<n):Na n (Rx k M)=Na n M:=by unfold Na;rw[Zn (g:=λi=>sN n (λj=>ZV M ((i+k)%n) ((j+k)%n))) λi hi=>Zn λj hj=>Vn ok hk hi hj];rw[KH hn hk (λx=>sN n (λj=>ZV M x ((j+k)%n)))];exact Zn λx _=>KH hn hk (λy=>ZV M x y)
noncomputable def upL(n:Nat):List Int:=(aD n).map λ(i:Nat)=>(i:Int)
theorem Lf{n i:Nat}(h:i<n):Zt (upL n) i=(i:Int):=ZP h
noncomputable def bkL(n k:Nat):List Int:=(aD n).map λ(i:Nat)=>(((i+n-k)%n:Nat):Int)
theorem DX{n k i:Nat}(h:i<n):Zt (bkL n k) i=(((i+n-k)%n:Nat):Int):=ZP h
theorem HL{n k i:Nat}(hk:k<n)(hi:i<n):((i+n-k)%n+k)%n=i:=by rw[Nat.mod_add_mod,show i+n-k+k=i+n by omega,Nat.add_mod_right,dR hi]
theorem DY{n k:Nat}(hn:n<=5)(hk:k<n):NamesOk n (bkL n k):=by
 refine⟨by simp[bkL],?_,λx hx=>?_,λx hx=>?_⟩
 ·have:n=1\/n=2\/n=3\/n=4\/n=5:=by omega
  have:k=0\/k=1\/k=2\/k=3\/k=4:=by omega
  rcases ‹n=1\/_› with rfl | rfl | rfl | rfl | rfl<;>rcases ‹k=0\/_› with rfl | rfl | rfl | rfl | rfl<;>first
   | (exfalso;omega)
   | decide
 ·obtain⟨i,_,rfl⟩:=b7.mp hx;omega
 ·obtain⟨i,_,rfl⟩:=b7.mp hx;have:(i+n-k)%n<n:=jR _ (by omega);omega
theorem DZ{n k:Nat}{M:List (List Int)}(ok:MatOk n M)(hn:n<=5)(hk:k<n)(gr:Grown M (upL n) n):Rq (Rx k M):=by refine Grown.conn (n:=n) (l:=bkL n k) (λj h1 h2=>?_) (HK ok hk).len (DY hn hk);obtain⟨j',hj',e⟩:=gr j h1 h2;refine⟨j',hj',?_⟩;rw[DX h2,DX (by omega),bR,bR,Vn ok hk (jR _ (by omega)) (jR _ (by omega)),HL hk h2,HL hk (by omega)];rw[Lf h2,Lf (by omega),bR,bR] at e;exact e
theorem D3{ns:List Int}(hns:ns.length<=63):∃W,BF [.cst (iL ns),YS,.int 8]=some (wP W)/\ZN W/\Rq W/\W.length<=5/\(Y0 W).length<=8:=by
 have at0:ZW [.cst (iL ns),.int 0]=some (.int (Zt ns 0)):=Rw hns 0;let s0:ZS:=[some (.cst (iL ns)),some YS,some (.int 8),aA,aA,aA,aA,aA,aA,aA,aA,aA]
 have a0:∀s:ZS,s[0]?=some (some (.cst (iL ns)))->Zc ZW [Za 0,eC (.int 0)] s=some (.int (Zt ns 0)):=λs h=>by
  have:Za 0 s=some (.cst (iL ns)):=by show s[0]?.bind id=_;rw[h];rfl
  rw[ZD,Zk,this];exact at0
 have c0:xB (Zd (YW aB) (Zd Z2 (Zc ZW [Za 0,eC (.int 0)]) (eC (.int 2))) (eC (.int 1))) s0=some (decide (Zt ns 0%2=1)):=by have m:Zd Z2 (Zc ZW [Za 0,eC (.int 0)]) (eC (.int 2)) s0=some (.int (Zt ns 0%2)):=vC (C:=λ_ j=>0<j) (op:=(· % ·)) (a0 s0 rfl) rfl (by decide);rw[UB,Ya,m];show(YW aB (.int (Zt ns 0%2)) (.int 1)).bind AN=_;rw[WC];rfl
 by_cases q:Zt ns 0%2=1
 ·obtain⟨W,t,e,ok,cn,l4,sm,t5⟩:=KG (Zt ns 1);refine⟨W,?_,ok,cn,l4,Ma ok rfl sm t5⟩;have at1:ZW [.cst (iL ns),.int 1]=some (.int (Zt ns 1)):=Rw hns 1;show Yv 12 S7 _=_;unfold S7;show(Zj _ _ s0).bind Xq=_;rw[DN (v:=wP W)]
  ·rfl
  ·rw[Yd,c0,decide_eq_true q];refine Vm ?_;have a1:Zc ZW [Za 0,eC (.int 1)] s0=some (.int (Zt ns 1)):=at1;rw[ZD,Zk,a1];exact e
 ·obtain⟨v,hv,ev⟩:=YY (Zt ns 0) (t:=1) (m:=5) (by omega) (by omega);obtain⟨n,n1,n4,en⟩:=KD v hv
  have e1:Zi 3 (eP (Zd Zv (Za 1) (Zc Zu [Zc ZW [Za 0,eC (.int 0)],eC (.int 1),Zc Zz [Za 1]]))) s0=some (.nx [some (.cst (iL ns)),some YS,some (.int 8),some (.int (n:Int)),aA,aA,aA,aA,aA,aA,aA,aA]):=by
   have a:Zc Zu [Zc ZW [Za 0,eC (.int 0)],eC (.int 1),Zc Zz [Za 1]] s0=some (.int (v:Int)):=by rw[ZD,Zk,a0 s0 rfl];exact ev
   rw[Zs,vP (a:=(n:Int)) (by rw[Ya,a];exact en)];rfl
  let Z:=aN n (aN n (0:Int));let st:List (List Int)->Nat->Option PV->Option PV->Option PV->Option PV->Option PV->ZS:=λM t x6 x7 x8 x9 x10=>[some (.cst (iL ns)),some YS,some (.int 8),some (.int (n:Int)),some (.lst (rL M)),some (.int (t:Int)),x6,x7,x8,x9,x10,aA];have e2:Zi 4 (Zq 1 [3] (ZE [Za 3]) (.one 0) Zx (Zd SS (Yu [eC (.int 0)]) (Za 1))) [some (.cst (iL ns)),some YS,some (.int 8),some (.int (n:Int)),aA,aA,aA,aA,aA,aA,aA,aA]=some (.nx [some (.cst (iL ns)),some YS,some (.int 8),some (.int (n:Int)),some (.lst (rL Z)),aA,aA,aA,aA,aA,aA,aA]):=by rw[Zs,N8 (n:=n) rfl (by omega)];rfl
  have e3:Zi 5 (eP (eC (.int 0))) [some (.cst (iL ns)),some YS,some (.int 8),some (.int (n:Int)),some (.lst (rL Z)),aA,aA,aA,aA,aA,aA,aA]=some (.nx (st Z 0 aA aA aA aA aA)):=by rw[Zs,vP (a:=0) rfl];rfl
  let fT:XS:=(Zj (Yp 4 (Za 8) (Za 9) (Zd ZI (Zd Zv (Zd Zv (Za 4) (Za 8)) (Za 9)) (eC (.int 1))))
   (Zj (Yp 4 (Za 9) (Za 8) (Zd Zv (Zd Zv (Za 4) (Za 8)) (Za 9)))
   (Zi 5 (eP (Zd ZI (Za 5) (eC (.int 1)))))))
  have tie:∀(M:List (List Int))(t:Nat)(x6 x7 x10:Option PV)(a b:Nat),MatOk n M->a<n->b<n->fT (st M t x6 x7 (some (.int (a:Int))) (some (.int (b:Int))) x10)=some (.nx (st (Fo M a b) (t+1) x6 x7 (some (.int (a:Int))) (some (.int (b:Int))) x10)):=λM t x6 x7 x10 a b ok ha hb=>by
   have q1:Yp 4 (Za 8) (Za 9) (Zd ZI (Zd Zv (Zd Zv (Za 4) (Za 8)) (Za 9)) (eC (.int 1))) (st M t x6 x7 (some (.int (a:Int))) (some (.int (b:Int))) x10)=some (.nx (st (V7 M a b (ZV M a b+1)) t x6 x7 (some (.int (a:Int))) (some (.int (b:Int))) x10)):=by rw[KC ok ha hb rfl (ZV M a b+1) rfl rfl (vI (op:=(· + ·)) (Lb ok.len ok.row ha hb rfl rfl rfl) rfl)];rfl
   have q2:Yp 4 (Za 9) (Za 8) (Zd Zv (Zd Zv (Za 4) (Za 8)) (Za 9)) (st (V7 M a b (ZV M a b+1)) t x6 x7 (some (.int (a:Int))) (some (.int (b:Int))) x10)=some (.nx (st (Fo M a b) t x6 x7 (some (.int (a:Int))) (some (.int (b:Int))) x10)):=by have sh:=W0 (t:=ZV M a b+1) (b:=b) ok.len ok.row ha;have rd:=Lb (s:=st (V7 M a b (ZV M a b+1)) t x6 x7 (some (.int (a:Int))) (some (.int (b:Int))) x10) (fm:=Za 4) (fa:=Za 8) (fb:=Za 9) sh.1 sh.2 ha hb rfl rfl rfl;rw[Po ok.len ok.row ha hb,mM ⟨rfl,rfl⟩] at rd;rw[N9 ok ha hb rfl (ZV M a b+1) rfl rfl rd];rfl
   have q3:Zi 5 (eP (Zd ZI (Za 5) (eC (.int 1)))) (st (Fo M a b) t x6 x7 (some (.int (a:Int))) (some (.int (b:Int))) x10)=some (.nx (st (Fo M a b) (t+1) x6 x7 (some (.int (a:Int))) (some (.int (b:Int))) x10)):=by
    have e:(t:Int)+1=((t+1:Nat):Int):=by omega
    rw[Zs,vP (a:=((t+1:Nat):Int)) (by rw[<-e];exact vI (op:=(· + ·)) (a:=(t:Int)) rfl rfl)];rfl
   show Zj _ _ _=_;rw[ZF q1,ZF q2,q3]
  let fb:XS:=(Zj (Zi 7 (Zc ZW [Za 0,Za 6]))
   (Zj (Zi 8 (Zc Zu [Za 7,eC (.int 13),Za 3]))
   (Zj (Zi 9 (eP (Zd Z2 (Zd ZI (Zd ZI (Za 8) (eC (.int 1))) (Zc Zu [Za 7,eC (.int 17),Zc SM [eC (.int 1),Zd Yo (Za 3) (eC (.int 1))]])) (Za 3))))
   (Zj (V9 (xB (Zd RN (Za 6) (Za 3))) (Zj (Zi 8 (eP (Za 6)))
   (Zi 9 (Zc Zu [Za 7,eC (.int 5),Za 6]))) Z6)
   (Zj (Zi 10 (eP (VR (Zd RO (Za 3) (eC (.int 1))) (VR (Zd RN (Za 5) (Za 2)) (Zd RO (Zc Zu [Za 7,eC (.int 3),eC (.int 3)]) (eC (.int 0)))))))
   (V9 (LR (xB (Zd RN (Za 6) (Za 3))) (xB (Za 10))) fT Z6))))))
  obtain⟨s4,g4,M,t,y6,y7,y8,y9,y10,hs4,td,t5,tl,gr⟩:=Yh (T:=.one 6) (fb:=fb) (ls:=WB 1 12) (s:=st Z 0 aA aA aA aA aA)
   (λi s=>∃M t x6 x7 x8 x9 x10,s=st M t x6 x7 x8 x9 x10/\Tied n M t/\t<=8/\(i<=n-1->t=i)/\Grown M (upL n) (min (i+1) n)) ⟨Z,0,aA,aA,aA,aA,aA,rfl,Tied.zero n,by omega,λ_=>rfl,λj h1 h2=>by omega⟩ (by
   rintro i l s hl ⟨M,t,x6,x7,x8,x9,x10,rfl,td,t5,tl,gr⟩;obtain⟨hi,rfl⟩:=SX hl;have ci:(1:Int)+(i:Int)=((i+1:Nat):Int):=by omega
   rw[ci];let K6:Option PV:=some (.int ((i+1:Nat):Int));let c:=Zt ns (i+1);let C7:Option PV:=some (.int c);obtain⟨a,ha,ea⟩:=YY c (t:=13) (m:=n) (by omega) (by omega);obtain⟨b,hb,eb⟩:=YY c (t:=17) (m:=max 1 (n-1)) (by omega) (by omega);obtain⟨d,hd,ed⟩:=X5 ((a:Int)+1+(b:Int)) (m:=n) (by omega);obtain⟨r,hr,er⟩:=YY c (t:=3) (m:=3) (by omega) (by omega);have q1:Zi 7 (Zc ZW [Za 0,Za 6]) (st M t K6 x7 x8 x9 x10)=some (.nx (st M t K6 C7 x8 x9 x10)):=by have:Zc ZW [Za 0,Za 6] (st M t K6 x7 x8 x9 x10)=some (.int c):=Rw hns (i+1);rw[Zs,this];rfl
   have q2:Zi 8 (Zc Zu [Za 7,eC (.int 13),Za 3]) (st M t K6 C7 x8 x9 x10)=some (.nx (st M t K6 C7 (some (.int (a:Int))) x9 x10)):=by have:Zc Zu [Za 7,eC (.int 13),Za 3] (st M t K6 C7 x8 x9 x10)=some (.int (a:Int)):=ea;rw[Zs,this];rfl
   have q3:Zi 9 (eP (Zd Z2 (Zd ZI (Zd ZI (Za 8) (eC (.int 1))) (Zc Zu [Za 7,eC (.int 17),Zc SM [eC (.int 1),Zd Yo (Za 3) (eC (.int 1))]])) (Za 3))) (st M t K6 C7 (some (.int (a:Int))) x9 x10)=some (.nx (st M t K6 C7 (some (.int (a:Int))) (some (.int (d:Int))) x10)):=by
    have m1:Zd Yo (Za 3) (eC (.int 1)) (st M t K6 C7 (some (.int (a:Int))) x9 x10)=some (.int ((n:Int)-1)):=vI (op:=(· - ·)) rfl rfl
    have m2:Zc SM [eC (.int 1),Zd Yo (Za 3) (eC (.int 1))] (st M t K6 C7 (some (.int (a:Int))) x9 x10)=some (.int ((max 1 (n-1):Nat):Int)):=by
     rw[ZD,Zk,Zk,m1];show some (PV.int (if(n:Int)-1>1 then(n:Int)-1 else 1))=_;congr 2;split<;>omega
    have m3:Zc Zu [Za 7,eC (.int 17),Zc SM [eC (.int 1),Zd Yo (Za 3) (eC (.int 1))]] (st M t K6 C7 (some (.int (a:Int))) x9 x10)=some (.int (b:Int)):=by rw[ZD,Zk,Zk,Zk,m2];exact eb
    rw[Zs,vP (a:=(d:Int)) (by
     rw[<-ed];exact vC (C:=λ_ j=>0<j) (op:=(· % ·)) (vI (op:=(· + ·)) (vI (op:=(· + ·)) (a:=(a:Int)) rfl rfl) m3) rfl (by omega))]
    rfl
   have c6:∀x8 x9 x10,xB (Zd RN (Za 6) (Za 3)) (st M t K6 C7 x8 x9 x10)=some (decide (i+1<n)):=λx8 x9 x10=>by
    show some (decide (((i+1:Nat):Int)<(n:Int)))=_;congr 1;by_cases w:i+1<n
    ·rw[decide_eq_true w,decide_eq_true (by omega)]
    ·rw[decide_eq_false w,decide_eq_false (by omega)]
   have m10:∀x8 x9 x10,VR (Zd RO (Za 3) (eC (.int 1))) (VR (Zd RN (Za 5) (Za 2)) (Zd RO (Zc Zu [Za 7,eC (.int 3),eC (.int 3)]) (eC (.int 0)))) (st M t K6 C7 x8 x9 x10)=some (.bl (decide (1<n)&&(decide (t<8)&&decide (0<r)))):=λx8 x9 x10=>by
    have b1:xB (Zd RO (Za 3) (eC (.int 1))) (st M t K6 C7 x8 x9 x10)=some (decide (1<n)):=by
     show some (decide ((n:Int)>1))=_;congr 1;by_cases w:1<n
     ·rw[decide_eq_true w,decide_eq_true (by omega)]
     ·rw[decide_eq_false w,decide_eq_false (by omega)]
    have b2:xB (Zd RN (Za 5) (Za 2)) (st M t K6 C7 x8 x9 x10)=some (decide (t<8)):=by
     show some (decide ((t:Int)<8))=_;congr 1;by_cases w:t<8
     ·rw[decide_eq_true w,decide_eq_true (by omega)]
     ·rw[decide_eq_false w,decide_eq_false (by omega)]
    have b3:Zd RO (Zc Zu [Za 7,eC (.int 3),eC (.int 3)]) (eC (.int 0)) (st M t K6 C7 x8 x9 x10)=some (.bl (decide (0<r))):=by
     have:Zc Zu [Za 7,eC (.int 3),eC (.int 3)] (st M t K6 C7 x8 x9 x10)=some (.int (r:Int)):=er;rw[Ya,this];show some (PV.bl (decide ((r:Int)>0)))=_;congr 2;by_cases w:0<r
     ·rw[decide_eq_true w,decide_eq_true (by omega)]
     ·rw[decide_eq_false w,decide_eq_false (by omega)]
    rw[PX,b1];by_cases w1:1<n
    ·rw[decide_eq_true w1];simp only[aL,if_true,mF];rw[PX,b2];by_cases w2:t<8
     ·rw[decide_eq_true w2];simp only[aL,if_true,mF];exact b3
     ·rw[decide_eq_false w2];rfl
    ·rw[decide_eq_false w1];rfl
   by_cases w:i+1<n
   ·obtain⟨e,he,ee⟩:=YY c (t:=5) (m:=i+1) (by omega) (by omega)
    have q4:V9 (xB (Zd RN (Za 6) (Za 3))) (Zj (Zi 8 (eP (Za 6))) (Zi 9 (Zc Zu [Za 7,eC (.int 5),Za 6]))) Z6 (st M t K6 C7 (some (.int (a:Int))) (some (.int (d:Int))) x10)=some (.nx (st M t K6 C7 K6 (some (.int (e:Int))) x10)):=by
     rw[Yd,c6,decide_eq_true w];simp only[aL,if_true];have r1:Zi 8 (eP (Za 6)) (st M t K6 C7 (some (.int (a:Int))) (some (.int (d:Int))) x10)=some (.nx (st M t K6 C7 K6 (some (.int (d:Int))) x10)):=by rw[Zs,vP (a:=((i+1:Nat):Int)) rfl];rfl
     have r2:Zi 9 (Zc Zu [Za 7,eC (.int 5),Za 6]) (st M t K6 C7 K6 (some (.int (d:Int))) x10)=some (.nx (st M t K6 C7 K6 (some (.int (e:Int))) x10)):=by have:Zc Zu [Za 7,eC (.int 5),Za 6] (st M t K6 C7 K6 (some (.int (d:Int))) x10)=some (.int (e:Int)):=ee;rw[Zs,this];rfl
     rw[ZF r1,r2]
    let B:=decide (1<n)&&(decide (t<8)&&decide (0<r));have q5:Zi 10 (eP (VR (Zd RO (Za 3) (eC (.int 1))) (VR (Zd RN (Za 5) (Za 2)) (Zd RO (Zc Zu [Za 7,eC (.int 3),eC (.int 3)]) (eC (.int 0)))))) (st M t K6 C7 K6 (some (.int (e:Int))) x10)=some (.nx (st M t K6 C7 K6 (some (.int (e:Int))) (some (.bl B)))):=by rw[Zs,YR,m10];rfl
    have q6:V9 (LR (xB (Zd RN (Za 6) (Za 3))) (xB (Za 10))) fT Z6 (st M t K6 C7 K6 (some (.int (e:Int))) (some (.bl B)))=some (.nx (st (Fo M (i+1) e) (t+1) K6 C7 K6 (some (.int (e:Int))) (some (.bl B)))):=by rw[Yd,SU,c6,decide_eq_true w];simp only[aL,if_true];exact tie M t K6 C7 (some (.bl B)) (i+1) e td.mat w (by omega)
    have te:=tl (by omega);obtain⟨gr1,gr2⟩:=td.grow (a:=i+1) (b:=e) w (by omega);refine⟨st M t K6 x7 x8 x9 x10,_,rfl,(by show Zj _ _ _=_;rw[ZF q1,ZF q2,ZF q3,ZF q4,ZF q5,q6]),_,_,_,_,_,_,_,rfl,td.up (by omega) w (by omega) (by omega),by omega,λ_=>by omega,λj h1 h2=>?_⟩;by_cases z:j<min (i+1) n
    ·exact(gr.mono gr1) j h1 z
    ·have hj:j=i+1:=by omega
     refine⟨e,by omega,?_⟩;rw[hj,Lf w,Lf (by omega),bR,bR];exact gr2
   ·have q4:V9 (xB (Zd RN (Za 6) (Za 3))) (Zj (Zi 8 (eP (Za 6))) (Zi 9 (Zc Zu [Za 7,eC (.int 5),Za 6]))) Z6 (st M t K6 C7 (some (.int (a:Int))) (some (.int (d:Int))) x10)=some (.nx (st M t K6 C7 (some (.int (a:Int))) (some (.int (d:Int))) x10)):=by rw[Yd,c6,decide_eq_false w];rfl
    let B:=decide (1<n)&&(decide (t<8)&&decide (0<r));have q5:Zi 10 (eP (VR (Zd RO (Za 3) (eC (.int 1))) (VR (Zd RN (Za 5) (Za 2)) (Zd RO (Zc Zu [Za 7,eC (.int 3),eC (.int 3)]) (eC (.int 0)))))) (st M t K6 C7 (some (.int (a:Int))) (some (.int (d:Int))) x10)=some (.nx (st M t K6 C7 (some (.int (a:Int))) (some (.int (d:Int))) (some (.bl B)))):=by rw[Zs,YR,m10];rfl
    have gr':Grown M (upL n) (min (i+1+1) n):=λj h1 h2=>gr j h1 (by omega);by_cases hB:B=aC
    ·have hB':1<n/\t<8/\0<r:=by have:=hB;simp only[B,av,decide_eq_true_eq] at this;exact this
     have ne:a≠d:=λz=>by
      subst z;have h1:((a:Int)+1+(b:Int))=((a+1+b:Nat):Int):=by omega
      rw[h1] at ed;have ed':(a+1+b)%n=a:=by have:=ed;rw[<-ku] at this;omega
      by_cases w:a+1+b<n
      ·rw[dR w] at ed';omega
      ·rw[iI (by omega),dR (by omega)] at ed';omega
     have q6:V9 (LR (xB (Zd RN (Za 6) (Za 3))) (xB (Za 10))) fT Z6 (st M t K6 C7 (some (.int (a:Int))) (some (.int (d:Int))) (some (.bl B)))=some (.nx (st (Fo M a d) (t+1) K6 C7 (some (.int (a:Int))) (some (.int (d:Int))) (some (.bl B)))):=by
      have c10:xB (Za 10) (st M t K6 C7 (some (.int (a:Int))) (some (.int (d:Int))) (some (.bl B)))=some aC:=by show some B=_;rw[hB]
      rw[Yd,SU,c6,decide_eq_false w];simp only[aL,dB,if_false];rw[c10];simp only[aL,if_true];exact tie M t K6 C7 (some (.bl B)) a d td.mat ha hd
     obtain⟨gr1,gr2⟩:=td.grow (a:=a) (b:=d) ha hd;refine⟨st M t K6 x7 x8 x9 x10,_,rfl,(by show Zj _ _ _=_;rw[ZF q1,ZF q2,ZF q3,ZF q4,ZF q5,q6]),_,_,_,_,_,_,_,rfl,td.up (by omega) ha hd ne,by omega,λh=>by omega,gr'.mono gr1⟩
    ·have q6:V9 (LR (xB (Zd RN (Za 6) (Za 3))) (xB (Za 10))) fT Z6 (st M t K6 C7 (some (.int (a:Int))) (some (.int (d:Int))) (some (.bl B)))=some (.nx (st M t K6 C7 (some (.int (a:Int))) (some (.int (d:Int))) (some (.bl B)))):=by
      have c10:xB (Za 10) (st M t K6 C7 (some (.int (a:Int))) (some (.int (d:Int))) (some (.bl B)))=some aB:=by show some B=_;rw[kq] at hB;rw[hB]
      rw[Yd,SU,c6,decide_eq_false w];simp only[aL,dB,if_false];rw[c10];rfl
     exact⟨st M t K6 x7 x8 x9 x10,_,rfl,(by show Zj _ _ _=_;rw[ZF q1,ZF q2,ZF q3,ZF q4,ZF q5,q6]),_,_,_,_,_,_,_,rfl,td,t5,λh=>by omega,gr'⟩)
  subst hs4;rw[show(WB 1 12).length=12 by simp[WB]] at gr;have e4:Yz [4] (Xv [eC (.int 1),eC (.int 13)]) (.one 6) fb (st Z 0 aA aA aA aA aA)=some (.nx (st M t y6 y7 y8 y9 y10)):=by show(Xv [eC (.int 1),eC (.int 13)] (ZX [4] (st Z 0 aA aA aA aA aA))).bind _=_;rw[Tw (i:=1) (j:=13) rfl rfl (by omega) (by omega)];exact g4
  have gr:Grown M (upL n) n:=λj h1 h2=>gr j h1 (by omega);obtain⟨k,hk,ek⟩:=YY (Zt ns 0) (t:=7) (m:=n) (by omega) (by omega);let st2:List (List Int)->ZS:=λM=>[some (.cst (iL ns)),some YS,some (.int 8),some (.int (n:Int)),some (.lst (rL M)),some (.int (t:Int)),y6,y7,y8,y9,y10,some (.int (k:Int))]
  have e5:Zi 11 (Zc Zu [Zc ZW [Za 0,eC (.int 0)],eC (.int 7),Za 3]) (st M t y6 y7 y8 y9 y10)=some (.nx (st2 M)):=by
   have:Zc Zu [Zc ZW [Za 0,eC (.int 0)],eC (.int 7),Za 3] (st M t y6 y7 y8 y9 y10)=some (.int (k:Int)):=by rw[ZD,Zk,a0 _ rfl];exact ek
   rw[Zs,this];rfl
  have lenM:(rL M).length=n:=by unfold rL;rw[aH];exact td.mat.len
  have e6:Zi 4 (Zq 1 [11] (Yg (Zd L4 (WM Xe (Za 4) (Wv (Za 11)) VU) (WM Xe (Za 4) VU (Wv (Za 11))))) (.one 0) Zx (Zd Ub (WM Xe (Za 0) (Wv (Za 1)) VU) (WM Xe (Za 0) VU (Wv (Za 1))))) (st2 M)=some (.nx (st2 (Rx k M))):=by
   have s1:WM Xe (Za 4) (Wv (Za 11)) VU (st2 M)=some (.lst ((rL M).drop k)):=by show some (PV.lst (Wf (rL M) (some (k:Int)) aA))=_;rw[HJ _ (by omega)]
   have s2:WM Xe (Za 4) VU (Wv (Za 11)) (st2 M)=some (.lst ((rL M).take k)):=by show some (PV.lst (Wf (rL M) aA (some (k:Int))))=_;rw[Aa _ (by omega)]
   have s3:Yg (Zd L4 (WM Xe (Za 4) (Wv (Za 11)) VU) (WM Xe (Za 4) VU (Wv (Za 11)))) (st2 M)=some ((Qp k M).map λr=>.lst (iL r)):=by
    have:Zd L4 (WM Xe (Za 4) (Wv (Za 11)) VU) (WM Xe (Za 4) VU (Wv (Za 11))) (st2 M)=some (.lst ((Qp k M).map λr=>.lst (iL r))):=by rw[Ya,s1,s2];show(if((rL M).drop k).length+((rL M).take k).length<=10000 then some (PV.lst ((rL M).drop k++(rL M).take k)) else aA)=_;rw[mM (by rw[bK,bU];omega)];unfold Qp rL;rw[bB,fg,fZ]
    unfold Yg;rw[this];rfl
   have hc:Zq 1 [11] (Yg (Zd L4 (WM Xe (Za 4) (Wv (Za 11)) VU) (WM Xe (Za 4) VU (Wv (Za 11))))) (.one 0) Zx (Zd Ub (WM Xe (Za 0) (Wv (Za 1)) VU) (WM Xe (Za 0) VU (Wv (Za 1)))) (st2 M)=some (.lst (rL (Rx k M))):=by
    rw[ZM (Qp k M) (λr=>.lst (iL r)) (λr=>.lst (iL (Qp k r))) s3 (by rw[Lc (by rw[td.mat.len];omega),td.mat.len];omega) (λr hr=>⟨[some (.lst (iL r)),some (.int (k:Int))],rfl,rfl,?_⟩)]
    ·unfold Rx rL;rw[bS];rfl
    ·have lr:r.length=n:=by
      have:r∈M:=by
       rcases aa.mp hr with h | h
       ·exact fB h
       ·exact fC h
      obtain⟨i,hi,e⟩:=dM this;have hi':i<n:=by rw[<-td.mat.len];exact hi
      have:=td.mat.row i hi';unfold ZA at this;rw[aE,aF hi] at this;rw[<-e];exact this
     have u1:WM Xe (Za 0) (Wv (Za 1)) VU [some (.lst (iL r)),some (.int (k:Int))]=some (.lst (iL (r.drop k))):=by show some (PV.lst (Wf (iL r) (some (k:Int)) aA))=_;rw[DE]
     have u2:WM Xe (Za 0) VU (Wv (Za 1)) [some (.lst (iL r)),some (.int (k:Int))]=some (.lst (iL (r.take k))):=by show some (PV.lst (Wf (iL r) aA (some (k:Int))))=_;rw[DD]
     rw[Ya,u1,u2];show(if(iL (r.drop k)).length+(iL (r.take k)).length<=10000/\ZH (iL (r.drop k))=aC/\ZH (iL (r.take k))=aC then some (PV.lst (iL (r.drop k)++iL (r.take k))) else aA)=_;rw[mM ⟨by rw[aH,aH,bK,bU];omega,Z5 _,Z5 _⟩,<-bB];rfl
   rw[Zs,hc];rfl
  have okW:=HK td.mat hk;have ok:ZN (Rx k M):=okW.web (by omega) (by omega);refine⟨Rx k M,?_,ok,DZ td.mat n4 hk gr,by rw[okW.len];exact n4,Ma ok okW.len (by rw[Ac td.mat n4 hk];exact td.sum) t5⟩;show Yv 12 S7 _=_;unfold S7;show(Zj _ _ s0).bind Xq=_;rw[ZF (s1:=s0) (by rw[Yd,c0,decide_eq_false q];rfl),ZF e1,ZF e2,ZF e3,ZF e4,ZF e5,ZF e6,Vm (HI (n:=n) (by rw[okW.len];omega) rfl)];rfl
end PW
namespace PW
open L2 VL VX PK
noncomputable def eW(W:List (List Int)):List ZU:=N3 W.length (ZV W)
noncomputable def Fp(W:List (List Int))(a b:Nat):List ZU:=aN (ZV W a b).toNat (a,b)
noncomputable def eA(W:List (List Int))(a:Nat):List ZU:=(aD (W.length-(a+1))).flatMap λj=>Fp W a (a+1+j)
theorem Lg(W:List (List Int)):eW W=(aD W.length).flatMap (eA W):=by unfold eW N3 prs;rw[List.flatMap_assoc];congr 1;funext a;rw[List.flatMap_map];rfl
theorem V3(W:List (List Int)):(eW W).length=(Y0 W).length:=by rw[Lg];unfold Y0;rw[fV,fV];congr 1;refine ak λa _=>?_;unfold eA Uk;rw[fV,fV];congr 1;refine ak λj _=>?_;unfold Fp XG;simp
theorem Zf0{W:List (List Int)}(ok:ZN W):Wt W.length (ZV W):=⟨λa b ha hb=>ok.lo a b ha hb,λa b ha hb=>ok.sym a b ha hb,λa ha=>ok.dia a ha⟩
theorem HM{W:List (List Int)}:∀e∈eW W,e.1<e.2/\e.2<W.length/\0<ZV W e.1 e.2:=λe he=>by unfold eW N3 at he;obtain⟨p,hp,hq⟩:=fJ.mp he;have hq':=kT.mp hq;obtain⟨h1,rfl⟩:=hq';have:=mem_prs.mp (show(e.1,e.2)∈prs W.length from hp);exact⟨by omega,by omega,by omega⟩
theorem Zci{W:List (List Int)}{a b:Nat}(hab:a<b)(hb:b<W.length)(h:0<ZV W a b):(a,b)∈eW W:=by unfold eW N3;refine fJ.mpr ⟨(a,b),mem_prs.mpr ⟨by omega,by omega⟩,kT.mpr ⟨?_,rfl⟩⟩;show(ZV W a b).toNat≠0;omega
theorem D4{W:List (List Int)}(ok:ZN W)(cn:Rq W){m:Nat->Nat}{F:List Nat}(h:TrOk W.length (eW W) m F []):∀x,x<W.length->m x=m 0:=λx hx=>by
 have lt:∀a b,a<b->b<W.length->0<ZV W a b->m a=m b:=λa b hab hb h0=>by
  obtain⟨i,hi,e⟩:=dM (Zci hab hb h0);have:=h.done i hi (by simp);have ee:ZC (eW W) i=(a,b):=by unfold ZC;rw[aE,aF hi,e];rfl
  rw[ee] at this;exact this
 refine(cn (λx=>m x=m 0) (λa b ha hb h0=>?_) x 0 hx ok.pos).mpr rfl
 have e:m a=m b:=by
  by_cases q:a<b
  ·exact lt a b q hb h0
  ·by_cases q2:b<a
   ·exact(lt b a q2 ha (by rw[ok.sym b a hb ha];exact h0)).symm
   ·rw[show a=b by omega]
 rw[e]
theorem Ry{W:List (List Int)}(ok:ZN W){G:List Nat}(nd:G.Nodup)(hG:∀g∈G,g<W.length):tw (ZV W) G=2*XN G (eW W):=by
 let u:Nat->Nat->Int:=λi j=>b1 (decide (i∈G))*(b1 (decide (j∈G))*ZV W i j);have h1:tw (ZV W) G=sN W.length (λi=>sN W.length (u i)):=by unfold tw;rw[TN _ nd hG];refine Zn λi hi=>?_;unfold M8;rw[TN _ nd hG,<-Ym]
 have h2:XN G (eW W)=sN W.length λa=>sN W.length λb=>if a<b then u a b else 0:=by
  unfold XN eW;rw[Fb (Zf0 ok)];refine Zn λa _=>Zn λb _=>?_;split
  ·show ZV W a b*b1 (decide (a∈G)&&decide (b∈G))=b1 (decide (a∈G))*(b1 (decide (b∈G))*ZV W a b);by_cases x:a∈G<;>by_cases y:b∈G<;>simp[x,y,b1]
  ·rfl
 rw[h1,h2];refine B4 (λa b ha hb=>?_) λa ha=>?_
 ·show b1 (decide (a∈G))*(b1 (decide (b∈G))*ZV W a b)=b1 (decide (b∈G))*(b1 (decide (a∈G))*ZV W b a);rw[ok.sym a b ha hb,<-cR,<-cR,cG (b1 _) (b1 _)]
 ·show b1 (decide (a∈G))*(b1 (decide (a∈G))*ZV W a a)=0;rw[ok.dia a ha];simp
theorem Ad{W:List (List Int)}:XN (aD W.length) (eW W)=((eW W).length:Int):=by
 have:∀T:List ZU,(∀e∈T,e.1<W.length/\e.2<W.length)->XN (aD W.length) T=(T.length:Int):=by
  intro T
  induction T with
  | nil=>intro _;rfl
  | cons e T ih=>
   intro hh;have q:N4 (aD W.length) e=aC:=by have:=hh e (by simp);unfold N4;simp[this.1,this.2]
   have:=ih λx hx=>hh x (by simp[hx]);unfold XN at this ⊢;rw[ag,bc,this,q,bA];show(1:Int)+_=_;omega
 exact this _ λe he=>by have:=HM e he;exact⟨by omega,by omega⟩
theorem Ae{W:List (List Int)}(ok:ZN W){a b:Nat}(ha:a<W.length)(hb:b<W.length):(Fp W a b).length<=9:=by have:=ok.hi a b ha hb;unfold Fp;simp;omega
theorem Zcj{W:List (List Int)}(ok:ZN W){a b:Nat}(ha:a<W.length)(hb:b<W.length)(t:Option PV):Zq 1 [2,3] (ZE [Zd Zv (Zd Zv (Za 0) (Za 2)) (Za 3)]) (.one 0) Zx (eP (YC [Za 1,Za 2])) [some (wP W),t,some (.int (a:Int)),some (.int (b:Int))]=some (.lst ((Fp W a b).map YM)):=by
 have hr:=ok.sq a ha;have b1:=ok.lo a b ha hb;have b2:=ok.hi a b ha hb;have a1:Zd Zv (Za 0) (Za 2) [some (wP W),t,some (.int (a:Int)),some (.int (b:Int))]=some (pP (ZA W a)):=Tv ha;have a2:Zd Zv (Zd Zv (Za 0) (Za 2)) (Za 3) [some (wP W),t,some (.int (a:Int)),some (.int (b:Int))]=some (.int (((ZV W a b).toNat:Nat):Int)):=by rw[Ya,a1];have:=Yq (l:=ZA W a) (k:=b) (by omega);rw[show(((ZV W a b).toNat:Nat):Int)=Zt (ZA W a) b by show _=ZV W a b;omega];exact this
 rw[ZM (aD (ZV W a b).toNat) (λ(i:Nat)=>.int (i:Int)) (λ_=>YM (a,b)) (Z1 a2 (by omega)) (by simp;omega) (λi hi=>⟨_,rfl,rfl,rfl⟩)];unfold Fp;rw[kS];congr 2;exact fL (by simp) (by intros;simp)
theorem Af{W:List (List Int)}(ok:ZN W){a:Nat}(ha:a<W.length)(acc:List ZU)(hacc:acc.length<=1000)(b0:Option PV) :
  ∃b',WN (.one 3) (XA 1 (Zq 1 [2,3] (ZE [Zd Zv (Zd Zv (Za 0) (Za 2)) (Za 3)]) (.one 0) Zx (eP (YC [Za 1,Za 2])))) (WB ((a:Int)+1) (W.length-(a+1))) [some (wP W),some (.lst (acc.map YM)),some (.int (a:Int)),b0]
   = some (.nx [some (wP W),some (.lst ((acc++eA W a).map YM)),some (.int (a:Int)),b'])/\(eA W a).length<=63:=by
 have hf:=ok.few
 obtain⟨s',h1,b',h2,h3⟩:=Yh (T:=.one 3) (fb:=XA 1 (Zq 1 [2,3] (ZE [Zd Zv (Zd Zv (Za 0) (Za 2)) (Za 3)]) (.one 0) Zx (eP (YC [Za 1,Za 2])))) (ls:=WB ((a:Int)+1) (W.length-(a+1))) (s:=[some (wP W),some (.lst (acc.map YM)),some (.int (a:Int)),b0])
  (λj st=>∃b',st=[some (wP W),some (.lst ((acc++(aD j).flatMap λj=>Fp W a (a+1+j)).map YM)),some (.int (a:Int)),b']/\((aD j).flatMap λj=>Fp W a (a+1+j)).length<=9*j)
  ⟨b0,by simp,by simp⟩ (λj l st hl hJ=>by
   obtain⟨hj,rfl⟩:=SX hl;obtain⟨b',rfl,hlen⟩:=hJ;have hb:a+1+j<W.length:=by omega
   have e1:(a:Int)+1+(j:Int)=((a+1+j:Nat):Int):=by omega
   rw[e1];have hc:=Zcj ok ha hb (some (.lst ((acc++(aD j).flatMap λj=>Fp W a (a+1+j)).map YM)));have hl2:=Ae ok ha hb;have hg:(acc.length+((aD j).flatMap λj=>Fp W a (a+1+j)).length)+(Fp W a (a+1+j)).length<=10000:=by omega
   refine⟨_,_,rfl,?_,some (.int ((a+1+j:Nat):Int)),rfl,?_⟩
   ·refine(P8 hc rfl (by rw[aH,aH,aX];exact hg)).trans ?_;simp[Xr]
   ·rw[Xr,aX];omega)
 rw[L7] at h2 h3;refine⟨b',?_,?_⟩
 ·rw[h1,h2];rfl
 ·have:eA W a=(aD (W.length-(a+1))).flatMap λj=>Fp W a (a+1+j):=rfl;rw[this];omega
theorem Qq{W:List (List Int)}(ok:ZN W):Ww [wP W]=some (.lst ((eW W).map YM))/\(eW W).length<=441:=by
 have hf:=ok.few;refine⟨?_,by rw[V3];exact(Wr ok).2⟩;have lenW:∀x y z:Option PV,Zc Zz [Za 0] [some (wP W),x,y,z]=some (.int (W.length:Int)):=λx y z=>by show some (PV.int ((W.map pP).length:Int))=_;rw[aH]
 obtain⟨s',h1,y,z,h2,h3⟩:=Yh (T:=.one 2) (fb:=Yz [1] (Xv [Zd ZI (Za 2) (eC (.int 1)),Zc Zz [Za 0]]) (.one 3) (XA 1 (Zq 1 [2,3] (ZE [Zd Zv (Zd Zv (Za 0) (Za 2)) (Za 3)]) (.one 0) Zx (eP (YC [Za 1,Za 2]))))) (ls:=Ux W.length) (s:=[some (wP W),some (.lst []),aA,aA])
  (λi st=>∃y z,st=[some (wP W),some (.lst (((aD i).flatMap (eA W)).map YM)),y,z]/\((aD i).flatMap (eA W)).length<=63*i)
  ⟨aA,aA,by simp,by simp⟩ (λi l st hl hJ=>by
   obtain⟨y,z,rfl,hlen⟩:=hJ;obtain⟨hi,rfl⟩:=W9 hl;obtain⟨b',e1,e2⟩:=Af ok hi ((aD i).flatMap (eA W)) (by omega) z;refine⟨_,_,rfl,?_,some (.int (i:Int)),b',rfl,?_⟩
   ·have hr:Xv [Zd ZI (Za 2) (eC (.int 1)),Zc Zz [Za 0]] (ZX [1] [some (wP W),some (.lst (((aD i).flatMap (eA W)).map YM)),some (.int (i:Int)),z])=some (WB ((i:Int)+1) (W.length-(i+1))):=by show Xv [Zd ZI (Za 2) (eC (.int 1)),Zc Zz [Za 0]] [some (wP W),aA,some (.int (i:Int)),z]=_;have p1:Zd ZI (Za 2) (eC (.int 1)) [some (wP W),aA,some (.int (i:Int)),z]=some (.int ((i:Int)+1)):=vI (op:=(· + ·)) (a:=(i:Int)) rfl rfl;rw[Tw p1 (lenW _ _ _) ⟨by omega,by omega⟩ ⟨by omega,by omega⟩];congr 2;omega
    show Yz _ _ _ _ [some (wP W),_,some (.int (i:Int)),z]=_;rw[P7,hr];simp only[aL];rw[e1,Xr]
   ·rw[Xr,aX];omega)
 rw[Va] at h2 h3;have e3:Yz [1] (ZE [Zc Zz [Za 0]]) (.one 2) (Yz [1] (Xv [Zd ZI (Za 2) (eC (.int 1)),Zc Zz [Za 0]]) (.one 3) (XA 1 (Zq 1 [2,3] (ZE [Zd Zv (Zd Zv (Za 0) (Za 2)) (Za 3)]) (.one 0) Zx (eP (YC [Za 1,Za 2]))))) [some (wP W),some (.lst []),aA,aA]=some (.nx [some (wP W),some (.lst ((eW W).map YM)),y,z]):=by show(ZE [Zc Zz [Za 0]] (ZX [1] [some (wP W),some (.lst []),aA,aA])).bind _=_;have p0:ZE [Zc Zz [Za 0]] (ZX [1] [some (wP W),some (.lst []),aA,aA])=some (Ux W.length):=Z1 (n:=W.length) (lenW aA aA aA) (by omega);rw[p0,aL,h1,h2,Lg]
 show Yv 4 Ou _=_;unfold Ou;show(Zj _ _ [some (wP W),aA,aA,aA]).bind Xq=_;rw[ZF (s1:=[some (wP W),some (.lst []),aA,aA]) rfl,ZF e3];rfl
theorem D5{W:List (List Int)}(ok:ZN W):S1 [wP W]=some (.int (((eW W).length:Int)-(W.length:Int)+1)):=by rw[V3];exact Dv ok
noncomputable def D6(n:Nat)(m:Nat->Nat):List Int:=(aD n).map λx=>((m x:Nat):Int)
theorem HN(n:Nat)(m:Nat->Nat):(D6 n m).length=n:=by simp[D6]
theorem HP{n:Nat}{m:Nat->Nat}{x:Nat}(h:x<n):Zt (D6 n m) x=(m x:Int):=ZP h
theorem Nc{F:List Nat}(h:F.length<64):WQ [.lst (iL (nL F))]=some (.lst (iL (Xw (nL F)))):=by show(YQ (iL (nL F))).bind (λns=>if ns.length<64 then some (PV.lst (iL (Xw ns))) else aA)=_;rw[Ys];rw[aL,mM (by simpa [nL] using h)]
theorem KI{n:Nat}{E:List ZU}{m:Nat->Nat}{F L:List Nat}(h:TrOk n E m F L):F.length<=n:=by
 have e:=h.mark.eq
 have e1:XN (aD n) (F.map (ZC E))=((F.map (ZC E)).length:Int):=by
  have:∀T:List ZU,(∀e∈T,e.1<n/\e.2<n)->XN (aD n) T=(T.length:Int):=by
   intro T
   induction T with
   | nil=>intro _;rfl
   | cons e T ih=>
    intro hh;have q:N4 (aD n) e=aC:=by have:=hh e (by simp);unfold N4;simp[this.1,this.2]
    have:=ih λx hx=>hh x (by simp[hx]);unfold XN at this ⊢;rw[ag,bc,this,q,bA];show(1:Int)+_=_;omega
  exact this _ h.mark.inn
 have d:0<=Fc n m (aD n):=TQ λi _=>Kt _;rw[aH] at e1;omega
section
variable {W:List (List Int)} {c:Int}
abbrev YB(W:List (List Int))(c:Int)(m:Nat->Nat)(F L:List Nat)(num:Int)(x7 x8 x9 x10 x11:Option PV):ZS:=
 [some (wP W),some (.int c),some (.lst ((eW W).map YM)),some (.lst (iL (D6 W.length m))),some (.lst (iL (nL F))),some (.lst (iL (nL L))),some (.int num),x7,x8,x9,x10,x11]
theorem D7{m:Nat->Nat}{F L:List Nat}{num:Int}{a b i:Nat}{x7:Option PV}(ha:a<W.length)(hb:b<W.length)(hf:W.length<=7) :
  Zq 1 [11,3,10] (Yg (Za 3)) (.one 0) Zx (eP (RP (xB (Zd (YW aB) (Za 0) (Za 1))) (Zd Zv (Za 2) (Za 3)) (Za 0))) (YB W c m F L num x7 (some (.int (i:Int))) (some (.int (a:Int))) (some (.int (b:Int))) (some (.int (m a:Int))))=some (.lst (iL (D6 W.length (Yj m a b)))):=by
 rw[ZM (aD W.length) (λx=>.int (m x:Int)) (λx=>.int (Yj m a b x:Int)) (by
  show some (iL (D6 W.length m))=_;rw[D6,Qx]) (by simp;omega) (λx hx=>⟨[some (.int (m x:Int)),some (.int (m a:Int)),some (.lst (iL (D6 W.length m))),some (.int (b:Int))],rfl,rfl,?_⟩)]
 ·rw[D6,Qx]
 ·have t:xB (Zd (YW aB) (Za 0) (Za 1)) [some (.int (m x:Int)),some (.int (m a:Int)),some (.lst (iL (D6 W.length m))),some (.int (b:Int))]=some (decide (m x=m a)):=by show(YW aB (.int (m x:Int)) (.int (m a:Int))).bind AN=_;rw[WC];show some (decide ((m x:Int)=(m a:Int)))=_;congr 1;exact decide_eq_decide.mpr (by omega)
  refine vP ?_;rw[WO,t,aL];unfold Yj;by_cases q:m x=m a
  ·rw[decide_eq_true q,mM rfl,mM q];have:=DV (HN W.length m) b hb;rw[HP hb] at this;exact this
  ·rw[decide_eq_false q,mN (by decide),mN q];rfl
theorem Zck(L:List Nat)(p:Nat):(iL (nL L)).take p++(iL (nL L)).drop (p+1)=iL (nL (L.eraseIdx p)):=by rw[gR];unfold nL iL;rw[bB,bB,<-fZ,<-fZ,<-fg,<-fg]
theorem Fq(ok:ZN W)(c:Int):∃(m:Nat->Nat) (F:List Nat),U3 [wP W,.int c]=some (pP (Xw (nL F)))/\TrOk W.length (eW W) m F []:=by
 have hf:=ok.few;obtain⟨et,le⟩:=Qq ok;have hE:∀e∈eW W,e.1<W.length/\e.2<W.length:=λe he=>by have:=HM e he;exact⟨by omega,by omega⟩
 let fi:XS:=(Zj (Zi 11 (eP (Zd Zv (Za 3) (Za 9))))
  (Zj (Zi 3 (Zq 1 [11,3,10] (Yg (Za 3)) (.one 0) Zx (eP (RP (xB (Zd (YW aB) (Za 0) (Za 1))) (Zd Zv (Za 2) (Za 3)) (Za 0)))))
  (ZZ 4 (eP (Za 8)))))
 let fb:XS:=(Zj (Zi 8 (Zc Zu [Zd ZI (Za 1) (Zd Xa (Zd Xa (eC (.int 53)) (Za 7)) (Za 7)),Zd ZI (eC (.int 47)) (Za 7),Zc Zz [Za 5]]))
  (Zj (V9 (xB (Zd (YW aB) (Zd Z2 (Za 1) (eC (.int 2))) (eC (.int 1)))) (Zj (Zi 8 (eP (Zd Z2 (Za 6) (Zc Zz [Za 5]))))
  (Zi 6 (eP (Zd Xt (Za 6) (Zc Zz [Za 5]))))) Z6)
  (Zj (EU 8 5 (Za 8))
  (Zj (LZ (.many [9,10]) (Zd Zv (Za 2) (Za 8)))
  (V9 (xB (Zd (YW aC) (Zd Zv (Za 3) (Za 9)) (Zd Zv (Za 3) (Za 10)))) fi Z6)))))
 obtain⟨s',f1,m,F,L,num,x7,x8,x9,x10,x11,hs,tr,lL⟩:=Yh (T:=.one 7) (fb:=fb) (ls:=Ux (eW W).length) (s:=YB W c (λx=>x) [] (aD (eW W).length) (c/2) aA aA aA aA aA)
  (λi s=>∃m F L num x7 x8 x9 x10 x11,s=YB W c m F L num x7 x8 x9 x10 x11/\TrOk W.length (eW W) m F L/\L.length+i=(eW W).length) ⟨_,_,_,_,_,_,_,_,_,rfl,TrOk.start _ _,by simp⟩ (by
  rintro i l s hl ⟨m,F,L,num,x7,x8,x9,x10,x11,rfl,tr,lL⟩;obtain⟨hi,rfl⟩:=W9 hl;have sh:=KI tr;have K7:Option PV:=some (.int (i:Int));have lenL:∀num x8,Zc Zz [Za 5] (YB W c m F L num (some (.int (i:Int))) x8 x9 x10 x11)=some (.int (L.length:Int)):=λnum x8=>by show some (PV.int ((iL (nL L)).length:Int))=_;simp[nL]
  obtain⟨v,hv,ev⟩:=YY (c+53*(i:Int)*(i:Int)) (t:=47+i) (m:=L.length) (by omega) (by omega)
  have q1:Zi 8 (Zc Zu [Zd ZI (Za 1) (Zd Xa (Zd Xa (eC (.int 53)) (Za 7)) (Za 7)),Zd ZI (eC (.int 47)) (Za 7),Zc Zz [Za 5]]) (YB W c m F L num (some (.int (i:Int))) x8 x9 x10 x11)=some (.nx (YB W c m F L num (some (.int (i:Int))) (some (.int (v:Int))) x9 x10 x11)):=by
   have a1:Zd Xa (eC (.int 53)) (Za 7) (YB W c m F L num (some (.int (i:Int))) x8 x9 x10 x11)=some (.int (53*(i:Int))):=vC (C:=CMul) (op:=(· * ·)) (a:=53) rfl rfl (Jp (by omega) (by omega));have a2:Zd Xa (Zd Xa (eC (.int 53)) (Za 7)) (Za 7) (YB W c m F L num (some (.int (i:Int))) x8 x9 x10 x11)=some (.int (53*(i:Int)*(i:Int))):=vC (C:=CMul) (op:=(· * ·)) a1 rfl (.inl (by omega));have a3:Zd ZI (Za 1) (Zd Xa (Zd Xa (eC (.int 53)) (Za 7)) (Za 7)) (YB W c m F L num (some (.int (i:Int))) x8 x9 x10 x11)=some (.int (c+53*(i:Int)*(i:Int))):=vI (op:=(· + ·)) rfl a2;have a4:Zd ZI (eC (.int 47)) (Za 7) (YB W c m F L num (some (.int (i:Int))) x8 x9 x10 x11)=some (.int ((47+i:Nat):Int)):=by have:=vI (op:=(· + ·)) (f:=eC (.int 47)) (g:=Za 7) (s:=YB W c m F L num (some (.int (i:Int))) x8 x9 x10 x11) (a:=47) (b:=(i:Int)) rfl rfl;rw[show((47+i:Nat):Int)=47+(i:Int) by omega];exact this
   have:Zc Zu [Zd ZI (Za 1) (Zd Xa (Zd Xa (eC (.int 53)) (Za 7)) (Za 7)),Zd ZI (eC (.int 47)) (Za 7),Zc Zz [Za 5]] (YB W c m F L num (some (.int (i:Int))) x8 x9 x10 x11)=some (.int (v:Int)):=by rw[ZD,Zk,a3,Zk,a4,Zk,lenL];exact ev
   rw[Zs,this];rfl
  obtain⟨p,num',hp,q2⟩:∃(p:Nat) (num':Int),p<L.length/\V9 (xB (Zd (YW aB) (Zd Z2 (Za 1) (eC (.int 2))) (eC (.int 1)))) (Zj (Zi 8 (eP (Zd Z2 (Za 6) (Zc Zz [Za 5])))) (Zi 6 (eP (Zd Xt (Za 6) (Zc Zz [Za 5]))))) Z6 (YB W c m F L num (some (.int (i:Int))) (some (.int (v:Int))) x9 x10 x11)=some (.nx (YB W c m F L num' (some (.int (i:Int))) (some (.int (p:Int))) x9 x10 x11)):=by
   have mo:Zd Z2 (Za 1) (eC (.int 2)) (YB W c m F L num (some (.int (i:Int))) (some (.int (v:Int))) x9 x10 x11)=some (.int (c%2)):=vC (C:=λ_ j=>0<j) (op:=(· % ·)) rfl rfl (by decide);have t:xB (Zd (YW aB) (Zd Z2 (Za 1) (eC (.int 2))) (eC (.int 1))) (YB W c m F L num (some (.int (i:Int))) (some (.int (v:Int))) x9 x10 x11)=some (decide (c%2=1)):=by rw[UB,Ya,mo];show(YW aB (.int (c%2)) (.int 1)).bind AN=_;rw[WC];rfl
   by_cases q:c%2=1
   ·obtain⟨r,hr,er⟩:=X5 num (m:=L.length) (by omega);refine⟨r,num/(L.length:Int),hr,?_⟩;have r1:Zi 8 (eP (Zd Z2 (Za 6) (Zc Zz [Za 5]))) (YB W c m F L num (some (.int (i:Int))) (some (.int (v:Int))) x9 x10 x11)=some (.nx (YB W c m F L num (some (.int (i:Int))) (some (.int (r:Int))) x9 x10 x11)):=by rw[Zs,vP (a:=(r:Int)) (by rw[<-er];exact vC (C:=λ_ j=>0<j) (op:=(· % ·)) (a:=num) rfl (lenL num _) (by omega))];rfl
    have r2:Zi 6 (eP (Zd Xt (Za 6) (Zc Zz [Za 5]))) (YB W c m F L num (some (.int (i:Int))) (some (.int (r:Int))) x9 x10 x11)=some (.nx (YB W c m F L (num/(L.length:Int)) (some (.int (i:Int))) (some (.int (r:Int))) x9 x10 x11)):=by rw[Zs,vP (a:=num/(L.length:Int)) (vC (C:=UM) (op:=(· / ·)) (a:=num) rfl (lenL num _) (MC (by omega) (by omega)))];rfl
    rw[Yd,t,decide_eq_true q,aL,mM rfl,ZF r1,r2]
   ·refine⟨v,num,hv,?_⟩;rw[Yd,t,decide_eq_false q];rfl
  have li:L[p]<(eW W).length:=tr.inn _ (aY _ (bY hp))
  have q3:EU 8 5 (Za 8) (YB W c m F L num' (some (.int (i:Int))) (some (.int (p:Int))) x9 x10 x11)=some (.nx (YB W c m F (L.eraseIdx p) num' (some (.int (i:Int))) (some (.int ((L[p]:Nat):Int))) x9 x10 x11)):=by
   have g:(iL (nL L))[p]?=some (.int ((L[p]:Nat):Int)):=by rw[P4 (by simpa [nL] using hp)];simp[nL,Zt,hp]
   have d:gd (ZH (iL (nL L))&&decide (0<=(p:Int)/\(p:Int)<10000/\(iL (nL L)).length<=10000))=some ():=Tx (by
    rw[av];exact⟨Z5 _,decide_eq_true ⟨by omega,by omega,by simp[nL];omega⟩⟩)
   unfold EU;show(gd (ZH (iL (nL L))&&decide (0<=(p:Int)/\(p:Int)<10000/\(iL (nL L)).length<=10000))).bind (λ_=>((iL (nL L))[((p:Nat):Int).toNat]?).bind λl=>some (Out.nx _))=_;rw[d,aL,bR,g,aL,Zck];rfl
  let e:=ZC (eW W) L[p];have eE:e∈eW W:=by show ZC (eW W) L[p]∈eW W;unfold ZC;rw[aE,aF li];exact bY li
  have h1:e.1<W.length:=(hE e eE).1;have h2:e.2<W.length:=(hE e eE).2
  have q4:LZ (.many [9,10]) (Zd Zv (Za 2) (Za 8)) (YB W c m F (L.eraseIdx p) num' (some (.int (i:Int))) (some (.int ((L[p]:Nat):Int))) x9 x10 x11)=some (.nx (YB W c m F (L.eraseIdx p) num' (some (.int (i:Int))) (some (.int ((L[p]:Nat):Int))) (some (.int (e.1:Int))) (some (.int (e.2:Int))) x11)):=by
   have g:Zd Zv (Za 2) (Za 8) (YB W c m F (L.eraseIdx p) num' (some (.int (i:Int))) (some (.int ((L[p]:Nat):Int))) x9 x10 x11)=some (YM e):=by refine SV (l:=(eW W).map YM) (k:=L[p]) ?_;rw[aR,aF li];show some (YM (eW W)[L[p]])=some (YM (ZC (eW W) L[p]));unfold ZC;rw[aE,aF li];rfl
   unfold LZ;rw[g];rfl
  have m1:∀(z:Nat),z<W.length->Zv (.lst (iL (D6 W.length m))) (.int (z:Int))=some (.int (m z:Int)):=λz hz=>by rw[DV (HN W.length m) z hz,HP hz]
  have t5:xB (Zd (YW aC) (Zd Zv (Za 3) (Za 9)) (Zd Zv (Za 3) (Za 10))) (YB W c m F (L.eraseIdx p) num' (some (.int (i:Int))) (some (.int ((L[p]:Nat):Int))) (some (.int (e.1:Int))) (some (.int (e.2:Int))) x11)=some (!decide (m e.1=m e.2)):=by have g1:Zd Zv (Za 3) (Za 9) (YB W c m F (L.eraseIdx p) num' (some (.int (i:Int))) (some (.int ((L[p]:Nat):Int))) (some (.int (e.1:Int))) (some (.int (e.2:Int))) x11)=some (.int (m e.1:Int)):=m1 e.1 h1;have g2:Zd Zv (Za 3) (Za 10) (YB W c m F (L.eraseIdx p) num' (some (.int (i:Int))) (some (.int ((L[p]:Nat):Int))) (some (.int (e.1:Int))) (some (.int (e.2:Int))) x11)=some (.int (m e.2:Int)):=m1 e.2 h2;rw[UB,Ya,g1,g2];show(YW aC (.int (m e.1:Int)) (.int (m e.2:Int))).bind AN=_;rw[WC];show some (!decide ((m e.1:Int)=(m e.2:Int)))=_;rw[decide_eq_decide.mpr (i9 (m:=m e.1) (n:=m e.2))]
  obtain⟨st1,st2⟩:=tr.step hE hp;have lL':(L.eraseIdx p).length+(i+1)=(eW W).length:=by rw[List.length_eraseIdx_of_lt hp];omega
  by_cases q:m e.1=m e.2
  ·have q5:V9 (xB (Zd (YW aC) (Zd Zv (Za 3) (Za 9)) (Zd Zv (Za 3) (Za 10)))) fi Z6 (YB W c m F (L.eraseIdx p) num' (some (.int (i:Int))) (some (.int ((L[p]:Nat):Int))) (some (.int (e.1:Int))) (some (.int (e.2:Int))) x11)=some (.nx (YB W c m F (L.eraseIdx p) num' (some (.int (i:Int))) (some (.int ((L[p]:Nat):Int))) (some (.int (e.1:Int))) (some (.int (e.2:Int))) x11)):=by rw[Yd,t5,decide_eq_true q];rfl
   exact⟨YB W c m F L num (some (.int (i:Int))) x8 x9 x10 x11,_,rfl,(by show Zj _ _ _=_;rw[ZF q1,ZF q2,ZF q3,ZF q4,q5]),_,_,_,_,_,_,_,_,_,rfl,st2 q,lL'⟩
  ·have r1:Zi 11 (eP (Zd Zv (Za 3) (Za 9))) (YB W c m F (L.eraseIdx p) num' (some (.int (i:Int))) (some (.int ((L[p]:Nat):Int))) (some (.int (e.1:Int))) (some (.int (e.2:Int))) x11)=some (.nx (YB W c m F (L.eraseIdx p) num' (some (.int (i:Int))) (some (.int ((L[p]:Nat):Int))) (some (.int (e.1:Int))) (some (.int (e.2:Int))) (some (.int (m e.1:Int))))):=by have g1:Zd Zv (Za 3) (Za 9) (YB W c m F (L.eraseIdx p) num' (some (.int (i:Int))) (some (.int ((L[p]:Nat):Int))) (some (.int (e.1:Int))) (some (.int (e.2:Int))) x11)=some (.int (m e.1:Int)):=m1 e.1 h1;rw[Zs,vP g1];rfl
   have r2:Zi 3 (Zq 1 [11,3,10] (Yg (Za 3)) (.one 0) Zx (eP (RP (xB (Zd (YW aB) (Za 0) (Za 1))) (Zd Zv (Za 2) (Za 3)) (Za 0)))) (YB W c m F (L.eraseIdx p) num' (some (.int (i:Int))) (some (.int ((L[p]:Nat):Int))) (some (.int (e.1:Int))) (some (.int (e.2:Int))) (some (.int (m e.1:Int))))=some (.nx (YB W c (Yj m e.1 e.2) F (L.eraseIdx p) num' (some (.int (i:Int))) (some (.int ((L[p]:Nat):Int))) (some (.int (e.1:Int))) (some (.int (e.2:Int))) (some (.int (m e.1:Int))))):=by rw[Zs,D7 h1 h2 hf];rfl
   have r3:ZZ 4 (eP (Za 8)) (YB W c (Yj m e.1 e.2) F (L.eraseIdx p) num' (some (.int (i:Int))) (some (.int ((L[p]:Nat):Int))) (some (.int (e.1:Int))) (some (.int (e.2:Int))) (some (.int (m e.1:Int))))=some (.nx (YB W c (Yj m e.1 e.2) (F++[L[p]]) (L.eraseIdx p) num' (some (.int (i:Int))) (some (.int ((L[p]:Nat):Int))) (some (.int (e.1:Int))) (some (.int (e.2:Int))) (some (.int (m e.1:Int))))):=by
    rw[Xh (l:=.int ((L[p]:Nat):Int)) (m:=iL (nL F)) (vP rfl) rfl (by simp[nL];omega)];have:iL (nL F)++[.int ((L[p]:Nat):Int)]=iL (nL (F++[L[p]])):=by simp[nL]
    rw[this];rfl
   have q5:V9 (xB (Zd (YW aC) (Zd Zv (Za 3) (Za 9)) (Zd Zv (Za 3) (Za 10)))) fi Z6 (YB W c m F (L.eraseIdx p) num' (some (.int (i:Int))) (some (.int ((L[p]:Nat):Int))) (some (.int (e.1:Int))) (some (.int (e.2:Int))) x11)=some (.nx (YB W c (Yj m e.1 e.2) (F++[L[p]]) (L.eraseIdx p) num' (some (.int (i:Int))) (some (.int ((L[p]:Nat):Int))) (some (.int (e.1:Int))) (some (.int (e.2:Int))) (some (.int (m e.1:Int))))):=by rw[Yd,t5,decide_eq_false q];show Zj _ _ _=_;rw[ZF r1,ZF r2,r3]
   exact⟨YB W c m F L num (some (.int (i:Int))) x8 x9 x10 x11,_,rfl,(by show Zj _ _ _=_;rw[ZF q1,ZF q2,ZF q3,ZF q4,q5]),_,_,_,_,_,_,_,_,_,rfl,st1 q,lL'⟩)
 subst hs;rw[Va] at lL;have hL:L=[]:=eJ.mp (by omega);subst hL;refine⟨m,F,?_,tr⟩
 have lenE:∀s:ZS,s[2]?=some (some (.lst ((eW W).map YM)))->Zc Zz [Za 2] s=some (.int ((eW W).length:Int)):=λs h=>by
  have a:Za 2 s=some (.lst ((eW W).map YM)):=by show s[2]?.bind id=_;rw[h];rfl
  rw[ZD,Zk,a];show some (PV.int (((eW W).map YM).length:Int))=_;rw[aH]
 have lenW:∀x2 x3 x4 x5 x6:Option PV,Zc Zz [Za 0] [some (wP W),some (.int c),x2,x3,x4,x5,x6,aA,aA,aA,aA,aA]=some (.int (W.length:Int)):=λx2 x3 x4 x5 x6=>by show some (PV.int ((W.map pP).length:Int))=_;rw[aH]
 have lr:∀(k:Nat),k<=10000->Vc (.int (k:Int))=some (.lst (iL (nL (aD k)))):=λk hk=>by show(if 0<=(k:Int)/\(k:Int)<=10000 then some (PV.lst (iL ((aD (k:Int).toNat).map λ(i:Nat)=>(i:Int)))) else aA)=_;rw[mM ⟨by omega,by omega⟩,bR];rfl
 have e1:Zi 2 (Zc Ww [Za 0]) [some (wP W),some (.int c),aA,aA,aA,aA,aA,aA,aA,aA,aA,aA]=some (.nx [some (wP W),some (.int c),some (.lst ((eW W).map YM)),aA,aA,aA,aA,aA,aA,aA,aA,aA]):=by have:Zc Ww [Za 0] [some (wP W),some (.int c),aA,aA,aA,aA,aA,aA,aA,aA,aA,aA]=some (.lst ((eW W).map YM)):=et;rw[Zs,this];rfl
 have e2:Zi 3 (Lr Vc (Zc Zz [Za 0])) [some (wP W),some (.int c),some (.lst ((eW W).map YM)),aA,aA,aA,aA,aA,aA,aA,aA,aA]=some (.nx [some (wP W),some (.int c),some (.lst ((eW W).map YM)),some (.lst (iL (nL (aD W.length)))),aA,aA,aA,aA,aA,aA,aA,aA]):=by
  have:Lr Vc (Zc Zz [Za 0]) [some (wP W),some (.int c),some (.lst ((eW W).map YM)),aA,aA,aA,aA,aA,aA,aA,aA,aA]=some (.lst (iL (nL (aD W.length)))):=by show(Zc Zz [Za 0] _).bind Vc=_;rw[lenW];exact lr W.length (by omega)
  rw[Zs,this];rfl
 have e4:Zi 5 (Lr Vc (Zc Zz [Za 2])) [some (wP W),some (.int c),some (.lst ((eW W).map YM)),some (.lst (iL (nL (aD W.length)))),some (.lst []),aA,aA,aA,aA,aA,aA,aA]=some (.nx [some (wP W),some (.int c),some (.lst ((eW W).map YM)),some (.lst (iL (nL (aD W.length)))),some (.lst []),some (.lst (iL (nL (aD (eW W).length)))),aA,aA,aA,aA,aA,aA]):=by
  have:Lr Vc (Zc Zz [Za 2]) [some (wP W),some (.int c),some (.lst ((eW W).map YM)),some (.lst (iL (nL (aD W.length)))),some (.lst []),aA,aA,aA,aA,aA,aA,aA]=some (.lst (iL (nL (aD (eW W).length)))):=by show(Zc Zz [Za 2] _).bind Vc=_;rw[lenE _ rfl];exact lr _ (by omega)
  rw[Zs,this];rfl
 have e5:Zi 6 (eP (Zd Xt (Za 1) (eC (.int 2)))) [some (wP W),some (.int c),some (.lst ((eW W).map YM)),some (.lst (iL (nL (aD W.length)))),some (.lst []),some (.lst (iL (nL (aD (eW W).length)))),aA,aA,aA,aA,aA,aA]=some (.nx (YB W c (λx=>x) [] (aD (eW W).length) (c/2) aA aA aA aA aA)):=by rw[Zs,vP (a:=c/2) (vC (C:=UM) (op:=(· / ·)) (a:=c) rfl rfl (MC (by decide) (by decide)))];rfl
 have e6:Yz [4,5] (ZE [Zc Zz [Za 2]]) (.one 7) fb (YB W c (λx=>x) [] (aD (eW W).length) (c/2) aA aA aA aA aA)=some (.nx (YB W c m F [] num x7 x8 x9 x10 x11)):=by show(ZE [Zc Zz [Za 2]] (ZX [4,5] (YB W c (λx=>x) [] (aD (eW W).length) (c/2) aA aA aA aA aA))).bind _=_;rw[Z1 (n:=(eW W).length) (lenE _ rfl) (by omega)];exact f1
 have sh:=KI tr;show Yv 12 Ov _=_;unfold Ov;show(Zj _ _ [some (wP W),some (.int c),aA,aA,aA,aA,aA,aA,aA,aA,aA,aA]).bind Xq=_;rw[ZF e1,ZF e2,ZF (s1:=[some (wP W),some (.int c),some (.lst ((eW W).map YM)),some (.lst (iL (nL (aD W.length)))),some (.lst []),aA,aA,aA,aA,aA,aA,aA]) rfl,ZF e4,ZF e5,ZF e6]
 rw[Vm (v:=pP (Xw (nL F))) (by
  have g:Zc WQ [Za 4] (YB W c m F [] num x7 x8 x9 x10 x11)=some (.lst (iL (Xw (nL F)))):=Nc (by omega);rw[YR,ZD,Zk,g];exact J0 (s:=YB W c m F [] num x7 x8 x9 x10 x11))]
 rfl
end
theorem HQ(neg:Bool)(a:Int)(l:List Int):Uw neg (.int a) (pP l)=some (.bl (if neg then !decide (a∈l) else decide (a∈l))):=by
 unfold Uw;have c:((iL l).all λz=>Wu 8 z (.int a))=aC:=by rw[jO,bM];intro x _;rfl
 show(some (iL l)).bind _=_;simp only[aL,mM c]
 have:decide (PV.int a∈iL l)=decide (a∈l):=decide_eq_decide.mpr (by
  rw[b7];constructor
  ·rintro⟨x,hx,e⟩;cases e;exact hx
  ·intro h;exact⟨a,h,rfl⟩)
 rw[this]
noncomputable def QQ(W:List (List Int))(F:List Nat):List ZU:=(O2 (eW W) F).map (ZC (eW W))
theorem D8{W:List (List Int)}{F:List Nat}:(QQ W F).length<=(eW W).length:=by unfold QQ O2;rw[aH];exact bX (List.length_filter_le _ _) (by simp)
theorem Ag{W:List (List Int)}{F:List Nat}:∀e∈QQ W F,e.1<W.length/\e.2<W.length:=λe he=>by
 unfold QQ at he;obtain⟨i,hi,rfl⟩:=b7.mp he;have li:i<(eW W).length:=aW.mp (cN.mp hi).1;have:ZC (eW W) i∈eW W:=by unfold ZC;rw[aE,aF li];exact bY li
 have:=HM _ this;exact⟨by omega,by omega⟩
theorem Lh{W:List (List Int)}(ok:ZN W){F:List Nat}{T:List Int}(hT:∀k:Nat,(k:Int)∈T↔k∈F):Wx [wP W,pP T]=some (.lst ((QQ W F).map YM)):=by
 obtain⟨et,le⟩:=Qq ok;have e1:Zi 2 (Zc Ww [Za 0]) [some (wP W),some (pP T),aA]=some (.nx [some (wP W),some (pP T),some (.lst ((eW W).map YM))]):=by have:Zc Ww [Za 0] [some (wP W),some (pP T),aA]=some (.lst ((eW W).map YM)):=et;rw[Zs,this];rfl
 have ln:Zc Zz [Za 2] [some (wP W),some (pP T),some (.lst ((eW W).map YM))]=some (.int ((eW W).length:Int)):=by show some (PV.int (((eW W).map YM).length:Int))=_;rw[aH]
 have hc:Zq 1 [2,1] (ZE [Zc Zz [Za 2]]) (.one 0) (xB (Zd (Uw aC) (Za 0) (Za 2))) (eP (Zd Zv (Za 1) (Za 0))) [some (wP W),some (pP T),some (.lst ((eW W).map YM))]=some (.lst ((QQ W F).map YM)):=by
  rw[XZ (aD (eW W).length) (λ(i:Nat)=>.int (i:Int)) (λi=>YM (ZC (eW W) i)) (λk=>decide (k∉F)) (Z1 ln (by omega)) (by simp;omega) (λi hi=>⟨[some (.int (i:Int)),some (.lst ((eW W).map YM)),some (pP T)],rfl,?_,λ_=>?_⟩)]
  ·unfold QQ O2;rw[bS];rfl
  ·have gi:Zd (Uw aC) (Za 0) (Za 2) [some (.int (i:Int)),some (.lst ((eW W).map YM)),some (pP T)]=some (.bl (!decide ((i:Int)∈T))):=HQ aC i T;rw[UB,gi];show some (!decide ((i:Int)∈T))=_;congr 1;by_cases q:i∈F
   ·rw[decide_eq_true ((hT i).mpr q),decide_eq_false (λz:i∉F=>z q)];rfl
   ·rw[decide_eq_false (λz=>q ((hT i).mp z)),decide_eq_true q];rfl
  ·have li:i<(eW W).length:=aW.mp hi;have:Zd Zv (Za 1) (Za 0) [some (.int (i:Int)),some (.lst ((eW W).map YM)),some (pP T)]=some (YM (ZC (eW W) i)):=by refine SV (l:=(eW W).map YM) (k:=i) ?_;rw[aR,aF li];unfold ZC;rw[aE,aF li];rfl
   rw[YR,this];rfl
 show Yv 3 U4 _=_;unfold U4;show(Zj _ _ [some (wP W),some (pP T),aA]).bind Xq=_;rw[ZF e1,Vm hc];rfl
theorem Qy(β:Nat->Bool):∀(S:List ZU)(k:Nat),(aD S.length).map (λi=>Qu β (k+i) (S.getD i (0,0)))=X8 β k S
 | [],k=>rfl
 | e::S,k=>by rw[bA,gL,ag,bS,X8,<-Qy β S (k+1)];congr 1;refine ak λi _=>?_;show Qu β (k+(i+1)) ((e::S).getD (i+1) (0,0))=_;rw[show k+(i+1)=k+1+i by omega];simp
theorem Ia(x:Int):dt x 1=0\/dt x 1=1:=by
 unfold dt;have h1:decide ((0:Int)<=1)=aC:=by decide
 rw[h1]
 cases decide (0<=x) with
 | true=>
  show((x.toNat&&& (1:Int).toNat:Nat):Int)=0\/((x.toNat&&& (1:Int).toNat:Nat):Int)=1;have:x.toNat&&& (1:Int).toNat=x.toNat%2:=kU _;rw[this];omega
 | false=>
  show(1:Int)-(((1:Int).toNat&&& (fG x).toNat:Nat):Int)=0\/(1:Int)-(((1:Int).toNat&&& (fG x).toNat:Nat):Int)=1;have:(1:Int).toNat&&& (fG x).toNat=(fG x).toNat%2:=by rw[Nat.and_comm];exact kU _
  rw[this];omega
theorem Zcl(e:ZU)(b:Bool):Zv (YM e) (.int (if b=aC then 1 else 0))=some (.int ((if b=aC then e.2 else e.1:Nat):Int)):=by cases b<;>rfl
theorem Fs{W:List (List Int)}(ok:ZN W){F:List Nat}{T:List Int}(hT:∀k:Nat,(k:Int)∈T↔k∈F)(c:Int):∃β,U6 [wP W,pP T,.int c]=some (pP (nL (X8 β 0 (QQ W F)))):=by
 have le:=(Qq ok).2;have lo:=D8 (W:=W) (F:=F);generalize hS:QQ W F=S at lo
 have e1:Zi 3 (Zc Wx [Za 0,Za 1]) [some (wP W),some (pP T),some (.int c),aA,aA]=some (.nx [some (wP W),some (pP T),some (.int c),some (.lst (S.map YM)),aA]):=by
  have:Zc Wx [Za 0,Za 1] [some (wP W),some (pP T),some (.int c),aA,aA]=some (.lst (S.map YM)):=by rw[<-hS];exact Lh ok hT
  rw[Zs,this];rfl
 have ln:∀x4,Zc Zz [Za 3] [some (wP W),some (pP T),some (.int c),some (.lst (S.map YM)),x4]=some (.int (S.length:Int)):=λx4=>by show some (PV.int ((S.map YM).length:Int))=_;rw[aH]
 have mo:Zd Z2 (Za 2) (eC (.int 2)) [some (wP W),some (pP T),some (.int c),some (.lst (S.map YM)),aA]=some (.int (c%2)):=vC (C:=λ_ j=>0<j) (op:=(· % ·)) rfl rfl (by decide);have t:xB (Zd (YW aB) (Zd Z2 (Za 2) (eC (.int 2))) (eC (.int 1))) [some (wP W),some (pP T),some (.int c),some (.lst (S.map YM)),aA]=some (decide (c%2=1)):=by rw[UB,Ya,mo];show(YW aB (.int (c%2)) (.int 1)).bind AN=_;rw[WC];rfl
 have tie:∀(x:Option PV)(k:Nat),k<S.length->Zd Zv (Za 1) (Za 0) [some (.int (k:Int)),some (.lst (S.map YM)),x]=some (YM (S.getD k (0,0))):=λx k hk=>by refine SV (l:=S.map YM) (k:=k) ?_;rw[aR,aF hk,aE,aF hk];rfl
 -- what the two ways have in common
 have both:∀(ix:Nat)(x4 x:Option PV)(fe:XE)(hx:compEnv 1 [3,ix] [some (wP W),some (pP T),some (.int c),some (.lst (S.map YM)),x4]=[aA,some (.lst (S.map YM)),x])(β:Nat->Bool),(∀k,k<S.length->fe [some (.int (k:Int)),some (.lst (S.map YM)),x]=some (.int (if β k=aC then 1 else 0)))->
   eP (Zc ZR [Zq 1 [3,ix] (ZE [Zc Zz [Za 3]]) (.one 0) Zx (Zd Zv (Zd Zv (Za 1) (Za 0)) fe)]) [some (wP W),some (pP T),some (.int c),some (.lst (S.map YM)),x4]=some (pP (nL (X8 β 0 S))):=λix x4 x fe hx β hβ=>by
  have hc:Zq 1 [3,ix] (ZE [Zc Zz [Za 3]]) (.one 0) Zx (Zd Zv (Zd Zv (Za 1) (Za 0)) fe) [some (wP W),some (pP T),some (.int c),some (.lst (S.map YM)),x4]=some (.lst (iL (nL (X8 β 0 S)))):=by
   rw[ZM (aD S.length) (λ(i:Nat)=>.int (i:Int)) (λk=>.int ((Qu β k (S.getD k (0,0)):Nat):Int)) (Z1 (ln x4) (by omega)) (by simp;omega) (λk hk=>⟨[some (.int (k:Int)),some (.lst (S.map YM)),x],by rw[hx];rfl,rfl,?_⟩)]
   ·rw[<-Qy β S 0];unfold nL;rw[Qx,bS];simp only[Function.comp_def,Nat.zero_add]
   ·have hk:=aW.mp hk;rw[Ya,tie x k hk,hβ k hk];exact Zcl _ _
  rw[YR,ZD,Zk,hc];exact J0 (s:=[])
 by_cases q:c%2=1
 ·let y:=c/2/479001600
  have bits:∀k:Nat,∃b:Bool,Zd Bf (Zd Eg (Za 2) (Za 0)) (eC (.int 1)) [some (.int (k:Int)),some (.lst (S.map YM)),some (.int y)]=some (.int (if b=aC then 1 else 0)):=λk=>by
   have a:Zd Eg (Za 2) (Za 0) [some (.int (k:Int)),some (.lst (S.map YM)),some (.int y)]=some (.int (y/2^(k:Int).toNat)):=vC (C:=λ_ j=>0<=j) (op:=λi j=>i/2^j.toNat) (a:=y) (b:=(k:Int)) rfl rfl (by omega);have b:Zd Bf (Zd Eg (Za 2) (Za 0)) (eC (.int 1)) [some (.int (k:Int)),some (.lst (S.map YM)),some (.int y)]=some (.int (dt (y/2^(k:Int).toNat) 1)):=vI (op:=dt) a rfl;rcases Ia (y/2^(k:Int).toNat) with z | z
   ·exact⟨aB,by rw[b,z];rfl⟩
   ·exact⟨aC,by rw[b,z];rfl⟩
  obtain⟨β,hβ⟩:=iu bits;refine⟨β,?_⟩;have e2:Zi 4 (eP (Zd Xt (Zd Xt (Za 2) (eC (.int 2))) (eC (.int 479001600)))) [some (wP W),some (pP T),some (.int c),some (.lst (S.map YM)),aA]=some (.nx [some (wP W),some (pP T),some (.int c),some (.lst (S.map YM)),some (.int y)]):=by have a:Zd Xt (Za 2) (eC (.int 2)) [some (wP W),some (pP T),some (.int c),some (.lst (S.map YM)),aA]=some (.int (c/2)):=vC (C:=UM) (op:=(· / ·)) (a:=c) rfl rfl (MC (by decide) (by decide));rw[Zs,vP (a:=y) (vC (C:=UM) (op:=(· / ·)) a rfl ⟨by decide,by decide⟩)];rfl
  show Yv 5 U5 _=_;unfold U5;show(Zj _ _ [some (wP W),some (pP T),some (.int c),aA,aA]).bind Xq=_;rw[ZF e1,DN (v:=pP (nL (X8 β 0 S)))]
  ·rfl
  ·rw[Yd,t,decide_eq_true q,aL,mM rfl,ZF e2];exact Vm (both 4 (some (.int y)) (some (.int y)) _ rfl β λk _=>hβ k)
 ·have bits:∀k:Nat,∃b:Bool,k<S.length->Zc Zu [Zd ZI (Za 2) (Zd Xa (Zd Xa (eC (.int 59)) (Za 0)) (Za 0)),Zd ZI (eC (.int 61)) (Za 0),eC (.int 2)] [some (.int (k:Int)),some (.lst (S.map YM)),some (.int c)]=some (.int (if b=aC then 1 else 0)):=λk=>by
   by_cases hk:k<S.length
   ·have hk':k<=441:=by omega
    obtain⟨v,hv,ev⟩:=YY (c+59*(k:Int)*(k:Int)) (t:=61+k) (m:=2) (by omega) (by omega);have a1:Zd Xa (eC (.int 59)) (Za 0) [some (.int (k:Int)),some (.lst (S.map YM)),some (.int c)]=some (.int (59*(k:Int))):=vC (C:=CMul) (op:=(· * ·)) (a:=59) rfl rfl (Jp (by omega) (by omega));have a2:Zd Xa (Zd Xa (eC (.int 59)) (Za 0)) (Za 0) [some (.int (k:Int)),some (.lst (S.map YM)),some (.int c)]=some (.int (59*(k:Int)*(k:Int))):=vC (C:=CMul) (op:=(· * ·)) a1 rfl (.inl (by omega));have a3:Zd ZI (Za 2) (Zd Xa (Zd Xa (eC (.int 59)) (Za 0)) (Za 0)) [some (.int (k:Int)),some (.lst (S.map YM)),some (.int c)]=some (.int (c+59*(k:Int)*(k:Int))):=vI (op:=(· + ·)) rfl a2;have a4:Zd ZI (eC (.int 61)) (Za 0) [some (.int (k:Int)),some (.lst (S.map YM)),some (.int c)]=some (.int ((61+k:Nat):Int)):=by have:=vI (op:=(· + ·)) (f:=eC (.int 61)) (g:=Za 0) (s:=[some (.int (k:Int)),some (.lst (S.map YM)),some (.int c)]) (a:=61) (b:=(k:Int)) rfl rfl;rw[show((61+k:Nat):Int)=61+(k:Int) by omega];exact this
    have r:Zc Zu [Zd ZI (Za 2) (Zd Xa (Zd Xa (eC (.int 59)) (Za 0)) (Za 0)),Zd ZI (eC (.int 61)) (Za 0),eC (.int 2)] [some (.int (k:Int)),some (.lst (S.map YM)),some (.int c)]=some (.int (v:Int)):=by rw[ZD,Zk,a3,Zk,a4];exact ev
    have:v=0\/v=1:=by omega
    rcases this with rfl | rfl
    ·exact⟨aB,λ_=>r⟩
    ·exact⟨aC,λ_=>r⟩
   ·exact⟨aB,λz=>absurd z hk⟩
  obtain⟨β,hβ⟩:=iu bits;refine⟨β,?_⟩;show Yv 5 U5 _=_;unfold U5;show(Zj _ _ [some (wP W),some (pP T),some (.int c),aA,aA]).bind Xq=_;rw[ZF e1,ZF (s1:=[some (wP W),some (pP T),some (.int c),some (.lst (S.map YM)),aA]) (by rw[Yd,t,decide_eq_false q];rfl)];rw[Vm (both 2 aA (some (.int c)) _ rfl β hβ)];rfl
noncomputable def YD(n:Nat)(X:List Nat):List Int:=(aD n).map λh=>((X.count h:Nat):Int)
theorem Ss(n:Nat)(X:List Nat):(YD n X).length=n:=by simp[YD]
theorem TR{n:Nat}{X:List Nat}{h:Nat}(hh:h<n):Zt (YD n X) h=((X.count h:Nat):Int):=ZP hh
theorem Ib{W:List (List Int)}(ok:ZN W){X:List Nat}(hX:∀x∈X,x<W.length):Ue [wP W,pP (nL X)]=some (pP (YD W.length X)):=by
 have hf:=ok.few;let st:Nat->Option PV->ZS:=λi x3=>[some (wP W),some (pP (nL X)),some (.lst (iL (YD W.length (X.take i)))),x3];let fb:XS:=UY 2 (Za 3) (Zd ZI (Zd Zv (Za 2) (Za 3)) (eC (.int 1)))
 have e1:Zi 2 (Zd SS (Yu [eC (.int 0)]) (Zc Zz [Za 0])) [some (wP W),some (pP (nL X)),aA,aA]=some (.nx (st 0 aA)):=by
  have ln:Zc Zz [Za 0] [some (wP W),some (pP (nL X)),aA,aA]=some (.int (W.length:Int)):=by show some (PV.int ((W.map pP).length:Int))=_;rw[aH]
  have r:Zd SS (Yu [eC (.int 0)]) (Zc Zz [Za 0]) [some (wP W),some (pP (nL X)),aA,aA]=some (.lst (iL (YD W.length []))):=by
   rw[Ya,ln];have z:YD W.length []=aN W.length 0:=by unfold YD;exact fL (by simp) (by intros;simp)
   rw[z];show(if ZH [PV.int 0]=aC/\(-1000000:Int)<=(W.length:Int)/\(W.length:Int)<=1000000/\[PV.int 0].length*((W.length:Int)).toNat<=10000 then some (PV.lst (aN ((W.length:Int)).toNat [PV.int 0]).flatten) else aA)=_;rw[mM ⟨rfl,by omega,by omega,by simp;omega⟩,bR,SF];simp
  rw[Zs,r];rfl
 obtain⟨s',f1,x3,hs⟩:=Yh (T:=.one 3) (fb:=fb) (ls:=iL (nL X)) (s:=st 0 aA) (λi s=>∃x3,s=st i x3) ⟨aA,rfl⟩ (by
  rintro i l s hl ⟨x3,rfl⟩;have hi:i<X.length:=by have:=(aU.mp hl).1;simpa [nL] using this
  have el:l = .int ((X[i]:Nat):Int):=by rw[P4 (by simpa [nL] using hi)] at hl;have:=az hl;rw[<-this];simp[nL,Zt,hi]
  subst el;have hx:X[i]<W.length:=hX _ (bY hi);refine⟨st i (some (.int ((X[i]:Nat):Int))),st (i+1) (some (.int ((X[i]:Nat):Int))),rfl,?_,_,rfl⟩;have g:Zd Zv (Za 2) (Za 3) (st i (some (.int ((X[i]:Nat):Int))))=some (.int (((X.take i).count X[i]:Nat):Int)):=by have:=DV (Ss W.length (X.take i)) X[i] hx;rw[TR hx] at this;exact this
  show UY 2 (Za 3) _ _=_;rw[NU (l:=.int ((((X.take i).count X[i]:Nat):Int)+1)) (k:=((X[i]:Nat):Int)) (m:=iL (YD W.length (X.take i))) (j:=X[i]) (vI (op:=(· + ·)) g rfl) rfl rfl (Z5 _) rfl (Tz (by simp[YD];exact hx))]
  have e:(iL (YD W.length (X.take i))).set X[i] (.int ((((X.take i).count X[i]:Nat):Int)+1))=iL (YD W.length (X.take (i+1))):=by
   unfold iL;rw[<-gv];congr 1;refine Q2 (by simp[YD]) λh hh=>?_;have hh':h<W.length:=by simpa [YD] using hh
   rw[PW.nth_set (by rw[Ss];exact hh'),TR hh',TR hh',gQ hi,List.count_append];by_cases q:h=X[i]
   ·subst q;simp
   ·rw[mN q];have:X[i]≠h:=λz=>q z.symm;simp[List.count_singleton,this]
  rw[e];rfl)
 subst hs;rw[show(iL (nL X)).length=X.length by simp[nL]] at f1;have e2:Yz [2] (SO (Za 1)) (.one 3) fb (st 0 aA)=some (.nx (st X.length x3)):=by show(SO (Za 1) (ZX [2] (st 0 aA))).bind _=_;exact f1
 show Yv 4 R0 _=_;unfold R0;show(Zj _ _ [some (wP W),some (pP (nL X)),aA,aA]).bind Xq=_;rw[ZF e1,ZF e2]
 rw[Vm (v:=pP (YD W.length X)) (by
  rw[YR];show(eK (ZR [.lst (iL (YD W.length (X.take X.length)))]) λl=>if ZO l=aC then some l else aA)=_;rw[ko];exact J0 (s:=[]))]
 rfl
theorem Ic{W:List (List Int)}{D S:List Int}{X Y:PV}(ok:ZN W)(hd:D.length=W.length)(hx:∀k:Nat,k<W.length->Zv X (.int (k:Int))=some (.int (Zt D k)))(hy:∀k:Nat,k<W.length->Zv Y (.int (k:Int))=some (.int (Zt S k))) :
  U2 [wP W,X,Y]=some (pP (YT W D S)):=by
 have hf:=ok.few;let w0:Option PV:=some (wP W);let st:Nat->Option PV->Option PV->Option PV->Option PV->ZS:=λi x4 x5 x6 x7=>[w0,some X,some Y,some (.lst (iL ((YT W D S).take i))),x4,x5,x6,x7];let part:Nat->Nat->Int:=λh j=>Zt D h-sN j (λg=>ZV W h g*(Zt S h-Zt S g))
 let fi:XS:=(Zj (Zi 7 (eP (Zd Yo (Zd Zv (Za 2) (Za 4)) (Zd Zv (Za 2) (Za 6)))))
  (Zi 5 (eP (Zd Yo (Za 5) (Zd Xa (Zd Zv (Zd Zv (Za 0) (Za 4)) (Za 6)) (Za 7))))))
 let fb:XS:=(Zj (Zi 5 (eP (Zd Zv (Za 1) (Za 4))))
  (Zj (Yz [3] (ZE [Zc Zz [Za 0]]) (.one 6) fi)
  (ZZ 3 (eP (Za 5)))))
 have len:∀s:ZS,s[0]?=some w0->ZE [Zc Zz [Za 0]] s=some (Ux W.length):=λs h=>by
  have a:Za 0 s=some (wP W):=by show s[0]?.bind id=_;rw[h];rfl
  refine Z1 (n:=W.length) ?_ (by omega);rw[ZD,Zk,a];show some (PV.int ((W.map pP).length:Int))=_;rw[aH]
 obtain⟨s',f1,x4,x5,x6,x7,hs⟩:=Yh (T:=.one 4) (fb:=fb) (ls:=Ux W.length) (s:=st 0 aA aA aA aA) (λi s=>∃x4 x5 x6 x7,s=st i x4 x5 x6 x7) ⟨aA,aA,aA,aA,rfl⟩ (by
  rintro h l s hl ⟨x4,x5,x6,x7,rfl⟩;obtain⟨hh,rfl⟩:=W9 hl
  obtain⟨s2,g1,y6,y7,hs2⟩:=Yh (T:=.one 6) (fb:=fi) (ls:=Ux W.length) (s:=st h (some (.int (h:Int))) (some (.int (part h 0))) x6 x7) (λj s=>∃y6 y7,s=st h (some (.int (h:Int))) (some (.int (part h j))) y6 y7) ⟨x6,x7,rfl⟩ (by
   rintro j l s hl ⟨y6,y7,rfl⟩;obtain⟨hj,rfl⟩:=W9 hl;refine⟨st h (some (.int (h:Int))) (some (.int (part h j))) (some (.int (j:Int))) y7,st h (some (.int (h:Int))) (some (.int (part h (j+1)))) (some (.int (j:Int))) (some (.int (Zt S h-Zt S j))),rfl,?_,_,_,rfl⟩;have q1:Zi 7 (eP (Zd Yo (Zd Zv (Za 2) (Za 4)) (Zd Zv (Za 2) (Za 6)))) (st h (some (.int (h:Int))) (some (.int (part h j))) (some (.int (j:Int))) y7)=some (.nx (st h (some (.int (h:Int))) (some (.int (part h j))) (some (.int (j:Int))) (some (.int (Zt S h-Zt S j))))):=by have a:Zd Zv (Za 2) (Za 4) (st h (some (.int (h:Int))) (some (.int (part h j))) (some (.int (j:Int))) y7)=some (.int (Zt S h)):=hy h hh;have b:Zd Zv (Za 2) (Za 6) (st h (some (.int (h:Int))) (some (.int (part h j))) (some (.int (j:Int))) y7)=some (.int (Zt S j)):=hy j hj;rw[Zs,vP (vI (op:=(· - ·)) a b)];rfl
   have q2:Zi 5 (eP (Zd Yo (Za 5) (Zd Xa (Zd Zv (Zd Zv (Za 0) (Za 4)) (Za 6)) (Za 7)))) (st h (some (.int (h:Int))) (some (.int (part h j))) (some (.int (j:Int))) (some (.int (Zt S h-Zt S j))))=some (.nx (st h (some (.int (h:Int))) (some (.int (part h (j+1)))) (some (.int (j:Int))) (some (.int (Zt S h-Zt S j))))):=by
    have a1:Zd Zv (Za 0) (Za 4) (st h (some (.int (h:Int))) (some (.int (part h j))) (some (.int (j:Int))) (some (.int (Zt S h-Zt S j))))=some (pP (ZA W h)):=Tv hh;have a2:Zd Zv (Zd Zv (Za 0) (Za 4)) (Za 6) (st h (some (.int (h:Int))) (some (.int (part h j))) (some (.int (j:Int))) (some (.int (Zt S h-Zt S j))))=some (.int (ZV W h j)):=by rw[Ya,a1];exact Yq (l:=ZA W h) (k:=j) (by rw[ok.sq h hh];exact hj)
    have lo:=ok.lo h j hh hj;have hi:=ok.hi h j hh hj;have e:part h j-ZV W h j*(Zt S h-Zt S j)=part h (j+1):=by show Zt D h-sN j (λg=>ZV W h g*(Zt S h-Zt S g))-ZV W h j*(Zt S h-Zt S j)=Zt D h-(sN j (λg=>ZV W h g*(Zt S h-Zt S g))+ZV W h j*(Zt S h-Zt S j));omega
    rw[Zs,vP (a:=part h (j+1)) (by
     rw[<-e];exact vI (op:=(· - ·)) (a:=part h j) rfl (vC (C:=CMul) (op:=(· * ·)) a2 rfl (.inl (by omega))))]
    rfl
   show Zj _ _ _=_;rw[ZF q1,q2])
  subst hs2;rw[Va] at g1
  have pe:part h W.length=Zt (YT W D S) h:=by
   rw[O8 (by omega)];show Zt D h-sN W.length _=_
   have:sN W.length (λg=>ZV W h g*(Zt S h-Zt S g))=(-1)*gN W (Zt S) h:=by
    unfold gN;rw[<-Ym];exact Zn λg _=>by rw[iS,iS];omega
   rw[this];omega
  have q1:Zi 5 (eP (Zd Zv (Za 1) (Za 4))) (st h (some (.int (h:Int))) x5 x6 x7)=some (.nx (st h (some (.int (h:Int))) (some (.int (part h 0))) x6 x7)):=by
   have a:Zd Zv (Za 1) (Za 4) (st h (some (.int (h:Int))) x5 x6 x7)=some (.int (Zt D h)):=hx h hh;have e:part h 0=Zt D h:=by show Zt D h-0=_;omega
   rw[Zs,vP a,e];rfl
  have q2:Yz [3] (ZE [Zc Zz [Za 0]]) (.one 6) fi (st h (some (.int (h:Int))) (some (.int (part h 0))) x6 x7)=some (.nx (st h (some (.int (h:Int))) (some (.int (part h W.length))) y6 y7)):=by show(ZE [Zc Zz [Za 0]] (ZX [3] (st h (some (.int (h:Int))) (some (.int (part h 0))) x6 x7))).bind _=_;rw[len _ rfl];exact g1
  refine⟨st h (some (.int (h:Int))) x5 x6 x7,st (h+1) (some (.int (h:Int))) (some (.int (part h W.length))) y6 y7,rfl,?_,_,_,_,_,rfl⟩;show Zj _ _ _=_;rw[ZF q1,ZF q2,Xh (l:=.int (Zt (YT W D S) h)) (m:=iL ((YT W D S).take h)) (by rw[<-pe];exact vP rfl) rfl (by simp;omega)];have hkl:h<(YT W D S).length:=by rw[Vk];omega
  have tk:(YT W D S).take (h+1)=(YT W D S).take h++[Zt (YT W D S) h]:=by rw[gQ hkl];simp[Zt,aE,aF hkl]
  show some (Out.nx [w0,some X,some Y,some (.lst (iL ((YT W D S).take h)++[.int (Zt (YT W D S) h)])),_,_,_,_])=some (Out.nx [w0,some X,some Y,some (.lst (iL ((YT W D S).take (h+1)))),_,_,_,_]);rw[tk,Zcg])
 subst hs;rw[Va] at f1;have e2:Yz [3] (ZE [Zc Zz [Za 0]]) (.one 4) fb (st 0 aA aA aA aA)=some (.nx (st W.length x4 x5 x6 x7)):=by show(ZE [Zc Zz [Za 0]] (ZX [3] (st 0 aA aA aA aA))).bind _=_;rw[len _ rfl];exact f1
 have QN:(YT W D S).take W.length=YT W D S:=bg (by rw[Vk];omega);show Yv 8 Oq _=_;unfold Oq;show(Zj _ _ [w0,some X,some Y,aA,aA,aA,aA,aA]).bind Xq=_;rw[ZF (s1:=st 0 aA aA aA aA) rfl,ZF e2]
 rw[Vm (v:=pP (YT W D S)) (by
  rw[YR];show(eK (ZR [.lst (iL ((YT W D S).take W.length))]) λl=>if ZO l=aC then some l else aA)=_;rw[QN];exact J0 (s:=[]))]
 rfl
end PW
namespace PK
open PW
theorem D9{f g:Nat->Int}:∀{n:Nat},(∀i,i<n->f i<=g i)->sN n f<=sN n g
 | 0,_=>cw _
 | n+1,h=>by have a:=D9 λi hi=>h i (dq hi);have b:=h n (eG n);show sN n f+f n<=sN n g+g n;omega
noncomputable def s2(n:Nat)(f:Nat->Nat->Int):Int:=sN n λi=>sN n (f i)
theorem Zel{n:Nat}{f g:Nat->Nat->Int}(h:∀i,i<n->∀j,j<n->f i j<=g i j):s2 n f<=s2 n g:=D9 λi hi=>D9 λj hj=>h i hi j hj
theorem Ie(n:Nat)(f g:Nat->Nat->Int):s2 n (λi j=>f i j+g i j)=s2 n f+s2 n g:=by unfold s2;rw[<-Yr];exact Zn λi _=>Yr _ _ _
theorem Zcm(n:Nat)(f:Nat->Nat->Int):2*s2 n f=s2 n λi j=>f i j+f j i:=by rw[Ie];have:s2 n (λi j=>f j i)=s2 n f:=(TL f n n).symm;omega
noncomputable def lw(n:Nat)(D:Nat->Int)(g:Nat->Bool):Int:=sN n λi=>b1 (g i)*(D i+1)
noncomputable def qw(n:Nat)(w:Nat->Nat->Int)(g:Nat->Bool):Int:=s2 n λi j=>b1 (g i)*b1 (g j)*w i j
noncomputable def uw(n:Nat)(w:Nat->Nat->Int)(D:Nat->Int)(g:Nat->Bool):Int:=2*lw n D g-qw n w g
noncomputable def gw(n:Nat)(w:Nat->Nat->Int)(R:Nat->Int)(v:Nat):Int:=sN n λu=>w v u*(R u-R v)
theorem Zem{w x:Int}(h:0<=w)(hx:1<=x):w<=w*x:=by have:=Int.mul_le_mul_of_nonneg_left hx h;omega
theorem Ca{n:Nat}{w:Nat->Nat->Int}{N P R:Nat->Int}(nn:∀a b,a<n->b<n->0<=w a b)(sy:∀a b,a<n->b<n->w a b=w b a)(hR:∀i,i<n->0<=R i)(hN:∀i,i<n->N i=P i+gw n w R i)(g:Nat->Bool) :
  uw n w N (λi=>g i&&!decide (R i=0))+uw n w P (λi=>g i&&decide (R i=0))<=uw n w N g:=by
 have h1:lw n N g=lw n N (λi=>g i&&!decide (R i=0))+lw n N (λi=>g i&&decide (R i=0)):=by
  unfold lw;rw[<-Yr];refine Zn λi _=>?_;by_cases z:R i=0<;>cases e:g i<;>simp[b1,z,e]
 have h2:lw n N (λi=>g i&&decide (R i=0))=lw n P (λi=>g i&&decide (R i=0))+s2 n (λi u=>b1 (g i&&decide (R i=0))*(w i u*(R u-R i))):=by
  unfold lw s2;rw[<-Yr];refine Zn λi hi=>?_;rw[Ym,hN i hi];unfold gw;by_cases z:R i=0<;>cases e:g i<;>simp[b1,z,e]
  omega
 have h3:=Zcm n (λi u=>b1 (g i&&decide (R i=0))*(w i u*(R u-R i)))
 have h4:qw n w g<=(qw n w (λi=>g i&&!decide (R i=0))+qw n w (λi=>g i&&decide (R i=0)))+s2 n λi j=>b1 (g i&&decide (R i=0))*(w i j*(R j-R i))+b1 (g j&&decide (R j=0))*(w j i*(R i-R j)):=by
  unfold qw;rw[<-Ie,<-Ie];refine Zel λi hi j hj=>?_;rw[sy j i hj hi];have w0:=nn i j hi hj;have ri:=hR i hi;have rj:=hR j hj;have pj:=jm w0 rj;have pi:=jm w0 ri;by_cases zi:R i=0<;>by_cases zj:R j=0<;>cases ei:g i<;>cases ej:g j<;>simp[b1,zi,zj,ei,ej]<;>try omega
  ·exact Zem w0 (by omega)
  ·exact Zem w0 (by omega)
 unfold uw;omega
theorem Ft{n:Nat}{w:Nat->Nat->Int}{N P R:Nat->Int}(nn:∀a b,a<n->b<n->0<=w a b)(sy:∀a b,a<n->b<n->w a b=w b a)(hR:∀i,i<n->0<=R i)(hN:∀i,i<n->N i=P i+gw n w R i)
  {z:Nat} (hz:z<n) (z0:R z=0) (fN:∀g:Nat->Bool,(∃i,i<n/\g i=aC)->2<=uw n w N g) (fP:∀g:Nat->Bool,(∃i,i<n/\g i=aC)->2<=uw n w P g) (tot:uw n w N (λ_=>aC)=2):∀i,i<n->R i=0:=λi hi=>by
 refine fQ λc=>?_;have h:=Ca nn sy hR hN λ_=>aC;have a:=fN (λi=>aC&&!decide (R i=0)) ⟨i,hi,by simp[c]⟩;have b:=fP (λi=>aC&&decide (R i=0)) ⟨z,hz,by simp[z0]⟩;omega
theorem Li{n:Nat}{w:Nat->Nat->Int}{N P R:Nat->Int}(nn:∀a b,a<n->b<n->0<=w a b)(sy:∀a b,a<n->b<n->w a b=w b a)(hR:∀i,i<n->0<=R i)(hN:∀i,i<n->N i=P i+gw n w R i)
  (fP:∀g:Nat->Bool,(∃i,i<n/\g i=aC)->2<=uw n w P g) {g:Nat->Bool} (lk:uw n w N g<2) (mn:∀f:Nat->Bool,(∃i,i<n/\f i=aC)->(∀i,i<n->f i=aC->g i=aC)->uw n w N f<2->∀i,i<n->g i=aC->f i=aC):∀i,i<n->g i=aC->1<=R i:=λi hi hg=>by
 have ri:=hR i hi;refine fQ λc=>?_;have z0:R i=0:=by omega
 have h:=Ca nn sy hR hN g;have b:=fP (λi=>g i&&decide (R i=0)) ⟨i,hi,by simp[z0,hg]⟩;by_cases e:∃k,k<n/\(g k&&!decide (R k=0))=aC
 ·have:=mn (λi=>g i&&!decide (R i=0)) e (λk _ q=>(jh.mp q).1) (by omega) i hi hg;simp[z0] at this
 ·have:uw n w N (λi=>g i&&!decide (R i=0))=0:=by have f:∀k,k<n->(g k&&!decide (R k=0))=aB:=λk hk=>Bool.eq_false_iff.mpr λq=>e ⟨k,hk,q⟩;unfold uw lw qw s2;rw[X3 λk hk=>by simp only[f k hk];simp[b1],X3 λk hk=>X3 λj _=>by simp only[f k hk];simp[b1]];rfl
  omega
theorem To:∀{n:Nat}{p:List Nat->Bool}{G:List Nat},(Z3 n).find? p=some G->∀H∈Z3 n,(∀x∈H,x∈G)->p H=aC->H=G
 | 0,p,G,h,H,hH,_,hp=>by have e:H=[]:=aO.mp hH;subst e;have:(List.find? p [[]])=some G:=h;rw[bh,hp] at this;exact az this
 | n+1,p,G,h,H,hH,sub,hp=>by
  have h':(Z3 n++(Z3 n).map (·++[n])).find? p=some G:=h;rw[List.find?_append] at h';have lt:∀{K:List Nat},K∈Z3 n->∀x∈K,x<n:=λhK=>(UI hK).2.1;rcases aa.mp (show H∈Z3 n++(Z3 n).map (·++[n]) from hH) with a | a
  ·cases q:(Z3 n).find? p with
   | none=>exact absurd hp (by simpa using gD.mp q H a)
   | some K=>
    rw[q] at h';cases h';exact To q H a sub hp
  ·obtain⟨H',a',rfl⟩:=b7.mp a;have nG:n∈G:=sub n (by simp)
   cases q:(Z3 n).find? p with
   | some K=>
    rw[q] at h';cases h';exact absurd (lt (dZ q) n nG) (cH n)
   | none=>
    rw[q,Option.none_or,List.find?_map] at h';obtain⟨G',e1,e2⟩:=jK.mp h';subst e2
    rw[To e1 H' a' (λx hx=>by
     rcases aa.mp (sub x (by simp[hx])) with z | z
     ·exact z
     ·have:=lt a' x hx;rw[aO.mp z] at this;exact absurd this (cH n)) hp]
theorem Cb{n:Nat}{w:Nat->Nat->Int}{D:Nat->Int}{G:List Nat}(nd:G.Nodup)(hG:∀g∈G,g<n)(ev:tw w G%2=0):2*Qv w D G+2=uw n w D λi=>decide (i∈G):=by
 have a:(G.map D).sum+(G.length:Int)=lw n D λi=>decide (i∈G):=by
  unfold lw;rw[<-TN (λi=>D i+1) nd hG,Tj];congr 1
  have:∀G:List Nat,(G.length:Int)=(G.map λ_=>(1:Int)).sum:=λG=>by
   induction G with
   | nil=>rfl
   | cons a G ih=>simp only[bA,ag,bc];omega
  exact this G
 have b:tw w G=qw n w λi=>decide (i∈G):=by unfold tw qw s2;rw[TN _ nd hG];refine Zn λi _=>?_;unfold M8;rw[TN _ nd hG,<-Ym];exact Zn λj _=>(cR _ _ _).symm
 unfold Qv uw;rw[<-b];omega
end PK
namespace PW
open L2 VL VX PK
noncomputable def KJ(W:List (List Int))(D:List Int)(G:List Nat):PV:=.tup [pP (nL G),.int (Qv (ZV W) (Zt D) G)]
theorem KN(W:List (List Int))(D:List Int)(l:List (List Nat)):ZH (l.map (KJ W D))=aC:=RU λG _=>by unfold KJ;simp
theorem Lj{W:List (List Int)}{h:Nat}{F:List Nat}(ok:ZN W)(hh:h<W.length)(hF:∀x∈F,x<W.length)(hl:F.length<=100):XJ [wP W,.int (h:Int),pP (nL F)]=some (.int (M8 (ZV W) h F)):=by
 have hc:Zq 1 [0,1] (SO (Za 2)) (.one 0) Zx (Zd Zv (Zd Zv (Za 1) (Za 2)) (Za 0)) [some (wP W),some (.int (h:Int)),some (pP (nL F))]=some (.lst (iL (F.map (ZV W h)))):=by
  rw[ZM F (λ(o:Nat)=>.int (o:Int)) (λo=>.int (ZV W h o)) (by
   rw[P6 (l:=iL (nL F)) rfl];unfold nL;rw[Qx]) (by omega) (λo ho=>⟨[some (.int (o:Int)),some (wP W),some (.int (h:Int))],rfl,rfl,?_⟩)]
  ·rw[Qx]
  ·have a1:Zd Zv (Za 1) (Za 2) [some (.int (o:Int)),some (wP W),some (.int (h:Int))]=some (pP (ZA W h)):=Tv hh;rw[Ya,a1];exact Yq (l:=ZA W h) (k:=o) (by rw[ok.sq h hh];exact hF o ho)
 show Yv 3 U7 _=_;unfold U7;show(ZY _ [some (wP W),some (.int (h:Int)),some (pP (nL F))]).bind Xq=_
 rw[Vm (vP (a:=M8 (ZV W) h F) (by
  rw[ZD,Zk,hc];exact Zbu _))]
 rfl
noncomputable def LG(W:List (List Int))(D:List Int):List (List Nat):=((Z3 W.length).drop 1).filter λG=>decide (Qv (ZV W) (Zt D) G<0)
noncomputable def X9(W:List (List Int))(D:List Int):PV:=match LG W D with
 | []=>.non
 | G::_=>pP (nL G)
theorem Um{W:List (List Int)}(ok:ZN W){D:List Int}(hd:D.length=W.length):Yn [wP W,pP D]=some (X9 W D):=by
 have hf:=ok.few;have p7:∀i,i<=7->(Z3 i).length<=128:=λi hi=>by rw[O3];have:2^i<=2^7:=Nat.pow_le_pow_right (by decide) hi;omega
 let gs:Nat->List PV:=λi=>(Z3 i).map (KJ W D);let st:Nat->Option PV->Option PV->ZS:=λi x3 x4=>[some (wP W),some (pP D),some (.lst (gs i)),x3,x4,aA];let fc:XE:=Zq 2 [3,0,4] (Yg (Za 2)) (.many [0,1]) Zx (YC [Zd Vb (Za 0) (YC [Za 2]),Zd Yo (Zd ZI (Zd ZI (Za 1) (Za 4)) (eC (.int 1))) (Zc XJ [Za 3,Za 2,Za 0])]);let fb:XS:=Zi 2 (Zd Ub (Za 2) fc)
 have e1:Zi 2 (Yu [eP (YC [YC [],Lr Px (eC (.int 1))])]) [some (wP W),some (pP D),aA,aA,aA,aA]=some (.nx (st 0 aA aA)):=by
  have:gs 0=[.tup [.tup [],.int (-1)]]:=by show [KJ W D []]=_;unfold KJ Qv tw;simp[nL]
  show some (Out.nx [some (wP W),some (pP D),some (.lst [.tup [.tup [],.int (-1)]]),aA,aA,aA])=some (Out.nx [some (wP W),some (pP D),some (.lst (gs 0)),aA,aA,aA]);rw[this]
 have enumD:Y8 (iL D)=(aD W.length).map λ(i:Nat)=>.tup [.int (i:Int),.int (Zt D i)]:=by
  rw[Xg,aH,hd];exact ak λi hi=>by rw[X0 D i (by rw[hd];exact aW.mp hi)]
 obtain⟨s',f1,x3,x4,hs⟩:=Yh (T:=.many [3,4]) (fb:=fb) (ls:=Y8 (iL D)) (s:=st 0 aA aA) (λi s=>∃x3 x4,s=st i x3 x4) ⟨aA,aA,rfl⟩ (by
  rintro i l s hl ⟨x3,x4,rfl⟩;have hi:i<W.length:=by have:=(aU.mp hl).1;rw[WW,aH,hd] at this;exact this
  rw[enumD,aR,bq hi] at hl;cases hl;refine⟨st i (some (.int (i:Int))) (some (.int (Zt D i))),st (i+1) (some (.int (i:Int))) (some (.int (Zt D i))),rfl,?_,_,_,rfl⟩;have l7:=p7 i (by omega)
  have hc:fc (st i (some (.int (i:Int))) (some (.int (Zt D i))))=some (.lst (((Z3 i).map (·++[i])).map (KJ W D))):=by
   show Zq 2 [3,0,4] (Yg (Za 2)) (.many [0,1]) Zx _ _=_;rw[ZM (Z3 i) (KJ W D) (λG=>KJ W D (G++[i])) (by rfl) (by omega) (λG hG=>⟨[some (pP (nL G)),some (.int (Qv (ZV W) (Zt D) G)),some (.int (i:Int)),some (wP W),some (.int (Zt D i))],rfl,rfl,?_⟩)]
   ·rw[bS];rfl
   ·obtain⟨_,lt,ln,_⟩:=UI hG;have ltW:∀g∈G,g<W.length:=λg hg=>Nat.lt_trans (lt g hg) hi;have a1:Zd Vb (Za 0) (YC [Za 2]) [some (pP (nL G)),some (.int (Qv (ZV W) (Zt D) G)),some (.int (i:Int)),some (wP W),some (.int (Zt D i))]=some (pP (nL (G++[i]))):=by show(if(iL (nL G)).length+1<=10000 then some (PV.tup (iL (nL G)++[.int (i:Int)])) else aA)=_;rw[mM (by simp[nL];omega)];unfold nL;rw[bB];show some (PV.tup _)=some (PV.tup (List.map PV.int _));rw[bB];rfl
    have a2:Zc XJ [Za 3,Za 2,Za 0] [some (pP (nL G)),some (.int (Qv (ZV W) (Zt D) G)),some (.int (i:Int)),some (wP W),some (.int (Zt D i))]=some (.int (M8 (ZV W) i G)):=Lj ok hi ltW (by omega);have a3:Zd Yo (Zd ZI (Zd ZI (Za 1) (Za 4)) (eC (.int 1))) (Zc XJ [Za 3,Za 2,Za 0]) [some (pP (nL G)),some (.int (Qv (ZV W) (Zt D) G)),some (.int (i:Int)),some (wP W),some (.int (Zt D i))]=some (.int (Qv (ZV W) (Zt D) (G++[i]))):=by rw[DM (ZV W) (n:=W.length) (λa b ha hb=>ok.sym a b ha hb) (λa ha=>ok.dia a ha) (Zt D) ltW hi];exact vI (op:=(· - ·)) (vI (op:=(· + ·)) (vI (op:=(· + ·)) (a:=Qv (ZV W) (Zt D) G) rfl rfl) rfl) a2
    show(TV _ _).map PV.tup=_;rw[Zk,a1,Zk,a3];rfl
  have hcat:Zd Ub (Za 2) fc (st i (some (.int (i:Int))) (some (.int (Zt D i))))=some (.lst (gs (i+1))):=by rw[Ya,hc];show(if(gs i).length+(((Z3 i).map (·++[i])).map (KJ W D)).length<=10000/\ZH (gs i)=aC/\ZH (((Z3 i).map (·++[i])).map (KJ W D))=aC then some (PV.lst (gs i++((Z3 i).map (·++[i])).map (KJ W D))) else aA)=_;rw[mM ⟨by simp[gs];omega,KN W D _,KN W D _⟩];show some (PV.lst ((Z3 i).map (KJ W D)++((Z3 i).map (·++[i])).map (KJ W D)))=some (PV.lst ((Z3 (i+1)).map (KJ W D)));rw[Z3,bB]
  show Zi 2 _ _=_;rw[Zs,hcat];rfl)
 subst hs;rw[WW,aH,hd] at f1;have e2:Yz [] (Yt aB [Za 1]) (.many [3,4]) fb (st 0 aA aA)=some (.nx (st W.length x3 x4)):=by show(Yt aB [Za 1] (ZX [] (st 0 aA aA))).bind _=_;have:Yt aB [Za 1] (ZX [] (st 0 aA aA))=some (Y8 (iL D)):=rfl;rw[this];exact f1
 have l7:=p7 W.length hf
 have hc:Zq 2 [] (Yg (WM Xe (Za 2) (Wv (eC (.int 1))) VU)) (.many [0,1]) (xB (Zd RN (Za 1) (eC (.int 0)))) (eP (Za 0)) (st W.length x3 x4)=some (.lst ((LG W D).map λG=>pP (nL G))):=by
  have sl:WM Xe (Za 2) (Wv (eC (.int 1))) VU (st W.length x3 x4)=some (.lst (((Z3 W.length).drop 1).map (KJ W D))):=by
   show some (PV.lst (Wf (gs W.length) (some ((1:Nat):Int)) aA))=_
   rw[HJ _ (by
    show 1<=((Z3 W.length).map (KJ W D)).length;rw[aH,O3];exact Nat.one_le_two_pow),fg]
  rw[XZ ((Z3 W.length).drop 1) (KJ W D) (λG=>pP (nL G)) (λG=>decide (Qv (ZV W) (Zt D) G<0)) (by
   show(WM Xe (Za 2) (Wv (eC (.int 1))) VU (st W.length x3 x4)).bind asS=_;rw[sl];rfl) (by rw[bK];omega) (λG hG=>⟨[some (pP (nL G)),some (.int (Qv (ZV W) (Zt D) G))],rfl,rfl,λ_=>?_⟩)]
  ·rfl
  ·show(some (pP (nL G))).bind _=_;simp
 have e3:Zi 5 (Zq 2 [] (Yg (WM Xe (Za 2) (Wv (eC (.int 1))) VU)) (.many [0,1]) (xB (Zd RN (Za 1) (eC (.int 0)))) (eP (Za 0))) (st W.length x3 x4)=some (.nx [some (wP W),some (pP D),some (.lst (gs W.length)),x3,x4,some (.lst ((LG W D).map λG=>pP (nL G)))]):=by rw[Zs,hc];rfl
 show Yv 6 WD _=_;unfold WD;show(Zj _ _ [some (wP W),some (pP D),aA,aA,aA,aA]).bind Xq=_;rw[ZF e1,ZF e2,ZF e3]
 rw[Vm (v:=X9 W D) (by
  rw[YR,WO];have t:xB (Zd RO (Zc Zz [Za 5]) (eC (.int 0))) [some (wP W),some (pP D),some (.lst (gs W.length)),x3,x4,some (.lst ((LG W D).map λG=>pP (nL G)))]=some (decide (0<(LG W D).length)):=by show some (decide ((((LG W D).map λG=>pP (nL G)).length:Int)>0))=_;rw[aH];congr 1;exact decide_eq_decide.mpr (by omega)
  rw[t,aL];unfold X9
  cases q:LG W D with
  | nil=>rfl
  | cons G r=>
   rw[bA,decide_eq_true (by omega),mM rfl];have:Zd Zv (Za 5) (eC (.int 0)) [some (wP W),some (pP D),some (.lst (gs W.length)),x3,x4,some (.lst ((G::r).map λG=>pP (nL G)))]=some (pP (nL G)):=SV (l:=(G::r).map λG=>pP (nL G)) (k:=0) rfl;rw[this];simp)]
 rfl
theorem HR{n:Nat}{G:List Nat}(h:G∈(Z3 n).drop 1):G∈Z3 n/\G≠[]:=by
 obtain⟨r,e,hr⟩:=TM n;rw[e] at h ⊢;have h':G∈r:=by simpa using h
 exact⟨aS _ h',hr G h'⟩
theorem Fu{n:Nat}{G:List Nat}(h:G∈Z3 n)(ne:G≠[]):G∈(Z3 n).drop 1:=by
 obtain⟨r,e,hr⟩:=TM n;rw[e] at h ⊢;rcases af.mp h with z | z
 ·exact absurd z ne
 ·simpa using z
theorem Lk{G:List Nat}(h:G.Pairwise (· < ·)):G.Nodup:=h.imp λz=>by omega
theorem Cd{W:List (List Int)}(ok:ZN W){D:List Int}(hd:D.length=W.length)(ht:D.sum=((eW W).length:Int)-(W.length:Int)+1):Qv (ZV W) (Zt D) (aD W.length)=0:=by
 unfold Qv;have h1:((aD W.length).map (Zt D)).sum=D.sum:=by rw[WU,J9 D,hd]
 have h2:=Ry ok (G:=aD W.length) fK λg hg=>aW.mp hg;rw[Ad] at h2;rw[h1,h2,cV,ht];omega
noncomputable def uW(W:List (List Int))(D:List Int)(g:Nat->Bool):Int:=uw W.length (ZV W) (Zt D) g
noncomputable def Su(W:List (List Int))(D:List Int):Prop:=∀g:Nat->Bool,(∃i,i<W.length/\g i=aC)->2<=uW W D g
theorem Ce{n:Nat}{w:Nat->Nat->Int}{D:Nat->Int}{f g:Nat->Bool}(h:∀i,i<n->f i=g i):uw n w D f=uw n w D g:=by unfold uw lw qw s2;rw[Zn λi hi=>by rw[h i hi],Zn λi hi=>Zn λj hj=>by rw[h i hi,h j hj]]
section
variable {W:List (List Int)} {D:List Int} (ok:ZN W)
include ok
theorem Cf{G:List Nat}(hG:G∈Z3 W.length):2*Qv (ZV W) (Zt D) G+2=uW W D λi=>decide (i∈G):=by obtain⟨ris,lt,_,_⟩:=UI hG;have nd:=Lk ris;refine Cb nd lt ?_;rw[Ry ok nd lt];omega
theorem Ig(g:Nat->Bool):uW W D g=2*Qv (ZV W) (Zt D) ((aD W.length).filter g)+2:=by
 rw[Cf ok (VH g _)];exact Ce λi hi=>by cases e:g i<;>simp[e,hi]
theorem Zcn(hd:D.length=W.length)(ht:D.sum=((eW W).length:Int)-(W.length:Int)+1):uW W D (λ_=>aC)=2:=by have:=Cd ok hd ht;rw[Ig ok,gk.mpr λ_ _=>rfl,this];rfl
theorem Sv:(X9 W D = .non/\Su W D)\/∃G,X9 W D=pP (nL G)/\G≠[]/\(∀x∈G,x<W.length)/\G.Nodup/\uW W D (λi=>decide (i∈G))<2/\
  ∀f:Nat->Bool,(∃i,i<W.length/\f i=aC)->(∀i,i<W.length->f i=aC->decide (i∈G)=aC)->uW W D f<2->∀i,i<W.length->decide (i∈G)=aC->f i=aC:=by
 have ne:∀{f:Nat->Bool},(∃i,i<W.length/\f i=aC)->(aD W.length).filter f≠[]:=λ⟨i,hi,fi⟩=>kW (cN.mpr ⟨aW.mpr hi,fi⟩);unfold X9
 cases e:LG W D with
 | nil=>
  refine .inl ⟨rfl,λg hg=>?_⟩;have:=jS.mp e _ (Fu (VH g _) (ne hg));rw[Ig ok g];simp only[decide_eq_true_eq] at this;omega
 | cons G r=>
  have hm:G∈LG W D:=by rw[e];simp
  obtain⟨h1,h2⟩:=cN.mp hm;obtain⟨hG,hne⟩:=HR h1;obtain⟨ris,lt,_,_⟩:=UI hG;have lk:uW W D (λi=>decide (i∈G))<2:=by rw[<-Cf ok hG];have:=of_decide_eq_true h2;omega
  refine .inr ⟨G,rfl,hne,lt,Lk ris,lk,λf hf sub lf i hi hg=>?_⟩
  have fst:(Z3 W.length).find? (λG=>decide (G≠[])&&decide (Qv (ZV W) (Zt D) G<0))=some G:=by
   obtain⟨q,eq,hq⟩:=TM W.length;have:(LG W D).head?=some G:=by rw[e];rfl
   unfold LG at this;rw[List.head?_filter,eq] at this;rw[eq,bh];have a:(decide (([]:List Nat)≠[])&&decide (Qv (ZV W) (Zt D) []<0))=aB:=by simp
   rw[a];rw[<-this];show q.find? _=q.find? _;refine O9 λK hK=>?_;simp[hq K hK]
  have he:=To fst _ (VH f W.length) (λx hx=>of_decide_eq_true (sub x (aW.mp (cN.mp hx).1) (cN.mp hx).2)) (by
   rw[Ig ok f] at lf;rw[decide_eq_true (ne hf),decide_eq_true (show Qv (ZV W) (Zt D) ((aD W.length).filter f)<0 by omega)];rfl)
  have:i∈(aD W.length).filter f:=by rw[he];exact of_decide_eq_true hg
  exact(cN.mp this).2
end
end PW
set_option maxHeartbeats 2000000
namespace PW
open PySem L2 VL VX
section
variable {f g h k l:XE} {s s1:ZS} {a b c d e v r:PV} {i m:Nat} {F G:XS} {x y:XT} {o:Option Out} {p:Bool} {D:List PV->Option PV} {R:Option PV} {ls:List PV}
theorem UR(q:F (Z8 m ls)=some (.rt v)):Yv m F ls=some v:=by show(F (Z8 m ls)).bind Xq=_;rw[q];rfl
theorem Zen(q:F (Z8 m ls)=some (.nx s)):Yv m F ls=some .non:=by show(F (Z8 m ls)).bind Xq=_;rw[q];rfl
theorem sq(q:F s=some (.nx s1))(w:G s1=o):Zj F G s=o:=(ZF q).trans w
theorem Yb(q:f s=some v):Zi i f s=some (.nx (s.set i (some v))):=by rw[Zs,q];rfl
theorem ep(q:f s=some v)(w:ZO v=aC:=by rfl):eP f s=some v:=by rw[YR,q,aL,mM w]
theorem epp{l:List Int}(q:f s=some (pP l)):eP f s=some (pP l):=ep q (Z5 _)
theorem c1(q:f s=some a)(w:D [a]=R):Zc D [f] s=R:=by show((f s).bind λx=>some [x]).bind D=_;rw[q];exact w
theorem c2(q:f s=some a)(q2:g s=some b)(w:D [a,b]=R):Zc D [f,g] s=R:=by rw[ZD,Zk,q,Zk,q2];exact w
theorem c3(q:f s=some a)(q2:g s=some b)(q3:h s=some c)(w:D [a,b,c]=R):Zc D [f,g,h] s=R:=by rw[ZD,Zk,q,Zk,q2,Zk,q3];exact w
theorem c4(q:f s=some a)(q2:g s=some b)(q3:h s=some c)(q4:k s=some d)(w:D [a,b,c,d]=R):Zc D [f,g,h,k] s=R:=by rw[ZD,Zk,q,Zk,q2,Zk,q3,Zk,q4];exact w
theorem c5(q:f s=some a)(q2:g s=some b)(q3:h s=some c)(q4:k s=some d)(q5:l s=some e)(w:D [a,b,c,d,e]=R):Zc D [f,g,h,k,l] s=R:=by rw[ZD,Zk,q,Zk,q2,Zk,q3,Zk,q4,Zk,q5];exact w
theorem o2{op:PV->PV->Option PV}(q:f s=some a)(q2:g s=some b)(w:op a b=R):Zd op f g s=R:=by rw[Ya,q,q2];exact w
theorem xb(q:f s=some (.bl p)):xB f s=some p:=by rw[UB,q];rfl
theorem xn(q:x s=some p):SH x s=some !p:=by rw[L6,q];rfl
theorem xo{p2:Bool}(q:x s=some p)(q2:y s=some p2):LR x y s=some (p || p2):=by
 rw[SU,q];cases p
 ·exact q2
 ·rfl
theorem ea{p2:Bool}(q:f s=some (.bl p))(q2:g s=some (.bl p2)):VR f g s=some (.bl (p&&p2)):=by
 rw[PX,xb q];cases p
 ·rfl
 ·exact q2
theorem gof(q:x s=some aB):V9 x F Z6 s=some (.nx s):=by rw[Yd,q];rfl
theorem ret(q:f s=some v):ZY f s=some (.rt v):=Vm q
theorem eqt{l:List Int}(q:f s=some (pP l))(q2:g s=some (pP l)):Zd (YW aB) f g s=some (.bl aC):=o2 q q2 (by rw[Zbx];simp)
theorem Zeo{w:PV}(q:f s=some w):sEx f s=some (.nx s):=by show(f s).map _=_;rw[q];rfl
end
end PW
namespace PW
open L2 VL VX PK
theorem KO{W:List (List Int)}{L:List Nat}(hf:W.length<=7):VB [wP W,pP (nL L)]=some (pP (V2 W.length L)):=by
 have hc:Zq 1 [1] (ZE [Zc Zz [Za 0]]) (.one 0) Zx (RP (xB (Zd (Uw aB) (Za 0) (Za 1))) (Lr Px (eC (.int 1))) (eC (.int 0))) [some (wP W),some (pP (nL L))]=some (.lst (iL (V2 W.length L))):=by
  rw[Ul (λh=>if h∈L then -1 else 0) (Z1 (n:=W.length) (by simp) (by omega)) (by omega) λi hi=>⟨[some (.int (i:Int)),some (pP (nL L))],rfl,rfl,?_⟩]
  ·rfl
  ·have t:xB (Zd (Uw aB) (Za 0) (Za 1)) [some (.int (i:Int)),some (pP (nL L))]=some (decide (i∈L)):=xb (o2 rfl rfl (by rw[HQ];simp only[O4];rfl));rw[WO,t];by_cases q:i∈L
   ·rw[mM q,decide_eq_true q];rfl
   ·rw[mN q,decide_eq_false q];rfl
 exact UR (ret (epp (c1 hc (P5 _))))
theorem Zco(f:Nat->Int){n:Nat}(hn:0<n):∃z,z<n/\∀i,i<n->f z<=f i:=by have s:=RX (l:=(aD n).map f) (by simp;omega);obtain⟨z,hz,e⟩:=b7.mp s.1;exact⟨z,aW.mp hz,λi hi=>by rw[e];exact s.2 _ (b7.mpr ⟨i,aW.mpr hi,rfl⟩)⟩
theorem Zcp{W:List (List Int)}(Y:Nat->Int)(c:Int){h:Nat}(hh:h<W.length):gN W (λx=>Y x-c) h=gN W Y h:=by show gN W (λx=>Y x + -c) h=_;rw[J4,KA (T:=λ_=>-c) (c:=-c) (λ_ _=>rfl) hh];omega
noncomputable def AX:XS:=(Zj (Zi 5 (Zc VB [Za 0,Za 4]))
  (Zj (Zi 2 (Zc U0 [Za 2,Za 5]))
  (Zj (Zi 3 (Zc Oe [Za 0,Za 3,Za 5]))
  (Zi 4 (Zc Yn [Za 0,Za 3])))))
noncomputable def AY(W:List (List Int))(D S N:List Int)(x5:Option PV):ZS:=[some (wP W),some (pP D),some (pP S),some (pP N),some (X9 W N),x5,aA]
structure Way(W:List (List Int))(P:List Int)(L:Nat->Int)(c:Int)(S N:List Int):Prop where
 ls:S.length=W.length
 ln:N.length=W.length
 sm:N.sum=P.sum
 lo:∀i,i<W.length->0<=L i+Zt S i-c
 z:∃i,i<W.length/\L i+Zt S i-c=0
 at':∀i,i<W.length->Zt N i=Zt P i+gN W (λi=>L i+Zt S i-c) i
section
variable {W:List (List Int)} {P:List Int} {L:Nat->Int} {c:Int} {D S N:List Int}
theorem Way.step(ok:ZN W)(fP:Su W P)(w:Way W P L c S N){G:List Nat}(ne:G≠[])(lt:∀x∈G,x<W.length)(ge:∀i,i<W.length->i∈G->1<=L i+Zt S i-c) :
  Way W P L c (Sr S (V2 W.length G)) (YT W N (V2 W.length G))/\sN W.length (λi=>L i+Zt (Sr S (V2 W.length G)) i-c)<sN W.length (λi=>L i+Zt S i-c):=by
 have e:∀i,i<W.length->Zt (Sr S (V2 W.length G)) i=Zt S i+if i∈G then -1 else 0:=λi hi=>by rw[Km (by rw[w.ls];exact hi),HG hi]
 obtain⟨z,hz,z0⟩:=w.z;refine⟨⟨by rw[Th,w.ls],by rw[Vk,w.ln],by rw[M7 ok w.ln,w.sm],λi hi=>?_,⟨z,hz,?_⟩,λi hi=>?_⟩,?_⟩
 ·have a:=w.lo i hi;have b:=ge i hi;rw[e i hi];split
  ·rename_i q;have:=b q;omega
  ·omega
 ·rw[e z hz];have b:=ge z hz;split
  ·rename_i q;have:=b q;omega
  ·omega
 ·rw[O8 (by rw[w.ln];exact hi),w.at' i hi,Int.add_assoc,<-J4];congr 1;exact Kz hi λk hk=>by rw[e k hk,HG hk];omega
 ·obtain⟨g,hg⟩:=fO G ne
  have h1:sN W.length (λi=>L i+Zt (Sr S (V2 W.length G)) i-c)+sN W.length (λi=>if i∈G then 1 else 0)=sN W.length (λi=>L i+Zt S i-c):=by
   rw[<-Yr]
   exact Zn λi hi=>by
    rw[e i hi];split<;>omega
  have h2:=Qo (f:=λi=>if i∈G then 1 else 0) (n:=W.length) (λi _=>by split<;>decide) (lt g hg);rw[mM hg] at h2;omega
theorem Cg(ok:ZN W)(fP:Su W P)(hP:P.length=W.length)(hs:P.sum=((eW W).length:Int)-(W.length:Int)+1)(w:Way W P L c S N)(x5:Option PV) :
  ∃S' x5',VZ (xB (RQ aC (Za 4))) AX (AY W D S N x5)=some (.nx (AY W D S' P x5'))/\X9 W P = .non/\S'.length=W.length/\∀i,i<W.length->L i+Zt S' i=c:=by
 have hf:=ok.few
 obtain⟨s',k',e1,⟨S',N',y5,w',rfl,_⟩,e2⟩:=La (c:=xB (RQ aC (Za 4))) (fb:=AX) (λk st=>∃S N x5,Way W P L c S N/\st=AY W D S N x5/\k=(sN W.length (λi=>L i+Zt S i-c)).toNat) (by
  rintro k st ⟨S,N,x5,w,rfl,rfl⟩;rcases Sv (D:=N) ok with⟨e,_⟩ | ⟨G,e,ne,lt,_,lk,mn⟩
  ·refine .inl (xb ?_);rw[PY];show(some (X9 W N)).bind _=_;rw[e];rfl
  ·have ge:∀i,i<W.length->i∈G->1<=L i+Zt S i-c:=λi hi hg=>Li (P:=Zt P) (λa b ha hb=>ok.lo a b ha hb) (λa b ha hb=>ok.sym a b ha hb) w.lo w.at' fP lk mn i hi (decide_eq_true hg);obtain⟨w2,ms⟩:=w.step ok fP ne lt ge;have nn:=TQ (n:=W.length) w2.lo;refine .inr ⟨xb ?_,AY W D (Sr S (V2 W.length G)) (YT W N (V2 W.length G)) (some (pP (V2 W.length G))),_,?_,?_,_,_,_,w2,rfl,rfl⟩
   ·rw[PY];show(some (X9 W N)).bind _=_;rw[e];rfl
   ·have lb:(V2 W.length G).length=W.length:=by simp[V2]
    have q:Yn [wP W,pP (YT W N (V2 W.length G))]=some (X9 W (YT W N (V2 W.length G))):=Um ok w2.ln;exact sq (s1:=AY W D S N (some (pP (V2 W.length G)))) (Yb (c2 (b:=pP (nL G)) rfl (by show some (X9 W N)=_;rw[e]) (KO hf))) (sq (s1:=[some (wP W),some (pP D),some (pP (Sr S (V2 W.length G))),some (pP N),some (X9 W N),some (pP (V2 W.length G)),aA]) (Yb (c2 rfl rfl (Hq (by rw[lb,w.ls]) (by rw[w.ls];omega)))) (sq (s1:=[some (wP W),some (pP D),some (pP (Sr S (V2 W.length G))),some (pP (YT W N (V2 W.length G))),some (X9 W N),some (pP (V2 W.length G)),aA]) (Yb (c3 rfl rfl rfl (Du ok w.ln lb))) (Yb (c2 rfl rfl q))))
   ·omega) ⟨S,N,x5,w,rfl,rfl⟩
 rcases Sv (D:=N') ok with⟨e3,fN⟩ | ⟨G,e,_⟩
 case inr=>
  have t:xB (RQ aC (Za 4)) (AY W D S' N' y5)=some aC:=xb (by rw[PY];show(some (X9 W N')).bind _=_;rw[e];rfl);rw[t] at e2;cases e2
 obtain⟨z,hz,z0⟩:=w'.z;have all:=Ft (N:=Zt N') (P:=Zt P) (w:=ZV W) (λa b ha hb=>ok.lo a b ha hb) (λa b ha hb=>ok.sym a b ha hb) w'.lo w'.at' hz z0 fN fP (Zcn ok w'.ln (by rw[w'.sm,hs]));have eN:N'=P:=Q2 (by rw[w'.ln,hP]) λi hi=>by rw[w'.ln] at hi;rw[w'.at' i hi,KA (T:=λi=>L i+Zt S' i-c) (c:=0) all hi];omega
 subst eN;exact⟨S',y5,e1,e3,w'.ls,λi hi=>by have:=all i hi;omega⟩
end
end PW
namespace PK
open PW
noncomputable def hd(h:List Nat)(k:Nat):Nat:=h.getD k 0
noncomputable def Vs(e:ZU)(x:Nat):Nat:=if x=e.1 then e.2 else e.1
noncomputable def Uo(E:List ZU)(h:List Nat)(k:Nat):List Nat:=h.set k (Vs (ZC E k) (hd h k))
noncomputable def VN(E:List ZU)(h ks:List Nat):List Nat:=ks.foldl (Uo E) h
structure HOk(E:List ZU)(h:List Nat):Prop where
 len:h.length=E.length
 at':∀k,k<E.length->hd h k=(ZC E k).1\/hd h k=(ZC E k).2
theorem Ci{h:List Nat}{k j y:Nat}(hk:k<h.length):hd (h.set k y) j=if k=j then y else hd h j:=by
 unfold hd;rw[aE,aE,bJ];rw[mM hk];split<;>rfl
theorem Ah{h:List Nat}{k y v:Nat}(hk:k<h.length):((h.set k y).count v:Int)=h.count v-b1 (decide (hd h k=v))+b1 (decide (y=v)):=by
 have e:hd h k=h[k]:=by unfold hd;rw[aE,aF hk];rfl
 have le:h[k]=v->1<=h.count v:=λq=>List.count_pos_iff.mpr (by rw[<-q];exact bY hk);rw[List.count_set hk,e];generalize h.count v=m at le ⊢;by_cases a:h[k]=v
 ·have:=le a;by_cases c:y=v<;>simp[a,c,b1]<;>omega
 ·by_cases c:y=v<;>simp[a,c,b1]
theorem HOk.turn{E:List ZU}{h:List Nat}(o:HOk E h){k:Nat}:HOk E (Uo E h k):=by
 refine⟨by unfold Uo;rw[cZ,o.len],λj hj=>?_⟩;by_cases q:k<h.length
 ·unfold Uo;rw[Ci q];split
  ·rename_i e;subst e;unfold Vs;split
   ·exact .inr rfl
   ·exact .inl rfl
  ·exact o.at' j hj
 ·unfold Uo;rw[fY (by omega)];exact o.at' j hj
structure Pth(E:List ZU)(h F:List Nat)(a:Nat)(ks:List Nat)(x:Nat):Prop where
 lt:∀k∈ks,k<E.length
 inn:∀k∈ks,hd h k∈F/\hd h k≠x
 keep:∀k,k∉ks->hd (VN E h ks) k=hd h k
 ok:HOk E (VN E h ks)
 cn:∀v,((VN E h ks).count v:Int)=h.count v-b1 (decide (a=v))+b1 (decide (x=v))
theorem Pth.start{E:List ZU}{h F:List Nat}{a:Nat}(o:HOk E h):Pth E h F a [] a:=
 ⟨λ_ z=>(cD z).elim,λ_ z=>(cD z).elim,λ_ _=>rfl,o,λv=>by show(h.count v:Int)=_;omega⟩
theorem Pth.more{E:List ZU}{h F G:List Nat}{a x:Nat}{ks:List Nat}(p:Pth E h F a ks x)(s:∀z∈F,z∈G):Pth E h G a ks x:=⟨p.lt,λk hk=>⟨s _ (p.inn k hk).1,(p.inn k hk).2⟩,p.keep,p.ok,p.cn⟩
theorem Pth.snoc{E:List ZU}{h F:List Nat}{a x k:Nat}{ks:List Nat}(o:HOk E h)(p:Pth E h F a ks x)(hx:x∈F)(hk:k<E.length)(ek:hd h k=x)(ny:Vs (ZC E k) x∉F):Pth E h F a (ks++[k]) (Vs (ZC E k) x):=by
 have nk:k∉ks:=λz=>(p.inn k z).2 ek;have e:VN E h (ks++[k])=Uo E (VN E h ks) k:=by unfold VN;rw[List.foldl_append];rfl
 have lf:k<(VN E h ks).length:=by rw[p.ok.len];exact hk
 have ef:hd (VN E h ks) k=x:=by rw[p.keep k nk,ek]
 refine⟨λj hj=>?_,λj hj=>?_,λj hj=>?_,by rw[e];exact p.ok.turn,λv=>?_⟩
 ·rcases aa.mp hj with z | z
  ·exact p.lt j z
  ·rw[aO.mp z];exact hk
 ·have:hd h j∈F:=by
   rcases aa.mp hj with z | z
   ·exact(p.inn j z).1
   ·rw[aO.mp z,ek];exact hx
  exact⟨this,λz=>ny (by rw[<-z];exact this)⟩
 ·have n1:j∉ks:=λz=>hj (bC _ z);have n2:¬k=j:=λz=>hj (by rw[z];simp);rw[e];unfold Uo;rw[Ci lf,mN n2];exact p.keep j n1
 ·rw[e];unfold Uo;rw[Ah lf,p.cn v,ef];omega
structure BSr(E:List ZU)(h:List Nat)(q:Nat->Int)(n a:Nat)(F:List Nat)(p:Nat->List Nat)(j:Nat):Prop where
 nd:F.Nodup
 lt:∀x∈F,x<n
 fl:a∈F
 jl:j<=F.length
 pt:∀x∈F,Pth E h F a (p x) x
 sh:∀x∈F,(p x).length<F.length
 cl:∀x∈F.take j,∀k,k<E.length->hd h k=x->Vs (ZC E k) x∈F
 ge:∀x∈F.take j,q x<=(h.count x:Int)
theorem Ih{f g:Nat->Int}:∀{l:List Nat},(∀x∈l,f x<=g x)->(l.map f).sum<=(l.map g).sum
 | [],_=>cw _
 | x::l,h=>by have a:=h x (by simp);have b:=Ih (l:=l) λy hy=>h y (by simp[hy]);simp only[ag,bc];omega
theorem Cj{f g:Nat->Int}{a:Nat}:∀{l:List Nat},(∀x∈l,f x<=g x)->a∈l->f a<g a->(l.map f).sum<(l.map g).sum
 | x::l,h,ha,lt=>by
  have a1:=h x (by simp);simp only[ag,bc];rcases af.mp ha with rfl | z
  ·have b:=Ih (l:=l) λy hy=>h y (by simp[hy]);omega
  ·have b:=Cj (l:=l) (λy hy=>h y (by simp[hy])) z lt;omega
theorem Ai{h:List Nat}:(aD h.length).map (hd h)=h:=Rt h 0
theorem BSr.goes{E:List ZU}{h:List Nat}{q:Nat->Int}{n a:Nat}{F:List Nat}{p:Nat->List Nat}{j:Nat}(i:BSr E h q n a F p j)(o:HOk E h)(QN:q a<(h.count a:Int))(hq:∀G:List Nat,G.Nodup->(∀g∈G,g<n)->G≠[]->XN G E<=(G.map q).sum):j<F.length:=by
 refine fQ λc=>?_;have ej:F.take j=F:=bg (by omega);have cl:=i.cl;have ge:=i.ge;rw[ej] at cl ge;have h1:=hq F i.nd i.lt (kW i.fl);have h2:=Cj ge i.fl QN;rw[Ru i.nd h] at h2
 have h3:(h.map λx=>b1 (decide (x∈F))).sum<=XN F E:=by
  have e1:h.map (λx=>b1 (decide (x∈F)))=(aD E.length).map λk=>b1 (decide (hd h k∈F)):=by
   conv=>lhs;rw[<-Ai (h:=h),o.len]
   rw[bS];rfl
  have e2:E.map (λe=>b1 (N4 F e))=(aD E.length).map λk=>b1 (N4 F (ZC E k)):=by
   conv=>lhs;rw[<-Rt E (0,0)]
   rw[bS];rfl
  unfold XN;rw[e1,e2];refine Ih λk hk=>?_;have hk:=aW.mp hk;by_cases z:hd h k∈F
  ·have y:=cl _ z k hk rfl
   have:N4 F (ZC E k)=aC:=by
    unfold N4;unfold Vs at y;rcases o.at' k hk with w | w
    ·rw[w] at y z;rw[mM rfl] at y;rw[decide_eq_true z,decide_eq_true y];rfl
    ·rw[w] at y z;split at y
     ·rename_i e;rw[e] at z;rw[decide_eq_true z,decide_eq_true y];rfl
     ·rw[decide_eq_true z,decide_eq_true y];rfl
   rw[this];exact Zeh _
  ·rw[decide_eq_false z];exact Kt _
 omega
structure BIn(E:List ZU)(h:List Nat)(q:Nat->Int)(n a:Nat)(F:List Nat)(p:Nat->List Nat)(j x i:Nat):Prop where
 b:BSr E h q n a F p j
 hx:F[j]?=some x
 dn:∀k,k<i->hd h k=x->Vs (ZC E k) x∈F
theorem BIn.pass{E:List ZU}{h:List Nat}{q:Nat->Int}{n a:Nat}{F:List Nat}{p:Nat->List Nat}{j x i:Nat}(s:BIn E h q n a F p j x i)(c:hd h i=x->Vs (ZC E i) x∈F):BIn E h q n a F p j x (i+1):=
 ⟨s.b,s.hx,λk hk e=>by
  rcases ie.mp hk with z | rfl
  ·exact s.dn k z e
  ·exact c e⟩
noncomputable def KP(p:Nat->List Nat)(y:Nat)(ks:List Nat):Nat->List Nat:=λz=>if z=y then ks else p z
theorem BIn.add{E:List ZU}{h:List Nat}{q:Nat->Int}{n a:Nat}{F:List Nat}{p:Nat->List Nat}{j x i:Nat}(s:BIn E h q n a F p j x i)(o:HOk E h)(hE:∀e∈E,e.1<n/\e.2<n)(hi:i<E.length)(c:hd h i=x)(ny:Vs (ZC E i) x∉F) :
  BIn E h q n a (F++[Vs (ZC E i) x]) (KP p (Vs (ZC E i) x) (p x++[i])) j x (i+1):=by
 have b:=s.b;have sub:∀z∈F,z∈F++[Vs (ZC E i) x]:=λz hz=>bC _ hz;have jt:(F++[Vs (ZC E i) x]).take j=F.take j:=List.take_append_of_le_length b.jl;have xF:x∈F:=b8 s.hx;have eE:ZC E i∈E:=by unfold ZC;rw[aE,aF hi];exact bY hi
 refine⟨⟨?_,λz hz=>?_,sub _ b.fl,by rw[aX];exact bX b.jl (eI _ _),λz hz=>?_,λz hz=>?_,λz hz k hk e=>?_,λz hz=>?_⟩,?_,λk hk e=>?_⟩
 ·exact cU.mpr ⟨b.nd,by simp,λu hu w hw z=>ny (by rw[<-aO.mp hw,<-z];exact hu)⟩
 ·rcases aa.mp hz with w | w
  ·exact b.lt z w
  ·rw[aO.mp w];unfold Vs;split
   ·exact(hE _ eE).2
   ·exact(hE _ eE).1
 ·unfold KP;by_cases w:z=Vs (ZC E i) x
  ·rw[mM w,w];exact((b.pt x xF).snoc o xF hi c ny).more sub
  ·rw[mN w];rcases aa.mp hz with v | v
   ·exact(b.pt z v).more sub
   ·exact absurd (aO.mp v) w
 ·unfold KP;rw[aX];by_cases w:z=Vs (ZC E i) x
  ·rw[mM w,aX];exact Nat.add_lt_add_right (b.sh x xF) 1
  ·rw[mN w];rcases aa.mp hz with v | v
   ·exact dq (b.sh z v)
   ·exact absurd (aO.mp v) w
 ·rw[jt] at hz;exact sub _ (b.cl z hz k hk e)
 ·rw[jt] at hz;exact b.ge z hz
 ·rw[aj (aU.mp s.hx).1];exact s.hx
 ·rcases ie.mp hk with z | rfl
  ·exact sub _ (s.dn k z e)
  ·simp
theorem BIn.done{E:List ZU}{h:List Nat}{q:Nat->Int}{n a:Nat}{F:List Nat}{p:Nat->List Nat}{j x:Nat}(s:BIn E h q n a F p j x E.length)(ge:q x<=(h.count x:Int)):BSr E h q n a F p (j+1):=by
 have b:=s.b;have hj:=(aU.mp s.hx).1;have e:F.take (j+1)=F.take j++[x]:=by rw[List.take_succ,s.hx];rfl
 refine⟨b.nd,b.lt,b.fl,hj,b.pt,b.sh,λz hz k hk ek=>?_,λz hz=>?_⟩
 ·rw[e] at hz;rcases aa.mp hz with w | w
  ·exact b.cl z w k hk ek
  ·rw[aO.mp w] at ek ⊢;exact s.dn k hk ek
 ·rw[e] at hz;rcases aa.mp hz with w | w
  ·exact b.ge z w
  ·rw[aO.mp w];exact ge
noncomputable def Nt(x:Int):Int:=if 0<x then x else 0
noncomputable def Fv(n:Nat)(q:Nat->Int)(h:List Nat):Int:=sN n λv=>Nt ((h.count v:Int)-q v)
theorem Zcq(n:Nat)(q:Nat->Int)(h:List Nat):0<=Fv n q h:=DG λv _=>by unfold Nt;split<;>omega
theorem Ck{n:Nat}{q:Nat->Int}{h h':List Nat}{a x:Nat}(ha:a<n)(QN:q a<(h.count a:Int))(free:(h.count x:Int)<q x)(cn:∀v,(h'.count v:Int)=h.count v-b1 (decide (a=v))+b1 (decide (x=v))):Fv n q h'<Fv n q h:=by
 have ne:x≠a:=λz=>by rw[z] at free;omega
 have h1:=Zca (f:=λv=>Nt ((h'.count v:Int)-q v)) (g:=λv=>Nt ((h.count v:Int)-q v)) ha λv _ hv=>by
  have a1:b1 (decide (a=v))=0:=by rw[decide_eq_false λz=>hv z.symm];rfl
  show Nt _=Nt _;rw[cn v,a1];by_cases z:x=v
  ·subst z;have a2:b1 (decide (x=x))=1:=by rw[decide_eq_true rfl];rfl
   rw[a2];unfold Nt;rw[mN (by omega),mN (by omega)]
  ·rw[decide_eq_false z];have:b1 aB=0:=rfl;rw[this,Int.sub_zero,gx]
 unfold Fv;rw[h1];have e:=cn a;rw[decide_eq_true rfl,decide_eq_false ne] at e;have e:(h'.count a:Int)=h.count a-1+0:=e;show sN _ _+(Nt ((h'.count a:Int)-q a)-Nt ((h.count a:Int)-q a))<_;unfold Nt;rw[e,mM (show 0<(h.count a:Int)-q a by omega)];split<;>omega
end PK
namespace PW
open PK
structure WS where
 L:List Nat
 F:List Nat
 B:List (Nat×Nat×Nat)
noncomputable def T1(E:List ZU)(L F:List Nat):Option Nat:=(aD E.length).find? λk=>!decide (k∈L)&&(decide ((ZC E k).1∈F) != decide ((ZC E k).2∈F))
noncomputable def Xk(E:List ZU)(F:List Nat)(k:Nat):Nat:=if(ZC E k).1∈F then(ZC E k).2 else(ZC E k).1
noncomputable def AZ(E:List ZU)(h j:Nat):Bool:=decide (h=(ZC E j).1) || decide (h=(ZC E j).2)
noncomputable def VP(E:List ZU)(L:List Nat)(h:Nat):Nat:=(L.filter (AZ E h)).length
noncomputable def Vo(E:List ZU)(φ:Nat->Nat->Nat->Bool)(s:WS)(k:Nat):WS:=
 if φ k (Xk E s.F k) (VP E (s.L++[k]) (Xk E s.F k))=aC then⟨s.L++[k],s.F++[Xk E s.F k],s.B++[(k,Xk E s.F k,VP E (s.L++[k]) (Xk E s.F k))]⟩ else⟨s.L++[k],s.F,s.B⟩
noncomputable def Wa(E:List ZU)(φ:Nat->Nat->Nat->Bool):Nat->WS->WS
 | 0,s=>s
 | n+1,s=>match T1 E s.L s.F with
  | some k=>Wa E φ n (Vo E φ s k)
  | none=>s
noncomputable def Ii(b:Nat):WS:=⟨[],[b],[]⟩
theorem TU{E:List ZU}{L F:List Nat}{k:Nat}(h:T1 E L F=some k):k<E.length/\k∉L/\(decide ((ZC E k).1∈F) != decide ((ZC E k).2∈F))=aC:=by have h1:=jZ h;have h2:=dZ h;simp only[av,kb,decide_eq_false_iff_not] at h1;exact⟨aW.mp h2,h1⟩
theorem Cm{E:List ZU}{L F:List Nat}{k:Nat}(h:T1 E L F=some k):Xk E F k∉F/\AZ E (Xk E F k) k=aC/\∃o∈F,(ZC E k=(o,Xk E F k)\/ZC E k=(Xk E F k,o)):=by
 obtain⟨_,_,h3⟩:=TU h;unfold Xk AZ;by_cases a:(ZC E k).1∈F
 ·by_cases b:(ZC E k).2∈F
  ·simp[a,b] at h3
  ·rw[mM a];exact⟨b,by simp,_,a,.inl rfl⟩
 ·by_cases b:(ZC E k).2∈F
  ·rw[mN a];exact⟨a,by simp,_,b,.inr rfl⟩
  ·simp[a,b] at h3
structure WInv(E:List ZU)(n b:Nat)(s:WS):Prop where
 ndL:s.L.Nodup
 ltL:∀k∈s.L,k<E.length
 ndF:s.F.Nodup
 ltF:∀h∈s.F,h<n
 hB:s.F=b::s.B.map (·.2.1)
 bl:∀x∈s.B,x.1∈s.L
 ndB:(s.B.map (·.1)).Nodup
 cn:∀q:Nat->Nat,(∀x∈s.B,q (ZC E x.1).1=q (ZC E x.1).2)->∀h∈s.F,q h=q b
theorem WInv.start{E:List ZU}{n b:Nat}(hb:b<n):WInv E n b (Ii b):=
 ⟨cE,λk hk=>by simp[Ii] at hk,by simp[Ii],λh hh=>by simp[Ii] at hh;omega,rfl,λx hx=>by simp[Ii] at hx,by simp[Ii],λq _ h hh=>by simp[Ii] at hh;rw[hh]⟩
theorem Q8{α:Type}{l:List α}{a:α}(h:l.Nodup)(n:a∉l):(l++[a]).Nodup:=by rw[cU];exact⟨h,by simp,λx hx y hy z=>by rw[aO.mp hy] at z;exact n (z▸hx)⟩
theorem WInv.step{E:List ZU}{n b k:Nat}{s:WS}{φ:Nat->Nat->Nat->Bool}(hE:∀e∈E,e.1<n/\e.2<n)(i:WInv E n b s)(hk:T1 E s.L s.F=some k):WInv E n b (Vo E φ s k):=by
 obtain⟨k1,k2,_⟩:=TU hk;obtain⟨e1,e2,o,ho,e3⟩:=Cm hk;have ndL:(s.L++[k]).Nodup:=Q8 i.ndL k2
 have ltL:∀j∈s.L++[k],j<E.length:=λj hj=>by
  rcases aa.mp hj with z | z
  ·exact i.ltL j z
  ·rw[aO.mp z];exact k1
 have eE:ZC E k∈E:=by unfold ZC;rw[aE,aF k1];exact bY k1
 have lt:Xk E s.F k<n:=by
  have:=hE _ eE;rcases e3 with z | z<;>rw[z] at this
  ·exact this.2
  ·exact this.1
 unfold Vo;split
 ·refine⟨ndL,ltL,Q8 i.ndF e1,λh hh=>?_,?_,λx hx=>?_,?_,λq hq h hh=>?_⟩
  ·rcases aa.mp hh with z | z
   ·exact i.ltF h z
   ·rw[aO.mp z];exact lt
  ·show s.F++[_]=b::(s.B++[_]).map _;rw[bB,<-gX,<-i.hB];rfl
  ·rcases aa.mp hx with z | z
   ·exact bC _ (i.bl x z)
   ·rw[aO.mp z];exact aY _ (by simp)
  ·show((s.B++[_]).map _).Nodup;rw[bB];refine Q8 i.ndB λz=>?_;obtain⟨x,hx,ex⟩:=b7.mp z;have:=i.bl x hx;rw[ex] at this;exact k2 this
  ·have old:∀h∈s.F,q h=q b:=i.cn q λx hx=>hq x (bC _ hx);rcases aa.mp hh with z | z
   ·exact old h z
   ·rw[aO.mp z];have:=hq (k,Xk E s.F k,VP E (s.L++[k]) (Xk E s.F k)) (aY _ (by simp));have oo:=old o ho;simp only at this;rcases e3 with y | y
    ·rw[y] at this;exact this.symm.trans oo
    ·rw[y] at this;exact this.trans oo
 ·exact⟨ndL,ltL,i.ndF,i.ltF,i.hB,λx hx=>bC _ (i.bl x hx),i.ndB,i.cn⟩
theorem WInv.walk{E:List ZU}{n b:Nat}{φ:Nat->Nat->Nat->Bool}(hE:∀e∈E,e.1<n/\e.2<n):∀{m:Nat}{s:WS},WInv E n b s->WInv E n b (Wa E φ m s)
 | 0,s,i=>i
 | m+1,s,i=>by
  unfold Wa;split
  ·rename_i k hk;exact WInv.walk hE (i.step hE hk)
  ·exact i
theorem Nd{n:Nat}:∀{l:List Nat},l.Nodup->(∀x∈l,x<n)->l.length<=n:=by
 induction n with
 | zero=>
  intro l _ h
  cases l with
  | nil=>simp
  | cons a r=>exact absurd (h a (by simp)) (by omega)
 | succ n ih=>
  intro l nd h
  have h1:=ih (l:=l.filter (· != n)) (nd.filter _) λx hx=>by
   have:=cN.mp hx;have h2:=h x this.1;have h3:x≠n:=by simpa using this.2
   omega
  have h2:l.length<=(l.filter (· != n)).length+1:=by
   clear h h1 ih
   induction l with
   | nil=>simp
   | cons a r ih2=>
    have nr:=bG.mp nd;rw[List.filter_cons];by_cases e:a=n
    ·subst e;have:r.filter (· != a)=r:=gk.mpr λx hx=>by have:x≠a:=λz=>nr.1 (z▸hx);simpa using this
     simp[this]
    ·have e2:(a != n)=aC:=by simpa using e
     rw[e2];simp only[if_true,bA];have:=ih2 nr.2;omega
  omega
theorem KQ{E:List ZU}{n b:Nat}{φ:Nat->Nat->Nat->Bool}(hE:∀e∈E,e.1<n/\e.2<n):∀{m:Nat}{s:WS},WInv E n b s->E.length<=m+s.L.length->T1 E (Wa E φ m s).L (Wa E φ m s).F=aA
 | 0,s,i,h=>by
  unfold Wa
  cases z:T1 E s.L s.F with
  | none=>rfl
  | some k=>
   obtain⟨k1,k2,_⟩:=TU z
   have:=Nd (n:=E.length) (Q8 i.ndL k2) λx hx=>by
    rcases aa.mp hx with y | y
    ·exact i.ltL x y
    ·rw[aO.mp y];exact k1
   rw[aX,cz] at this;omega
 | m+1,s,i,h=>by
  unfold Wa
  cases z:T1 E s.L s.F with
  | none=>exact z
  | some k=>
   refine KQ hE (i.step hE z) ?_
   have:(Vo E φ s k).L.length=s.L.length+1:=by
    unfold Vo;split<;>simp
   omega
theorem Zcr(E:List ZU)(φ:Nat->Nat->Nat->Bool)(s:WS)(k:Nat):(Vo E φ s k).L=s.L++[k]:=by unfold Vo;split<;>rfl
end PW
namespace PW
open L2 VL VX PK
theorem Cn{W:List (List Int)}{i:Nat}(hi:i<(eW W).length):∃t:Int,(Y0 W)[i]?=some [((ZC (eW W) i).1:Int),((ZC (eW W) i).2:Int),t]:=by
 have key:(Y0 W).map (λr=>((Zt r 0).toNat,(Zt r 1).toNat))=eW W:=by rw[Lg];unfold Y0;rw[ky];congr 1;funext a;unfold Uk eA;rw[ky];congr 1;funext j;unfold XG Fp;rw[bS];exact fL (by simp) (by intros;simp[Zt];omega)
 have form:∀r∈Y0 W,∃(a b:Nat) (t:Int),r=[(a:Int),(b:Int),t]:=λr hr=>by unfold Y0 at hr;obtain⟨a,_,hr⟩:=fJ.mp hr;unfold Uk at hr;obtain⟨j,_,hr⟩:=fJ.mp hr;unfold XG at hr;obtain⟨t,_,rfl⟩:=b7.mp hr;exact⟨a,a+1+j,t,rfl⟩
 have hl:i<(Y0 W).length:=by rw[<-V3];exact hi
 obtain⟨a,b,t,e⟩:=form _ (bY hl);refine⟨t,?_⟩;have e2:ZC (eW W) i=(a,b):=by have g:=congrArg (λl=>l[i]?) key;simp only[aR] at g;rw[aF hl,aF hi,e] at g;unfold ZC;rw[aE,aF hi];simp only[cQ,Option.some.injEq] at g;rw[<-show(((a:Int)).toNat,((b:Int)).toNat)=_ from g];rfl
 rw[aF hl,e,e2]
noncomputable def Fw(F:List Nat):List Nat:=(Xw (nL F)).map mG
theorem Aj(F:List Nat):nL (Fw F)=Xw (nL F):=by
 unfold Fw;show((Xw (nL F)).map mG).map (λ(i:Nat)=>(i:Int))=_;rw[bS]
 conv=>rhs;rw[<-List.map_id (Xw (nL F))]
 refine ak λx hx=>?_;have:x∈nL F:=(UE _).mem_iff.mp hx;obtain⟨j,_,rfl⟩:=b7.mp this;rfl
end PW
namespace PW
open PySem L2 VL VX PK
noncomputable def UK(W:List (List Int))(k:Nat):List Int:=(Y0 W).getD k []
theorem Rz{W:List (List Int)}{k:Nat}(hk:k<(eW W).length):∃t:Int,UK W k=[((ZC (eW W) k).1:Int),((ZC (eW W) k).2:Int),t]:=by obtain⟨t,e⟩:=Cn hk;refine⟨t,?_⟩;unfold UK;rw[aE,e];rfl
noncomputable def YL(W:List (List Int)):PV:=.lst ((Y0 W).map pP)
theorem Fx(W:List (List Int)):Y8 ((Y0 W).map pP)=(aD (eW W).length).map λ(i:Nat)=>.tup [.int (i:Int),pP (UK W i)]:=by rw[Xg,aH,V3];refine ak λi hi=>?_;have hi:=aW.mp hi;rw[aE,aR,aF hi];unfold UK;rw[aE,aF hi];rfl
theorem KR{W:List (List Int)}{L F:List Nat}:Yi [YL W,.lst (iL (nL L)),.lst (iL (nL F))]=some (QP (T1 (eW W) L F)):=by
 have key:=Ql (T:=.many [3,4]) (fb:=V9 (LQ (xB (Zd (Uw aC) (Za 3) (Za 1))) (xB (Zd (YW aC) (Zd (Uw aB) (Zd Zv (Za 4) (eC (.int 0))) (Za 2)) (Zd (Uw aB) (Zd Zv (Za 4) (eC (.int 1))) (Za 2))))) (ZY (eP (Za 3))) Z6) (q:=λ(i:Nat)=>.tup [.int (i:Int),pP (UK W i)]) (g:=λ(i:Nat)=>.int (i:Int)) (c:=λk=>!decide (k∈L)&&(decide ((ZC (eW W) k).1∈F) != decide ((ZC (eW W) k).2∈F)))
  (λst=>∃x y,st=[some (YL W),some (.lst (iL (nL L))),some (.lst (iL (nL F))),x,y]) (ls:=aD (eW W).length) (s:=[some (YL W),some (.lst (iL (nL L))),some (.lst (iL (nL F))),aA,aA]) (by
   rintro k hk st ⟨x,y,rfl⟩;have hk:=aW.mp hk;obtain⟨t,et⟩:=Rz hk;have a0:Zv (pP (UK W k)) (.int 0)=some (.int ((ZC (eW W) k).1:Int)):=by rw[et];rfl
   have a1:Zv (pP (UK W k)) (.int 1)=some (.int ((ZC (eW W) k).2:Int)):=by rw[et];rfl
   have b0:=M9 (ZC (eW W) k).1 F;have b1:=M9 (ZC (eW W) k).2 F
   have bb:∀p q:Bool,YW aC (.bl p) (.bl q)=some (.bl (p != q)):=λp q=>by
    unfold YW;rw[mM (by rfl)];cases p<;>cases q<;>simp
   refine⟨_,rfl,λhc=>?_,λhc=>?_⟩
   ·simp only[av,kb,decide_eq_false_iff_not] at hc;simp[setAll,JZ,hc.1,a0,a1,b0,b1,bb,hc.2]
   ·refine⟨[some (YL W),some (.lst (iL (nL L))),some (.lst (iL (nL F))),some (.int (k:Int)),some (pP (UK W k))],?_,_,_,rfl⟩;by_cases q:k∈L
    ·simp[setAll,JZ,q]
    ·have:(decide ((ZC (eW W) k).1∈F) != decide ((ZC (eW W) k).2∈F))=aB:=by simpa [q] using hc
     simp[setAll,JZ,q,a0,a1,b0,b1,bb,this]) ⟨_,_,rfl⟩
 have en:Yt aC [Za 0] [some (YL W),some (.lst (iL (nL L))),some (.lst (iL (nL F))),aA,aA]=some ((aD (eW W).length).map λ(i:Nat)=>.tup [.int (i:Int),pP (UK W i)]):=by rw[<-Fx];rfl
 show Yv 5 Wl _=_;unfold Wl;show(Zj (Yz [] _ _ _) _ [some (YL W),some (.lst (iL (nL L))),some (.lst (iL (nL F))),aA,aA]).bind Xq=_;unfold T1
 cases q:(aD (eW W).length).find? λk=>!decide (k∈L)&&(decide ((ZC (eW W) k).1∈F) != decide ((ZC (eW W) k).2∈F)) with
 | some h=>
  rw[q] at key;rw[DN (v:=.int (h:Int))]
  ·rfl
  ·show(Yt aC [Za 0] [some (YL W),some (.lst (iL (nL L))),some (.lst (iL (nL F))),aA,aA]).bind _=_;rw[en];exact key
 | none=>
  rw[q] at key;obtain⟨s',k1,x,y,rfl⟩:=key;rw[ZF (s1:=[some (YL W),some (.lst (iL (nL L))),some (.lst (iL (nL F))),x,y])]
  ·rfl
  ·show(Yt aC [Za 0] [some (YL W),some (.lst (iL (nL L))),some (.lst (iL (nL F))),aA,aA]).bind _=_;rw[en];exact k1
noncomputable def bI(x:Nat×Nat×Nat):List Int:=[(x.1:Int),(x.2.1:Int),(x.2.2:Int)]
noncomputable def YU(W:List (List Int))(b:Nat)(C:PV)(F L:List Nat)(B:List (Nat×Nat×Nat))(x7 x8 x9:Option PV):ZS:=[some (wP W),some (.int (b:Int)),some C,some (YL W),some (.lst (iL (nL F))),some (.lst (iL (nL L))),some (.lst (B.map λx=>pP (bI x))),x7,x8,x9]
section
variable {W:List (List Int)} {b:Nat} {C:PV} {F L:List Nat} {B:List (Nat×Nat×Nat)} {x7 x8 x9:Option PV} {k h:Nat}
theorem Ll(hk:k<(eW W).length):Zv (YL W) (.int (k:Int))=some (pP (UK W k)):=by
 show Sx ((Y0 W).map pP) (k:Int)=_;have hk':k<(Y0 W).length:=by rw[<-V3];exact hk
 refine Tp ?_;rw[aR,aF hk'];unfold UK;rw[aE,aF hk'];rfl
theorem w1(hl:L.length<=1000):ZZ 5 (eP (Za 7)) (YU W b C F L B (some (.int (k:Int))) x8 x9)=some (.nx (YU W b C F (L++[k]) B (some (.int (k:Int))) x8 x9)):=by rw[Xh (m:=iL (nL L)) (l:=.int (k:Int)) rfl rfl (by simp[nL];omega)];simp[nL,YU]
theorem w2(hk:k<(eW W).length):Zi 8 (eP (RP (xB (Zd (Uw aB) (Zd Zv (Zd Zv (Za 3) (Za 7)) (eC (.int 0))) (Za 4))) (Zd Zv (Zd Zv (Za 3) (Za 7)) (eC (.int 1))) (Zd Zv (Zd Zv (Za 3) (Za 7)) (eC (.int 0))))) (YU W b C F L B (some (.int (k:Int))) x8 x9)=some (.nx (YU W b C F L B (some (.int (k:Int))) (some (.int (Xk (eW W) F k:Int))) x9)):=by
 obtain⟨t,et⟩:=Rz hk;have ta:=Ll hk;have a0:Zv (pP (UK W k)) (.int 0)=some (.int ((ZC (eW W) k).1:Int)):=by rw[et];rfl
 have a1:Zv (pP (UK W k)) (.int 1)=some (.int ((ZC (eW W) k).2:Int)):=by rw[et];rfl
 have b0:=M9 (ZC (eW W) k).1 F;have e0:Zd Zv (Zd Zv (Za 3) (Za 7)) (eC (.int 0)) (YU W b C F L B (some (.int (k:Int))) x8 x9)=some (.int ((ZC (eW W) k).1:Int)):=by show((Zv (YL W) (.int (k:Int))).bind λx=>Zv x (.int 0))=_;rw[ta];exact a0
 have e1:Zd Zv (Zd Zv (Za 3) (Za 7)) (eC (.int 1)) (YU W b C F L B (some (.int (k:Int))) x8 x9)=some (.int ((ZC (eW W) k).2:Int)):=by show((Zv (YL W) (.int (k:Int))).bind λx=>Zv x (.int 1))=_;rw[ta];exact a1
 have et:xB (Zd (Uw aB) (Zd Zv (Zd Zv (Za 3) (Za 7)) (eC (.int 0))) (Za 4)) (YU W b C F L B (some (.int (k:Int))) x8 x9)=some (decide ((ZC (eW W) k).1∈F)):=by
  have:Zd (Uw aB) (Zd Zv (Zd Zv (Za 3) (Za 7)) (eC (.int 0))) (Za 4) (YU W b C F L B (some (.int (k:Int))) x8 x9)=some (.bl (decide ((ZC (eW W) k).1∈F))):=by show((Zd Zv (Zd Zv (Za 3) (Za 7)) (eC (.int 0)) (YU W b C F L B (some (.int (k:Int))) x8 x9)).bind λx=>Uw aB x (.lst (iL (nL F))))=_;rw[e0];exact b0
  unfold xB;rw[this];try rfl
 have ei:eP (RP (xB (Zd (Uw aB) (Zd Zv (Zd Zv (Za 3) (Za 7)) (eC (.int 0))) (Za 4))) (Zd Zv (Zd Zv (Za 3) (Za 7)) (eC (.int 1))) (Zd Zv (Zd Zv (Za 3) (Za 7)) (eC (.int 0)))) (YU W b C F L B (some (.int (k:Int))) x8 x9)=some (.int (Xk (eW W) F k:Int)):=by
  refine vP ?_;unfold RP Xk;rw[et];simp only[aL];by_cases q:(ZC (eW W) k).1∈F
  ·rw[mM (by simpa using q),mM q];exact e1
  ·rw[mN (by simpa using q),mN q];exact e0
 unfold Zi;rw[ei];rfl
theorem w3(hL:∀j∈L,j<(eW W).length)(hl:L.length<=1000):Zi 9 (eP (Zc Zz [Zq 1 [8,3] (Yg (Za 5)) (.one 0) (xB (Zd (Uw aB) (Za 1) (WM VY (Zd Zv (Za 2) (Za 0)) VU (Wv (eC (.int 2)))))) (Za 0)])) (YU W b C F L B (some (.int (k:Int))) (some (.int (h:Int))) x9)=some (.nx (YU W b C F L B (some (.int (k:Int))) (some (.int (h:Int))) (some (.int (VP (eW W) L h:Int))))):=by
 have hc:Zq 1 [8,3] (Yg (Za 5)) (.one 0) (xB (Zd (Uw aB) (Za 1) (WM VY (Zd Zv (Za 2) (Za 0)) VU (Wv (eC (.int 2)))))) (Za 0) (YU W b C F L B (some (.int (k:Int))) (some (.int (h:Int))) x9)=some (.lst (iL (nL (L.filter (AZ (eW W) h))))):=by
  rw[XZ L (λ(i:Nat)=>.int (i:Int)) (λ(i:Nat)=>.int (i:Int)) (AZ (eW W) h) (by simp[nL,YU]) (by omega) λy hy=>⟨[some (.int (y:Int)),some (.int (h:Int)),some (YL W)],by simp[VL.compEnv,YU],?_,λ_=>by simp⟩]
  ·unfold nL iL;rw[bS];rfl
  ·obtain⟨t,et⟩:=Rz (hL y hy);have ta:=Ll (hL y hy);have sl:VY (pP (UK W y)) aA (some 2)=some (pP [((ZC (eW W) y).1:Int),((ZC (eW W) y).2:Int)]):=by rw[et];rfl
   have gi:Uw aB (.int (h:Int)) (pP [((ZC (eW W) y).1:Int),((ZC (eW W) y).2:Int)])=some (.bl (AZ (eW W) h y)):=by
    rw[HQ];unfold AZ;by_cases z1:h=(ZC (eW W) y).1
    ·simp[z1]
    ·by_cases z2:h=(ZC (eW W) y).2
     ·simp[z2]
     ·have y1:¬(h:Int)=((ZC (eW W) y).1:Int):=by omega
      have y2:¬(h:Int)=((ZC (eW W) y).2:Int):=by omega
      simp[z1,z2,y1,y2]
   have e1:Zd (Uw aB) (Za 1) (WM VY (Zd Zv (Za 2) (Za 0)) VU (Wv (eC (.int 2)))) [some (.int (y:Int)),some (.int (h:Int)),some (YL W)]=some (.bl (AZ (eW W) h y)):=by show((((Zv (YL W) (.int (y:Int))).bind λx=>VY x aA (some 2))).bind λz=>Uw aB (.int (h:Int)) z)=_;rw[ta];show(VY (pP (UK W y)) aA (some 2)).bind _=_;rw[sl];exact gi
   unfold xB;rw[e1];try rfl
 have e2:eP (Zc Zz [Zq 1 [8,3] (Yg (Za 5)) (.one 0) (xB (Zd (Uw aB) (Za 1) (WM VY (Zd Zv (Za 2) (Za 0)) VU (Wv (eC (.int 2)))))) (Za 0)]) (YU W b C F L B (some (.int (k:Int))) (some (.int (h:Int))) x9)=some (.int (VP (eW W) L h:Int)):=by refine vP ?_;show(TV [_] _).bind Zz=_;unfold TV;rw[hc];simp[TV,nL,VP]
 unfold Zi;rw[e2];rfl
theorem w4a{Lm:Pp}{l:PV}{v:Bool}{k h c:Nat}(pl:Y3 l=aC)(hT:TY Lm l [.int (k:Int),.int (h:Int),.int (c:Int)]=some (.bl v)) :
  xV (Kc TY 2 [Za 7,Za 8,Za 9]) (YU W b (.clo Lm l) F L B (some (.int (k:Int))) (some (.int (h:Int))) (some (.int (c:Int))))=some v:=by
 have:Kc TY 2 [Za 7,Za 8,Za 9] (YU W b (.clo Lm l) F L B (some (.int (k:Int))) (some (.int (h:Int))) (some (.int (c:Int))))=some (.bl v):=by unfold Kc;have ev:TV [Za 7,Za 8,Za 9] (YU W b (.clo Lm l) F L B (some (.int (k:Int))) (some (.int (h:Int))) (some (.int (c:Int))))=some [.int (k:Int),.int (h:Int),.int (c:Int)]:=rfl;have g2:(YU W b (.clo Lm l) F L B (some (.int (k:Int))) (some (.int (h:Int))) (some (.int (c:Int))))[2]?=some (some (.clo Lm l)):=rfl;rw[g2];simp only;rw[ev];simp only[aL];rw[mM (by rw[pl];rfl),hT];rfl
 unfold xV;rw[this];rfl
theorem w4(hF:F.length<=1000)(hB:B.length<=1000){Lm:Pp}{l:PV}{v:Bool}{k h c:Nat}(pl:Y3 l=aC)(hT:TY Lm l [.int (k:Int),.int (h:Int),.int (c:Int)]=some (.bl v)) :
  V9 (xV (Kc TY 2 [Za 7,Za 8,Za 9])) (Zj (ZZ 4 (eP (Za 8))) (ZZ 6 (eP (YC [Za 7,Za 8,Za 9])))) Z6 (YU W b (.clo Lm l) F L B (some (.int (k:Int))) (some (.int (h:Int))) (some (.int (c:Int)))) =
   some (.nx (if v=aC then YU W b (.clo Lm l) (F++[h]) L (B++[(k,h,c)]) (some (.int (k:Int))) (some (.int (h:Int))) (some (.int (c:Int))) else YU W b (.clo Lm l) F L B (some (.int (k:Int))) (some (.int (h:Int))) (some (.int (c:Int))))):=by
 unfold V9;rw[w4a pl hT];simp only[aL]
 cases v with
 | false=>rfl
 | true=>
  simp only[if_true];have e1:ZZ 4 (eP (Za 8)) (YU W b (.clo Lm l) F L B (some (.int (k:Int))) (some (.int (h:Int))) (some (.int (c:Int))))=some (.nx (YU W b (.clo Lm l) (F++[h]) L B (some (.int (k:Int))) (some (.int (h:Int))) (some (.int (c:Int))))):=by rw[Xh (m:=iL (nL F)) (l:=.int (h:Int)) rfl rfl (by simp[nL];omega)];simp[nL,YU]
  have e2:ZZ 6 (eP (YC [Za 7,Za 8,Za 9])) (YU W b (.clo Lm l) (F++[h]) L B (some (.int (k:Int))) (some (.int (h:Int))) (some (.int (c:Int))))=some (.nx (YU W b (.clo Lm l) (F++[h]) L (B++[(k,h,c)]) (some (.int (k:Int))) (some (.int (h:Int))) (some (.int (c:Int))))):=by rw[Xh (m:=B.map λx=>pP (bI x)) (l:=pP (bI (k,h,c))) rfl rfl (by simp;omega)];simp[YU]
  rw[ZF e1,e2]
theorem w5:Zi 7 (Zc Yi [Za 3,Za 5,Za 4]) (YU W b C F L B x7 x8 x9)=some (.nx (YU W b C F L B (some (QP (T1 (eW W) L F))) x8 x9)):=by have:Zc Yi [Za 3,Za 5,Za 4] (YU W b C F L B x7 x8 x9)=some (QP (T1 (eW W) L F)):=KR;unfold Zi;rw[this];rfl
end
theorem KS{W:List (List Int)}:∀e∈eW W,e.1<W.length/\e.2<W.length:=λe he=>by have:=HM e he;omega
theorem Fy{W:List (List Int)}(ok:ZN W){b:Nat}(hb:b<W.length){Lm:Pp}{l:PV}{φ:Nat->Nat->Nat->Bool}(pl:Y3 l=aC)
  (hT:∀k h c:Nat,k<(eW W).length->h<W.length->TY Lm l [.int (k:Int),.int (h:Int),.int (c:Int)]=some (.bl (φ k h c))) :
  Wy [wP W,.int (b:Int),.clo Lm l]=some (.lst ((Wa (eW W) φ (eW W).length (Ii b)).B.map λx=>pP (bI x))):=by
 have hf:=ok.few;have tv:=Wr ok;have hm:(eW W).length<=441:=by rw[V3];exact tv.2
 obtain⟨s',k',q1,⟨s,x8,x9,rfl,wi,wl,wf⟩,q3⟩:=La (c:=xB (RQ aC (Za 7))) (fb:=Zj (ZZ 5 (eP (Za 7)))
   (Zj (Zi 8 (eP (RP (xB (Zd (Uw aB) (Zd Zv (Zd Zv (Za 3) (Za 7)) (eC (.int 0))) (Za 4))) (Zd Zv (Zd Zv (Za 3) (Za 7)) (eC (.int 1))) (Zd Zv (Zd Zv (Za 3) (Za 7)) (eC (.int 0))))))
   (Zj (Zi 9 (eP (Zc Zz [Zq 1 [8,3] (Yg (Za 5)) (.one 0) (xB (Zd (Uw aB) (Za 1) (WM VY (Zd Zv (Za 2) (Za 0)) VU (Wv (eC (.int 2)))))) (Za 0)])))
   (Zj (V9 (xV (Kc TY 2 [Za 7,Za 8,Za 9])) (Zj (ZZ 4 (eP (Za 8))) (ZZ 6 (eP (YC [Za 7,Za 8,Za 9])))) Z6)
   (Zi 7 (Zc Yi [Za 3,Za 5,Za 4]))))))
  (λk st=>∃s x8 x9,st=YU W b (.clo Lm l) s.F s.L s.B (some (QP (T1 (eW W) s.L s.F))) x8 x9/\WInv (eW W) W.length b s/\(eW W).length<=k+s.L.length/\Wa (eW W) φ k s=Wa (eW W) φ (eW W).length (Ii b)) (by
   rintro k st ⟨s,x8,x9,rfl,wi,wl,wf⟩
   cases e:T1 (eW W) s.L s.F with
   | none=>exact .inl (by simp[El,QP,YU])
   | some j=>
    cases k with
    | zero=>
     have:=KQ (φ:=φ) KS wi (m:=0) (by omega);unfold Wa at this;rw[e] at this;cases this
    | succ k=>
     have wi2:=wi.step (φ:=φ) KS e;obtain⟨j1,j2,_⟩:=TU e;obtain⟨n1,n2,o,ho,n3⟩:=Cm e;have eE:ZC (eW W) j∈eW W:=by unfold ZC;rw[aE,aF j1];exact bY j1
     have hlt:Xk (eW W) s.F j<W.length:=by
      have:=KS _ eE;rcases n3 with z | z<;>rw[z] at this
      ·exact this.2
      ·exact this.1
     have lL:=Nd wi.ndL wi.ltL;have lF:=Nd wi.ndF wi.ltF;have lB:s.F.length=s.B.length+1:=by rw[wi.hB];simp
     have ltL:∀i∈s.L++[j],i<(eW W).length:=λi hi=>by
      rcases aa.mp hi with z | z
      ·exact wi.ltL i z
      ·rw[aO.mp z];exact j1
     have e1:=w1 (W:=W) (b:=b) (C:=.clo Lm l) (F:=s.F) (L:=s.L) (B:=s.B) (x8:=x8) (x9:=x9) (k:=j) (by omega);have e2:=w2 (W:=W) (b:=b) (C:=.clo Lm l) (F:=s.F) (L:=s.L++[j]) (B:=s.B) (x8:=x8) (x9:=x9) j1;have e3:=w3 (W:=W) (b:=b) (C:=.clo Lm l) (F:=s.F) (L:=s.L++[j]) (B:=s.B) (x9:=x9) (k:=j) (h:=Xk (eW W) s.F j) ltL (by rw[aX,cz];omega);have e4:=w4 (W:=W) (b:=b) (F:=s.F) (L:=s.L++[j]) (B:=s.B) (by omega) (by omega) pl (hT j (Xk (eW W) s.F j) (VP (eW W) (s.L++[j]) (Xk (eW W) s.F j)) j1 hlt)
     have st:(if φ j (Xk (eW W) s.F j) (VP (eW W) (s.L++[j]) (Xk (eW W) s.F j))=aC then YU W b (.clo Lm l) (s.F++[Xk (eW W) s.F j]) (s.L++[j]) (s.B++[(j,Xk (eW W) s.F j,VP (eW W) (s.L++[j]) (Xk (eW W) s.F j))]) (some (.int (j:Int))) (some (.int (Xk (eW W) s.F j:Int))) (some (.int (VP (eW W) (s.L++[j]) (Xk (eW W) s.F j):Int))) else YU W b (.clo Lm l) s.F (s.L++[j]) s.B (some (.int (j:Int))) (some (.int (Xk (eW W) s.F j:Int))) (some (.int (VP (eW W) (s.L++[j]) (Xk (eW W) s.F j):Int))))=YU W b (.clo Lm l) (Vo (eW W) φ s j).F (Vo (eW W) φ s j).L (Vo (eW W) φ s j).B (some (.int (j:Int))) (some (.int (Xk (eW W) s.F j:Int))) (some (.int (VP (eW W) (s.L++[j]) (Xk (eW W) s.F j):Int))):=by
      unfold Vo;split<;>rfl
     rw[st] at e4;have e5:=w5 (W:=W) (b:=b) (C:=.clo Lm l) (F:=(Vo (eW W) φ s j).F) (L:=(Vo (eW W) φ s j).L) (B:=(Vo (eW W) φ s j).B) (x7:=some (.int (j:Int))) (x8:=some (.int (Xk (eW W) s.F j:Int))) (x9:=some (.int (VP (eW W) (s.L++[j]) (Xk (eW W) s.F j):Int)));refine .inr ⟨by simp[El,QP,YU],_,k,?_,by omega,Vo (eW W) φ s j,some (.int (Xk (eW W) s.F j:Int)),some (.int (VP (eW W) (s.L++[j]) (Xk (eW W) s.F j):Int)),rfl,wi2,?_,?_⟩
     ·exact(ZF e1).trans ((ZF e2).trans ((ZF e3).trans ((ZF e4).trans e5)))
     ·rw[Zcr,aX,cz];omega
     ·rw[<-wf]
      conv=>rhs;unfold Wa
      rw[e]) (k:=(eW W).length) (s:=YU W b (.clo Lm l) [b] [] [] (some (QP (T1 (eW W) [] [b]))) aA aA) ⟨Ii b,aA,aA,rfl,WInv.start hb,by simp,rfl⟩
 have en:T1 (eW W) s.L s.F=aA:=by
  cases e:T1 (eW W) s.L s.F with
  | none=>rfl
  | some h=>rw[e] at q3;simp[El,QP,YU] at q3
 have fin:s=Wa (eW W) φ (eW W).length (Ii b):=by
  rw[<-wf]
  cases k' with
  | zero=>rfl
  | succ n=>unfold Wa;rw[en]
 have a1:Zi 3 (Zc Wh [Za 0]) [some (wP W),some (.int (b:Int)),some (.clo Lm l),aA,aA,aA,aA,aA,aA,aA]=some (.nx [some (wP W),some (.int (b:Int)),some (.clo Lm l),some (YL W),aA,aA,aA,aA,aA,aA]):=by have:Zc Wh [Za 0] [some (wP W),some (.int (b:Int)),some (.clo Lm l),aA,aA,aA,aA,aA,aA,aA]=some (YL W):=tv.1;unfold Zi;rw[this];rfl
 have a2:Zi 4 (Yu [eP (Za 1)]) [some (wP W),some (.int (b:Int)),some (.clo Lm l),some (YL W),aA,aA,aA,aA,aA,aA]=some (.nx [some (wP W),some (.int (b:Int)),some (.clo Lm l),some (YL W),some (.lst (iL (nL [b]))),aA,aA,aA,aA,aA]):=rfl;have a3:Zi 5 (Yu []) [some (wP W),some (.int (b:Int)),some (.clo Lm l),some (YL W),some (.lst (iL (nL [b]))),aA,aA,aA,aA,aA]=some (.nx [some (wP W),some (.int (b:Int)),some (.clo Lm l),some (YL W),some (.lst (iL (nL [b]))),some (.lst []),aA,aA,aA,aA]):=rfl;have a4:Zi 6 (Yu []) [some (wP W),some (.int (b:Int)),some (.clo Lm l),some (YL W),some (.lst (iL (nL [b]))),some (.lst []),aA,aA,aA,aA]=some (.nx (YU W b (.clo Lm l) [b] [] [] aA aA aA)):=rfl;have a5:=w5 (W:=W) (b:=b) (C:=.clo Lm l) (F:=[b]) (L:=[]) (B:=[]) (x7:=aA) (x8:=aA) (x9:=aA);show Yv 10 OD _=_;unfold OD;show(Zj _ _ [some (wP W),some (.int (b:Int)),some (.clo Lm l),aA,aA,aA,aA,aA,aA,aA]).bind Xq=_;rw[ZF a1,ZF a2,ZF a3,ZF a4,ZF a5,ZF q1,<-fin];rfl
noncomputable def hV(h:List Nat):PV:=.lst (iL (nL h))
theorem HS{h:List Nat}{k:Nat}(hk:k<h.length):Zt (nL h) k=(hd h k:Int):=by unfold Zt hd nL;rw[aE,aR,aF hk,aE,aF hk];rfl
theorem Zcs{h:List Nat}{k:Nat}(hk:k<h.length):Zv (hV h) (.int (k:Int))=some (.int (hd h k:Int)):=by rw[<-HS hk];exact Yq (by simpa [nL] using hk)
theorem Zct(h:List Nat)(v:Nat):(nL h).count (v:Int)=h.count v:=by
 induction h with
 | nil=>rfl
 | cons a h ih=>
  show((a:Int)::nL h).count (v:Int)=_;rw[gg,gg,ih];by_cases q:a=v
  ·simp[q]
  ·have:¬(a:Int)=(v:Int):=by omega
   simp[q,this]
theorem Ox(h:List Nat)(v:Nat):VC (hV h) (.int (v:Int))=some (.int (h.count v:Int)):=by show(YQ (iL (nL h))).map _=_;rw[Ys];show some (PV.int (((nL h).count (v:Int):Nat):Int))=_;rw[Zct]
theorem KU{W:List (List Int)}{k x:Nat}(hk:k<(eW W).length):Xj [pP (UK W k),.int (x:Int)]=some (.int (Vs (ZC (eW W) k) x:Int)):=by
 obtain⟨t,et⟩:=Rz hk;rw[et]
 have c:xB (Zd (YW aB) (Za 1) (Zd Zv (Za 0) (eC (.int 0)))) [some (pP [((ZC (eW W) k).1:Int),((ZC (eW W) k).2:Int),t]),some (.int (x:Int))]=some (decide (x=(ZC (eW W) k).1)):=xb (o2 rfl rfl (by
  rw[WC];simp[i9]))
 refine UR (ret (ep ?_));rw[WO];show(xB (Zd (YW aB) (Za 1) (Zd Zv (Za 0) (eC (.int 0)))) [some (pP [((ZC (eW W) k).1:Int),((ZC (eW W) k).2:Int),t]),some (.int (x:Int))]).bind _=_;rw[c];unfold Vs;by_cases q:x=(ZC (eW W) k).1
 ·rw[decide_eq_true q,mM q];rfl
 ·rw[decide_eq_false q,mN q];rfl
noncomputable def RA(n:Nat)(q:Nat->Int)(h:List Nat):Option Nat:=(aD n).find? λv=>decide ((h.count v:Int)>q v)
theorem Qz{h:List Nat}{Q:List Int}:Vf [hV h,pP Q]=some (QP (RA Q.length (Zt Q) h)):=by
 have key:=Ql (T:=.many [2,3]) (fb:=V9 (xB (Zd RO (Zd VC (Za 0) (Za 2)) (Za 3))) (ZY (eP (Za 2))) Z6) (q:=λ(i:Nat)=>.tup [.int (i:Int),.int (Zt Q i)]) (g:=λ(i:Nat)=>.int (i:Int)) (c:=λv=>decide ((h.count v:Int)>Zt Q v))
  (λst=>∃x y,st=[some (hV h),some (pP Q),x,y]) (ls:=aD Q.length) (s:=[some (hV h),some (pP Q),aA,aA]) (by
   rintro k hk st ⟨x,y,rfl⟩;have t:xB (Zd RO (Zd VC (Za 0) (Za 2)) (Za 3)) [some (hV h),some (pP Q),some (.int (k:Int)),some (.int (Zt Q k))]=some (decide ((h.count k:Int)>Zt Q k)):=xb (o2 (o2 rfl rfl (Ox h k)) rfl rfl);refine⟨[some (hV h),some (pP Q),some (.int (k:Int)),some (.int (Zt Q k))],rfl,λhc=>?_,λhc=>⟨[some (hV h),some (pP Q),some (.int (k:Int)),some (.int (Zt Q k))],?_,some (.int (k:Int)),some (.int (Zt Q k)),rfl⟩⟩
   ·rw[Yd,t,hc];rfl
   ·rw[Yd,t,hc];rfl) ⟨aA,aA,rfl⟩
 have en:Yt aB [Za 1] [some (hV h),some (pP Q),aA,aA]=some ((aD Q.length).map λ(i:Nat)=>.tup [.int (i:Int),.int (Zt Q i)]):=by
  show some (Y8 (iL Q))=_;rw[Xg,aH];congr 1;exact ak λi hi=>by rw[X0 Q i (aW.mp hi)]
 show Yv 4 Sl _=_;unfold Sl;show(Zj (Yz [] _ _ _) _ [some (hV h),some (pP Q),aA,aA]).bind Xq=_;unfold RA
 cases q:(aD Q.length).find? λv=>decide ((h.count v:Int)>Zt Q v) with
 | some v=>
  rw[q] at key;rw[DN (v:=.int (v:Int))]
  ·rfl
  ·show(Yt aB [Za 1] [some (hV h),some (pP Q),aA,aA]).bind _=_;rw[en];exact key
 | none=>
  rw[q] at key;obtain⟨s',k1,x,y,rfl⟩:=key;rw[ZF (s1:=[some (hV h),some (pP Q),x,y])]
  ·rfl
  ·show(Yt aB [Za 1] [some (hV h),some (pP Q),aA,aA]).bind _=_;rw[en];exact k1
noncomputable def Se(ks:List Nat):PV:=.cst (iL (nL ks))
noncomputable def kN(x:Nat):Xl:=.inl (x:Int)
theorem Co{a b:Nat}(h:kN a=kN b):a=b:=by unfold kN at h;injection h with h;omega
noncomputable def dF(F:List Nat)(p:Nat->List Nat):PV:=.dK (F.map kN) (F.map λx=>Se (p x))
theorem Ak(F:List Nat)(p:Nat->List Nat):ZH (F.map λx=>Se (p x))=aC:=RU λx _=>Z5 _
theorem Cp(F:List Nat)(p:Nat->List Nat)(y:Nat):W7 (F.map kN) (F.map λx=>Se (p x)) (kN y)=if y∈F then some (Se (p y)) else aA:=by
 unfold W7
 induction F with
 | nil=>rfl
 | cons a F ih=>
  rw[ag,ag,dC,bh];by_cases q:a=y
  ·subst q;have:decide (kN a=kN a)=aC:=decide_eq_true rfl;rw[this,mM (by simp)];rfl
  ·have:decide (kN a=kN y)=aB:=decide_eq_false λz=>q (Co z);rw[this];have e:(y∈a::F)↔y∈F:=by rw[af];exact⟨λz=>z.resolve_left λw=>q w.symm,.inr⟩
   simp only[e];exact ih
theorem Cq{F:List Nat}{p:Nat->List Nat}{y:Nat}(h:y∈F):W8 (dF F p) (.int (y:Int))=some (Se (p y)):=by show W7 (F.map kN) (F.map λx=>Se (p x)) (kN y)=_;rw[Cp,mM h]
theorem Zep(F:List Nat)(p:Nat->List Nat)(y:Nat):dIn (dF F p) (.int (y:Int))=some (decide (y∈F)):=by
 show some (W7 (F.map kN) (F.map λx=>Se (p x)) (kN y)).isSome=_;rw[Cp];by_cases q:y∈F
 ·rw[mM q,decide_eq_true q];rfl
 ·rw[mN q,decide_eq_false q];rfl
theorem Zcu{F:List Nat}{p:Nat->List Nat}{y:Nat}{ks:List Nat}(h:y∉F)(hl:F.length<=1000):Zbq (dF F p) (.int (y:Int)) (Se ks)=some (dF (F++[y]) (KP p y ks)):=by
 have n:kN y∉F.map kN:=λz=>by obtain⟨x,hx,e⟩:=b7.mp z;exact h (by rw[<-Co e];exact hx)
 show(gd (ZH (F.map λx=>Se (p x))&&ZO (Se ks)&&decide ((F.map kN).length<=10000))).bind (λ_=>some (PV.dK (T8 (F.map kN) (kN y)) (T9 (F.map kN) (F.map λx=>Se (p x)) (kN y) (Se ks))))=_;rw[Ak,show ZO (Se ks)=aC from Z5 _,decide_eq_true (by rw[aH];omega)];rw[GH n,GI n];show some (PV.dK _ _)=some (PV.dK _ _);have a:F.map (λx=>Se (p x))=F.map λx=>Se (KP p y ks x):=ak λx hx=>by unfold KP;rw[mN λz=>h (by rw[<-z];exact hx)]
 rw[bB,bB,a];congr 3;unfold KP;simp
noncomputable def wyB:XS:=(Zj (Zi 10 (Zc Xj [Zd Zv (Za 0) (Za 8),Za 9]))
  (V9 (LQ (xB (Zd (YW aB) (Za 9) (Za 7))) (xB (Gz aC (Za 10) (Za 4)))) (Zj (sDPut 4 (Za 10) (Oy (Zd NZ (Zd W8 (Za 4) (Za 7)) (Yu [eP (Za 8)]))))
  (ZZ 5 (eP (Za 10)))) Z6))
noncomputable def KY(W:List (List Int))(h:List Nat)(Q:List Int)(a:Nat)(F:List Nat)(p:Nat->List Nat)(j:Nat)(x7 x8 x9 x10:Option PV):ZS:=[some (YL W),some (hV h),some (pP Q),some (.int (a:Int)),some (dF F p),some (hV F),some (.int (j:Int)),x7,x8,x9,x10]
section
variable {W:List (List Int)} {h:List Nat} {Q:List Int} {a j x:Nat}
theorem Cr{F:List Nat}{p:Nat->List Nat}{i:Nat}{x10:Option PV}(ok:ZN W)(o:HOk (eW W) h)(hl:h.length<=441)(hi:i<(eW W).length)(s:BIn (eW W) h (Zt Q) W.length a F p j x i) :
  ∃F' p',wyB (KY W h Q a F p j (some (.int (x:Int))) (some (.int (i:Int))) (some (.int (hd h i:Int))) x10)=some (.nx (KY W h Q a F' p' j (some (.int (x:Int))) (some (.int (i:Int))) (some (.int (hd h i:Int))) (some (.int (Vs (ZC (eW W) i) (hd h i):Int)))))/\BIn (eW W) h (Zt Q) W.length a F' p' j x (i+1):=by
 have hE:∀e∈eW W,e.1<W.length/\e.2<W.length:=KS;have xF:x∈F:=b8 s.hx;have lF:F.length<=7:=bX (Nd s.b.nd s.b.lt) ok.few;let y:=Vs (ZC (eW W) i) (hd h i);let st:=λF p=>KY W h Q a F p j (some (.int (x:Int))) (some (.int (i:Int))) (some (.int (hd h i:Int))) (some (.int (y:Int)));have e1:Zi 10 (Zc Xj [Zd Zv (Za 0) (Za 8),Za 9]) (KY W h Q a F p j (some (.int (x:Int))) (some (.int (i:Int))) (some (.int (hd h i:Int))) x10)=some (.nx (st F p)):=Yb (c2 (o2 rfl rfl (Ll hi)) rfl (KU hi))
 have t1:xB (Zd (YW aB) (Za 9) (Za 7)) (st F p)=some (decide (hd h i=x)):=xb (o2 rfl rfl (by
  rw[WC];simp[i9]))
 have t2:xB (Gz aC (Za 10) (Za 4)) (st F p)=some (!decide (y∈F)):=xb (by
  unfold Gz;show(dIn (dF F p) (.int (y:Int))).map (λb=>PV.bl (if aC=aC then !b else b))=_;rw[Zep];rfl)
 by_cases c:hd h i=x
 ·subst c;by_cases d:y∈F
  ·refine⟨F,p,sq e1 ?_,s.pass λ_=>d⟩;rw[Yd,PU,t1,t2,decide_eq_true rfl,decide_eq_true d];rfl
  ·refine⟨_,_,sq e1 ?_,s.add o hE hi rfl d⟩;rw[Yd,PU,t1,t2,decide_eq_true rfl,decide_eq_false d];show Zj _ _ (st F p)=_
   have e2:Zd NZ (Zd W8 (Za 4) (Za 7)) (Yu [eP (Za 8)]) (st F p)=some (.lst (iL (nL (p (hd h i)++[i])))):=o2 (o2 rfl rfl (Cq xF)) (b:=.lst (iL [(i:Int)])) rfl (by
    show(YQ (iL (nL (p (hd h i))))).bind _=_;rw[Ys];rw[aL,Ys,aL];show(if(nL (p (hd h i))).length+1<=10000 then some (PV.lst (iL (nL (p (hd h i))++[(i:Int)]))) else aA)=_;have:=s.b.sh (hd h i) xF;rw[mM (by simp[nL];omega)];simp[nL])
   have e3:Oy (Zd NZ (Zd W8 (Za 4) (Za 7)) (Yu [eP (Za 8)])) (st F p)=some (Se (p (hd h i)++[i])):=by unfold Oy;rw[e2];show(YQ (iL (nL (p (hd h i)++[i])))).map _=_;rw[Ys];rfl
   have e4:sDPut 4 (Za 10) (Oy (Zd NZ (Zd W8 (Za 4) (Za 7)) (Yu [eP (Za 8)]))) (st F p)=some (.nx ((st F p).set 4 (some (dF (F++[y]) (KP p y (p (hd h i)++[i])))))):=Dw e3 (k:=.int (y:Int)) rfl (d:=dF F p) rfl (Zcu d (by omega));refine sq e4 ?_;rw[Xh (m:=iL (nL F)) (l:=.int (y:Int)) rfl rfl (by simp[nL];omega)];have:iL (nL F)++[PV.int (y:Int)]=iL (nL (F++[y])):=by simp[nL]
   rw[this];rfl
 ·refine⟨F,p,sq e1 ?_,s.pass λz=>absurd z c⟩;rw[Yd,PU,t1,decide_eq_false c];rfl
end
theorem Ln(h:List Nat):Y8 (iL (nL h))=(aD h.length).map λ(i:Nat)=>.tup [.int (i:Int),.int (hd h i:Int)]:=by
 have l:(nL h).length=h.length:=by simp[nL]
 rw[Xg,aH,l];exact ak λi hi=>by have hi:=aW.mp hi;rw[X0 (nL h) i (by rw[l];exact hi),HS hi]
section
variable {W:List (List Int)} {h:List Nat} {Q:List Int} {a j:Nat}
theorem Ij(ok:ZN W)(o:HOk (eW W) h)(hl:(eW W).length<=441)(hQ:Q.length=W.length)(ha:a<W.length)(QN:Zt Q a<(h.count a:Int))(hq:∀G:List Nat,G.Nodup->(∀g∈G,g<W.length)->G≠[]->XN G (eW W)<=(G.map (Zt Q)).sum) :
  ∃ks x F,TF [YL W,hV h,pP Q,.int (a:Int)]=some (Se ks)/\Pth (eW W) h F a ks x/\(h.count x:Int)<Zt Q x/\ks.length<=7:=by
 have lh:h.length<=441:=by rw[o.len];exact hl
 let c:XT:=xB (Zd oGe (Zd VC (Za 1) (Zd Zv (Za 5) (Za 6))) (Zd Zv (Za 2) (Zd Zv (Za 5) (Za 6))))
 let fb:XS:=(Zj (Zi 7 (eP (Zd Zv (Za 5) (Za 6))))
  (Zj (Yz [4,5] (Yt aC [Za 1]) (.many [8,9]) wyB)
  (Bl 6 ZI (eC (.int 1)))))
 have i0:BSr (eW W) h (Zt Q) W.length a [a] (λ_=>[]) 0:=
  ⟨by simp,λx hx=>by rw[aO.mp hx];exact ha,by simp,eu _,λx hx=>by rw[aO.mp hx];exact Pth.start o,λx hx=>j0,λx hx=>(cD hx).elim,λx hx=>(cD hx).elim⟩
 have tst:∀{F p j x7 x8 x9 x10}(i:BSr (eW W) h (Zt Q) W.length a F p j),∃x,F[j]?=some x/\x∈F/\Zd Zv (Za 5) (Za 6) (KY W h Q a F p j x7 x8 x9 x10)=some (.int (x:Int))/\c (KY W h Q a F p j x7 x8 x9 x10)=some (decide ((h.count x:Int) ≥ Zt Q x)):=λ{F p j x7 x8 x9 x10} i=>by
  have hj:=i.goes o QN hq;have xF:F[j]∈F:=bY hj;have ex:hd F j=F[j]:=by unfold hd;rw[aE,aF hj];rfl
  have g:Zd Zv (Za 5) (Za 6) (KY W h Q a F p j x7 x8 x9 x10)=some (.int (F[j]:Int)):=by rw[<-ex];exact o2 rfl rfl (Zcs hj)
  refine⟨F[j],aF hj,xF,g,xb (o2 (o2 rfl g (Ox h _)) (o2 rfl g (Yq (by rw[hQ];exact i.lt _ xF))) rfl)⟩
 obtain⟨s',k',e1,⟨F,p,j,x7,x8,x9,x10,i,rfl,_⟩,e2⟩:=La (c:=c) (fb:=fb) (λk st=>∃F p j x7 x8 x9 x10,BSr (eW W) h (Zt Q) W.length a F p j/\st=KY W h Q a F p j x7 x8 x9 x10/\k=W.length-j) (by
  rintro k st ⟨F,p,j,x7,x8,x9,x10,i,rfl,rfl⟩;obtain⟨x,hx,xF,g,t⟩:=tst (x7:=x7) (x8:=x8) (x9:=x9) (x10:=x10) i;have hj:=i.goes o QN hq;have lF:=Nd i.nd i.lt;by_cases ge:(h.count x:Int) ≥ Zt Q x
  ·refine .inr ⟨by rw[t,decide_eq_true ge],?_⟩
   obtain⟨s2,f1,F',p',y8,y9,y10,bi,rfl⟩:=Yh (T:=.many [8,9]) (fb:=wyB) (ls:=Y8 (iL (nL h))) (s:=KY W h Q a F p j (some (.int (x:Int))) x8 x9 x10) (λm s=>∃F p x8 x9 x10,BIn (eW W) h (Zt Q) W.length a F p j x m/\s=KY W h Q a F p j (some (.int (x:Int))) x8 x9 x10) ⟨F,p,x8,x9,x10,⟨i,hx,λk hk=>absurd hk (Nat.not_lt_zero _)⟩,rfl⟩ (by
    rintro m l s hl' ⟨F,p,x8,x9,x10,bi,rfl⟩;rw[Ln] at hl';have hm:m<h.length:=by have:=(aU.mp hl').1;simpa using this
    rw[aR,bq hm] at hl';cases hl';obtain⟨F',p',e,bi'⟩:=Cr (x10:=x10) ok o lh (by rw[<-o.len];exact hm) bi;exact⟨KY W h Q a F p j (some (.int (x:Int))) (some (.int (m:Int))) (some (.int (hd h m:Int))) x10,_,rfl,e,F',p',_,_,_,bi',rfl⟩)
   have le:(Y8 (iL (nL h))).length=(eW W).length:=by rw[Ln];simp[o.len]
   rw[le] at bi;refine⟨KY W h Q a F' p' (j+1) (some (.int (x:Int))) y8 y9 y10,W.length-(j+1),sq (s1:=KY W h Q a F p j (some (.int (x:Int))) x8 x9 x10) (Yb (ep g)) (sq (s1:=KY W h Q a F' p' j (some (.int (x:Int))) y8 y9 y10) ?_ ?_),by omega,F',p',j+1,_,_,_,_,bi.done ge,rfl,rfl⟩
   ·show(Yt aC [Za 1] (ZX [4,5] (KY W h Q a F p j (some (.int (x:Int))) x8 x9 x10))).bind _=_;have:Yt aC [Za 1] (ZX [4,5] (KY W h Q a F p j (some (.int (x:Int))) x8 x9 x10))=some (Y8 (iL (nL h))):=rfl;rw[this];exact f1
   ·rfl
  ·exact .inl (by rw[t,decide_eq_false ge])) ⟨[a],λ_=>[],0,aA,aA,aA,aA,i0,rfl,rfl⟩
 obtain⟨x,hx,xF,g,t⟩:=tst (x7:=x7) (x8:=x8) (x9:=x9) (x10:=x10) i;have lt:(h.count x:Int)<Zt Q x:=by rw[t] at e2;have:=of_decide_eq_false (az e2);omega
 refine⟨p x,x,F,UR ?_,i.pt x xF,lt,?_⟩
 ·have e0:Ju (Za 3) (Oy (Yu [])) [some (YL W),some (hV h),some (pP Q),some (.int (a:Int)),aA,aA,aA,aA,aA,aA,aA]=some (dF [a] λ_=>[]):=rfl;exact sq (Yb e0) (sq (Yb rfl) (sq (Yb rfl) (sq e1 (ret (ep (o2 rfl g (Cq xF)) (Z5 _))))))
 ·have:=i.sh x xF;have:=Nd i.nd i.lt;have:=ok.few;omega
end
section
variable {W:List (List Int)} {h:List Nat} {Q:List Int}
noncomputable def Fz(W:List (List Int))(Q:List Int)(h:List Nat)(x4 x5 x6:Option PV):ZS:=[some (wP W),some (pP Q),some (YL W),some (hV h),x4,x5,x6]
noncomputable def hdB:XS:=UY 3 (Za 6) (Zc Xj [Zd Zv (Za 2) (Za 6),Zd Zv (Za 3) (Za 6)])
theorem Cs{x4 x5:Option PV}{k:Nat}(lh:h.length=(eW W).length)(hk:k<(eW W).length):hdB (Fz W Q h x4 x5 (some (.int (k:Int))))=some (.nx (Fz W Q (Uo (eW W) h k) x4 x5 (some (.int (k:Int))))):=by
 have hk':k<h.length:=by rw[lh];exact hk
 have l:(iL (nL h)).length=h.length:=by simp[nL]
 unfold hdB;rw[NU (m:=iL (nL h)) (l:=.int (Vs (ZC (eW W) k) (hd h k):Int)) (k:=(k:Int)) (j:=k) (c2 (o2 rfl rfl (Ll hk)) (o2 rfl rfl (Zcs hk')) (KU hk)) rfl rfl (Z5 _) rfl (by rw[l];exact Tz hk')];have:(iL (nL h)).set k (.int (Vs (ZC (eW W) k) (hd h k):Int))=iL (nL (Uo (eW W) h k)):=by unfold Uo nL;rw[gv];exact gv.symm
 rw[this];rfl
theorem KW{x4 x5:Option PV}:∀{ks h:List Nat}{x6:Option PV},h.length=(eW W).length->(∀k∈ks,k<(eW W).length)->∃y6,WN (.one 6) hdB (iL (nL ks)) (Fz W Q h x4 x5 x6)=some (.nx (Fz W Q (VN (eW W) h ks) x4 x5 y6))
 | [],h,x6,_,_=>⟨x6,rfl⟩
 | k::ks,h,x6,lh,hk=>by obtain⟨y6,e⟩:=KW (x4:=x4) (x5:=x5) (ks:=ks) (h:=Uo (eW W) h k) (x6:=some (.int (k:Int))) (by unfold Uo;rw[cZ,lh]) λj hj=>hk j (by simp[hj]);refine⟨y6,?_⟩;show WN (.one 6) hdB (.int (k:Int)::iL (nL ks)) _=_;unfold WN;show(eK (some (Fz W Q h x4 x5 (some (.int (k:Int))))) λs1=>_)=_;rw[aL,Cs lh (hk k (by simp))];exact e
theorem FA{n a:Nat}{q:Nat->Int}(e:RA n q h=some a):a<n/\q a<(h.count a:Int):=by have m:=dZ e;have c:=jZ e;exact⟨aW.mp m,of_decide_eq_true c⟩
theorem Lo(ok:ZN W)(hl:(eW W).length<=441)(hQ:Q.length=W.length)(hq:∀G:List Nat,G.Nodup->(∀g∈G,g<W.length)->G≠[]->XN G (eW W)<=(G.map (Zt Q)).sum) :
  ∃h,VF [wP W,pP Q]=some (hV h)/\HOk (eW W) h/\∀v,v<W.length->(h.count v:Int)<=Zt Q v:=by
 let h0:List Nat:=(aD (eW W).length).map λk=>(ZC (eW W) k).1
 have o0:HOk (eW W) h0:=⟨by simp[h0],λk hk=>.inl (by
  show((aD (eW W).length).map λk=>(ZC (eW W) k).1).getD k 0=_;rw[aE,aR,bq hk];rfl)⟩
 have e1:Zq 1 [] (Yg (Za 2)) (.one 0) Zx (eP (Zd Zv (Za 0) (eC (.int 0)))) [some (wP W),some (pP Q),some (YL W),aA,aA,aA,aA]=some (hV h0):=by
  have et:(Y0 W).map pP=(aD (eW W).length).map λk=>pP (UK W k):=by
   rw[V3]
   conv=>lhs;rw[<-Rt (Y0 W) []]
   rw[bS];rfl
  rw[ZM (aD (eW W).length) (λk=>pP (UK W k)) (λk=>.int ((ZC (eW W) k).1:Int)) (by show some ((Y0 W).map pP)=_;rw[et]) (by simp;omega) (λk hk=>⟨[some (pP (UK W k))],rfl,rfl,?_⟩)]
  ·unfold hV nL;rw[bS,Qx];rfl
  ·obtain⟨t,et⟩:=Rz (aW.mp hk);refine ep (o2 rfl rfl ?_);rw[et];rfl
 let fb:XS:=(Zj (Zi 5 (Zc TF [Za 2,Za 3,Za 1,Za 4]))
  (Zj (Yz [3] (Yg (Za 5)) (.one 6) hdB)
  (Zi 4 (Zc Vf [Za 3,Za 1]))))
 obtain⟨s',k',w1,⟨h,x5,x6,o,rfl,_⟩,w2⟩:=La (c:=xB (RQ aC (Za 4))) (fb:=fb) (λk st=>∃h x5 x6,HOk (eW W) h/\st=Fz W Q h (some (QP (RA W.length (Zt Q) h))) x5 x6/\k=(Fv W.length (Zt Q) h).toNat) (by
  rintro k st ⟨h,x5,x6,o,rfl,rfl⟩
  cases e:RA W.length (Zt Q) h with
  | none=>exact .inl (xb rfl)
  | some a=>
   obtain⟨ha,QN⟩:=FA e;obtain⟨ks,x,F,ew,p,fr,_⟩:=Ij ok o hl hQ ha QN hq;obtain⟨y6,ef⟩:=KW (W:=W) (Q:=Q) (x4:=some (.int (a:Int))) (x5:=some (Se ks)) (ks:=ks) (h:=h) (x6:=x6) o.len p.lt;have ls:=Ck ha QN fr p.cn;have nn:=Zcq W.length (Zt Q) (VN (eW W) h ks);refine .inr ⟨xb rfl,Fz W Q (VN (eW W) h ks) (some (QP (RA W.length (Zt Q) (VN (eW W) h ks)))) (some (Se ks)) y6,(Fv W.length (Zt Q) (VN (eW W) h ks)).toNat,sq (s1:=Fz W Q h (some (.int (a:Int))) (some (Se ks)) x6) (Yb (c4 rfl rfl rfl rfl ew)) (sq (s1:=Fz W Q (VN (eW W) h ks) (some (.int (a:Int))) (some (Se ks)) y6) ?_ (Yb (c2 rfl rfl (by rw[<-hQ];exact Qz)))),by omega,_,_,_,p.ok,rfl,rfl⟩;show(Yg (Za 5) (ZX [3] (Fz W Q h (some (.int (a:Int))) (some (Se ks)) x6))).bind _=_;have:Yg (Za 5) (ZX [3] (Fz W Q h (some (.int (a:Int))) (some (Se ks)) x6))=some (iL (nL ks)):=rfl;rw[this];exact ef) ⟨h0,aA,aA,o0,rfl,rfl⟩
 have nn:RA W.length (Zt Q) h=aA:=by
  cases e:RA W.length (Zt Q) h with
  | none=>rfl
  | some a=>
   have t:xB (RQ aC (Za 4)) (Fz W Q h (some (QP (RA W.length (Zt Q) h))) x5 x6)=some aC:=by rw[e];exact xb rfl
   rw[t] at w2;cases w2
 refine⟨h,UR ?_,o,λv hv=>?_⟩;rotate_left
 ·have:=gD.mp nn v (aW.mpr hv);simp only[decide_eq_true_eq] at this;omega
 exact sq (s1:=[some (wP W),some (pP Q),some (YL W),aA,aA,aA,aA]) (Yb (c1 rfl (Wr ok).1)) (sq (s1:=Fz W Q h0 aA aA aA) (Yb e1) (sq (Yb (c2 rfl rfl (by rw[<-hQ];exact Qz))) (sq w1 (ret rfl))))
end
theorem Nf(D:List Int):Y3 (pP D)=aC:=by
 show Wk (iL D)=aC
 induction D with
 | nil=>rfl
 | cons a r ih=>exact ih
theorem A0{g:List PV->Option PV}{f:XE}{s:ZS}{l r:PV}(h:f s=some l)(hg:g [l]=some r):Zc g [f] s=some r:=by show((f s).bind λx=>some [x]).bind g=_;rw[h];exact hg
theorem Ik{W:List (List Int)}(ok:ZN W){b:Nat}(hb:b<W.length){Lm:Pp}{l:PV}{φ:Nat->Nat->Nat->Bool}(pl:Y3 l=aC)
  (hT:∀k h c:Nat,k<(eW W).length->h<W.length->TY Lm l [.int (k:Int),.int (h:Int),.int (c:Int)]=some (.bl (φ k h c))) :
  Uh [wP W,.int (b:Int),.clo Lm l]=some (pP (nL (Fw ((Wa (eW W) φ (eW W).length (Ii b)).B.map (·.1))))):=by
 have hw:=Fy ok hb pl hT;generalize hs:Wa (eW W) φ (eW W).length (Ii b)=s at hw ⊢;have wi:WInv (eW W) W.length b s:=by rw[<-hs];exact WInv.walk KS (WInv.start hb)
 have lF:=Nd wi.ndF wi.ltF;have lB:s.F.length=s.B.length+1:=by rw[wi.hB];simp
 have hf:=ok.few
 have hc:Zq 1 [] (Yg (Zc Wy [Za 0,Za 1,Za 2])) (.one 0) Zx (Zd Zv (Za 0) (eC (.int 0))) [some (wP W),some (.int (b:Int)),some (.clo Lm l)]=some (.lst (iL (nL (s.B.map (·.1))))):=by
  have fi:Yg (Zc Wy [Za 0,Za 1,Za 2]) [some (wP W),some (.int (b:Int)),some (.clo Lm l)]=some (s.B.map λx=>pP (bI x)):=by have:Zc Wy [Za 0,Za 1,Za 2] [some (wP W),some (.int (b:Int)),some (.clo Lm l)]=some (.lst (s.B.map λx=>pP (bI x))):=hw;unfold Yg;rw[this];rfl
  rw[ZM s.B (λx=>pP (bI x)) (λx=>.int (x.1:Int)) fi (by omega) (λx hx=>?_)]
  ·unfold nL iL;rw[bS,bS];rfl
  ·exact⟨[some (pP (bI x))],by simp[VL.compEnv],rfl,rfl⟩
 have hs2:WQ [.lst (iL (nL (s.B.map (·.1))))]=some (.lst (iL (Xw (nL (s.B.map (·.1)))))):=Nc (by rw[aH];omega);show Yv 3 R1 _=_;unfold R1;show(ZY _ [some (wP W),some (.int (b:Int)),some (.clo Lm l)]).bind Xq=_;have e:eP (Zc ZR [Zc WQ [Zq 1 [] (Yg (Zc Wy [Za 0,Za 1,Za 2])) (.one 0) Zx (Zd Zv (Za 0) (eC (.int 0)))]]) [some (wP W),some (.int (b:Int)),some (.clo Lm l)]=some (pP (nL (Fw (s.B.map (·.1))))):=by rw[Aj];have e2:Zc ZR [Zc WQ [Zq 1 [] (Yg (Zc Wy [Za 0,Za 1,Za 2])) (.one 0) Zx (Zd Zv (Za 0) (eC (.int 0)))]] [some (wP W),some (.int (b:Int)),some (.clo Lm l)]=some (pP (Xw (nL (s.B.map (·.1))))):=A0 (A0 hc hs2) rfl;unfold eP;rw[e2,aL,mM];show ZH (iL _)=aC;exact Z5 _
 rw[Vm e];rfl
noncomputable def Vp(W:List (List Int))(P:List Int):List Int:=OZ (Sr P (aN W.length 1)) (Fl W.length 0)
theorem Ct{W:List (List Int)}{P:List Int}(hP:P.length=W.length){i:Nat}(hi:i<W.length):Zt (Vp W P) i=Zt P i+1-if i=0 then 1 else 0:=by
 unfold Vp;rw[Kn (by rw[Th,hP];exact hi),Km (by rw[hP];exact hi)];have a:Zt (aN W.length 1) i=1:=by unfold Zt;rw[aE,bV,mM hi];rfl
 have b:Zt (Fl W.length 0) i=if i=0 then 1 else 0:=ZP hi
 rw[a,b]
theorem Al{W:List (List Int)}(ok:ZN W){P:List Int}(hP:P.length=W.length)(fP:Su W P)(G:List Nat)(nd:G.Nodup)(lt:∀g∈G,g<W.length)(ne:G≠[]):XN G (eW W)<=(G.map (Zt (Vp W P))).sum:=by
 obtain⟨g,hg⟩:=fO G ne;have h1:=fP (λi=>decide (i∈G)) ⟨g,lt g hg,decide_eq_true hg⟩;have h2:=Cb (w:=ZV W) (D:=Zt P) nd lt (by rw[Ry ok nd lt];omega);have h3:=Ry ok nd lt;unfold uW at h1;rw[<-h2] at h1;unfold Qv at h1
 have h4:(G.map (Zt (Vp W P))).sum=(G.map (Zt P)).sum+(G.map λi=>1-if i=0 then(1:Int) else 0).sum:=by
  rw[<-Tj];congr 1;exact ak λi hi=>by rw[Ct hP (lt i hi)];omega
 have h5:∀G:List Nat,G.Nodup->(G.length:Int)-1<=(G.map λi=>1-if i=0 then(1:Int) else 0).sum/\(0∉G->(G.length:Int)<=(G.map λi=>1-if i=0 then(1:Int) else 0).sum):=λG=>by
  induction G with
  | nil=>intro _;exact⟨by decide,λ_=>by decide⟩
  | cons x G ih=>
   intro nd;obtain⟨n1,n2⟩:=bG.mp nd;obtain⟨a,b⟩:=ih n2;simp only[ag,bc,bA];by_cases z:x=0
   ·subst z;have:=b n1;simp;omega
   ·simp[z];exact⟨by omega,λ_ w=>by have:=b w;omega⟩
 have h6:=(h5 G nd).1;omega
theorem FC{h:List Nat}{k g c:Nat}(hk:k<h.length):TY Y6 (Se h) [.int (k:Int),.int (g:Int),.int (c:Int)]=some (.bl (decide (hd h k=g))):=by
 unfold TY;rw[mM rfl]
 exact o2 (o2 rfl rfl (show Zv (Se h) (.int (k:Int))=some (.int (hd h k:Int)) from Zcs hk)) rfl (by
  rw[WC];simp[i9])
noncomputable def Cu(W:List (List Int))(P:List Int)(T X:List Nat):Prop:=∃h,HOk (eW W) h/\(∀v,v<W.length->(h.count v:Int)<=Zt (Vp W P) v)/\T=Fw ((Wa (eW W) (λk g _=>decide (hd h k=g)) (eW W).length (Ii 0)).B.map (·.1))/\X=((aD h.length).filter λk=>!decide (k∈T)).map (hd h)
theorem Am{W:List (List Int)}(ok:ZN W){P:List Int}(hP:P.length=W.length)(fP:Su W P):∃T X:List Nat,TH [wP W,pP P]=some (.tup [pP (nL T),pP (nL X)])/\Cu W P T X:=by
 have hf:=ok.few;have hp:=ok.pos;have lQ:(Vp W P).length=W.length:=by unfold Vp;rw[Kl,Th,hP]
 have hl:(eW W).length<=441:=by rw[V3];exact(Wr ok).2
 obtain⟨h,eh,o,ov⟩:=Lo ok hl lQ (Al ok hP fP);have lh:=o.len;have tb:=Ik ok hp (Lm:=Y6) (l:=Se h) (φ:=λk g _=>decide (hd h k=g)) (Nf (nL h)) λk g c hk _=>FC (by rw[lh];exact hk);generalize hT:Fw ((Wa (eW W) (λk g _=>decide (hd h k=g)) (eW W).length (Ii 0)).B.map (·.1))=T at tb;let X:List Nat:=((aD h.length).filter λk=>!decide (k∈T)).map (hd h);refine⟨T,X,UR ?_,h,o,ov,hT.symm,rfl⟩;let st:Option PV->Option PV->Option PV->ZS:=λx2 x3 x4=>[some (wP W),some (pP P),x2,x3,x4]
 have e1:Zi 2 (Zc UD [Zc U0 [Za 1,Zd NV (YC [eC (.int 1)]) (Zc Zz [Za 0])],Zc S8 [Za 0,eC (.int 0)]]) (st aA aA aA)=some (.nx (st (some (pP (Vp W P))) aA aA)):=by
  have a:Zd NV (YC [eC (.int 1)]) (Zc Zz [Za 0]) (st aA aA aA)=some (pP (aN W.length 1)):=o2 (a:=.tup [.int 1]) (b:=.int (W.length:Int)) rfl (by simp[st]) (by
   show(if ZH [PV.int 1]=aC/\[PV.int 1]≠[]/\1<=(W.length:Int)/\(W.length:Int)<=1000000/\[PV.int 1].length*((W.length:Int)).toNat<=10000 then some (PV.tup (aN ((W.length:Int)).toNat [PV.int 1]).flatten) else aA)=_;rw[mM ⟨rfl,by simp,by omega,by omega,by simp;omega⟩,bR,SF];simp)
  have b:Zc U0 [Za 1,Zd NV (YC [eC (.int 1)]) (Zc Zz [Za 0])] (st aA aA aA)=some (pP (Sr P (aN W.length 1))):=c2 rfl a (Hq (by rw[cW,hP]) (by rw[hP];omega));exact Yb (c2 b (c2 rfl rfl (Fm (h:=0) hf)) (Kj (by simp[Fl,Th,hP]) (by rw[Th,hP];omega)))
 have e2:Zi 3 (eP (Oy (Zc VF [Za 0,Za 2]))) (st (some (pP (Vp W P))) aA aA)=some (.nx (st (some (pP (Vp W P))) (some (Se h)) aA)):=by refine Yb (ep ?_ (Z5 _));unfold Oy;rw[c2 (f:=Za 0) (g:=Za 2) (s:=st (some (pP (Vp W P))) aA aA) rfl rfl eh];show(YQ (iL (nL h))).map _=_;rw[Ys];rfl
 have e3:Zi 4 (OB Uh (Za 0) (eC (.int 0)) Y6 3) (st (some (pP (Vp W P))) (some (Se h)) aA)=some (.nx (st (some (pP (Vp W P))) (some (Se h)) (some (pP (nL T))))):=by refine Yb ?_;show(Uh [wP W,.int ((0:Nat):Int),.clo Y6 (Se h)]).bind _=_;rw[tb,aL,mM (Nf _)]
 have e4:Zq 2 [4] (Yt aC [Za 3]) (.many [0,1]) (xB (Zd (Uw aC) (Za 0) (Za 2))) (Za 1) (st (some (pP (Vp W P))) (some (Se h)) (some (pP (nL T))))=some (.lst (iL (nL X))):=by rw[XZ (aD h.length) (λ(k:Nat)=>.tup [.int (k:Int),.int (hd h k:Int)]) (λ(k:Nat)=>.int (hd h k:Int)) (λk=>!decide (k∈T)) (by show some (Y8 (iL (nL h)))=_;rw[Ln]) (by simp;omega) (λk hk=>⟨[some (.int (k:Int)),some (.int (hd h k:Int)),some (pP (nL T))],rfl,xb (o2 rfl rfl (by rw[HQ];simp only[O4];rfl)),λ_=>rfl⟩)];show _=some (PV.lst (iL (nL (((aD h.length).filter λk=>!decide (k∈T)).map (hd h)))));unfold nL;rw[bS,Qx];rfl
 refine sq e1 (sq e2 (sq e3 (ret (ep (v:=.tup [pP (nL T),pP (nL X)]) ?_ ?_))))
 ·rw[L5,Zk,show Za 4 (st (some (pP (Vp W P))) (some (Se h)) (some (pP (nL T))))=some (pP (nL T)) from rfl,Zk,c1 e4 (P5 _)];rfl
 ·simp
end PW
namespace PW
open L2 VL VX PK
noncomputable def W6:List (List Int):=(aD 6).map λ(i:Nat)=>(aD 6).map λ(j:Nat)=>if((i:Int)-(j:Int))%3=0 then(0:Int) else 1
theorem An:Ra []=some (wP W6):=by
 have inn:∀i:Nat,Zq 1 [0] (ZE [eC (.int 6)]) (.one 0) Zx (Zc UU [Zd (YW aC) (Zd Z2 (Zd Yo (Za 1) (Za 0)) (eC (.int 3))) (eC (.int 0))]) [some (.int (i:Int))]=some (.lst (iL ((aD 6).map λ(j:Nat)=>if((i:Int)-(j:Int))%3=0 then(0:Int) else 1))):=λi=>by
  rw[ZM (aD 6) (λ(j:Nat)=>.int (j:Int)) (λj=>.int (if((i:Int)-(j:Int))%3=0 then(0:Int) else 1)) (Z1 (n:=6) rfl (by omega)) (by simp) (λj hj=>⟨[some (.int (j:Int)),some (.int (i:Int))],rfl,rfl,?_⟩)]
  ·rw[Qx]
  ·have a:Zd Z2 (Zd Yo (Za 1) (Za 0)) (eC (.int 3)) [some (.int (j:Int)),some (.int (i:Int))]=some (.int (((i:Int)-(j:Int))%3)):=vC (C:=λ_ j=>0<j) (op:=(· % ·)) (vI (op:=(· - ·)) rfl rfl) rfl (by decide);have b:Zd (YW aC) (Zd Z2 (Zd Yo (Za 1) (Za 0)) (eC (.int 3))) (eC (.int 0)) [some (.int (j:Int)),some (.int (i:Int))]=some (.bl (!decide (((i:Int)-(j:Int))%3=0))):=by rw[Ya,a];show YW aC (.int (((i:Int)-(j:Int))%3)) (.int 0)=_;rw[WC];rfl
   rw[ZD,Zk,b];by_cases q:((i:Int)-(j:Int))%3=0
   ·rw[decide_eq_true q,mM q];rfl
   ·rw[decide_eq_false q,mN q];rfl
 have hc:Zq 1 [] (ZE [eC (.int 6)]) (.one 0) Zx (Zc ZR [Zq 1 [0] (ZE [eC (.int 6)]) (.one 0) Zx (Zc UU [Zd (YW aC) (Zd Z2 (Zd Yo (Za 1) (Za 0)) (eC (.int 3))) (eC (.int 0))])]) []=some (.lst (W6.map pP)):=by
  rw[ZM (aD 6) (λ(j:Nat)=>.int (j:Int)) (λi=>pP ((aD 6).map λ(j:Nat)=>if((i:Int)-(j:Int))%3=0 then(0:Int) else 1)) (Z1 (n:=6) rfl (by omega)) (by simp) (λi hi=>⟨[some (.int (i:Int))],rfl,rfl,?_⟩)]
  ·unfold W6;rw[bS];rfl
  ·rw[ZD,Zk,inn];rfl
 show Yv 0 QY _=_;unfold QY;show(ZY _ []).bind Xq=_
 rw[Vm (v:=wP W6) (by
  rw[YR,ZD,Zk,hc];show(if ZO (wP W6)=aC then some (wP W6) else aA)=_;rw[mM (by decide +kernel)])]
 rfl
theorem Zer:ZN W6:=by
 have l:W6.length=6:=rfl;have all:∀i,i<6->∀j,j<6->0<=ZV W6 i j/\ZV W6 i j<=9/\ZV W6 i j=ZV W6 j i:=by decide +kernel
 refine⟨by decide,by decide,by decide +kernel,λi j hi hj=>?_,λi j hi hj=>?_,λi j hi hj=>?_,by decide +kernel⟩
 ·exact(all i (by rw[l] at hi;exact hi) j (by rw[l] at hj;exact hj)).1
 ·exact(all i (by rw[l] at hi;exact hi) j (by rw[l] at hj;exact hj)).2.1
 ·exact(all i (by rw[l] at hi;exact hi) j (by rw[l] at hj;exact hj)).2.2
theorem Ao:Rq W6:=λP h=>by
 have l:W6.length=6:=rfl;have e:∀a b,a<6->b<6->0<ZV W6 a b->(P a↔P b):=λa b ha hb z=>h a b (by rw[l];exact ha) (by rw[l];exact hb) z;have h1:=e 0 1 (by decide) (by decide) (by decide +kernel);have h2:=e 0 2 (by decide) (by decide) (by decide +kernel);have h4:=e 0 4 (by decide) (by decide) (by decide +kernel);have h5:=e 0 5 (by decide) (by decide) (by decide +kernel);have h3:=e 1 3 (by decide) (by decide) (by decide +kernel)
 have all:∀i,i<6->(P i↔P 0):=λi hi=>by
  have:i=0\/i=1\/i=2\/i=3\/i=4\/i=5:=by omega
  rcases this with rfl | rfl | rfl | rfl | rfl | rfl
  ·exact Iff.rfl
  ·exact h1.symm
  ·exact h2.symm
  ·exact h3.symm.trans h1.symm
  ·exact h4.symm
  ·exact h5.symm
 exact λi j hi hj=>(all i (by rw[l] at hi;exact hi)).trans (all j (by rw[l] at hj;exact hj)).symm
theorem Cv{ns:List Int}(hns:ns.length<=63):∃W,QZ [.cst (iL ns),YS,.int 8]=some (wP W)/\ZN W/\Rq W/\(eW W).length<=12:=by
 obtain⟨v,hv,ev⟩:=YY (Zt ns 0) (t:=337) (m:=16) (by omega) (by omega);let s0:ZS:=[some (.cst (iL ns)),some YS,some (.int 8),aA,aA,aA,aA,aA,aA,aA,aA,aA]
 have t:xB (Zd (YW aB) (Zc Zu [Zc ZW [Za 0,eC (.int 0)],eC (.int 337),eC (.int 16)]) (eC (.int 3))) s0=some (decide (v=3)):=by
  have a:Zc ZW [Za 0,eC (.int 0)] s0=some (.int (Zt ns 0)):=Rw hns 0;have b:Zc Zu [Zc ZW [Za 0,eC (.int 0)],eC (.int 337),eC (.int 16)] s0=some (.int (v:Int)):=by rw[ZD,Zk,a];exact ev
  rw[UB,Ya,b];show(YW aB (.int (v:Int)) (.int 3)).bind AN=_;rw[WC];show some (decide ((v:Int)=3))=_;congr 1;exact decide_eq_decide.mpr (by omega)
 by_cases q:v=3
 ·refine⟨W6,?_,Zer,Ao,by decide +kernel⟩;show Yv 12 Rc _=_;unfold Rc;show(Zj _ _ s0).bind Xq=_;rw[DN (v:=wP W6)]
  ·rfl
  ·rw[Yd,t,decide_eq_true q,aL,mM rfl];exact Vm (show Zc Ra [] s0=some (wP W6) from An)
 ·obtain⟨W,ew,ok,cn,_,h8⟩:=D3 hns;refine⟨W,?_,ok,cn,by rw[V3];omega⟩;show Yv 12 Rc _=_;unfold Rc;show(Zj _ _ s0).bind Xq=_;rw[ZF (s1:=s0) (by rw[Yd,t,decide_eq_false q];rfl)];exact ew
noncomputable def lpW(W:List (List Int)):Int:=((eW W).length:Int)-(W.length:Int)+1
theorem QA{l:List Int}{n:Nat}(h:l.length=n)(hn:n<=1000):XB [pP l,.int (n:Int)]=some (.bl aC):=by
 have c1:Zc Vv [Za 0,eC (.ty "tuple")] [some (pP l),some (.int (n:Int))]=some (.bl aC):=by simp
 have c2:Zd (YW aC) (Zc Zz [Za 0]) (Za 1) [some (pP l),some (.int (n:Int))]=some (.bl aB):=by
  have:Zc Zz [Za 0] [some (pP l),some (.int (n:Int))]=some (.int (n:Int)):=by show some (PV.int ((iL l).length:Int))=_;rw[aH,h]
  rw[Ya,this];show YW aC (.int (n:Int)) (.int (n:Int))=_;simp
 have e1:V9 (LR (SH (xB (Zc Vv [Za 0,eC (.ty "tuple")]))) (xB (Zd (YW aC) (Zc Zz [Za 0]) (Za 1)))) (ZY (eP (eC (.bl aB)))) Z6 [some (pP l),some (.int (n:Int))]=some (.nx [some (pP l),some (.int (n:Int))]):=by rw[Yd,SU,L6,UB,c1];simp only[aL,Zbt,cQ,mE,dB,if_false];rw[UB,c2];rfl
 have hc:Zq 1 [] (SO (Za 0)) (.one 0) Zx (Zc Uc [Za 0]) [some (pP l),some (.int (n:Int))]=some (.lst ((l.map λ_=>aC).map PV.bl)):=by rw[ZM l PV.int (λ_=>.bl aC) (P6 (by simp)) (by omega) (λi hi=>⟨_,rfl,rfl,by simp[compEnv,Dt]⟩),bS];rfl
 show Yv 2 Sj _=_;unfold Sj;show(Zj _ _ [some (pP l),some (.int (n:Int))]).bind Xq=_
 rw[ZF e1,Vm (v:=.bl aC) (by
  rw[YR,ZD,Zk,hc];show(eK (Gq [.lst ((l.map λ_=>aC).map PV.bl)]) λl=>if ZO l=aC then some l else aA)=_;rw[Zbv];simp)]
 rfl
theorem Cw{F:List Nat}(k:Nat):(k:Int)∈Xw (nL F)↔k∈F:=((UE (nL F)).mem_iff).trans O4
theorem Ap{W:List (List Int)}(ok:ZN W)(cn:Rq W)(c:Int):∃(T X D:List Int),U3 [wP W,.int c]=some (pP T)/\U6 [wP W,pP T,.int c]=some (pP X)/\Ue [wP W,pP X]=some (pP D)/\D.length=W.length/\D.sum=lpW W/\X9 W D = .non/\∀h,h<W.length->0<=Zt D h:=by
 obtain⟨m,F,et,tr⟩:=Fq ok c;obtain⟨β,ee⟩:=Fs ok (F:=F) (T:=Xw (nL F)) Cw c;let X:=X8 β 0 (QQ W F);have hX:∀x∈X,x<W.length:=Ku Ag;have one:=D4 ok cn tr;have tot:=Kv tr ok.pos one;have lX:X.length=(O2 (eW W) F).length:=by show(X8 β 0 (QQ W F)).length=_;rw[N7];unfold QQ;rw[aH]
 have nD:∀h,h<W.length->Zt (YD W.length X) h=((X.count h:Nat):Int):=λh hh=>TR hh
 have sD:(YD W.length X).sum=lpW W:=by
  have h1:(YD W.length X).sum=((aD W.length).map λg=>((X.count g:Nat):Int)).sum:=rfl;rw[h1,Ru fK]
  have h2:(X.map λx=>b1 (decide (x∈aD W.length))).sum=(X.length:Int):=by
   have:∀X:List Nat,(∀x∈X,x<W.length)->(X.map λx=>b1 (decide (x∈aD W.length))).sum=(X.length:Int):=by
    intro X
    induction X with
    | nil=>intro _;rfl
    | cons x X ih=>
     intro hh;have q:decide (x∈aD W.length)=aC:=decide_eq_true (aW.mpr (hh x (by simp)));rw[ag,bc,ih λy hy=>hh y (by simp[hy]),q,bA];show(1:Int)+_=_;omega
   exact this X hX
  rw[h2,lX];unfold lpW;exact tot
 refine⟨_,_,_,et,ee,Ib ok hX,Ss _ _,sD,?_,λh hh=>by rw[nD h hh];omega⟩;unfold X9
 have:LG W (YD W.length X)=[]:=by
  unfold LG;rw[jS];intro G hG;obtain⟨hG1,ne⟩:=HR hG;obtain⟨ris,lt,_,_⟩:=UI hG1;have nd:=Lk ris;have h1:=DL tr nd lt ne β;have h2:=Ry ok nd lt;have h3:(G.map (Zt (YD W.length X))).sum=(G.map λg=>((X.count g:Nat):Int)).sum:=by congr 1;exact ak λg hg=>nD g (lt g hg)
  have h4:¬Qv (ZV W) (Zt (YD W.length X)) G<0:=by unfold Qv;rw[h3,h2];have:(G.map λg=>((X.count g:Nat):Int)).sum=(G.map λg=>(((X8 β 0 ((O2 (eW W) F).map (ZC (eW W)))).count g:Nat):Int)).sum:=rfl;rw[this];omega
  simpa using h4
 rw[this]
end PW
namespace PW
open PySem L2 VL VX PK
noncomputable def Lp(W:List (List Int)):List Int:=(aD W.length).map λh=>(ZA W h).sum/2-1
theorem FD{W:List (List Int)}(ok:ZN W):Rf [wP W]=some (pP (Lp W)):=by
 have hf:=ok.few
 have hc:Zq 1 [0] (ZE [Zc Zz [Za 0]]) (.one 0) Zx (Zd Yo (Zd Xt (Zc Wg [Za 1,Za 0]) (eC (.int 2))) (eC (.int 1))) [some (wP W)]=some (.lst (iL (Lp W))):=by
  rw[Ul (λh=>(ZA W h).sum/2-1) (Z1 (n:=W.length) (by simp) (by omega)) (by omega) λi hi=>⟨[some (.int (i:Int)),some (wP W)],rfl,rfl,?_⟩]
  ·rfl
  ·exact vI (op:=(· - ·)) (vC (C:=UM) (op:=(· / ·)) (c2 rfl rfl (OY hi)) rfl (MC (by omega) (by omega))) rfl
 exact UR (ret (epp (c1 hc (P5 _))))
theorem Aq(W:List (List Int)):(Lp W).length=W.length:=by simp[Lp]
theorem FE{W:List (List Int)}(ok:ZN W)(cn:Rq W){P L:List Int}(hP:P.length=W.length)(fP:Su W P)(hs:P.sum=lpW W)(bd:∀h,h<W.length->(Zt (OZ (YT W P L) (Lp W)) h).natAbs<=2^208) :
  ∃(S:List Int) (T X:List Nat),Rh [wP W,pP (YT W P L)]=some (.tup [pP (X2 S),pP P,pP (nL T),pP (nL X)])/\S.length=W.length/\Cu W P T X/\∃c,∀i,i<W.length->Zt L i+Zt S i=c:=by
 have hf:=ok.few;have hp:=ok.pos;let D:=YT W P L;have lD:D.length=W.length:=by show(YT W P L).length=_;rw[Vk,hP]
 have sD:D.sum=lpW W:=by show(YT W P L).sum=_;rw[M7 ok hP,hs]
 obtain⟨S0,d,R,eS,lS,_⟩:=J7 ok cn (D:=OZ D (Lp W)) (b:=0) (by rw[Kl,lD]) hp bd;obtain⟨z,hz,low⟩:=Zco (λi=>Zt L i+Zt S0 i) hp;have w0:Way W P (Zt L) (Zt L z+Zt S0 z) S0 (YT W D S0):=by refine⟨lS,by rw[Vk,lD],by rw[M7 ok lD,sD,hs],λi hi=>by have:=low i hi;omega,⟨z,hz,by omega⟩,λi hi=>?_⟩;rw[Zcp _ _ hi,O8 (by rw[lD];exact hi),show Zt D i=Zt P i+gN W (Zt L) i from O8 (by rw[hP];exact hi),J4];omega
 obtain⟨S,y5,e5,e6,lS',cs⟩:=Cg (D:=D) ok fP hP hs w0 aA;obtain⟨T,X,em,mi⟩:=Am ok hP fP;refine⟨S,T,X,UR ?_,lS',mi,_,cs⟩;let st:Option PV->Option PV->Option PV->ZS:=λx2 x3 x4=>[some (wP W),some (pP D),x2,x3,x4,aA,aA]
 have rt:X1 [wP W,pP D]=some .non:=Zen (gof (xb (o2 (c1 rfl (Ds D)) (c1 rfl (D5 ok)) (by
  rw[WC];show some (PV.bl (!decide (D.sum=lpW W)))=_;rw[decide_eq_true sD];rfl))))
 have e1:sEx (Zc X1 [Za 0,Za 1]) (st aA aA aA)=some (.nx (st aA aA aA)):=Zeo (c2 rfl rfl rt);have e2:Zi 2 (Zc Ud [Za 0,Zc UD [Za 1,Zc Rf [Za 0]],eC (.int 0)]) (st aA aA aA)=some (.nx (st (some (pP S0)) aA aA)):=Yb (c3 rfl (c2 rfl (c1 rfl (FD ok)) (Kj (by rw[Aq,lD]) (by rw[lD];omega))) rfl eS);have e3:Zi 3 (Zc Oe [Za 0,Za 1,Za 2]) (st (some (pP S0)) aA aA)=some (.nx (st (some (pP S0)) (some (pP (YT W D S0))) aA)):=Yb (c3 rfl rfl rfl (Du ok lD lS));have e4:Zi 4 (Zc Yn [Za 0,Za 3]) (st (some (pP S0)) (some (pP (YT W D S0))) aA)=some (.nx (AY W D S0 (YT W D S0) aA)):=Yb (c2 rfl rfl (Um ok (by rw[Vk,lD])));let s6:ZS:=[some (wP W),some (pP D),some (pP S),some (pP P),some (X9 W P),y5,some (.tup [pP (nL T),pP (nL X)])];have e7:Zi 6 (Zc TH [Za 0,Za 3]) (AY W D S P y5)=some (.nx s6):=Yb (c2 rfl rfl em);have e8:YC [Zc S6 [Za 2],Za 3,Zd Zv (Za 6) (eC (.int 0)),Zd Zv (Za 6) (eC (.int 1))] s6=some (.tup [pP (X2 S),pP P,pP (nL T),pP (nL X)]):=by rw[L5,Zk,c1 (f:=Za 2) (s:=s6) rfl (J6 (l:=S) (by rw[lS'];exact hp) (by rw[lS'];omega))];rfl
 exact sq e1 (sq e2 (sq e3 (sq e4 (sq e5 (sq e7 (ret (ep e8 (by simp))))))))
theorem big{x:Nat}(h:x<=10^21):x<2^1000:=dU h (by decide +kernel)
theorem Zcw(W:List (List Int))(c:Int){s:ZS}(h1:Za 1 s=some (.int c)):∃f:Int,f.natAbs<=10^20+39/\eP (Zd Zv (Yu [eC (.int 1),eC (.int 1),Zd ZI (Zd Ef (eC (.int 10)) (eC (.int 20))) (eC (.int 39))]) (Zc Zu [Za 1,eC (.int 149),eC (.int 3)])) s=some (.int f):=by
 obtain⟨v,hv,ev⟩:=YY c (t:=149) (m:=3) (by omega) (by omega);have p20:Zd Ef (eC (.int 10)) (eC (.int 20)) s=some (.int (10^20)):=vC (a:=10) (b:=20) (C:=FQ) (op:=λi j=>i^j.toNat) rfl rfl (by decide);have l:Yu [eC (.int 1),eC (.int 1),Zd ZI (Zd Ef (eC (.int 10)) (eC (.int 20))) (eC (.int 39))] s=some (.lst (iL [1,1,10^20+39])):=by show(TV _ s).map PV.lst=_;rw[Zk,Zk,Zk,vI (op:=(· + ·)) p20 (show eC (.int 39) s=some (.int 39) from rfl)];rfl
 refine⟨Zt [1,1,10^20+39] v,?_,ep (o2 l (c3 h1 rfl rfl ev) (Yq hv))⟩;have:v=0\/v=1\/v=2:=by omega
 rcases this with rfl | rfl | rfl<;>decide
theorem Cy{W:List (List Int)}(ok:ZN W)(cn:Rq W)(c:Int):Q0 [wP W,.int c]=some (.bl aC):=by
 have hf:=ok.few;have hp:=ok.pos;obtain⟨T,X,P,et,ee,ec,lP,sP,lk,nn⟩:=Ap ok cn c
 have fP:Su W P:=by
  rcases Sv (D:=P) ok with⟨_,f⟩ | ⟨G,e,_⟩
  ·exact f
  ·rw[lk] at e;cases e
 let st:Option PV->Option PV->Option PV->Option PV->Option PV->Option PV->ZS:=λx2 x3 x4 x5 x6 x7=>[some (wP W),some (.int c),x2,x3,x4,x5,x6,x7];obtain⟨f,bf,ef⟩:=Zcw W c (s:=st (some (pP T)) (some (pP P)) aA aA aA aA) rfl;have pk:∀k:Nat,∃v:Nat,v<7/\Zu [.int (c+3*(k:Int)),.int 151,.int 7]=some (.int (v:Int)):=λk=>YY (c+3*(k:Int)) (t:=151) (m:=7) (by omega) (by omega);let u:Nat->Int:=λk=>((pk k).choose:Int)-3;have hu:∀k,(u k).natAbs<=3:=λk=>by have:=(pk k).choose_spec.1;show(((pk k).choose:Int)-3).natAbs<=3;omega
 let L:List Int:=(aD W.length).map λk=>u k*f;have lL:L.length=W.length:=by simp[L]
 have nL':∀k,k<W.length->Zt L k=u k*f:=λk hk=>ZP hk;have bL:∀k,k<W.length->(Zt L k).natAbs<=3*(10^20+39):=λk hk=>by rw[nL' k hk,gO];exact fE (hu k) bf
 have e5:Zq 1 [4,1] (ZE [Zc Zz [Za 0]]) (.one 0) Zx (eP (Zd Sb (Zd Yo (Zc Zu [Zd ZI (Za 2) (Zd Sb (eC (.int 3)) (Za 0)),eC (.int 151),eC (.int 7)]) (eC (.int 3))) (Za 1))) (st (some (pP T)) (some (pP P)) (some (.int f)) aA aA aA)=some (.lst (iL L)):=by rw[Ul (λk=>u k*f) (Z1 (n:=W.length) (by simp[st]) (by omega)) (by omega) λk hk=>⟨[some (.int (k:Int)),some (.int f),some (.int c)],rfl,rfl,?_⟩];have m3:Zd Sb (eC (.int 3)) (Za 0) [some (.int (k:Int)),some (.int f),some (.int c)]=some (.int (3*(k:Int))):=vC (C:=CMulW) (op:=(· * ·)) rfl rfl (Q6 (big (by decide)) (big (by omega)));exact vP (vC (C:=CMulW) (op:=(· * ·)) (vI (op:=(· - ·)) (c3 (vI (op:=(· + ·)) rfl m3) rfl rfl (pk k).choose_spec.2) rfl) rfl (Q6 (a:=u k) (big (bX (hu k) (by decide))) (big (bX bf (by decide)))))
 have lend:U2 [wP W,pP P,.lst (iL L)]=some (pP (YT W P L)):=Ic ok lP (λk hk=>Yq (by rw[lP];exact hk)) λk hk=>Yq (by rw[lL];exact hk)
 have bd:∀h,h<W.length->(Zt (OZ (YT W P L) (Lp W)) h).natAbs<=2^208:=λh hh=>by
  have e1:Zt (OZ (YT W P L) (Lp W)) h=Zt P h+gN W (Zt L) h-((ZA W h).sum/2-1):=by rw[Kn (by rw[Vk,lP];exact hh),O8 (by rw[lP];exact hh),show Zt (Lp W) h=(ZA W h).sum/2-1 from ZP hh]
  have e2:=Zcf ok bL hh;have e3:=nn h hh;have e4:=Qo (n:=W.length) nn hh;rw[<-lP,<-J9,sP] at e4;have e5:(eW W).length<=441:=by rw[V3];exact(Wr ok).2
  have e6:((ZA W h).sum).natAbs<=W.length*9:=by
   rw[J9,ok.sq h hh];exact J8 λi hi=>by have a:0<=Zt (ZA W h) i:=ok.lo h i hh hi;have b:Zt (ZA W h) i<=9:=ok.hi h i hh hi;omega
  unfold lpW at e4;have e7:(126*(3*(10^20+39))+10000:Nat)<=2^208:=by decide +kernel
  rw[e1];omega
 obtain⟨S,K,Y,eb,lS,_,k,hk⟩:=FE ok cn lP fP sP bd;have lF:(X2 S).length=W.length:=by rw[JW,lS]
 let F:PV:=.tup [pP (X2 S),pP P,pP (nL K),pP (nL Y)];let s6:Option PV->ZS:=λx=>st (some (pP T)) (some (pP P)) (some (.int f)) (some (.lst (iL L))) (some F) x;have a1:Zi 2 (Zc U3 [Za 0,Za 1]) (st aA aA aA aA aA aA)=some (.nx (st (some (pP T)) aA aA aA aA aA)):=Yb (c2 rfl rfl et);have a2:Zi 3 (Zc Ue [Za 0,Zc U6 [Za 0,Za 2,Za 1]]) (st (some (pP T)) aA aA aA aA aA)=some (.nx (st (some (pP T)) (some (pP P)) aA aA aA aA)):=Yb (c2 rfl (c3 rfl rfl rfl ee) ec);have a6:Zi 6 (Zc Rh [Za 0,Zc U2 [Za 0,Za 3,Za 5]]) (st (some (pP T)) (some (pP P)) (some (.int f)) (some (.lst (iL L))) aA aA)=some (.nx (s6 aA)):=Yb (c2 rfl (c3 rfl rfl rfl lend) eb);have ln:∀x,Zc Zz [Za 0] (s6 x)=some (.int (W.length:Int)):=λx=>by simp[s6,st]
 have t1:SH (xB (Zc Vv [Za 6,eC (.ty "tuple")])) (s6 aA)=some aB:=xn (p:=aC) (xb (c2 (a:=F) (b:=.ty "tuple") rfl rfl rfl));have t2:xB (Zd (YW aC) (Zc Zz [Za 6]) (eC (.int 4))) (s6 aA)=some aB:=xb (o2 (a:=.int 4) (b:=.int 4) (c1 (a:=F) rfl rfl) rfl (by rw[WC];rfl));have t3:SH (xB (Zc XB [Zd Zv (Za 6) (eC (.int 0)),Zc Zz [Za 0]])) (s6 aA)=some aB:=xn (p:=aC) (xb (c2 (a:=pP (X2 S)) rfl (ln _) (QA lF (by omega))));have a7:LR (SH (xB (Zc Vv [Za 6,eC (.ty "tuple")]))) (LR (xB (Zd (YW aC) (Zc Zz [Za 6]) (eC (.int 4)))) (SH (xB (Zc XB [Zd Zv (Za 6) (eC (.int 0)),Zc Zz [Za 0]])))) (s6 aA)=some aB:=xo t1 (xo t2 t3);let B:List Int:=aN W.length (k-XM S)
 have a8:Zi 7 (Zq 1 [5,6] (ZE [Zc Zz [Za 0]]) (.one 0) Zx (eP (Zd ZI (Zd Zv (Za 1) (Za 0)) (Zd Zv (Zd Zv (Za 2) (eC (.int 0))) (Za 0))))) (s6 aA)=some (.nx (s6 (some (.lst (iL B))))):=by
  refine Yb ?_;rw[Ul (λi=>Zt L i+Zt (X2 S) i) (Z1 (ln aA) (by omega)) (by omega) λi hi=>⟨[some (.int (i:Int)),some (.lst (iL L)),some F],rfl,rfl,vP (vI (op:=(· + ·)) (o2 rfl rfl (Yq (by rw[lL];exact hi))) (o2 (a:=pP (X2 S)) rfl rfl (Yq (by rw[lF];exact hi))))⟩];congr 2;show iL ((aD W.length).map λi=>Zt L i+Zt (X2 S) i)=iL (aN W.length (k-XM S));congr 1;refine fL (by simp) λi h1 h2=>?_;have hi:i<W.length:=by simpa using h1
  rw[List.getElem_map,List.getElem_range,List.getElem_replicate,JX (by rw[lS];exact hi)];have:=hk i hi;omega
 have a9:VR (Zc XB [Zd Zv (Za 6) (eC (.int 1)),Zc Zz [Za 0]]) (VR (Zd (YW aB) (Zd Zv (Za 6) (eC (.int 1))) (Za 3)) (Zd (YW aB) (Za 7) (Zd SS (Yu [Zd Zv (Za 7) (eC (.int 0))]) (Zc Zz [Za 0])))) (s6 (some (.lst (iL B))))=some (.bl aC):=by
  have b1:Zd Zv (Za 7) (eC (.int 0)) (s6 (some (.lst (iL B))))=some (.int (k-XM S)):=by
   have:Zt B 0=k-XM S:=by show Zt (aN W.length (k-XM S)) 0=_;unfold Zt;rw[aE,bV,mM (show 0<W.length from hp)];rfl
   rw[<-this];exact o2 rfl rfl (Yq (l:=B) (k:=0) (by show 0<(aN W.length (k-XM S)).length;rw[cW];exact hp))
  have b2:Zd SS (Yu [Zd Zv (Za 7) (eC (.int 0))]) (Zc Zz [Za 0]) (s6 (some (.lst (iL B))))=some (.lst (iL B)):=o2 (a:=.lst [.int (k-XM S)]) (by
   show(TV _ _).map PV.lst=_
   rw[Zk,b1];rfl) (ln _) (by
   show(if ZH [PV.int (k-XM S)]=aC/\(-1000000:Int)<=(W.length:Int)/\(W.length:Int)<=1000000/\[PV.int (k-XM S)].length*((W.length:Int)).toNat<=10000 then some (PV.lst (aN ((W.length:Int)).toNat [PV.int (k-XM S)]).flatten) else aA)=_;rw[mM ⟨rfl,by omega,by omega,by simp;omega⟩,bR,SF];simp[B])
  exact ea (p:=aC) (p2:=aC) (c2 (a:=pP P) rfl (ln _) (QA lP (by omega))) (ea (p:=aC) (p2:=aC) (eqt (l:=P) rfl rfl) (o2 rfl b2 (by
   rw[Zby];simp)))
 exact UR (sq a1 (sq a2 (sq (Yb ef) (sq (Yb e5) (sq a6 (sq (gof a7) (sq a8 (ret (ep a9)))))))))
theorem law_true(ns:List Int)(hns:ns.length<=63)(_:∀n∈ns,n.natAbs.log2<=1048576):D_law [.cst (iL ns)]=some (.bl aC):=by
 obtain⟨W,ew,ok,cn,_⟩:=Cv hns;let st:Option PV->ZS:=λx2=>[some (.cst (iL ns)),some (wP W),x2];let fb:XS:=V9 (SH (xB (Zc Q0 [Za 1,Za 2]))) (ZY (eP (eC (.bl aB)))) Z6;let cut:=Wf (iL ns) (some 13) (some 19);have cutI:∀l∈cut,∃c,l=PV.int c:=λl hl=>by have hl':l∈Wf (iL ns) (some 13) (some 19):=hl;unfold Wf at hl';obtain⟨c,_,rfl⟩:=b7.mp (fB (fC hl'));exact⟨c,rfl⟩
 have cutL:cut.length<=63:=by show(Wf (iL ns) (some 13) (some 19)).length<=63;unfold Wf;rw[bU,bK,aH];omega
 let ls:List PV:=[.int (Zt ns 12)]++cut
 obtain⟨s',f1,x2,rfl⟩:=Yh (T:=.one 2) (fb:=fb) (ls:=ls) (s:=st aA) (λ_ s=>∃x2,s=st x2) ⟨aA,rfl⟩ (by
  rintro i l s hl ⟨x2,rfl⟩
  obtain⟨c,rfl⟩:∃c,l=PV.int c:=by
   rcases aa.mp (b8 hl) with z | z
   ·exact⟨_,aO.mp z⟩
   ·exact cutI l z
  exact⟨st (some (.int c)),_,rfl,gof (xn (p:=aC) (xb (c2 rfl rfl (Cy ok cn c)))),_,rfl⟩)
 have e2:Yz [] (Yg (Zd Ub (Yu [Zc ZW [Za 0,eC (.int 12)]]) (WM Xe (Za 0) (Wv (eC (.int 13))) (Wv (eC (.int 19)))))) (.one 2) fb (st aA)=some (.nx (st x2)):=by
  show(Yg (Zd Ub (Yu [Zc ZW [Za 0,eC (.int 12)]]) (WM Xe (Za 0) (Wv (eC (.int 13))) (Wv (eC (.int 19))))) (ZX [] (st aA))).bind _=_;have b:Yu [Zc ZW [Za 0,eC (.int 12)]] (ZX [] (st aA))=some (.lst [.int (Zt ns 12)]):=by show(TV _ _).map PV.lst=_;rw[Zk,c2 (f:=Za 0) (g:=eC (.int 12)) (s:=ZX [] (st aA)) rfl rfl (Rw hns 12)];rfl
  have h:Zd Ub (Yu [Zc ZW [Za 0,eC (.int 12)]]) (WM Xe (Za 0) (Wv (eC (.int 13))) (Wv (eC (.int 19)))) (ZX [] (st aA))=some (.lst ls):=o2 b (b:=.lst cut) rfl (by
   show(if 1+cut.length<=10000/\ZH [PV.int (Zt ns 12)]=aC/\ZH cut=aC then some (PV.lst ([.int (Zt ns 12)]++cut)) else aA)=_;rw[mM ⟨by omega,rfl,Gv _ _ (Z5 ns)⟩])
  have:Yg (Zd Ub (Yu [Zc ZW [Za 0,eC (.int 12)]]) (WM Xe (Za 0) (Wv (eC (.int 13))) (Wv (eC (.int 19))))) (ZX [] (st aA))=some ls:=by unfold Yg;rw[h];rfl
  rw[this];exact f1
 exact UR (sq (s1:=st aA) (Yb (show Zc QZ [Za 0,Yu [eC (.int 1),eC (.int 2),eC (.int 3),eC (.int 4),eC (.int 5)],eC (.int 8)] (Z8 3 [.cst (iL ns)])=some (wP W) from ew)) (sq e2 (ret (ep rfl))))
end PW
namespace PW
open PySem L2 VL
theorem cst_mk{K:aG}{h:b9}{mg:aq->Option aI}{x:aq}{v:Int}{t:Tok}(X:K.In h)(G:h.Ns cB mg)(y:gq K cB x=some (some (.int v t))):Cst mg x v:=⟨t,mB X G y⟩
theorem all_mk{P:bN}{w:bu}{K:aG}{mg:aq->Option aI}{fa:aK}(hfa:mg "law" = some (.ref fa))(B:WV mg)
  (Z_BASE:Cst mg "BASE" 0)
  (d0:Def K mg "_law_pick" ON)
  (d1:Def K mg "_law_six" MR)
  (d2:Def K mg "_law_read_web" UH)
  (d3:Def K mg "_law_at" JC)
  (d4:Def K mg "_law_web" MS)
  (d5:Def K mg "_law_ties" OO)
  (d6:Def K mg "_law_tree" OP)
  (d7:Def K mg "_law_coins" Qa)
  (d8:Def K mg "total" MT)
  (d9:Def K mg "ties_of" Qb)
  (d10:Def K mg "loops" MU)
  (d11:Def K mg "refuse_total" Vi)
  (d12:Def K mg "reduced" Qc)
  (d13:Def K mg "evened" OQ)
  (d14:Def K mg "solved_below" Vj)
  (d15:Def K mg "ties_at" Qd)
  (d16:Def K mg "row_of" OR)
  (d17:Def K mg "square_without" Wo)
  (d18:Def K mg "nearing" Qe)
  (d19:Def K mg "gain" JK)
  (d20:Def K mg "run" Dl)
  (d21:Def K mg "ties_to" Tc)
  (d22:Def K mg "lacking_among" WG)
  (d23:Def K mg "minus" MX)
  (d24:Def K mg "overfull" So)
  (d25:Def K mg "other_end" Td)
  (d26:Def K mg "way_out" Qg)
  (d27:Def K mg "heads_for" Te)
  (d28:Def K mg "tie_to_look_at" Wq)
  (d29:Def K mg "walked" OS)
  (d30:Def K mg "tree_by" Qh)
  (d31:Def K mg "plus" JO)
  (d32:Def K mg "one_at" OT)
  (d33:Def K mg "made_of" Qi)
  (d34:Def K mg "borrowing" Tf)
  (d35:Def K mg "least" M4)
  (d36:Def K mg "middle" OU)
  (d37:Def K mg "broken" OV)
  (d38:Def K mg "_law_outside" Tg)
  (d39:Def K mg "_law_ends" OW)
  (d40:Def K mg "_law_lend" OX)
  (d41:Def K mg "_law_whole" Qj)
  (d42:Def K mg "_law_wholes" Sq)
  (d43:Def K mg "_law_one" M6)
  (d44:Def K mg "law" Dr)
  : ∃fd:eF,(∀(s:aP)(u:aI),k3 s fd ⟨[u],[]⟩ [("_law_script",u)])/\∀base:b9,K.In base->base.Ns cB mg->RG P w K mg base LK 7 fa fd ["_law_script"] (Xs K D_law 1):=by
 refine EB d44 hfa (λ_ _ _ _ _ _ _=>rfl) λbase f fd _ _ F=>?_;have C_l_pick:Ui P w K mg base:=GU d0 B;have C_l_six:Ho P w K mg base:=De d1 B;have C_l_read_web:UG P w K mg base:=Nr d2 B;have C_l_at:MK P w K mg base:=BQ d3 B;have C_q_web:ML P w K mg base:=Dg d4 B C_l_pick C_l_at C_l_six C_l_read_web;have C_l_ties:Rk P w K mg base:=GV d5 B;have C_l_tree:OE P w K mg base:=GW d6 B C_l_ties C_l_pick;have C_b_coins:R3 P w K mg base:=JD d7 B;have C_total:MM P w K mg base:=Di d8 B;have C_ties_of:Uj P w K mg base:=JE d9 B;have C_loops:MN P w K mg base:=Dk d10 B C_ties_of;have C_refuse_total:Vg P w K mg base:=QL d11 B C_total C_loops;have C_reduced:R4 P w K mg base:=JG d12 B;have C_evened:OF P w K mg base:=GX d13 B C_reduced;have C_solved_below:Vh P w K mg base:=QM d14 B C_evened;have C_ties_at:TJ P w K mg base:=JI d15 B;have C_row_of:OG P w K mg base:=GZ d16 B C_ties_at;have C_square_without:Wm P w K mg base:=Rl d17 B C_row_of;have C_nearing:R5 P w K mg base:=JJ d18 B C_solved_below C_square_without;have C_gain:Jz P w K mg base:=BS d19 B;have C_run:Dc P w K mg base:=Zb8 d20 B C_gain;have C_b_ties_to:U8 P w K mg base:=MW d21 B;have C_lacking_among:WE P w K mg base:=Qf d22 B C_b_ties_to;have C_minus:Q1 P w K mg base:=Dn d23 B;have C_overfull:Sm P w K mg base:=Kg d24 B;have C_other_end:VG P w K mg base:=MZ d25 B;have C_way_out:R6 P w K mg base:=JL d26 B C_other_end;have C_heads_for:U9 P w K mg base:=M0 d27 B C_ties_of C_overfull C_way_out C_other_end;have C_tie_to_look_at:Wn P w K mg base:=Rn d28 B;have C_walked:OH P w K mg base:=G0 d29 B C_ties_of C_tie_to_look_at;have C_tree_by:R7 P w K mg base:=JN d30 B C_walked;have C_plus:MO P w K mg base:=BV d31 B;have C_one_at:OI P w K mg base:=G3 d32 B;have C_made_of:R8 P w K mg base:=JP d33 B Z_BASE C_minus C_one_at C_plus C_heads_for C_tree_by;have C_borrowing:Ta P w K mg base:=M3 d34 B;have C_least:MP P w K mg base:=Dp d35 B;have C_middle:OJ P w K mg base:=G5 d36 B C_ties_at;have C_broken:OK P w K mg base:=G6 d37 B Z_BASE C_refuse_total C_nearing C_minus C_middle C_run C_lacking_among C_borrowing C_plus C_made_of C_least;have C_l_outside:Tb P w K mg base:=M5 d38 B C_l_ties;have C_l_ends:OL P w K mg base:=G7 d39 B C_l_outside C_l_pick;have C_l_lend:OM P w K mg base:=G8 d40 B;have C_l_whole:R9 P w K mg base:=JR d41 B;have C_l_wholes:Sn P w K mg base:=Ki d42 B C_l_whole;have C_l_one:MQ P w K mg base:=Dq d43 B C_l_tree C_b_coins C_l_ends C_l_pick C_broken C_l_lend C_l_wholes;exact Zb9 F B C_q_web C_l_at C_l_one
end PW
namespace PySem.W.Fast
def tw2867399949075944911:=()
def tw8097553698521495041:=()
def tw1498769748256356490:=()
def tw18045377094393651308:=()
def tw6986498953220540267:=()
def tw10608724604254002093:=()
def tw13874981050144522055:=()
def tw10344728947363671754:=()
def tw853494715528742879:=()
def tw4421416755888031341:=()
def tw15140028739370891105:=()
def tw16576895638475805262:=()
def tw12961312721161570105:=()
def tw14949667984920859337:=()
def tw2241287226542128549:=()
def tw1607303914821746723:=()
def tw5170500717264621899:=()
def tw3334136404337777520:=()
def tw10308824179219244436:=()
def tw10216692438781279585:=()
def tw13816955645886847272:=()
def tw9503880409783378644:=()
def tw3498761898346721375:=()
def tw11691052253925415315:=()
def tw7629365046754534311:=()
def tw10699531320668723230:=()
def tw6737772335490227424:=()
def tw1994175524935176448:=()
def tw416225016446629717:=()
def tw943275268084591449:=()
def tw5237670867364357237:=()
def tw3956265680591400251:=()
def tw9326093790578676817:=()
def tw17479263426302442745:=()
def tw15753749678675766257:=()
def tw17255764943420848357:=()
def tw5179953623255425720:=()
def tw12536346810574994116:=()
def tw14184528964913529897:=()
def tw1246666920879369658:=()
def tw14952464695711111730:=()
def tw6803439080234909498:=()
def tw8067683198030813945:=()
def tw3090463138376069355:=()
def tw15608919436213549467:=()
def tw3066447621933572891:=()
def tw11072587008002971758:=()
def tw17499527931791017705:=()
def tw2999997989101790735:=()
def tw471590991448773094:=()
def tw628061218851146251:=()
def tw4418873679677085791:=()
def tw5132463884644348962:=()
def tw9535716503104791981:=()
def tw18327270820831858122:=()
def tw1502441034293469345:=()
def tw3399498664673586897:=()
def tw9695359854351650525:=()
def tw9338611686981260426:=()
def tw1151570897159122132:=()
def tw5957791293955085621:=()
def tw15725152198977507129:=()
def tw11912438470477538132:=()
def tw561384949072079384:=()
def tw15338883333531479740:=()
def tw5544538172452408692:=()
def tw11214329405665779932:=()
def tw6667854588575874973:=()
def tw16596346974114074896:=()
def tw3647133038252384296:=()
def tw2570139505489155554:=()
def tw9539845592585294:=()
def tw13518716936937420740:=()
def tw6306800934048987515:=()
def tw14476946329027316384:=()
def tw11133139221495148772:=()
def tw2323292120856485304:=()
def tw4173390005601809684:=()
def tw3496380361132197966:=()
def tw2921364609264800795:=()
def tw5437455502451921257:=()
def tw17618324156825913562:=()
def tw163907919238945867:=()
def tw5523282106848562074:=()
def tw6049588410814247191:=()
def tw5497496785211933376:=()
def tw4190419242743577067:=()
def tw10031348533589946336:=()
def tw1722765680355284253:=()
def tw14632711218570306414:=()
def tw1292466085557756219:=()
def tw2618601087626631179:=()
def tw15590207996916135418:=()
def tw3368122017469933436:=()
def tw2640157195850166611:=()
def tw14203014742492673307:=()
def tw3165747597305647258:=()
def tw10654215692571315311:=()
def tw17792182088662323256:=()
def tw3658501821149357391:=()
def tw2692838838896716715:=()
def tw13108292349265914589:=()
def tw10784878499731223123:=()
def tw11615526191456127189:=()
end PySem.W.Fast
open PySem PySem.W PyProof.Rows
set_option maxRecDepth 100000 in
set_option maxHeartbeats 0 in
theorem PySem.Challenge.cw_purseweb_k74_whole_one_break_purse_alike_holds : PySem.Challenge.rw_purseweb_k74_whole_one_break_purse_alike.Holds := by
 w_on;o_law;k_head;(case hw=>w_witness2)
 k_fill
 refine VL.law_walkT (l:=gU) (D:=PW.D_law) (x:="_law_script") 7 rfl rfl ⟨rfl,by decide,by decide,rfl⟩ (λw=>by kernel_rfl) PW.law_true (λw h Y=>PySem.W.km_in_of Y) ?F
 case F=>
  intro w mg fa h KX G hmg
  refine' PW.all_mk hmg ?B ?Z0 ?d0 ?d1 ?d2 ?d3 ?d4 ?d5 ?d6 ?d7 ?d8 ?d9 ?d10 ?d11 ?d12 ?d13 ?d14 ?d15 ?d16 ?d17 ?d18 ?d19 ?d20 ?d21 ?d22 ?d23 ?d24 ?d25 ?d26 ?d27 ?d28 ?d29 ?d30 ?d31 ?d32 ?d33 ?d34 ?d35 ?d36 ?d37 ?d38 ?d39 ?d40 ?d41 ?d42 ?d43 ?d44
  case B=>constructor<;>(refine PySem.W.mg_none_of KX G ?_;k_is)
  case Z0=>(refine' PW.cst_mk KX G ?y;(case y=>k_is))
  case d0 | d1 | d2 | d3 | d4 | d5 | d6 | d7 | d8 | d9 | d10 | d11 | d12 | d13 | d14 | d15 | d16 | d17 | d18 | d19 | d20 | d21 | d22 | d23 | d24 | d25 | d26 | d27 | d28 | d29 | d30 | d31 | d32 | d33 | d34 | d35 | d36 | d37 | d38 | d39 | d40 | d41 | d42 | d43 | d44=>(refine' L2.def_mk KX G ?a ?l ?c ?k;(case a=>k_is);(case l=>k_is);(case c=>k_is);(case k=>k_is))
