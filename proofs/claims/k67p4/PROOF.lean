import PyProof.Rows.All
import Wide.All
import OpenK.AllK
import Wide.FinOn
import Lean
import PyProof.EqAt
import PyProof.EqKinds
import PyProof.TupleCall
import PyProof.NeKinds
import PyProof.ListMulRoad
import PyProof.WalkInts
import PyProof.ListRange
import KE.KRevIter
import KE.KSortTup
import KE.KDictSum
import PyProof.Rows.SortWalk
import PyProof.ExcInit
import PyProof.InstStoreFacts
import OpenK.KMake
import OpenK.KCls
import PyProof.FString2
import PyProof.TupleOfSeq
import KE.KUnpack
import PySem.Challenge.RW_purseweb_k67_whole_rounds
open Option renaming some → aA,bind_some → aT,isSome_iff_exists → cE,map_some → eD,map → lX,getD_none → mK,bind → m3,none → nR,some → ax
open Bool renaming false → aB,true → aC,false_ne_true → bT,and_eq_true → bX,or_true → iD,not_eq_true' → lu,eq_iff_iff → m4
open PySem.W renaming Frag → aD,kitOne → aw,findIn → bN,nsIn → b6,fnOf → cC,looks_findIn → cN,kia_one → cQ,mg_of → cU,codeIn → cZ,ktsIn → dM,InstAt → dP,kts_cls → eI,keepIn → eV,lookIn → gs,cellsFrom_some → gy,mroIn → iR,callWith_K → ir,clsIn → jZ,instObj → jx,kitAny → kT,codeRec_of → kr,specialIn → l4,kitx_list → l5,kitx_dict → l6,class_get → ly,plainGet → mH,handedIn → mM,takerIn → md,notCls → my,ownOf → nE,KitX → nP
open PySem renaming Value → aE,wpAny_bind → aF,Addr → aH,Shared → aI,starEach → aO,Str → a0,wpAny_pure → a9,wpAny → ak,Expr → aq,Program → au,mainGlobals → az,Heap → bH,Around → bQ,Stmt → bS,wpAny_mono → b9,wpAny_loadPart_at → ba,World → bc,foldedSetIterable → bq,wpAny_field → bx,wpAny_isSubtype_exc → cV,excClassObj → cq,Obj → cy,backTo → dD,behindInMarks → dJ,bootBuiltins → dN,wpAny_newObj_type → dQ,mem_of_lookup → dW,wpAny_holding → df,Scope → du,wpAny_truthy_bool → dw,wpAny_callSpecial?_slot → dy,binaryOp → eJ,FuncData → eU,NameKind → eY,wpAny_seqItems → eh,wpAny_setField_rec → el,Pos → fD,wpAny_passesOwn → fF,codeAny_call_builtin → fM,strLen_append → fP,swapsWith → fT,wpAny_Call_Name_kw → f9,getAttrByItsOwn → fu,compareOp → gA,ExceptHandler → gC,rawInt → gH,IsPair → gJ,codeAny → gO,wpAny_call_entry → gP,ExcBaseFacts → gQ,wpAny_standAt → gV,wpAny_comprehension_free → gY,wpAny_execs_nil → g9,wpAny_ite_false → gg,call_meets → gj,cLine → gk,sliceBounds → gn,bindArgs → gv,codeAny_mono → gx,wpAny_setField → iA,ofString_length → iM,wpAny_execs_cons → iN,cellsFrom → iO,wpAny_onRaise → iS,wpAny_updateSeq_pair → iV,wpAny_loadPart' → i7,noteFrame → ig,assignEach → ik,wpAny_call → ip,wpAny_newFunctionEnv_cells → iu,newFunctionEnv → jA,wpAny_binaryOp_repeat_ref → jH,Env → jN,sizeLine_eq → jP,attributeBase → jU,wpAny_attempt → jV,noFill_tuple_add → jb,checkBuiltinCall → je,typeIs_int → jn,Builtin → jq,letOwnedTupleGo → jy,IsZip → jz,wpAny_isTrue_Compare1 → kE,codeAny_call_function → kF,recursionLimit → kJ,compEnvC → kM,wpAny_loadPart → kQ,unbindBehindTheSuite → kR,PassesOwn → k8,BindsTo → k9,notedBy → ka,seq_tuple_add → kh,builtinsNs → kj,wpAny_pyIter_tuple → ko,IsPart → ku,wpAny_rule → lB,isInstance → lG,int_text_length_le → lI,GenState → lY,concat_meets → l9,seqIndex_neg → la,callerA → lh,OwnTail → lp,wpAny_mkText → lx,Arguments → mI,pushCells → mO,Model → mT,seqIndex_of → mU,keywordEach → mV,wpAny_letGo → mX,builtinKind → mY,getItem → mh,isTrue → mi,wpAny_Name → mj,CmpOp → mn,Result → mq,bindL → mv,bindC → mw,getAttr? → mx,Str → nI,Within → nJ,pyNext → nM,findBy → nN
open PySem.Heap renaming get?_push_of_some → aG,lt_size → aQ,get?_push_size → ag,get?_update_other → bg,size_push → cT,get?_update_self → cw,SameBut → dB,get?_none_of_le → fJ,get?_update_ne → kf,get?_push_at → lq,ExtBut → mW
open List renaming getD_eq_getElem?_getD → aJ,getElem?_eq_getElem → aL,range → aM,length_map → aP,size_toArray → aR,getElem?_eq_some_iff → aS,mem_range → aU,mem_cons_of_mem → aW,replicate → aY,getElem?_map → aZ,mem_cons → aa,mem_cons_self → af,mem_singleton → ah,mem_append_right → aj,getElem?_append_left → ao,map_congr_left → av,all_eq_true → bA,getElem?_set → bG,length_append → bJ,getElem?_range → bO,getElem?_append_right → bU,length_take → bV,nodup_cons → bY,lookup_cons → b5,mem_append_left → b7,getElem?_eq_none → bb,take_of_length_le → bh,length_cons → bp,mem_map → br,getElem?_replicate → bu,mem_append → cB,length_range → cL,map_cons → cM,append_nil → cS,mem_of_getElem? → c9,nodup_nil → cg,length_set → cj,length_drop → ck,not_mem_nil → dG,ext_getElem? → dR,length_replicate → dY,getElem?_set_ne → di,replicate_succ → eK,map_map → eM,getElem_mem → eT,getElem?_drop → eZ,contains_cons → fA,length_singleton → fC,map_append → fH,getElem?_take_of_lt → fN,length_pos_iff → fS,take_length → fV,any_eq_true → fX,getElem?_set_self → fZ,flatten_cons → gE,nodup_append → gG,mem_iff_getElem → gK,getElem_of_mem → gS,sum_cons → g8,length_eq_zero_iff → gp,any_eq_false → gu,append_assoc → hU,drop_eq_nil_of_le → iB,take_succ_eq_append_getElem → iG,filter_cons → iQ,length → iT,mem_of_mem_take → iX,mem_filter → i5,of_mem_zip → i6,sum_append → i8,filterMap_cons → i9,drop_zero → jD,getElem?_zip_eq_some → jJ,mem_of_find?_eq_some → jK,all_cons → jW,set_eq_of_length_le → jX,filterMap_cons_some → jY,range_succ → kA,take_append_drop → kG,take_zero → kP,mem_filterMap → kq,foldl → kz,zip_cons_cons → lC,find?_eq_none → lJ,set_cons_zero → lU,take_sublist → l8,all_map → ll,map_set → lz,map → mC,getElem_inj → mG,find?_some → m8,take_left' → m9,take_succ → mz,range_add → nA,take_nil → nB,drop_nil → nC,map_take → nF,map_drop → nG
open Nat renaming le_refl → aN,lt_of_lt_of_le → aV,le_trans → aX,ne_of_lt → ar,lt_of_le_of_lt → bK,le_mul_of_pos_right → bz,mul_le_mul_left → cI,lt_irrefl → cK,one_le_two_pow → cP,le_of_dvd → cz,le_of_lt → dA,mul_le_mul_right → dH,mul_le_mul → dS,mul_assoc → dh,zero_le → dj,pow_lt_pow_right → dt,gcd → eA,min_eq_left → eB,pow_succ → eQ,ne_of_gt → fK,mul_comm → fL,gcd_pos_of_pos_right → fQ,le_add_right → fU,le_succ_of_le → iC,gcd_dvd_right → iJ,lt_succ_self → iP,not_lt → jC,mul_left_comm → jT,dvd_trans → j9,min_eq_right → jc,sub_zero → jt,mod_lt → ju,le_succ → kN,add_mul → kS,log2_lt → kU,mul_add → kZ,add_le_add_right → k4,one_le_pow → k6,add_left_cancel → ke,lt_of_le_of_ne → lN,div_mul_cancel → lQ,lt_succ_of_lt → lj,lt_trichotomy → mD,dvd_mul_right → mE,mod_eq_of_lt → mP,one_mul → mZ,strongRecOn → m7,div_add_mod → ma
open Option.some renaming inj → ay
open Ne renaming symm → bB
open Int renaming mul_comm → bR,mul_assoc → bj,zero_mul → cH,mul_zero → cO,neg_mul → cX,natAbs_dvd_natAbs → cY,mul_left_comm → cu,dvd_zero → dC,emod_lt_of_pos → dF,fdiv_eq_ediv_of_nonneg → dO,mul_nonneg → dU,emod_nonneg → dX,natAbs_mul → dk,le_refl → fY,lt_or_gt_of_ne → fj,toNat_natCast → gF,mul_add → gL,mul_sub → gM,mul_fdiv_cancel_left → g7,natCast_dvd_natCast → gq,natAbs_neg → iH,dvd_refl → iI,one_mul → iY,mul_le_mul_of_nonneg_left → iZ,add_zero → ic,zero_dvd → ie,fdiv → jB,not_lt → jE,natCast_nonneg → jF,eq_of_mul_eq_mul_left → jL,mul_neg_of_neg_of_pos → jM,natAbs_sub_le → jS,lt_mul_ediv_self_add → j7,dvd_mul_of_dvd_right → j8,eq_ofNat_of_zero_le → jg,fmod_nonneg_of_pos → jv,sub_zero → jw,natCast_mul → kC,mul_one → kI,add_mul → kO,mul_neg → kX,mul_ediv_self_le → kY,fmod_lt_of_pos → lK,natAbs_natCast → lT,dvd_mul_right → mF,natCast_emod → mQ,neg_fdiv_neg → mR,natCast_ediv → mS
open PySem.NameKind renaming free → b0,cell → cG
open Classical renaming byContradiction → cA
open False renaming elim → cD
open PySem.Value renaming ref → cJ,none → gh,type → ji,int → k7,str → nH
open PySem.Obj renaming data_mapFields → dE,mapFields → fO,isFreed_of_fields → gD,cls_mapFields → jQ,mapSeq → ky
open PyProof.Rows renaming callWith_type1 → dI,slot_tuple_getitem → fR,envOfC → gi,AllBare → jO,subscriptTail_builtinR → jm,Constant_none → kg
open True renaming intro → dZ
open PySem.F renaming plainAttrs_list → dz,args_tuple_add_2 → gW,slot_list_append → gZ,type_list_append → g6,entry_tuple_add → gm,slot_tuple_add → gz,slot_list_insert → j4,type_list_insert → j6
open Array renaming getElem?_eq_some_iff → eu,length_toList → gR,find?_toList → il,toList_append → kc,toList → nK
open PySem.Builtin.Slice renaming slicePlaces → fE,sliceAdjust → jG
open PySem.PassesOwn renaming never → fG
open PySem.PyData renaming int → fg,hasDictAll → jR,shownAll → kD,showableAll → lH,depthAll → m6,depth → nO,tuple → nQ
open ForInStep renaming yield → fm
open PySem.Builtin.Int renaming intBits → gU
open PySem.Builtin.List renaming listTooLong → gX
open PySem.Builtin.ObjectAttr renaming ownThenClass → iK
open PySem.Calls renaming evalArgs_plain → iU,Name_function_global → ij,callWith_builtin → jo
open PySem.Builtin.SmallTypes renaming nextOf → jI
open PySem.Str renaming empty → ja,ofString → js
open PySem.W.WData renaming weightAll → jd,int → mL
open PySem.Challenge renaming pw_purseweb_k67_whole_rounds → jf,rw_purseweb_k67_whole_rounds → jh
open PySem.Around renaming under → jl
open PySem.SeqAt renaming EqAt → jr
open PySem.SeqAt.EqAt renaming same → kB,of_refs → lD
open PySem.W.KF renaming type_class → kH
open Or renaming inr → kK,inl → lA
open Eq renaming trans → kL
open PySem.Heap.SameBut renaming update → kd
open PySem.Code renaming quiet_builtin → lF,isFrame → l7
open PyProof.Rows.IsTup renaming new → mJ
open Sum renaming inl → me,inr → mf
open PySem.Shared renaming heap → nS
theorem nZ.{u}{c:Prop}{h:Decidable c}(a:c){b:Sort u}{t e:b}:ite c t e=t:=if_pos a
theorem ng.{u}{c:Prop}{h:Decidable c}(a:Not c){b:Sort u}{t e:b}:ite c t e=e:=if_neg a
noncomputable section
set_option Elab.async false
set_option linter.all false
set_option maxRecDepth 100000
namespace L2
open PySem PySem.Spec PyProof.Rows
abbrev Oc:=Sum Int a0
noncomputable def BF:Oc->aE->Bool
 | .inl k,v=>aE.isInt k v
 | .inr x,v=>aE.isStrOf x v
noncomputable def Zej(w:bc):Oc->Int
 | .inl k=>hashInt k
 | .inr x=>hashStr w x
theorem Yh:∀{k:Oc}{v:aE},BF k v=aC->(∃i t,k=me i/\v=k7 i t)\/(∃x t,k=mf x/\v=nH x t)
 | .inl i,v,h=>by obtain⟨t,e⟩:=aE.isInt_shape h;exact .inl ⟨i,t,rfl,e⟩
 | .inr x,v,h=>by obtain⟨t,e⟩:=aE.isStrOf_shape h;exact .inr ⟨x,t,rfl,e⟩
theorem Ah(a b:Int):decide ((me a:Oc)=me b)=(a==b):=by grind
theorem Ai(a b:a0):decide ((mf a:Oc)=mf b)=decide (a=b):=by simp
theorem Aj(a:Int)(b:a0):decide ((me a:Oc)=mf b)=aB:=decide_eq_false (λq=>nomatch q)
theorem Ak(a:a0)(b:Int):decide ((mf a:Oc)=me b)=aB:=decide_eq_false (λq=>nomatch q)
noncomputable def JV(prog:au)(w:bc):PySem.KeyKind prog w Oc where
 is:=BF
 hash:=Zej w
 inj:=λv a b ha hb=>by
  rcases Yh ha with⟨i,t,rfl,rfl⟩ | ⟨x,t,rfl,rfl⟩
  ·rcases Yh hb with⟨j,u,rfl,e⟩ | ⟨y,u,rfl,e⟩
   ·injection e with e1 _;rw[e1]
   ·exact nomatch e
  ·rcases Yh hb with⟨j,u,rfl,e⟩ | ⟨y,u,rfl,e⟩
   ·exact nomatch e
   ·injection e with e1 _;rw[e1]
 byValue:=λk v h=>by rcases Yh h with⟨i,t,rfl,rfl⟩ | ⟨x,t,rfl,rfl⟩<;>rfl
 pyHash:=λhv h=>by
  rcases Yh hv with⟨i,t,rfl,rfl⟩ | ⟨x,t,rfl,rfl⟩
  ·exact wpAny_pyHash_int h
  ·exact wpAny_pyHash_str h
 eqBool:=λhu hv h=>by
  rcases Yh hu with⟨i,t,rfl,rfl⟩ | ⟨x,t,rfl,rfl⟩
  ·rcases Yh hv with⟨j,u,rfl,rfl⟩ | ⟨y,u,rfl,rfl⟩
   ·rw[Ah] at h;exact wpAny_eqBool_int h
   ·rw[Aj] at h;exact jr.int_str i t y u _ _ _ _ h
  ·rcases Yh hv with⟨j,u,rfl,rfl⟩ | ⟨y,u,rfl,rfl⟩
   ·rw[Ak] at h;exact jr.str_int x t j u _ _ _ _ h
   ·rw[Ai] at h;exact wpAny_eqBool_str h
 «strs»:=λk x t v h=>by
  rcases Yh h with⟨i,u,rfl,e⟩ | ⟨y,u,rfl,e⟩
  ·exact nomatch e
  ·injection e with e1 _;subst e1;cases v<;>rfl
inductive V where
 | non | bl (b:Bool) | int (i:Int) | str (x:a0) | byt (b:Array UInt8) | flt (b:UInt64) | ref (a:aH) | ty (n:String)
 deriving DecidableEq
noncomputable def RelV:V->aE->Prop
 | .non,u=>u=gh
 | .bl b,u=>u=aE.bool b
 | .int i,u=>∃t,u=k7 i t
 | .str x,u=>∃t,u=nH x t
 | .byt b,u=>∃t,u=aE.bytes b t
 | .flt b,u=>∃t,u=aE.float b t
 | .ref a,u=>u=cJ a
 | .ty n,u=>u=ji n
abbrev Vals:List V->List aE->Prop:=Paired RelV
theorem Vals.length{a:List V}{b:List aE}(r:Vals a b):a.length=b.length:=Paired.length r
theorem Vals.get:∀{xs:List V}{us:List aE}{i:Nat}{x:V},Vals xs us->xs[i]?=aA x->∃u,us[i]?=aA u/\RelV x u
 | _,_,_,_,.nil,e=>by simp at e
 | _,_,0,_,.cons r _,e=>by simp at e;subst e;exact⟨_,rfl,r⟩
 | _,_,i+1,x,.cons _ t,e=>by obtain⟨u,b,a⟩:=Vals.get (i:=i) (x:=x) t (by simpa using e);exact⟨u,by simpa using b,a⟩
theorem Vals.set{x:V}{u:aE}(r:RelV x u):∀{xs:List V}{us:List aE}(i:Nat),Vals xs us->Vals (xs.set i x) (us.set i u)
 | _,_,_,.nil=>.nil
 | _,_,0,.cons _ t=>.cons r t
 | _,_,i+1,.cons q t=>.cons q (Vals.set r i t)
theorem Vals.append:∀{xs ys:List V}{us ws:List aE},Vals xs us->Vals ys ws->Vals (xs++ys) (us++ws)
 | _,_,_,_,.nil,s=>s
 | _,_,_,_,.cons r t,s=>.cons r (Vals.append t s)
theorem Vals.take:∀{xs:List V}{us:List aE}(n:Nat),Vals xs us->Vals (xs.take n) (us.take n)
 | _,_,0,_=>.nil
 | _,_,_+1,.nil=>.nil
 | _,_,n+1,.cons r t=>.cons r (Vals.take n t)
theorem Vals.drop:∀{xs:List V}{us:List aE}(n:Nat),Vals xs us->Vals (xs.drop n) (us.drop n)
 | _,_,0,r=>r
 | _,_,_+1,.nil=>.nil
 | _,_,n+1,.cons _ t=>Vals.drop n t
noncomputable def Al:Option V->Option aE->Prop
 | some v,aA u=>RelV v u
 | none,none=>True
 | _,_=>False
noncomputable def KV{κ:Type}:List (κ×V)->List (κ×aE)->Prop:=Paired λ(p:κ×V) (q:κ×aE)=>p.1=q.1/\RelV p.2 q.2
noncomputable def kV:Oc->V
 | .inl i=>.int i
 | .inr x=>.str x
inductive HO where
 /-- a list -/
 | lst (xs:List V)
 /-- a tuple (never changes) -/
 | tup (xs:List V)
 /-- a dict whose keys are ints and texts;one whose keys are tuples of ints and texts (the empty one is both) -/
 | dK (n6:List (Oc×V)) | dT (n6:List (List Oc×V))
 /-- a set of ints: nY members,nY size -/
 | set (S:Int->Bool) (n:Nat)
 /-- an instance of the class at C,nY dict at dx,nY attributes -/
 | ins (C dx:aH) (fs:List (a0×V))
 /-- the dict of the instance at x -/
 | own (x:aH)
 /-- the dict of an exception -/
 | xd (fs:List (a0×V))
 /-- a bound method,f of x -/
 | met (f x:aH)
 /-- a range object lo,lo+1,.. below hi -/
 | rng (lo hi:Int)
 /-- a thing that is known to the object (the script;a dict while a loop walks it): read,never written while it is so -/
 | frz (o:cy) (u:HO)
 /-- a code object's table -/
 | tbl (ps:Array aE)
 /-- any other thing,by what is aC of nY one object (a def of one's own: SetO a S n:=HO.ext λh=>..) -/
 | ext (φ:bH->Prop)
abbrev Hp:=aH->Option HO
noncomputable def upd(H:Hp)(a:aH)(o:HO):Hp:=λb=>if b=a then aA o else H b
theorem Zs{H:Hp}{a:aH}{o:HO}:upd H a o a=aA o:=by unfold upd;rw[nZ rfl]
theorem upd_ne{H:Hp}{a b:aH}{o:HO}(h:b≠a):upd H a o b=H b:=by unfold upd;rw[ng h]
theorem Zt{H:Hp}{a b:aH}{o:HO}(h:H a=aA o)(h':H b=none):a≠b:=by grind
noncomputable def Hi(x:a0):Bool:=x=="tree_of" || x=="still_by" || x=="made_of"
noncomputable def Zek(x:a0):a0:=x++".<locals>."++"<lambda>"
noncomputable def G1(o:cy)(q:a0):Prop:=∃vs t,o.data = .fields vs/\vs[1]?=aA (.str q t)
noncomputable def Zb1(q:a0)(H:Hp)(ps:List aE):Prop:=TriplesOk ps/\∀pos v,codeAmong pos ps=aA v->∃c o,v = .ref c/\H c=aA (.frz o (.own 0))/\G1 o q
theorem Qq{h:bH}{T:aE}{a:Array aE}{n:Nat}{o:cy}(e:(h.push { cls:=T,data:=.seq a n }).get? h.objs.size=aA o):o.dict=none:=by rw[ag _ rfl] at e;cases e;rfl
section
variable (P:au) (w:bc)
noncomputable def ObjOk(H:Hp)(h:bH)(a:aH):HO->Prop
 | .lst xs=>xs.length<=sizeLine/\∃(nY:List aE) (n:Nat),Vals xs nY/\h.get? a=aA { cls:=.type "list",data:=.seq nY.toArray n }
 | .tup xs=>(xs.length<=sizeLine/\∀o,h.get? a=aA o->o.dict=none)/\∃nY:List aE,Vals xs nY/\IsTup h a nY.toArray
 | .dK n6=>n6.length<=sizeLine/\(a==sysModules)=aB/\∃vs,KV n6 vs/\h.DictOf (JV P w) a vs
 | .dT n6=>n6.length<=sizeLine/\(a==sysModules)=aB/\∃xs:List (List Oc×aH×aE),
   Paired (λ(p:List Oc×V) (q:List Oc×aH×aE)=>p.1=q.1/\H q.2.1=aA (.tup (p.1.map kV))/\RelV p.2 q.2.2) n6 xs/\
   ∃o es ep,h.get? a=aA o/\o.ExactDict/\o.data = .dict es ep/\es.toList=xs.map (entryOfKey (tupleKind (JV P w)))/\(xs.map (·.1)).Nodup
 | .set S n=>h.SetOf (intKind P w) a S n
 | .ins C dx fs=>H dx=aA (.own a)/\fs.length<=1000/\dx≠a/\h.get? a=aA (jx C dx)/\
   ∃mA,h.Ns1 dx mA/\(∀f,Al (fs.lookup f) (mA f))/\nJ mA (fs.map (·.1))
 | .own _=>∃o,h.get? a=aA o
 | .xd fs=>∃mA,h.Ns1 a mA/\∀f,Al (fs.lookup f) (mA f)
 | .rng lo hi=>∃t u v,h.get? a=aA { cls:=.type "range",data:=.fields #[.int lo t,.int hi u,.int 1 v] }
 | .frz o u=>h.get? a=aA o/\ObjOk H h a u
 | .tbl ps=>∃(q:a0) (t:Tok) (ps':Array aE),ps[0]?=aA (.str q t)/\h.get? a=aA { cls:=.none,data:=.fields ps' }/\Zb1 q H ps'.toList
 | .met f x=>h.get? a=aA (PySem.W.methodObj (.ref f) (.ref x))
 | .ext φ=>φ h/\(∃o,h.get? a=aA o)/\∀h1 h2:bH,φ h1->(∀o,h1.get? a=aA o->h2.get? a=aA o)->φ h2
noncomputable def HOk(H:Hp)(h:bH):Prop:=∀a o,H a=aA o->ObjOk P w H h a o
end
section
variable {P:au} {w:bc} {H H':Hp} {h h':bH} {a:aH} {o:HO}
theorem ObjOk.lt(x:ObjOk P w H h a o):a<h.objs.size:=by
 cases o with
 | lst xs=>obtain⟨_,_,_,_,e⟩:=x;exact aQ e
 | tup xs=>obtain⟨_,_,_,p⟩:=x;exact p.lt
 | dK n6=>obtain⟨_,_,_,_,o,_,_,e,_⟩:=x;exact aQ e
 | dT n6=>obtain⟨_,_,_,_,o,_,_,e,_⟩:=x;exact aQ e
 | set S n=>obtain⟨o,_,_,_,e,_⟩:=x;exact aQ e
 | ins C dx fs=>obtain⟨_,_,_,e,_⟩:=x;exact aQ e
 | own y=>obtain⟨_,e⟩:=x;exact aQ e
 | xd fs=>obtain⟨_,⟨_,_,_,e,_⟩,_⟩:=x;exact aQ e
 | rng lo hi=>obtain⟨_,_,_,e⟩:=x;exact aQ e
 | frz ob u=>obtain⟨e,_⟩:=x;exact aQ e
 | tbl ps=>obtain⟨_,_,_,_,e,_⟩:=x;exact aQ e
 | met f y=>exact aQ (show h.get? a=aA _ from x)
 | ext φ=>obtain⟨_,⟨_,e⟩,_⟩:=x;exact aQ e
theorem Paired.mapP{d c:Type}{F G:d->c->Prop}:∀{l₁:List d}{l₂:List c},Paired F l₁ l₂->(∀a b,F a b->G a b)->Paired G l₁ l₂
 | _,_,.nil,_=>.nil
 | _,_,.cons r t,f=>.cons (f _ _ r) (Paired.mapP t f)
theorem ObjOk.stay(x:ObjOk P w H h a o)(k:∀b u,(b=a\/H b=aA (.own a))->h.get? b=aA u->h'.get? b=aA u)
  (J:∀b,H b=aA (.own a)->H' b=aA (.own a)) (I:∀b i,H b=aA (.tup i)->H' b=aA (.tup i)) (F:∀b u,H b=aA (.frz u (.own 0))->H' b=aA (.frz u (.own 0))):ObjOk P w H' h' a o:=by
 induction o with
 | lst i=>obtain⟨z,m,n,r,e⟩:=x;exact⟨z,m,n,r,k _ _ (.inl rfl) e⟩
 | tup i=>obtain⟨z,m,r,g,e,c⟩:=x;exact⟨⟨z.1,λo q=>by rw[k _ _ (.inl rfl) e] at q;cases q;exact z.2 _ e⟩,m,r,g,k _ _ (.inl rfl) e,c⟩
 | dK n6=>obtain⟨z,y,vs,r,g,es,ep,e,c⟩:=x;exact⟨z,y,vs,r,g,es,ep,k _ _ (.inl rfl) e,c⟩
 | dT n6=>
  obtain⟨z,y,i,r,g,es,ep,e,c⟩:=x;exact⟨z,y,i,Paired.mapP r λp q z=>⟨z.1,I _ _ z.2.1,z.2.2⟩,g,es,ep,k _ _ (.inl rfl) e,c⟩
 | set S n=>obtain⟨g,es,ep,t,e,c⟩:=x;exact⟨g,es,ep,t,k _ _ (.inl rfl) e,c⟩
 | ins C dx fs=>
  obtain⟨d,z,ne,e,A,⟨l,es,ep,j,c⟩,r⟩:=x;exact⟨J _ d,z,ne,k _ _ (.inl rfl) e,A,⟨l,es,ep,k _ _ (.inr d) j,c⟩,r⟩
 | own y=>obtain⟨g,e⟩:=x;exact⟨g,k _ _ (.inl rfl) e⟩
 | xd fs=>obtain⟨A,⟨l,es,ep,e,c⟩,r⟩:=x;exact⟨A,⟨l,es,ep,k _ _ (.inl rfl) e,c⟩,r⟩
 | rng lo hi=>obtain⟨t,u,v,e⟩:=x;exact⟨t,u,v,k _ _ (.inl rfl) e⟩
 | frz g u ih=>obtain⟨e,q⟩:=x;exact⟨k _ _ (.inl rfl) e,ih q⟩
 | tbl ps=>
  obtain⟨q,t,s,D,e,E,L⟩:=x;refine⟨q,t,s,D,k a _ (.inl rfl) e,E,λpos v B=>?_⟩;obtain⟨c,o,M,j,G⟩:=L pos v B;exact⟨c,o,M,F c o j,G⟩
 | met f y=>
  have e:=x;exact k a _ (.inl rfl) e
 | ext φ=>obtain⟨p,⟨o,e⟩,st⟩:=x;exact⟨st _ _ p λo q=>k _ _ (.inl rfl) q,⟨o,k _ _ (.inl rfl) e⟩,st⟩
theorem HOk.lt(x:HOk P w H h)(e:H a=aA o):a<h.objs.size:=(x a o e).lt
theorem HOk.fresh(x:HOk P w H h)(e:h.objs.size<=a):H a=none:=by
 cases q:H a with
 | none=>rfl
 | some u=>exact absurd (aV (x.lt q) e) (cK _)
theorem HOk.kept(x:HOk P w H h)(k:∀b u,h.get? b=aA u->h'.get? b=aA u):HOk P w H h':=λa o e=>
 (x a o e).stay (λb u _ q=>k b u q) (λ_ q=>q) (λ_ _ q=>q) λ_ _ q=>q
theorem HOk.laid(x:HOk P w H h)(k:∀b u,h.get? b=aA u->h'.get? b=aA u)(g:h.objs.size<=a)(new:ObjOk P w (upd H a o) h' a o):HOk P w (upd H a o) h':=λb u e=>by
 have d:=x.fresh g;by_cases f:b=a
 ·subst f;rw[Zs] at e;cases e;exact new
 ·rw[upd_ne f] at e;exact(x b u e).stay (λc v _ q=>k c v q) (λc q=>by rw[upd_ne (Zt q d)];exact q) (λc i q=>by rw[upd_ne (Zt q d)];exact q) λc u q=>by rw[upd_ne (Zt q d)];exact q
end
noncomputable def Rd(H:Hp)(a:aH)(u:HO):Prop:=H a=aA u\/∃o,H a=aA (.frz o u)
theorem Rd.ok{P:au}{w:bc}{H:Hp}{h:bH}{a:aH}{u:HO}(r:Rd H a u)(x:HOk P w H h):ObjOk P w H h a u:=by
 rcases r with r | ⟨o,r⟩
 ·exact x a u r
 ·obtain⟨_,q⟩:=x a _ r;exact q
noncomputable def U2:Option HO->Prop
 | some (.lst _)=>True
 | some (.dK _)=>True
 | some (.dT _)=>True
 | some (.set _ _)=>True
 | some (.ins _ _ _)=>True
 | some (.ext _)=>True
 | _=>False
section
variable {P:au} {w:bc} {H:Hp} {h h':bH} {x e:aH} {o':HO}
theorem HOk.write(ok:HOk P w H h)(f:U2 (H x))(n:e=x\/H e=aA (.own x))(k:∀b u,b≠e->h.get? b=aA u->h'.get? b=aA u)(m:∃u,h'.get? e=aA u)
  (new:ObjOk P w (upd H x o') h' x o'):HOk P w (upd H x o') h':=λb u q=>by
 have d:∀c y,H c=aA (.own y)->c≠x:=λc y r z=>by subst z;rw[r] at f;exact f
 have g:∀c j,H c=aA (.tup j)->c≠x:=λc j r z=>by subst z;rw[r] at f;exact f
 by_cases i:b=x
 ·subst i;rw[Zs] at q;cases q;exact new
 ·rw[upd_ne i] at q;by_cases a:b=e
  ·have o:H b=aA (.own x):=by
    rcases n with z | z
    ·exact absurd (a.trans z) i
    ·rw[a];exact z
   rw[q] at o;cases o;obtain⟨v,p⟩:=m;exact⟨v,by rw[a];exact p⟩
  ·refine(ok b u q).stay (λc v l r=>k c v ?_ r) (λc r=>by rw[upd_ne (d c b r)];exact r) (λc j r=>by rw[upd_ne (g c j r)];exact r) λc v r=>by rw[upd_ne (λz=>by subst z;rw[r] at f;exact f)];exact r
   rcases l with rfl | l
   ·exact a
   ·rintro rfl;rcases n with z | z
    ·exact d c b l z
    ·rw[l] at z;cases z;exact i rfl
end
structure Un(fs ex:List aH)(H H':Hp)(h h':bH):Prop where
 keep:∀b o,h.get? b=aA o->H b=none->b∉fs->b∉ex->h'.get? b=aA o
 slot:∀b o,h.get? b=aA o->H b=none->b∈fs->b∉ex->∃sl,h'.get? b=aA { o with slots:=sl }
 free:∀b o,h.get? b=aA o->H b=none->b∉ex->H' b=none
 there:∀b o,h.get? b=aA o->b∉ex->∃o',h'.get? b=aA o'
 tups:∀b xs,H b=aA (.tup xs)->H' b=aA (.tup xs)
 frzs:∀b o u,H b=aA (.frz o u)->H' b=aA (.frz o u)
 tbls:∀b ps,H b=aA (.tbl ps)->∃more,H' b=aA (.tbl (ps++more))
section
variable {fs fs' ex ex':List aH} {H H1 H2:Hp} {h h1 h2 h':bH} {a x e:aH} {o:HO}
theorem Un.any(u:Un fs ex H H1 h h1){b:aH}{a:cy}(q:h.get? b=aA a)(n:H b=none)(c:b∉ex):∃sl,h1.get? b=aA { a with slots:=sl }:=by
 by_cases d:b∈fs
 ·exact u.slot b a q n d c
 ·exact⟨a.slots,u.keep b a q n d c⟩
theorem Un.kept(k:∀b u,h.get? b=aA u->h'.get? b=aA u):Un fs ex H H h h':=
 ⟨λb a q _ _ _=>k b a q,λb a q _ _ _=>⟨a.slots,k b a q⟩,λ_ _ _ n _=>n,λb a q _=>⟨a,k b a q⟩,λ_ _ q=>q,λ_ _ _ q=>q,λ_ c q=>⟨#[],by rw[q];simp⟩⟩
theorem Un.refl:Un fs ex H H h h:=Un.kept λ_ _ q=>q
theorem Un.laid(k:∀b u,h.get? b=aA u->h'.get? b=aA u)(d:h.objs.size<=a)(c:H a=none):Un fs ex H (upd H a o) h h' where
 keep:=λb u q _ _ _=>k b u q
 slot:=λb u q _ _ _=>⟨u.slots,k b u q⟩
 free:=λb u q n _=>by rw[upd_ne (ar (aV (aQ q) d))];exact n
 there:=λb u q _=>⟨u,k b u q⟩
 tups:=λb e q=>by rw[upd_ne (Zt q c)];exact q
 frzs:=λb u e q=>by rw[upd_ne (Zt q c)];exact q
 tbls:=λb f q=>⟨#[],by rw[upd_ne (Zt q c),q];simp⟩
theorem Un.write(c:U2 (H x))(j:e=x\/H e=aA (.own x))(k:∀b u,b≠e->h.get? b=aA u->h'.get? b=aA u)(f:∃u,h'.get? e=aA u):Un fs ex H (upd H x o) h h':=by
 have g:∀b,H b=none->b≠x:=λb n z=>by subst z;rw[n] at c;exact c
 have i:∀b,H b=none->b≠e:=λb n z=>by
  subst z;rcases j with r | r
  ·exact g b n r
  ·rw[n] at r;cases r
 have d:∀b u,H b=aA u->¬U2 (aA u)->b≠x:=λb u q nm z=>by subst z;rw[q] at c;exact nm c
 refine⟨λb u q n _ _=>k b u (i b n) q,λb u q n _ _=>⟨u.slots,k b u (i b n) q⟩,λb u q n _=>by rw[upd_ne (g b n)];exact n,λb u q _=>?_,
  λb l q=>by rw[upd_ne (d b _ q λz=>z)];exact q,λb u l q=>by rw[upd_ne (d b _ q λz=>z)];exact q,λb m q=>⟨#[],by rw[upd_ne (d b _ q λz=>z),q];simp⟩⟩
 by_cases a:b=e
 ·subst a;exact f
 ·exact⟨u,k b u a q⟩
end
noncomputable def TabsH(K:aD)(mg:a0->Option aE)(base:bH)(H:Hp):Prop:=∀(q:a0)(c:aH),Hi q=aC->cZ K (.ref c) q=aC->
 ∃Pt ps t,PySem.W.CodeHd base c Pt/\H Pt=aA (.tbl ps)/\ps[0]?=aA (.str (Zek q) t)/\base.BuiltinsAt mg Pt
theorem TabsH.un{K:aD}{g:a0->Option aE}{base:bH}{fs k:List aH}{H i:Hp}{h h':bH}(t:TabsH K g base H)(u:Un fs k H i h h'):TabsH K g base i:=λq c r p=>by
 obtain⟨f,a,tk,m,j,d,l⟩:=t q c r p;obtain⟨e,o⟩:=u.tbls f a j
 have b:0<a.size:=by
  cases z:a.size with
  | zero=>rw[Array.getElem?_eq_none (by omega)] at d;cases d
  | succ n=>omega
 exact⟨f,_,tk,m,o,by rw[Array.getElem?_append_left b];exact d,l⟩
noncomputable def trk(h:bH)(H:Hp):List aH:=(aM h.objs.size).filter λa=>(H a).isSome
noncomputable def Nf(h:bH)(H:Hp):bH:=PySem.W.hideAll h (trk h H)
theorem Hj(h:bH)(H:Hp):(Nf h H).objs.size=h.objs.size:=PySem.W.hideAll_size _ _
theorem G3{h:bH}{H:Hp}{b:aH}{o:cy}(e:h.get? b=aA o)(n:H b=none):(Nf h H).get? b=aA o:=
 PySem.W.hideAll_get _ e λa=>by have q:=(i5.mp a).2;rw[n] at q;simp at q
theorem Dz{h:bH}{H:Hp}{b:aH}{o:cy}(e:(Nf h H).get? b=aA o):h.get? b=aA o/\H b=none:=by
 have a:=PySem.W.of_hideAll (trk h H) e;refine⟨a,?_⟩
 cases q:H b with
 | none=>rfl
 | some x=>
  have c:b∈trk h H:=i5.mpr ⟨aU.mpr (aQ a),by simp[q]⟩;have z:(Nf h H).get? b=none:=PySem.W.hideAll_none (trk h H) c;rw[z] at e;cases e
noncomputable def DA(g h:bH)(L:aH):List (aH×cy):=(aM h.objs.size).filterMap λa=>if a=L\/(g.get? a).isSome=aC then none else(h.get? a).map λo=>(a,o)
noncomputable def n8(g h:bH)(L d:aH):List (aH×cy):=(DA g h L).filter λp=>decide (p.1≠d)
structure Mod(K:aD)(mg:a0->Option aE)(base:bH):Prop where
 kin:K.In base
 glob:base.Ns az mg
 blt:∃mb,base.Ns kj mb/\∀x:a0,x≠"__name__"->mb x=dN x
 nolimit:base.NoLimit
structure Cx where
 prog:au
 w:bc
 K:aD
 mg:a0->Option aE
 base:bH
 A:bQ
 N:List a0
 s₀:aI
 H₀:Hp
 env:jN
 outer:List jN
 stack:List jN
 ex:List aH
 fn:a0->Bool
 calm:Bool
 pn:List (aH×cy)
 xe:aE->aI->Prop
noncomputable def MN(l:List jN):List aH:=l.filterMap (·.frame)
abbrev Cx.fs(X:Cx):List aH:=MN X.outer
noncomputable def Vis(sc:du)(x:a0):Prop:=sc.names.lookup x=aA .local\/sc.names.lookup x=aA .cell\/sc.names.lookup x=aA .free
noncomputable def DB(sc:du)(x:a0):Prop:=sc.names.lookup x=aA .local\/sc.names.lookup x=aA .cell
noncomputable def Zel(env:jN)(h:bH)(m:a0->Option aE)(x:a0)(u:aE):Prop:=
 (env.kindOf x=aA .local/\m x=aA u)\/((env.kindOf x=aA .cell\/env.kindOf x=aA .free)/\∃c,env.cells.lookup x=aA c/\h.IsCell c (aA u))
structure Cx.Ok(X:Cx):Prop where
 mod:Mod X.K X.mg X.base
 kind:X.env.scope.kind = .function
 glob:X.env.globals=az
 blt:X.env.builtins=kj
 above:X.s₀.heap.objs.size<=X.env.locals
 inj:∀x y c,X.env.cells.lookup x=aA c->X.env.cells.lookup y=aA c->x=y
 has:∀x,(X.env.kindOf x=aA .cell\/X.env.kindOf x=aA .free)->∃c,X.env.cells.lookup x=aA c
 cab:∀x c,X.fn x=aC->X.env.cells.lookup x=aA c->X.s₀.heap.objs.size<=c
 hd:X.calm=aC->X.A.handled=none
 frames:X.A.frames=aA X.stack
 stk:X.stack=X.outer\/(X.stack=X.env::X.outer/\X.env.frame=aA X.env.locals)
 exf:∀b∈X.ex,b≠X.env.locals/\∀x c,X.env.cells.lookup x=aA c->c≠b
 bs:∀b o,X.base.get? b=aA o->X.s₀.heap.get? b=aA o/\X.H₀ b=none
 bsz:X.base.objs.size<=X.s₀.heap.objs.size
 noex:∀b o,X.base.get? b=aA o->b∉X.ex
 exfs:∀b∈X.ex,b∉X.fs
 funs:X.s₀.heap.FunFrames X.base X.outer
 frf:∀b∈X.fs,X.H₀ b=none
 tab:TabsH X.K X.mg X.base X.H₀
 cod:∀q:a0,X.env.func≠none->X.env.qual=q++".<locals>."->Hi q=aC->cZ X.K X.env.code q=aC
structure Inv(X:Cx)(n5:List (aH×cy))(σ:List (Option V))(H:Hp)(s:aI):Prop where
 ok:X.Ok
 os:s.os=X.s₀.os
 bare:jO s.gens
 base:Un X.fs X.ex X.H₀ H X.s₀.heap s.heap
 loc:∃m,s.heap.Ns X.env.locals m/\∀(i:Nat)(x:a0)(v:V),X.N[i]?=aA x->σ[i]?=aA (aA v)->Vis X.env.scope x->∃u,RelV v u/\Zel X.env s.heap m x u
 cell:∀x c,X.env.cells.lookup x=aA c->∃v,s.heap.IsCell c v
 free:H X.env.locals=none
 freeC:∀x c,X.env.cells.lookup x=aA c->H c=none
 pin:∀p∈X.pn++n5,s.heap.get? p.1=aA p.2/\H p.1=none/\p.1≠X.env.locals/\p.1∉X.fs/\∀v,p.2.data≠.cell v
 hok:HOk X.prog X.w H s.heap
 len:σ.length=X.N.length
section
variable {X:Cx} {n5:List (aH×cy)} {σ:List (Option V)} {H H':Hp} {s:aI} {h':bH}
theorem Cx.Ok.nofr(ok:X.Ok){b:aH}{o:cy}(e:X.base.get? b=aA o):b∉X.fs:=λa=>by have:=(ok.funs.mem a).1;rw[e] at this;cases this
theorem Inv.bs(I:Inv X n5 σ H s):∀b o,X.base.get? b=aA o->s.heap.get? b=aA o/\H b=none:=λb o e=>
 ⟨I.base.keep b o (I.ok.bs b o e).1 (I.ok.bs b o e).2 (I.ok.nofr e) (I.ok.noex b o e),I.base.free b o (I.ok.bs b o e).1 (I.ok.bs b o e).2 (I.ok.noex b o e)⟩
theorem Inv.bk(I:Inv X n5 σ H s):∀b o,X.base.get? b=aA o->s.heap.get? b=aA o:=λb o e=>(I.bs b o e).1
theorem Inv.mod(I:Inv X n5 σ H s):Mod X.K X.mg X.base:=I.ok.mod
theorem Inv.kIn(I:Inv X n5 σ H s):X.K.In s.heap:=I.ok.mod.kin.keeps I.bk
theorem Inv.fr(I:Inv X n5 σ H s):∃m,Fr X.base X.env.locals s.heap m:=
 let⟨m,a,_⟩:=I.loc
 ⟨m,a,I.bk,aX I.ok.bsz I.ok.above⟩
theorem Inv.lt(I:Inv X n5 σ H s):X.env.locals<s.heap.objs.size:=let⟨_,a,_⟩:=I.loc;a.lt
theorem Inv.sz(I:Inv X n5 σ H s):X.s₀.heap.objs.size<=s.heap.objs.size:=aX I.ok.above (dA I.lt)
theorem Inv.nofs(I:Inv X n5 σ H s){a:aH}(h:s.heap.objs.size<=a):a∉X.fs:=λb=>by obtain⟨_,o,c,_⟩:=I.ok.funs.mem b;exact absurd (aV (aQ c) (aX I.sz h)) (cK _)
theorem Inv.cne(I:Inv X n5 σ H s):∀x c,X.env.cells.lookup x=aA c->c≠X.env.locals:=λx c e z=>by obtain⟨v,o,d,f⟩:=I.cell x c e;obtain⟨m,⟨g,es,ep,a,b,_⟩,_⟩:=I.loc;rw[z,a] at d;cases d;rw[b] at f;cases f
theorem Inv.funs(I:Inv X n5 σ H s):s.heap.FunFrames X.base X.outer:=by
 have all:∀(l:List jN),(∀b∈MN l,b∈X.fs)->X.s₀.heap.FunFrames X.base l->s.heap.FunFrames X.base l:=by
  intro l
  induction l with
  | nil=>intro _ _;trivial
  | cons env r ih=>
   intro hs f;obtain⟨i,⟨L,o,c,k,j,h⟩,g⟩:=f;have a:L∈X.fs:=hs L (by unfold MN;rw[i9,c];exact af);obtain⟨m,e⟩:=I.base.slot L o j (I.ok.frf L a) a λz=>I.ok.exfs L z a;exact⟨i,⟨L,_,c,k,e,h⟩,ih (λb d=>hs b (by unfold MN;rw[i9,c];exact aW _ d)) g⟩
 exact all X.outer (λ_ d=>d) I.ok.funs
theorem Inv.stack(I:Inv X n5 σ H s):s.heap.FunFrames X.base X.stack:=by
 rcases I.ok.stk with e | ⟨e,b⟩
 ·rw[e];exact I.funs
 ·rw[e];obtain⟨m,a,_⟩:=I.loc;refine .cons (by rw[I.ok.kind];decide) b a ?_ I.funs;exact fJ (aX I.ok.bsz I.ok.above)
theorem Inv.stkSub(I:Inv X n5 σ H s):∀b∈MN X.stack,b∈X.env.locals::X.fs:=λb a=>by
 rcases I.ok.stk with e | ⟨e,c⟩
 ·rw[e] at a;exact aW _ a
 ·rw[e] at a;unfold MN at a;rw[i9,c] at a;exact a
theorem Inv.stkFree(I:Inv X n5 σ H s):∀b∈MN X.stack,H b=none:=λb a=>by
 rcases aa.mp (I.stkSub b a) with e | a
 ·rw[e];exact I.free
 ·obtain⟨_,o,c,_⟩:=I.ok.funs.mem a;exact I.base.free b o c (I.ok.frf b a) λz=>I.ok.exfs b z a
theorem Inv.step{S:Array lY}{t':Nat}{d':Drawn}{ch:List aH}(I:Inv X n5 σ H s)
  (g:∀b∈ch,(b∈X.ex\/X.s₀.heap.objs.size<=b)/\b≠X.env.locals/\(∀x c,X.env.cells.lookup x=aA c->c≠b)/\∀p∈X.pn++n5,p.1≠b)
  (h:∀b o,b≠X.env.locals->b∉X.fs->b∉ch->s.heap.get? b=aA o->H b=none->h'.get? b=aA o)
  (y:∀b o,b≠X.env.locals->b∈X.fs->b∉ch->s.heap.get? b=aA o->H b=none->∃Q,h'.get? b=aA { o with slots:=Q }) (free:∀b o,b∉ch->s.heap.get? b=aA o->H b=none->H' b=none)
  (C:∀b o,b∉ch->s.heap.get? b=aA o->∃J,h'.get? b=aA J)
  (L:∀b A,H b=aA (.tup A)->H' b=aA (.tup A)) (M:∀b o u,H b=aA (.frz o u)->H' b=aA (.frz o u)) (E:∀b N,H b=aA (.tbl N)->∃more,H' b=aA (.tbl (N++more)))
  (Z:∀m,s.heap.Ns X.env.locals m->h'.Ns X.env.locals m) (P:HOk X.prog X.w H' h') (Y:jO S) :
  Inv X n5 σ H' { s with heap:=h',gens:=S,drawn:=d',toks:=t' }:=by
 have F:∀b o,X.s₀.heap.get? b=aA o->b≠X.env.locals:=λb o e=>ar (aV (aQ e) I.ok.above)
 have w:∀b o,X.s₀.heap.get? b=aA o->b∉X.ex->b∉ch:=λb o e a B=>by
  rcases(g b B).1 with z | z
  ·exact a z
  ·exact absurd (aV (aQ e) z) (cK _)
 have f:∀x c,X.env.cells.lookup x=aA c->∀v,s.heap.IsCell c v->h'.IsCell c v:=λx c e v ⟨o,D,O⟩=>by
  have j:=λz=>(g c z).2.2.1 x c e rfl;by_cases W:c∈X.fs
  ·obtain⟨Q,q⟩:=y c o (I.cne x c e) W j D (I.freeC x c e);exact⟨_,q,O⟩
  ·exact⟨o,h c o (I.cne x c e) W j D (I.freeC x c e),O⟩
 refine⟨I.ok,I.os,Y,⟨λb o e n B a=>?_,λb o e n B a=>?_,λb o e n a=>?_,λb o e a=>?_,λb A e=>L b A (I.base.tups b A e),λb o A e=>M b o A (I.base.frzs b o A e),λb N e=>?_⟩,?_,λx c e=>?_,?_,λx c e=>?_,λp T=>?_,P,I.len⟩
 ·exact h b o (F b o e) B (w b o e a) (I.base.keep b o e n B a) (I.base.free b o e n a)
 ·obtain⟨Q,t⟩:=I.base.slot b o e n B a;obtain⟨R,G⟩:=y b _ (F b o e) B (w b o e a) t (I.base.free b o e n a);exact⟨R,G⟩
 ·obtain⟨J,t⟩:=I.base.there b o e a;exact free b J (w b o e a) t (I.base.free b o e n a)
 ·obtain⟨J,t⟩:=I.base.there b o e a;exact C b J (w b o e a) t
 ·obtain⟨m1,t⟩:=I.base.tbls b N e;obtain⟨m2,G⟩:=E b _ t;exact⟨m1++m2,by rw[G,Array.append_assoc]⟩
 ·obtain⟨m,hn,hl⟩:=I.loc;refine⟨m,Z m hn,λi x v t G e3=>?_⟩;obtain⟨u,r,l⟩:=hl i x v t G e3;refine⟨u,r,?_⟩;rcases l with l | ⟨k,c,e,z⟩
  ·exact .inl l
  ·exact .inr ⟨k,c,e,f x c e _ z⟩
 ·obtain⟨v,z⟩:=I.cell x c e;exact⟨v,f x c e v z⟩
 ·obtain⟨m,⟨o,_,_,D,_⟩,_⟩:=I.loc;exact free _ o (λz=>(g _ z).2.1 rfl) D I.free
 ·obtain⟨v,o,D,O⟩:=I.cell x c e;exact free c o (λz=>(g c z).2.2.1 x c e rfl) D (I.freeC x c e)
 ·obtain⟨e,n,ne,U,d⟩:=I.pin p T;have j:=λz=>(g p.1 z).2.2.2 p T rfl;exact⟨h p.1 p.2 ne U j e n,free p.1 p.2 j e n,ne,U,d⟩
theorem Inv.un{t':Nat}(I:Inv X n5 σ H s)(u:Un X.fs [] H H' s.heap h')(f:HOk X.prog X.w H' h'):Inv X n5 σ H' { s with heap:=h',toks:=t' }:=by
 obtain⟨m,⟨o,es,ep,h,r⟩,_⟩:=id I.loc;obtain⟨q,i⟩:=u.any h I.free (by simp)
 exact I.step (ch:=[]) (λ_ z=>nomatch z) (λb o _ g _ e n=>u.keep b o e n g (by simp)) (λb o _ g _ e n=>u.slot b o e n g (by simp)) (λb o _ e n=>u.free b o e n (by simp)) (λb o _ e=>u.there b o e (by simp)) u.tups u.frzs u.tbls (λl k=>by
  obtain⟨p,c,d,a,j⟩:=k;rw[h] at a;cases a;exact⟨_,c,d,i,j⟩) f I.bare
theorem Inv.call{k:Array lY}{t':Nat}{y:Drawn}{ch:List aH}(I:Inv X n5 σ H s)(u:Un (MN X.stack) ch H H' s.heap h')(j:HOk X.prog X.w H' h')(q:jO k)
  (d:∀b∈ch,(b∈X.ex\/X.s₀.heap.objs.size<=b)/\b≠X.env.locals/\(∀x c,X.env.cells.lookup x=aA c->c≠b)/\∀p∈X.pn++n5,p.1≠b) :
  Inv X n5 σ H' { s with heap:=h',gens:=k,drawn:=y,toks:=t' }:=by
 obtain⟨m,⟨o,es,ep,l,r⟩,_⟩:=id I.loc;obtain⟨C,h⟩:=u.any l I.free λz=>(d _ z).2.1 rfl
 exact I.step d (λb o h w a e n=>u.keep b o e n (λz=>(aa.mp (I.stkSub b z)).elim h w) a) (λb o _ _ a e n=>u.any e n a) (λb o a e n=>u.free b o e n a) (λb o a e=>u.there b o e a) u.tups u.frzs u.tbls (λA v=>by
  obtain⟨B,g,i,f,t⟩:=v;rw[l] at f;cases f;exact⟨_,g,i,h,t⟩) j q
theorem Inv.turned{t':Nat}{a:aH}(I:Inv X n5 σ H s)(k:∀b o,b≠a->s.heap.get? b=aA o->h'.get? b=aA o)(w:H a=none)(g:a≠X.env.locals)
  (y:a∈X.ex\/X.s₀.heap.objs.size<=a) (i:∀x c,X.env.cells.lookup x=aA c->c≠a) (h:∀p∈X.pn++n5,p.1≠a):Inv X n5 σ H { s with heap:=h',toks:=t' }:=by
 have f:∀b u,H b=aA u->b≠a:=λb u e z=>by rw[z,w] at e;cases e
 refine I.step (ch:=[a]) (λb l=>?_) (λb o _ _ d e _=>k b o (λz=>d (by simp[z])) e) (λb o _ _ d e _=>⟨o.slots,k b o (λz=>d (by simp[z])) e⟩) (λ_ _ _ _ n=>n)
  (λb o d e=>⟨o,k b o (λz=>d (by simp[z])) e⟩) (λ_ _ e=>e) (λ_ _ _ e=>e) (λb A e=>⟨#[],by rw[e];simp⟩) (λm j=>?_) (λb u e=>?_) I.bare
 ·have e:b=a:=by simpa using l
  subst e;exact⟨y,g,i,h⟩
 ·obtain⟨o,es,ep,t,r⟩:=j;exact⟨o,es,ep,k _ o (bB g) t,r⟩
 ·refine(I.hok b u e).stay (λc v d q=>k c v ?_ q) (λ_ q=>q) (λ_ _ q=>q) λ_ _ q=>q;rcases d with z | z
  ·rw[z];exact f b u e
  ·exact f c _ z
theorem Inv.tok(I:Inv X n5 σ H s)(t:Nat):Inv X n5 σ H { s with toks:=t }:=I.un Un.refl I.hok
theorem Inv.kept{t':Nat}(I:Inv X n5 σ H s)(k:∀b u,s.heap.get? b=aA u->h'.get? b=aA u):Inv X n5 σ H { s with heap:=h',toks:=t' }:=I.un (Un.kept k) (I.hok.kept k)
theorem Inv.laid{a:aH}{o:HO}{t':Nat}(I:Inv X n5 σ H s)(k:∀b u,s.heap.get? b=aA u->h'.get? b=aA u)(c:s.heap.objs.size<=a)(new:ObjOk X.prog X.w (upd H a o) h' a o) :
  Inv X n5 σ (upd H a o) { s with heap:=h',toks:=t' }:=I.un (Un.laid k c (I.hok.fresh c)) (I.hok.laid k c new)
theorem Inv.write{x e:aH}{o:HO}{t':Nat}(I:Inv X n5 σ H s)(d:U2 (H x))(c:e=x\/H e=aA (.own x))(k:∀b u,b≠e->s.heap.get? b=aA u->h'.get? b=aA u)(a:∃u,h'.get? e=aA u)
  (new:ObjOk X.prog X.w (upd H x o) h' x o):Inv X n5 σ (upd H x o) { s with heap:=h',toks:=t' }:=I.un (Un.write d c k a) (I.hok.write d c k a new)
theorem Inv.weak{a:List (Option V)}(I:Inv X n5 σ H s)(f:a.length=σ.length)(w:∀(i:Nat) v,a[i]?=aA (aA v)->σ[i]?=aA (aA v)):Inv X n5 a H s:=
 ⟨I.ok,I.os,I.bare,I.base,let⟨m,g,b⟩:=I.loc;⟨m,g,λi x v d c e=>b i x v d (w i v c) e⟩,I.cell,I.free,I.freeC,I.pin,I.hok,f.trans I.len⟩
theorem Inv.pins_of{a:List (aH×cy)}(I:Inv X n5 σ H s)(h:∀p∈a,s.heap.get? p.1=aA p.2/\H p.1=none/\p.1≠X.env.locals/\p.1∉X.fs/\∀v,p.2.data≠.cell v):Inv X a σ H s:=
 ⟨I.ok,I.os,I.bare,I.base,I.loc,I.cell,I.free,I.freeC,λp b=>(cB.mp b).elim (λz=>I.pin p (b7 _ z)) (h p),I.hok,I.len⟩
theorem Qr{N:List a0}(e:N.Nodup){i j:Nat}{x:a0}(a:N[i]?=aA x)(b:N[j]?=aA x):i=j:=by obtain⟨g,d⟩:=aS.mp a;obtain⟨f,c⟩:=aS.mp b;exact(mG e).mp (d.trans c.symm)
theorem Hk{M:mT}{A:bQ}{E:aE->aI->Prop}{i:Nat}{x:a0}{v:V}{u:aE}{Q:Unit->aI->Prop}(I:Inv X n5 σ H s)(hN:X.N.Nodup)(P:X.N[i]?=aA x)(t:DB X.env.scope x)(r:RelV v u)
  (h:∀s',Inv X n5 (σ.set i (aA v)) H s'->(∃a,dB a s.heap s'.heap/\(a=X.env.locals\/X.env.cells.lookup x=aA a))->Q () s') (hf:X.fn x=aC\/X.env.scope.names.lookup x=aA .local:=by first | exact .inl rfl | exact .inr rfl | assumption):ak M A (storeName X.env x u) Q E s:=by
 obtain⟨m,hn,hl⟩:=id I.loc;have S:(X.env.scope.kind==.class || (X.env.scope.kind==.module&&X.env.locals != X.env.globals))=aB:=by rw[I.ok.kind];rfl
 have C:i<σ.length:=by rw[I.len];exact(aS.mp P).1
 have cne:=I.cne
 have f:∀{a:aH}{h':bH},(∃o,s.heap.get? a=aA o/\H a=none)->dB a s.heap h'->HOk X.prog X.w H h':=λ{a h'} ha hs b ob e=>by
  obtain⟨_,_,w⟩:=ha;refine(I.hok b ob e).stay (λc T l q=>(hs.2 c ?_).trans q) (λ_ q=>q) (λ_ _ q=>q) λ_ _ q=>q;rintro rfl;rcases l with rfl | l
  ·rw[w] at e;cases e
  ·rw[w] at l;cases l
 rcases t with D | D
 ·refine wpAny_storeName_local D hn (λh' hn' hs=>?_) S;obtain⟨oL,_,_,hoL,_⟩:=id hn;refine h _ ⟨I.ok,I.os,I.bare,⟨λb o e n J t=>?_,λb o e n J t=>?_,I.base.free,λb o e t=>?_,I.base.tups,I.base.frzs,I.base.tbls⟩,⟨_,hn',λj y W g B e3=>?_⟩,λy c e=>?_,I.free,I.freeC,λp hp=>?_,f ⟨oL,hoL,I.free⟩ hs,by simpa using I.len⟩ ⟨_,hs,.inl rfl⟩
  ·exact(hs.2 b (ar (aV (aQ e) I.ok.above))).trans (I.base.keep b o e n J t)
  ·obtain⟨sl,g⟩:=I.base.slot b o e n J t;exact⟨sl,(hs.2 b (ar (aV (aQ e) I.ok.above))).trans g⟩
  ·obtain⟨Y,g⟩:=I.base.there b o e t;exact⟨Y,(hs.2 b (ar (aV (aQ e) I.ok.above))).trans g⟩
  ·by_cases G:j=i
   ·subst G;rw[P] at g;cases g;rw[fZ C] at B;cases B;exact⟨u,r,.inl ⟨D,by simp⟩⟩
   ·rw[di (bB G)] at B;obtain⟨u',Z,q⟩:=hl j y W g B e3;refine⟨u',Z,?_⟩;rcases q with⟨k,e⟩ | ⟨k,c,e,z⟩
    ·refine .inl ⟨k,?_⟩;have:y≠x:=λe=>G (Qr hN g (e▸P));simp[this,e]
    ·exact .inr ⟨k,c,e,z.sameBut hs (cne y c e)⟩
  ·obtain⟨T,z⟩:=I.cell y c e;exact⟨T,z.sameBut hs (cne y c e)⟩
  ·obtain⟨e,n,ne,nf,d⟩:=I.pin p hp;exact⟨(hs.2 p.1 ne).trans e,n,ne,nf,d⟩
 ·have F:X.fn x=aC:=by
   rcases hf with z | z
   ·exact z
   ·rw[z] at D;cases D
  obtain⟨c,l⟩:=I.ok.has x (.inl D);obtain⟨T,z⟩:=I.cell x c l;refine wpAny_storeName_cell I.ok.kind D l z (λh' O hs=>?_);obtain⟨oc,N,L⟩:=id z;refine h { s with heap:=h' } ⟨I.ok,I.os,I.bare,⟨λb o e n J t=>?_,λb o e n J t=>?_,I.base.free,λb o e t=>?_,I.base.tups,I.base.frzs,I.base.tbls⟩,⟨m,hn.sameBut hs (bB (cne x c l)),λj y W g B e3=>?_⟩,λy U e=>?_,I.free,I.freeC,λp hp=>?_,f ⟨oc,N,I.freeC x c l⟩ hs,by simpa using I.len⟩ ⟨c,hs,.inr l⟩
  ·exact(hs.2 b (ar (aV (aQ e) (I.ok.cab x c F l)))).trans (I.base.keep b o e n J t)
  ·obtain⟨sl,g⟩:=I.base.slot b o e n J t;exact⟨sl,(hs.2 b (ar (aV (aQ e) (I.ok.cab x c F l)))).trans g⟩
  ·obtain⟨Y,g⟩:=I.base.there b o e t;exact⟨Y,(hs.2 b (ar (aV (aQ e) (I.ok.cab x c F l)))).trans g⟩
  ·by_cases G:j=i
   ·subst G;rw[P] at g;cases g;rw[fZ C] at B;cases B;exact⟨u,r,.inr ⟨.inl D,c,l,O⟩⟩
   ·rw[di (bB G)] at B;obtain⟨u',Z,q⟩:=hl j y W g B e3;refine⟨u',Z,?_⟩;rcases q with q | ⟨k,U,e,z'⟩
    ·exact .inl q
    ·refine .inr ⟨k,U,e,z'.sameBut hs ?_⟩;rintro rfl;exact G (Qr hN g (I.ok.inj _ _ _ e l▸P))
  ·by_cases R:U=c
   ·subst R;exact⟨_,O⟩
   ·obtain⟨w2,z2⟩:=I.cell y U e;exact⟨w2,z2.sameBut hs R⟩
  ·obtain⟨e,n,ne,nf,d⟩:=I.pin p hp;refine⟨(hs.2 p.1 ?_).trans e,n,ne,nf,d⟩;intro q;rw[q,N] at e;have q':oc=p.2:=ay e;exact d T (by rw[<-q'];exact L)
theorem Ua{M:mT}{A:bQ}{E:aE->aI->Prop}{i:Nat}{x:a0}{v:V}{u:aE}{Q:Unit->aI->Prop}(I:Inv X n5 σ H s)(c:X.N.Nodup)(e:X.N[i]?=aA x)(d:DB X.env.scope x)(r:RelV v u)
  (h:∀a,Inv X n5 (σ.set i (aA v)) H a->Q () a) (f:X.fn x=aC\/X.env.scope.names.lookup x=aA .local:=by first | exact .inl rfl | exact .inr rfl | assumption):ak M A (storeName X.env x u) Q E s:=
 Hk I c e d r (λa b _=>h a b) f
theorem Inv.call'{a:aI}{ch:List aH}(I:Inv X n5 σ H s)(h:a.os=s.os)(u:Un (MN X.stack) ch H H' s.heap a.heap)(d:HOk X.prog X.w H' a.heap)(g:jO a.gens)
  (f:∀b∈ch,(b∈X.ex\/X.s₀.heap.objs.size<=b)/\b≠X.env.locals/\(∀x c,X.env.cells.lookup x=aA c->c≠b)/\∀p∈X.pn++n5,p.1≠b):Inv X n5 σ H' a:=by
 obtain⟨h',k,j,t',i⟩:=a;have e:=h;subst e;exact I.call u d g f
end
abbrev XK:=aE->Option aH->Hp->Prop
abbrev St:=List (Option V)
abbrev VK:=V->Hp->Prop
abbrev TE:=St->Hp->VK->Prop
abbrev TT:=St->Hp->(Bool->Hp->Prop)->Prop
abbrev TA:=St->Hp->(List V->Hp->Prop)->Prop
structure YH where
 nx:St->Hp->Prop
 rt:VK
 bk:St->Hp->Prop:=λ_ _=>False
 ct:St->Hp->Prop:=λ_ _=>False
abbrev TS:=YH->St->Hp->Prop
noncomputable def EP(X:Cx)(n5:List (aH×cy))(σ:St)(Q:VK)(u:aE)(s':aI):Prop:=∃v H',Inv X n5 σ H' s'/\RelV v u/\Q v H'
noncomputable def TP(X:Cx)(n5:List (aH×cy))(σ:St)(Q:Bool->Hp->Prop)(b:Bool)(s':aI):Prop:=∃H',Inv X n5 σ H' s'/\Q b H'
noncomputable def AP(X:Cx)(n5:List (aH×cy))(σ:St)(Q:List V->Hp->Prop)(us:List aE)(s':aI):Prop:=∃vs H',Inv X n5 σ H' s'/\Vals vs us/\Q vs H'
noncomputable def SP(X:Cx)(n5:List (aH×cy))(D:YH)(f:Flow)(s':aI):Prop:=
 match f with
 | .next=>∃σ' H',Inv X n5 σ' H' s'/\D.nx σ' H'
 | .brk=>∃σ' H',Inv X n5 σ' H' s'/\D.bk σ' H'
 | .cont=>∃σ' H',Inv X n5 σ' H' s'/\D.ct σ' H'
 | .ret u=>∃v σ' H',Inv X n5 σ' H' s'/\RelV v u/\D.rt v H'
noncomputable def PE(X:Cx)(e:aq)(t:TE):Prop:=
 ∀(n5:List (aH×cy))(s:aI)(σ:St)(H:Hp)(Q:VK),Inv X n5 σ H s->t σ H Q->ak (model X.prog X.w) X.A (eval e X.env) (EP X n5 σ Q) X.xe s
noncomputable def PT(X:Cx)(e:aq)(t:TT):Prop:=
 ∀(n5:List (aH×cy))(s:aI)(σ:St)(H:Hp)(Q:Bool->Hp->Prop),Inv X n5 σ H s->t σ H Q->ak (model X.prog X.w) X.A (mi e X.env (eval e X.env)) (TP X n5 σ Q) X.xe s
noncomputable def PW(X:Cx)(e:aq)(t:TT):Prop:=
 ∀(whole:Sem aE)(n5:List (aH×cy))(s:aI)(σ:St)(H:Hp)(Q:Bool->Hp->Prop),Inv X n5 σ H s->t σ H Q->ak (model X.prog X.w) X.A (mi e X.env whole) (TP X n5 σ Q) X.xe s
theorem PW.pt{X:Cx}{e:aq}{t:TT}(h:PW X e t):PT X e t:=h _
noncomputable def PA(X:Cx)(es:List aq)(t:TA):Prop:=
 ∀(pos:fD)(n5:List (aH×cy))(s:aI)(σ:St)(H:Hp)(Q:List V->Hp->Prop),Inv X n5 σ H s->t σ H Q->ak (model X.prog X.w) X.A (spliced (dD pos (aO es X.env))) (AP X n5 σ Q) X.xe s
noncomputable def PS(X:Cx)(st:bS)(t:TS):Prop:=
 ∀(n5:List (aH×cy))(s:aI)(σ:St)(H:Hp)(D:YH),Inv X n5 σ H s->t D σ H->ak (model X.prog X.w) X.A (exec st X.env) (SP X n5 D) X.xe s
noncomputable def PSs(X:Cx)(st:List bS)(t:TS):Prop:=
 ∀(n5:List (aH×cy))(s:aI)(σ:St)(H:Hp)(D:YH),Inv X n5 σ H s->t D σ H->ak (model X.prog X.w) X.A (execs st X.env) (SP X n5 D) X.xe s
theorem Ys{c:Type}{t:Sem c}{Q b:c->aI->Prop}{M:mT}{A:bQ}{E:aE->aI->Prop}{s:aI}(h:ak M A t Q E s)(d:∀a s,Q a s->b a s):ak M A t b E s:=b9 h d λ_ _ x=>x
section
variable {X:Cx}
theorem bin{a b:aq}{l m:TE}(n:PE X a l)(z:PE X b m){i:List (aH×cy)}{s:aI}{c:St}{H:Hp}{R:V->V->Hp->Prop}(I:Inv X i c H s)(h:l c H λx j=>m c j λy d=>R x y d)
  {k:Type} {Q:k->aI->Prop} {f:aE->aE->Sem k}
  (r:∀v u s2 x y d,Inv X i c d s2->RelV x v->RelV y u->R x y d->ak (model X.prog X.w) X.A (f v u) Q X.xe s2) :
  ak (model X.prog X.w) X.A (eval a X.env) (λv e=>ak (model X.prog X.w) X.A (eval b X.env) (λu g=>ak (model X.prog X.w) X.A (f v u) Q X.xe g) X.xe e) X.xe s:=by
 refine Ys (n i s c H _ I h) λv s1 ⟨x,j,t,A,q⟩=>?_;refine Ys (z i s1 c j _ t q) λu s2 ⟨y,d,w,p,o⟩=>?_;exact r v u s2 x y d w A p o
noncomputable def Tx(i:Nat):TE:=λσ H Q=>∃v,σ[i]?=aA (aA v)/\Q v H
noncomputable def tC(v:V):TE:=λ_ H Q=>Q v H
theorem Am{i:Nat}{x:a0}{pos:fD}(t:X.N[i]?=aA x)(n:Vis X.env.scope x)(f:(x==("__debug__" : a0))=aB:=by decide)(g:(x==("__classdict__" : a0))=aB:=by decide):PE X (.Name x pos) (Tx i):=by
 intro p s o H Q I h;obtain⟨v,e,h⟩:=h;obtain⟨m,w,k⟩:=I.loc;obtain⟨u,r,l⟩:=k i x v t e n;have b:EP X p o Q u s:=⟨v,H,I,r,h⟩;rcases l with⟨d,q⟩ | ⟨d,c,j,a⟩
 ·exact mj (wpAny_loadName_local I.ok.kind d w q b) f
 ·rcases d with d | d
  ·exact mj (wpAny_loadName_cell I.ok.kind d j a b) f
  ·exact mj (wpAny_loadName_free I.ok.kind d j a b g) f
theorem An{i j pos}:PE X (.Constant (.int i) j pos) (tC (.int i)):=λ_ _ _ H _ I h=>wpAny_Constant_int ⟨.int i,H,I.tok _,⟨_,rfl⟩,h⟩
theorem Zb2{b j pos}:PE X (.Constant (.bool b) j pos) (tC (.bl b)):=λ_ _ _ H _ I h=>Constant_bool ⟨.bl b,H,I,rfl,h⟩
theorem Ao{j pos}:PE X (.Constant .none j pos) (tC .non):=λ_ _ _ H _ I h=>kg ⟨.non,H,I,rfl,h⟩
theorem G4{x j pos}:PE X (.Constant (.str x) j pos) (tC (.str x)):=λ_ _ _ H _ I h=>Calls.Constant_str ⟨.str x,H,I.tok _,⟨_,rfl⟩,h⟩
noncomputable def Gl(X:Cx)(x:a0):Prop:=X.env.kindOf x=aA .globalImplicit
theorem Vq{E:aE->aI->Prop}{e:List (aH×cy)}{s:aI}{d:St}{H:Hp}{x:a0}{u:aE}{pos:fD}{Q:aE->aI->Prop}(I:Inv X e d H s)(b:Gl X x)(a:X.mg x=aA u)(h:Q u s)
  (c:(x==("__debug__" : a0))=aB:=by decide):ak (model X.prog X.w) X.A (eval (.Name x pos) X.env) Q E s:=
 ij I.ok.kind b (Calls.loadGlobal_global (by rw[I.ok.glob];exact I.mod.glob.keeps I.bk) a h) c
theorem Ub{E:aE->aI->Prop}{f:List (aH×cy)}{s:aI}{e:St}{H:Hp}{x:a0}{u:aE}{pos:fD}{Q:aE->aI->Prop}(I:Inv X f e H s)(a:Gl X x)(g:X.mg x=none)(b:dN x=aA u)(h:Q u s)
  (i:x≠"__name__":=by decide) (d:(x==("__debug__" : a0))=aB:=by decide):ak (model X.prog X.w) X.A (eval (.Name x pos) X.env) Q E s:=by
 obtain⟨k,j,c⟩:=I.mod.blt;exact ij I.ok.kind a (Calls.loadGlobal_builtin (by rw[I.ok.glob];exact I.mod.glob.keeps I.bk) g (by rw[I.ok.blt];exact j.keeps I.bk) ((c x i).trans b) h) d
theorem DC{x:a0}{v:V}{u:aE}{pos:fD}(c:Gl X x)(a:X.mg x=none)(e:dN x=aA u)(r:RelV v u)(d:x≠"__name__":=by decide)(b:(x==("__debug__" : a0))=aB:=by decide):PE X (.Name x pos) (tC v):=
 λ_ _ _ H _ I h=>Ub I c a e ⟨v,H,I,r,h⟩ d b
variable {a b:aq} {ta tb:TE} {pos:fD}
noncomputable def PC(X:Cx)(op:mn)(a b:aq)(t:TE):Prop:=
 ∀(n5:List (aH×cy))(s:aI)(σ:St)(H:Hp)(Q:VK),Inv X n5 σ H s->t σ H Q->
  ak (model X.prog X.w) X.A (eval a X.env) (λv s₁=>ak (model X.prog X.w) X.A (eval b X.env) (λu s₂=>ak (model X.prog X.w) X.A (gA op v u) (EP X n5 σ Q) X.xe s₂) X.xe s₁) X.xe s
theorem G5(b:aq){op:mn}(h:op≠.In)(d:op≠.NotIn):dJ op b=aB:=by
 have c:(op==mn.In)=aB:=by cases op<;>first | rfl | exact absurd rfl h
 have a:(op==mn.NotIn)=aB:=by cases op<;>first | rfl | exact absurd rfl d
 cases b<;>simp[dJ,c,a]
noncomputable def Zb3(ta:TE):TE:=λσ H Q=>ta σ H λx H1=>Q (.bl (decide (x = .non))) H1
noncomputable def BG(ta:TE):TE:=λσ H Q=>ta σ H λx H1=>Q (.bl (!decide (x = .non))) H1
theorem RelV.none_iff{x:V}{v:aE}(r:RelV x v):(v==gh)=decide (x = .non):=by
 cases x with
 | non=>cases r;rfl
 | bl _=>cases r;rfl
 | int _=>obtain⟨t,rfl⟩:=r;rfl
 | str _=>obtain⟨t,rfl⟩:=r;rfl
 | byt _=>obtain⟨t,rfl⟩:=r;rfl
 | flt _=>obtain⟨t,rfl⟩:=r;rfl
 | ref _=>cases r;rfl
 | ty _=>cases r;rfl
theorem Ap{j pos'}(c:PE X a ta):PC X .Is a (.Constant .none j pos') (Zb3 ta):=by intro g s d H Q I h;refine Ys (c g s d H _ I h) λv s1 ⟨x,b,f,e,i⟩=>?_;exact kg (is_none_gen ⟨.bl _,b,f,by rw[e.none_iff];rfl,i⟩)
theorem DD{j pos'}(c:PE X a ta):PC X .IsNot a (.Constant .none j pos') (BG ta):=by intro g s d H Q I h;refine Ys (c g s d H _ I h) λv s1 ⟨x,b,f,e,i⟩=>?_;exact kg (isnot_none_gen ⟨.bl _,b,f,by rw[e.none_iff];rfl,i⟩)
noncomputable def tB(t:TE):TT:=λσ H Q=>t σ H λx H1=>∃c,x = .bl c/\Q c H1
theorem G6{op:mn}{t:TE}(h:PC X op a b t)(e:dJ op b=aB:=by first | exact G5 _ (by decide) (by decide) | rfl):PT X (.Compare a [op] [b] pos) (tB t):=by intro j s g H Q I l;refine kE (Ys (h j s g H _ I l) λv s1 e=>Ys e λu s2 f=>Ys f λc o ⟨x,k,i,m,n⟩=>?_) e;obtain⟨d,rfl,q⟩:=n;cases m;exact dw ⟨k,i,q⟩
theorem Aq{e:aq}{t:TE}(h:PE X e t)(a:∀whole,mi e X.env whole=(do let v <-whole;standAt e.pos;holding [v] (truthy v)):=by intro _;rfl):PT X e (tB t):=by intro f s b H Q I i;refine isTrue_plain (Ys (h f s b H _ I i) λv s1 ⟨x,g,c,j,k⟩=>?_) (a _);obtain⟨d,rfl,q⟩:=k;cases j;exact dw ⟨g,c,q⟩
variable {tA tB':TT} {n8:List aq}
noncomputable def Zb4(t u:TT):TT:=λσ H Q=>t σ H λc H1=>if c=aC then u σ H1 Q else Q aB H1
noncomputable def tOr(t u:TT):TT:=λσ H Q=>t σ H λc H1=>if c=aC then Q aC H1 else u σ H1 Q
noncomputable def Zem(t:TT):TT:=λσ H Q=>t σ H λc H1=>Q (!c) H1
theorem DE(b:PT X a tA):PW X (.BoolOp .And [a] pos) tA:=by
 intro g f s d H Q I h;refine isTrue_and (Ys (b f s d H Q I h) λc s1 e=>?_)
 cases c with
 | true=>exact isTrue_and_nil e
 | false=>exact e
theorem Ar(b:PT X a tA):PW X (.BoolOp .Or [a] pos) tA:=by
 intro g f s d H Q I h;refine isTrue_or (Ys (b f s d H Q I h) λc s1 e=>?_)
 cases c with
 | false=>exact isTrue_or_nil e
 | true=>exact e
theorem As(k:PT X a tA)(j:PW X (.BoolOp .And (b::n8) pos) tB'):PW X (.BoolOp .And (a::b::n8) pos) (Zb4 tA tB'):=by
 intro l g s e H Q I h;refine isTrue_and (Ys (k g s e H _ I h) λc s1 ⟨d,f,i⟩=>?_)
 cases c with
 | true=>exact j l g s1 e d Q f i
 | false=>exact⟨d,f,i⟩
theorem Zb5(k:PT X a tA)(j:PW X (.BoolOp .Or (b::n8) pos) tB'):PW X (.BoolOp .Or (a::b::n8) pos) (tOr tA tB'):=by
 intro l g s e H Q I h;refine isTrue_or (Ys (k g s e H _ I h) λc s1 ⟨d,f,i⟩=>?_)
 cases c with
 | true=>exact⟨d,f,i⟩
 | false=>exact j l g s1 e d Q f i
theorem Au(d:PT X a tA):PT X (.UnaryOp .Not a pos) (Zem tA):=by intro f s e H Q I h;exact isTrue_not (d f s e H (λc b=>Q (!c) b) I h)
noncomputable def Zb6(ta tb:TE):TE:=λσ H Q=>ta σ H λx H1=>∃c,x = .bl c/\if c=aC then tb σ H1 Q else Q (.bl aB) H1
noncomputable def Zb7(ta:TE):TE:=λσ H Q=>ta σ H λx H1=>∃c,x = .bl c/\Q (.bl (!c)) H1
theorem Av{op}{t:TE}(h:PE X a t):PE X (.BoolOp op [a] pos) t:=λd s b H Q I c=>BoolOp_one (h d s b H Q I c)
theorem Aw(k:PE X a ta)(j:PE X (.BoolOp .And (b::n8) pos) tb):PE X (.BoolOp .And (a::b::n8) pos) (Zb6 ta tb):=by
 intro i s f H Q I h;refine BoolOp_and (Ys (k i s f H _ I h) λv s1 ⟨x,e,g,l,d⟩=>?_);obtain⟨c,rfl,d⟩:=d;cases l;refine dw ?_
 cases c with
 | true=>exact j i s1 f e Q g d
 | false=>exact⟨.bl aB,e,g,rfl,d⟩
theorem Ax(e:PE X a ta):PE X (.UnaryOp .Not a pos) (Zb7 ta):=by intro j s f H Q I h;refine UnaryOp_ (Ys (e j s f H _ I h) λv s1 ⟨x,d,i,g,b⟩=>?_);obtain⟨c,rfl,b⟩:=b;cases g;exact not_of (dw ⟨.bl (!c),d,i,rfl,b⟩)
noncomputable def tIf(t:TT)(ta tb:TE):TE:=λσ H Q=>t σ H λc H1=>if c=aC then ta σ H1 Q else tb σ H1 Q
theorem G7{c:aq}(l:PT X c tA)(m:PE X a ta)(k:PE X b tb):PE X (.IfExp c a b pos) (tIf tA ta tb):=by
 intro f s e H Q I h;refine wpAny_IfExp (Ys (l f s e H _ I h) λd s1 ⟨g,i,j⟩=>?_)
 cases d with
 | true=>exact m f s1 e g Q i j
 | false=>exact k f s1 e g Q i j
end
noncomputable def SqL(K:aD)(H:Hp)(a:aH)(xs:List V):Prop:=
 Rd H a (.lst xs)\/
  ∃(o:cy) (nY:Array aE) (n:Nat),K.lookup a=aA o/\o.cls = .type "list"/\o.dict=none/\o.data = .seq nY n/\nY.size<=sizeLine/\Vals xs nY.toList
noncomputable def SqT(K:aD)(H:Hp)(a:aH)(xs:List V):Prop:=
 Rd H a (.tup xs)\/
  ∃(o:cy) (nY:Array aE) (n:Nat),K.lookup a=aA o/\o.cls = .type "tuple"/\o.data = .seq nY n/\nY.size<=sizeLine/\Vals xs nY.toList
noncomputable def Zen:aE->Option V
 | .none=>aA .non
 | .bool b=>aA (.bl b)
 | .int i _=>aA (.int i)
 | .str x _=>aA (.str x)
 | .bytes b _=>aA (.byt b)
 | .float b _=>aA (.flt b)
 | .ref a=>aA (.ref a)
 | .type n=>aA (.ty n)
 | _=>none
theorem RelV.abs{x:V}{u:aE}(r:RelV x u):Zen u=aA x:=by
 cases x with
 | non=>cases r;rfl
 | bl _=>cases r;rfl
 | int _=>obtain⟨t,rfl⟩:=r;rfl
 | str _=>obtain⟨t,rfl⟩:=r;rfl
 | byt _=>obtain⟨t,rfl⟩:=r;rfl
 | flt _=>obtain⟨t,rfl⟩:=r;rfl
 | ref _=>cases r;rfl
 | ty _=>cases r;rfl
theorem RelV.inj{x y:V}{u:aE}(r:RelV x u)(q:RelV y u):x=y:=ay (r.abs.symm.trans q.abs)
theorem Vals.inj:∀{xs ys:List V}{us:List aE},Vals xs us->Vals ys us->xs=ys
 | _,_,_,.nil,.nil=>rfl
 | _,_,_,.cons r t,.cons r' t'=>by rw[r.inj r',Vals.inj t t']
section
variable {X:Cx} {n5:List (aH×cy)} {σ:St} {H:Hp} {s:aI} {a:aH} {xs ys:List V}
theorem SqL.of{K:aD}(h:H a=aA (.lst xs)):SqL K H a xs:=.inl (.inl h)
theorem SqT.of{K:aD}(h:H a=aA (.tup xs)):SqT K H a xs:=.inl (.inl h)
theorem Inv.list(I:Inv X n5 σ H s)(h:SqL X.K H a xs):∃b:List aE,Vals xs b/\PlainL s.heap a b.toArray/\xs.length<=sizeLine:=by
 rcases h with h | ⟨o,b,n,d,f,c,hs,g,r⟩
 ·obtain⟨z,b,n,r,e⟩:=h.ok I.hok;exact⟨b,r,⟨_,n,e,rfl,rfl,rfl⟩,z⟩
 ·refine⟨b.toList,r,⟨o,n,I.kIn a o d,f,c,by simpa using hs⟩,?_⟩;have e:=r.length;simp only[gR] at e;omega
theorem Inv.tuple(I:Inv X n5 σ H s)(h:SqT X.K H a xs):∃b:List aE,Vals xs b/\IsTup s.heap a b.toArray/\xs.length<=sizeLine:=by
 rcases h with h | ⟨o,b,n,c,d,hs,f,r⟩
 ·obtain⟨z,b,r,p⟩:=h.ok I.hok;exact⟨b,r,p,z.1⟩
 ·refine⟨b.toList,r,⟨o,I.kIn a o c,d,n,by simpa using hs⟩,?_⟩;have e:=r.length;simp only[gR] at e;omega
theorem Inv.list_inj(I:Inv X n5 σ H s)(h:SqL X.K H a xs)(h':SqL X.K H a ys):xs=ys:=by
 obtain⟨i,r,⟨o,n,e,_,_,d⟩,_⟩:=I.list h;obtain⟨b,g,⟨j,k,f,_,_,c⟩,_⟩:=I.list h';rw[e] at f;cases f;rw[d] at c;injection c with d1 _
 have:i=b:=by simpa using congrArg nK d1
 subst this;exact r.inj g
theorem Inv.tuple_inj(I:Inv X n5 σ H s)(h:SqT X.K H a xs)(h':SqT X.K H a ys):xs=ys:=by
 obtain⟨i,r,⟨o,e,_,n,d⟩,_⟩:=I.tuple h;obtain⟨b,g,⟨j,f,_,k,c⟩,_⟩:=I.tuple h';rw[e] at f;cases f;rw[d] at c;injection c with d1 _
 have:i=b:=by simpa using congrArg nK d1
 subst this;exact r.inj g
end
abbrev Cx.wish(X:Cx)(E:aE->aI->Prop):Cx:={ X with xe:=E }
abbrev Cx.nox(X:Cx):Cx:=X.wish λ_ _=>False
theorem Cx.Ok.wish{X:Cx}(ok:X.Ok)(E:aE->aI->Prop):(X.wish E).Ok:=
 ⟨ok.mod,ok.kind,ok.glob,ok.blt,ok.above,ok.inj,ok.has,ok.cab,ok.hd,ok.frames,ok.stk,ok.exf,ok.bs,ok.bsz,ok.noex,ok.exfs,ok.funs,ok.frf,ok.tab,ok.cod⟩
theorem Cx.Ok.unwish{X:Cx}{E:aE->aI->Prop}(ok:(X.wish E).Ok):X.Ok:=
 ⟨ok.mod,ok.kind,ok.glob,ok.blt,ok.above,ok.inj,ok.has,ok.cab,ok.hd,ok.frames,ok.stk,ok.exf,ok.bs,ok.bsz,ok.noex,ok.exfs,ok.funs,ok.frf,ok.tab,ok.cod⟩
section
variable {X:Cx} {n5:List (aH×cy)} {σ:St} {H:Hp} {s:aI} {E:aE->aI->Prop}
theorem Inv.wish(I:Inv X n5 σ H s)(E:aE->aI->Prop):Inv (X.wish E) n5 σ H s:=⟨I.ok.wish E,I.os,I.bare,I.base,I.loc,I.cell,I.free,I.freeC,I.pin,I.hok,I.len⟩
theorem Inv.unwish(I:Inv (X.wish E) n5 σ H s):Inv X n5 σ H s:=⟨I.ok.unwish,I.os,I.bare,I.base,I.loc,I.cell,I.free,I.freeC,I.pin,I.hok,I.len⟩
theorem SP.unwish{D:YH}{f:Flow}{c:aI}(h:SP (X.wish E) n5 D f c):SP X n5 D f c:=by
 cases f with
 | next=>obtain⟨a,b,I,q⟩:=h;exact⟨a,b,I.unwish,q⟩
 | brk=>obtain⟨a,b,I,q⟩:=h;exact⟨a,b,I.unwish,q⟩
 | cont=>obtain⟨a,b,I,q⟩:=h;exact⟨a,b,I.unwish,q⟩
 | ret u=>obtain⟨v,a,b,I,r,q⟩:=h;exact⟨v,a,b,I.unwish,r,q⟩
theorem PSs.nox{st:List bS}{t:TS}(h:PSs X.nox st t):PSs X st t:=λc s a H D I b=>
 b9 (h c s a H D (I.wish _) b) (λ_ _ q=>q.unwish) λ_ _ z=>cD z
end
section
variable {X:Cx} {st:bS} {n8:List bS} {t u:TS} {e:aq} {te:TE} {pos:fD}
noncomputable def BH:TS:=λD σ H=>D.nx σ H
noncomputable def Zb8(t u:TS):TS:=λD σ H=>t { D with nx:=u D } σ H
theorem DF:PSs X [] BH:=λ_ _ a H _ I h=>g9 ⟨a,H,I,h⟩
theorem Tz(i:PS X st t)(d:PSs X n8 u):PSs X (st::n8) (Zb8 t u):=by
 intro b s e H D I h;refine iN (Ys (i b s e H { D with nx:=u D } I h) λf s1 q=>?_)
 cases f with
 | next=>
  obtain⟨a,g,c,q⟩:=q;exact d b s1 a g D c q
 | ret v=>exact q
 | brk=>exact q
 | cont=>exact q
theorem R0(c:PS X st t):PSs X [st] t:=by
 intro b s a H D I h;refine iN (Ys (c b s a H D I h) λf s1 q=>?_)
 cases f with
 | next=>exact g9 q
 | ret v=>exact q
 | brk=>exact q
 | cont=>exact q
theorem Inv.quiet{b:List (aH×cy)}{a:St}{H:Hp}{s:aI}(I:Inv X b a H s):interactive X.env=aB:=by simp[interactive,I.ok.kind]
noncomputable def MT(te:TE):TS:=λD σ H=>te σ H λ_ H1=>D.nx σ H1
theorem Wk(b:PE X e te)(hs:fT e none pos.line X.env=pure aB:=by rfl):PS X (.Expr e pos) (MT te):=by intro f s a H D I h;exact wpAny_Expr_any (Ys (b f s a H _ I h) λv s1 ⟨x,c,d,i,g⟩=>⟨a,c,d,g⟩) I.quiet hs
noncomputable def Zeo(te:TE):TS:=λD σ H=>te σ H D.rt
theorem Kj(b:PE X e te):PS X (.Return (aA e) pos) (Zeo te):=by intro g s a H D I h;exact wpAny_Return_some (Ys (b g s a H _ I h) λv s1 ⟨x,c,f,d,i⟩=>⟨x,a,c,f,d,i⟩)
noncomputable def Zep(c:TT)(t u:TS):TS:=λD σ H=>c σ H λb H1=>if b=aC then t D σ H1 else u D σ H1
theorem BJ{c:aq}{a b:List bS}{g:TT}(n:PT X c g)(l:PSs X a t)(m:PSs X b u):PS X (.If c a b pos) (Zep g t u):=by
 intro f s e H D I h;refine wpAny_If (Ys (n f s e H _ I h) λd s1 ⟨j,i,k⟩=>?_)
 cases d with
 | true=>exact l f s1 e j D i k
 | false=>exact m f s1 e j D i k
end
abbrev TG:=V->St->Hp->(St->Hp->Prop)->Prop
abbrev BK:=List V->St->Hp->(St->Hp->Prop)->Prop
noncomputable def PG(X:Cx)(target:aq)(t:TG):Prop:=
 ∀(n5:List (aH×cy))(s:aI)(σ:St)(H:Hp)(v:V)(u:aE)(Q:St->Hp->Prop),Inv X n5 σ H s->RelV v u->t v σ H Q->
  ak (model X.prog X.w) X.A (assign target X.env u) (λ_ s'=>∃σ' H',Inv X n5 σ' H' s'/\Q σ' H') X.xe s
noncomputable def PGs(X:Cx)(ts:List aq)(t:BK):Prop:=
 ∀(n5:List (aH×cy))(s:aI)(σ:St)(H:Hp)(vs:List V)(us:List aE)(Q:St->Hp->Prop),Inv X n5 σ H s->Vals vs us->t vs σ H Q->
  ak (model X.prog X.w) X.A (assignInOrder ((ik ts X.env).map (·.2)) us) (λ_ s'=>∃σ' H',Inv X n5 σ' H' s'/\Q σ' H') X.xe s
abbrev Ay:=V->V->V->Hp->(Hp->Prop)->Prop
noncomputable def Zb9(X:Cx)(t:Ay):Prop:=
 ∀(n5:List (aH×cy))(s:aI)(σ:St)(H:Hp)(o i v:V)(ov iv u:aE)(Q:Hp->Prop),Inv X n5 σ H s->RelV o ov->RelV i iv->RelV v u->t o i v H Q->
  ak (model X.prog X.w) X.A (setItem ov iv u) (λ_ s'=>∃H',Inv X n5 σ H' s'/\Q H') X.xe s
section
variable {X:Cx} {pos:fD}
noncomputable def TB(i:Nat):TG:=λv σ H Q=>Q (σ.set i (aA v)) H
theorem R1{i:Nat}{x:a0}(b:X.N.Nodup)(d:X.N[i]?=aA x)(c:DB X.env.scope x)(e:X.fn x=aC\/X.env.scope.names.lookup x=aA .local:=by first | exact .inl rfl | exact .inr rfl | assumption):PG X (.Name x pos) (TB i):=by intro j s g H v u Q I r h;exact wpAny_assign_Name (Ua I b d c r (λf a=>⟨_,H,a,h⟩) e)
noncomputable def Zca:BK:=λvs σ H Q=>vs=[]/\Q σ H
noncomputable def BL(t:TG)(u:BK):BK:=λvs σ H Q=>∃v r,vs=v::r/\t v σ H λσ' H'=>u r σ' H' Q
theorem Yi:PGs X [] Zca:=by intro c s a H vs b Q I r h;obtain⟨e,h⟩:=h;subst e;cases r;exact assignInOrder_nil ⟨a,H,I,h⟩
theorem Zw{e:aq}{es:List aq}{t:TG}{u:BK}(k:PG X e t)(c:PGs X es u)
  (hs:(ik (e::es) X.env).map (·.2)=assign e X.env::(ik es X.env).map (·.2):=by rfl):PGs X (e::es) (BL t u):=by
 intro b s d H vs m Q I r h;obtain⟨v,l,i,h⟩:=h;subst i
 cases r with
 | cons r rr=>
  rw[hs];refine assignInOrder_cons (Ys (k b s d H _ _ _ I r h) λ_ s1 ⟨a,g,f,j⟩=>?_);exact c b s1 a g _ _ Q f rr j
noncomputable def Zcb(K:aD)(n:Nat)(t:BK):TG:=λv σ H Q=>∃a xs,v = .ref a/\SqT K H a xs/\xs.length=n/\t xs σ H Q
theorem YI{es:List aq}{k:Nat}{t:BK}{n:Nat}(x:X.calm=aC)(h:PGs X es t)
  (y:(ik es X.env).length=n:=by rfl) (c:(ik es X.env).findIdx? (·.1)=none:=by rfl):PG X (.Tuple es k pos) (Zcb X.K n t):=by
 intro l s i H v u Q I r d;obtain⟨a,q,w,z,g,d⟩:=d;subst w;cases r;obtain⟨A,f,p,B⟩:=I.tuple z;refine assign_Tuple_tuple (I.ok.hd x) p (by simp[y,<-g,f.length]) c λh' m=>?_;have j:=I.kept (t':=s.toks) λb o e=>m b o (ar (aQ e)) e;exact h l _ i H q _ Q j (by simpa using f) d
noncomputable def Az(to ti:TE)(t:Ay):TG:=λv σ H Q=>to σ H λo H1=>ti σ H1 λi H2=>t o i v H2 λH3=>Q σ H3
theorem Uc{o i:aq}{f e:TE}{t:Ay}(A:PE X o f)(m:PE X i e)(hs:Zb9 X t)
  (D:∀v,assign (.Subscript o i pos) X.env v=(do
   let a <-holding [v] (eval o X.env);let b <-holding [v,a] (eval i X.env)
   standAt pos
   holding [v,a,b] (setItem a b v)
   release [v,a,b] []):=by intro _;rfl):PG X (.Subscript o i pos) (Az f e t):=by
 intro d s c H v u Q I r h;refine aF (df (Ys (A d s c H _ I h) λa s1 ⟨x,q,n,B,C⟩=>?_));refine aF (df (Ys (m d s1 c q _ n C) λb s2 ⟨y,z,p,l,g⟩=>?_));refine aF (gV (aF (df (Ys (hs d s2 c z x y v a b u _ p B l r g) λ_ E ⟨w,j,k⟩=>?_))));exact wpAny_release ⟨c,w,j,k⟩
noncomputable def Kk(te:TE)(g:TG):TS:=λD σ H=>te σ H λx H1=>g x σ H1 D.nx
theorem Ud{a e:aq}{b:TE}{g:TG}(f:PE X e b)(i:PG X a g)(hs:swapsWithSole [a] e pos.line X.env=pure aB:=by rfl)(l:swappedStores [a] e X.env=pure none:=by rfl)
  (o:(ik [a] X.env).map (·.2)=[assign a X.env]:=by rfl):PS X (.Assign [a] e pos) (Kk b g):=by
 intro d s c H D I h;refine wpAny_Assign_stores (Ys (f d s c H _ I h) λv s1 ⟨x,k,j,m,n⟩=>?_) hs l;rw[o];exact Ys (i d s1 c k x v _ j m n) λ_ s2 q=>q
theorem AA{i:Nat}{x:a0}{e:aq}{b:TE}{a:fD}(o:X.N.Nodup)(d:X.N[i]?=aA x)(n:DB X.env.scope x)(c:PE X e b)(hs:fT e (aA (.Name x a)) pos.line X.env=pure aB:=by rfl)(g:X.fn x=aC\/X.env.scope.names.lookup x=aA .local:=by first | exact .inl rfl | exact .inr rfl | assumption) :
  PS X (.Assign [.Name x a] e pos) (Kk b (TB i)):=by
 intro k s f H D I h;refine wpAny_Assign_Name (Ys (c k s f H _ I h) λv s1 ⟨y,m,j,p,q⟩=>?_) hs;exact Ua j o d n p (λs2 l=>⟨_,m,l,q⟩) g
end
section
variable {X:Cx} {pos:fD}
noncomputable def AB(c:TT)(tb:TS):TS:=λD σ H=>∃W:Nat->St->Hp->Prop,(∃m,W m σ H)/\∀m σ H,W m σ H->
 c σ H λb H1=>if b=aC then ∃N:St->Hp->Prop,(∀σ' H',N σ' H'->∃m',m'<m/\W m' σ' H')/\tb { D with nx:=N,ct:=N,bk:=D.nx } σ H1 else D.nx σ H1
theorem G8{c:aq}{e:List bS}{r:TT}{y:TS}(w:k8 (model X.prog X.w) X.A X.env X.xe)(J:PT X c r)(G:PSs X e y):PS X (.While c e [] pos) (AB r y):=by
 intro o s C H D I h;obtain⟨W,⟨A,B⟩,turn⟩:=h;refine wpAny_While (codeAny_whileLoop (λn F=>∃σ' H',Inv X o σ' H' F/\W n σ' H') ?_ A ⟨C,H,I,B⟩);rintro n s1 ⟨d,u,E,L⟩;refine fF w (Ys (J o s1 d u _ E (turn n d u L)) λb s2 ⟨x,t,i⟩=>?_)
 cases b with
 | true=>
  obtain⟨N,z,i⟩:=i;refine fF w (Ys (G o s2 d x _ t i) λf M j=>?_)
  cases f with
  | next=>
   obtain⟨a,g,l,q⟩:=j;obtain⟨k,p,m⟩:=z a g q;exact⟨k,p,a,g,l,m⟩
  | cont=>
   obtain⟨a,g,l,q⟩:=j;obtain⟨k,p,m⟩:=z a g q;exact⟨k,p,a,g,l,m⟩
  | brk=>exact j
  | ret v=>exact j
 | false=>
  exact g9 ⟨d,x,t,i⟩
end
structure It where
 go:Nat->Hp->Prop
 yld:Nat->Hp->V->Hp->Prop
 stop:Nat->Hp->Prop
noncomputable def Vr(X:Cx)(n5:List (aH×cy))(H:Hp)(b:aH):Prop:=
 H b=none/\b≠X.env.locals/\b∉X.fs/\(b∈X.ex\/X.s₀.heap.objs.size<=b)/\(∀x c,X.env.cells.lookup x=aA c->c≠b)/\∀p∈X.pn++n5,p.1≠b
theorem Inv.fpOk{X:Cx}{f:List (aH×cy)}{g:St}{H d:Hp}{s:aI}{b:aH}(I:Inv X f g H s)(a:s.heap.objs.size<=b)(h:d b=none):Vr X f d b:=by
 refine⟨h,fK (aV I.lt a),I.nofs a,.inr (aX I.sz a),λx c e z=>?_,λp i z=>?_⟩
 ·obtain⟨v,q⟩:=I.cell x c e;exact absurd (aV q.lt (by rw[z];exact a)) (cK _)
 ·exact absurd (aV (aQ (I.pin p i).1) (by rw[z];exact a)) (cK _)
structure Ng(P:au)(w:bc)(K:aD)(tg:aq)(J:It)(fp:List aH)(it:aH)(tn:Nat->bH->Prop):Prop where
 mem:it∈fp
 obj:∀i h,tn i h->∀b∈fp,∃o,h.get? b=aA o/\∀v,o.data≠.cell v
 keep:∀i h h',tn i h->(∀b∈fp,∀o,h.get? b=aA o->h'.get? b=aA o)->tn i h'
 item:∀(X:Cx),X.prog=P->X.w=w->X.K=K->X.calm=aC->∀(i:Nat)(n5:List (aH×cy))(s:aI)(σ:St)(H:Hp)(E:aE->aI->Prop),Inv X n5 σ H s->(∀b∈fp,Vr X n5 H b)->tn i s.heap->J.go i H->
  ak (model P w) X.A (nM (.ref it)) (λr s1=>∃u,r=aA u/\
   ak (model P w) X.A (jy tg (.ref it) u) (λ_ s2=>∃x H',Inv X n5 σ H' s2/\RelV x u/\J.yld i H x H'/\tn (i+1) s2.heap/\∀b∈fp,H' b=none) E s1) E s
 done:∀(X:Cx),X.prog=P->X.w=w->X.K=K->X.calm=aC->∀(i:Nat)(n5:List (aH×cy))(s:aI)(σ:St)(H:Hp)(E:aE->aI->Prop),Inv X n5 σ H s->(∀b∈fp,Vr X n5 H b)->tn i s.heap->J.stop i H->
  ak (model P w) X.A (nM (.ref it)) (λr s1=>r=none/\Inv X n5 σ H s1) E s
 self:∀(A:bQ)(i:Nat)(s:aI)(Q:aE->aI->Prop)(E:aE->aI->Prop),tn i s.heap->Q (.ref it) s->ak (model P w) A (pyIter (.ref it)) Q E s
abbrev TI:=St->Hp->(It->Hp->Prop)->Prop
noncomputable def PIE(X:Cx)(n5:List (aH×cy))(σ:St)(tg:aq)(R:It->Hp->Prop)(itv:aE)(s2:aI):Prop:=
 ∃(it:aH) (fp:List aH) (tn:Nat->bH->Prop) (J:It) (H':Hp),itv = .ref it/\Inv X n5 σ H' s2/\Ng X.prog X.w X.K tg J fp it tn/\tn 0 s2.heap/\(∀b∈fp,Vr X n5 H' b)/\R J H'
noncomputable def PI(X:Cx)(tg iter:aq)(wi:TI):Prop:=
 ∀(n5:List (aH×cy))(s:aI)(σ:St)(H:Hp)(R:It->Hp->Prop),Inv X n5 σ H s->wi σ H R->
  ak (model X.prog X.w) X.A (eval iter X.env) (λv s1=>ak (model X.prog X.w) X.A (pyIter v) (PIE X n5 σ tg R) X.xe s1) X.xe s
theorem G9{M:mT}{A:bQ}{E:aE->aI->Prop}{s:aI}{b:aq}{c:aH}{u:aE}{o:cy}{n:String}{vs:Array aE}{Q:Unit->aI->Prop}(g:s.heap.get? c=aA o)(e:o.cls = .type n)(d:o.data = .fields vs)
    (f:["enumerate","zip","dict_itemiterator","dict_reverseitemiterator","odict_iterator","itertools.zip_longest","itertools.pairwise"].contains n=aB) (a:Q () s):ak M A (jy b (.ref c) u) Q E s:=by
  cases b<;>first
    | exact a9 a
    | (cases u<;>first
        | exact a9 a
        | (refine aF (wpAny_load g ?_)
           rw[e,d];show ak M A (if(["enumerate","zip","dict_itemiterator","dict_reverseitemiterator","odict_iterator","itertools.zip_longest","itertools.pairwise"].contains n&&vs[0]?==aA (gH _))=aC then _ else _) Q E s;rw[ng (by intro h;rw[f] at h;cases h)];exact a9 a))
noncomputable def Itl(K:aD)(a:aH):It:=
 ⟨λi H=>∃xs x,SqL K H a xs/\xs[i]?=aA x,λi H x H'=>H'=H/\∀xs,SqL K H a xs->xs[i]?=aA x,λi H=>∃xs,SqL K H a xs/\xs.length<=i⟩
noncomputable def Itt(K:aD)(a:aH):It:=
 ⟨λi H=>∃xs x,SqT K H a xs/\xs[i]?=aA x,λi H x H'=>H'=H/\∀xs,SqT K H a xs->xs[i]?=aA x,λi H=>∃xs,SqT K H a xs/\xs.length<=i⟩
noncomputable def Itr(lo:Int)(n:Nat):It:=⟨λi _=>i<n,λi H x H'=>H'=H/\x = .int (lo+i),λi _=>n<=i⟩
theorem Hl{P:au}{w:bc}{K:aD}{J:aq}(a g:aH):Ng P w K J (Itl K a) [g] g (λi h=>h.IsListIter g a i) where
 mem:=by simp
 obj:=λi h st b f=>by
  have e:b=g:=by simpa using f
  subst e;obtain⟨o,e,c,d⟩:=st;exact⟨o,e,λv z=>by rw[d] at z;cases z⟩
 keep:=λi h h' st k=>st.at λo e=>k g (by simp) o e
 item:=by intro X D F y G i R s N H E I l st n;subst D F y;obtain⟨U,x,m,B⟩:=n;obtain⟨M,C,p,T⟩:=I.list m;obtain⟨u,Z,O⟩:=C.get B;obtain⟨q,f1,W,t,A,r⟩:=l g (by simp);refine wpAny_pyNext_list_item st p.isList (by simpa using Z) λh' j S=>?_;have Q:=I.turned (t':=s.toks) (λb o f e=>(S.2 b f).trans e) q f1 t A r;obtain⟨o,e,c,d⟩:=id j;exact⟨u,rfl,G9 e c d rfl ⟨x,H,Q,O,⟨rfl,λys Y=>by rw[I.list_inj Y m];exact B⟩,j,λb f=>(l b f).1⟩⟩
 done:=by intro X D F y G i R s N H E I l st n;subst D F y;obtain⟨U,m,B⟩:=n;obtain⟨M,C,p,T⟩:=I.list m;obtain⟨q,f1,W,t,A,r⟩:=l g (by simp);have hl:=C.length;exact wpAny_pyNext_list_end (I.ok.hd G) st p.isList (by simp;omega) λh' L=>⟨rfl,I.turned (λb o f e=>L b o f e) q f1 t A r⟩
 self:=λ_ _ _ _ _ st h=>wpAny_pyIter_listiter st h
theorem Kl{P:au}{w:bc}{K:aD}{J:aq}(a g:aH):Ng P w K J (Itt K a) [g] g (λi h=>h.IsTupleIter g a i) where
 mem:=by simp
 obj:=λi h st b f=>by
  have e:b=g:=by simpa using f
  subst e;obtain⟨o,e,c,d⟩:=st;exact⟨o,e,λv z=>by rw[d] at z;cases z⟩
 keep:=λi h h' st k=>st.at λo e=>k g (by simp) o e
 item:=by intro X D F y G i R s N H E I l st n;subst D F y;obtain⟨U,x,m,B⟩:=n;obtain⟨M,C,p,T⟩:=I.tuple m;obtain⟨u,Z,O⟩:=C.get B;obtain⟨q,f1,W,t,A,r⟩:=l g (by simp);refine wpAny_pyNext_tuple_item st (p) (by simpa using Z) λh' j S=>?_;have Q:=I.turned (t':=s.toks) (λb o f e=>(S.2 b f).trans e) q f1 t A r;obtain⟨o,e,c,d⟩:=id j;exact⟨u,rfl,G9 e c d rfl ⟨x,H,Q,O,⟨rfl,λys Y=>by rw[I.tuple_inj Y m];exact B⟩,j,λb f=>(l b f).1⟩⟩
 done:=by intro X D F y G i R s N H E I l st n;subst D F y;obtain⟨U,m,B⟩:=n;obtain⟨M,C,p,T⟩:=I.tuple m;obtain⟨q,f1,W,t,A,r⟩:=l g (by simp);have hl:=C.length;exact wpAny_pyNext_tuple_end (I.ok.hd G) st (p) (by simp;omega) λh' L=>⟨rfl,I.turned (λb o f e=>L b o f e) q f1 t A r⟩
 self:=λ_ _ _ _ _ st h=>wpAny_pyIter_tupleiter st h
theorem Km{P:au}{w:bc}{K:aD}{B:aq}(a:aH)(lo:Int)(n:Nat):Ng P w K B (Itr lo n) [a] a (λi h=>IsRangeIter h a (lo+(i:Nat)*1) ((n:Int)-(i:Nat)) 1) where
 mem:=by simp
 obj:=λi h st b c=>by
  have e:b=a:=by simpa using c
  subst e
  exact⟨_,st,λv z=>by
   have G:=z;cases G⟩
 keep:=λi h h' st k=>k a (by simp) _ st
 item:=by intro X y A r q i x s u H E I f st g;subst y A r;obtain⟨j,f1,J,m,p,l⟩:=f a (by simp);have W:=Walks.range (prog:=X.prog) (w:=X.w) (I.ok.hd q) a lo 1 n;refine W.item i s _ _ g st λv h' tk C d kk=>?_;obtain⟨t,rfl⟩:=C;have F:Inv X x u H { s with heap:=h',toks:=tk }:=I.turned (λb o c e=>kk b o (by simpa using c) e) j f1 m p l;refine⟨_,rfl,G9 d rfl rfl rfl ⟨.int (lo+i),H,F,⟨t,?_⟩,⟨rfl,rfl⟩,d,λb c=>(f b c).1⟩⟩;rw[kI]
 done:=by intro X y A r q i x s u H E I f st g;obtain⟨j,f1,J,m,p,l⟩:=f a (by simp);exact wpAny_pyNext_range_end (I.ok.hd q) st (by have:n<=i:=g;omega) λh' D=>⟨rfl,I.turned (λb o c e=>D b o c e) j f1 m p l⟩
 self:=λ_ _ _ _ _ st h=>wpAny_pyIter_rangeiter st h
section
variable {X:Cx} {tg:aq}
noncomputable def Zcd(K:aD)(tl:TE):TI:=λσ H R=>tl σ H λx H1=>∃a,x = .ref a/\(∃xs,SqL K H1 a xs)/\R (Itl K a) H1
noncomputable def Zer(K:aD)(tl:TE):TI:=λσ H R=>tl σ H λx H1=>∃a,x = .ref a/\(∃xs,SqT K H1 a xs)/\R (Itt K a) H1
theorem DG{l:aq}{d:TE}(f:PE X l d):PI X tg l (Zcd X.K d):=by
 intro i s g H R I h;refine Ys (f i s g H _ I h) λv s1 ⟨x,j,c,m,n⟩=>?_;obtain⟨a,e,⟨y,r⟩,q⟩:=n;subst e;cases m;obtain⟨t,u,p,w⟩:=c.list r;refine wpAny_pyIter_list p.isList ?_;refine⟨s1.heap.objs.size,[s1.heap.objs.size],_,_,j,rfl,c.kept λb o e=>aG _ e,Hl a _,⟨_,ag _ rfl,rfl,rfl⟩,λb k=>?_,q⟩;have e:b=s1.heap.objs.size:=by simpa using k
 subst e;exact c.fpOk (aN _) (c.hok.fresh (aN _))
theorem AD{l:aq}{d:TE}(f:PE X l d):PI X tg l (Zer X.K d):=by
 intro i s g H R I h;refine Ys (f i s g H _ I h) λv s1 ⟨x,j,c,m,n⟩=>?_;obtain⟨a,e,⟨y,r⟩,q⟩:=n;subst e;cases m;obtain⟨t,u,p,w⟩:=c.tuple r;refine ko (p) ?_;refine⟨s1.heap.objs.size,[s1.heap.objs.size],_,_,j,rfl,c.kept λb o e=>aG _ e,Kl a _,⟨_,ag _ rfl,rfl,rfl⟩,λb k=>?_,q⟩;have e:b=s1.heap.objs.size:=by simpa using k
 subst e;exact c.fpOk (aN _) (c.hok.fresh (aN _))
theorem MU{f:List (aH×cy)}{c:St}{H:Hp}{s:aI}{R:It->Hp->Prop}{E:aE->aI->Prop}{lo a:Int}{t u v:Tok}{tk:Nat}(I:Inv X f c H s)(m : -(2^62)<=lo)(i:lo<2^62)(g : -(2^62)<=a)(j:a<2^62)
  (q:R (Itr lo (a-lo).toNat) H):ak (model X.prog X.w) X.A (pyIter (.ref s.heap.objs.size)) (PIE X f c tg R) E { s with heap:=s.heap.push { cls:=.type "range",data:=.fields #[.int lo t,.int a u,.int 1 v] },toks:=tk }:=by
 refine wpAny_pyIter_range (IsRange.new ..) (small_one m i g j) ?_;have d:Inv X f c H { s with heap:=s.heap.push { cls:=.type "range",data:=.fields #[.int lo t,.int a u,.int 1 v] },toks:=tk }:=I.kept λb o e=>aG _ e
 refine⟨(s.heap.push { cls:=.type "range",data:=.fields #[.int lo t,.int a u,.int 1 v] }).objs.size,[(s.heap.push { cls:=.type "range",data:=.fields #[.int lo t,.int a u,.int 1 v] }).objs.size],_,_,H,rfl,
  d.kept λb o e=>aG _ e,Km _ lo (a-lo).toNat,?_,λb k=>?_,q⟩
 ·have l:lo+((0:Nat):Int)*1=lo:=by simp
  have h:(((a-lo).toNat:Nat):Int)-((0:Nat):Int)=jq.Range.rangeSize lo a 1:=by rw[rangeSize_one];split<;>omega
  rw[l,h];exact ag _ rfl
 ·have e:b=(s.heap.push { cls:=.type "range",data:=.fields #[.int lo t,.int a u,.int 1 v] }).objs.size:=by simpa using k
  subst e;exact d.fpOk (aN _) (d.hok.fresh (aN _))
noncomputable def Zce(ta:TA):TI:=λσ H R=>ta σ H λvs H1=>∃j:Int,vs=[.int j]/\-(2^62)<=j/\j<2^62/\R (Itr 0 j.toNat) H1
noncomputable def Zcf(ta:TA):TI:=λσ H R=>ta σ H λvs H1=>∃i j:Int,vs=[.int i,.int j]/\(-(2^62)<=i/\i<2^62/\-(2^62)<=j/\j<2^62)/\R (Itr i (j-i).toNat) H1
theorem Hm{a:aq}{c:TA}{p pos:fD}(d:Gl X "range")(m:X.mg "range" = none)(f:PA X [a] c)(hs:aO [a] X.env=[(aB,eval a X.env)]:=by rfl):PI X tg (.Call (.Name "range" p) [a] [] pos) (Zce c):=by
 intro l s i H R I h;refine Call_ (Ub I d m boot_range (dI (Ys (f pos l s i H _ I h) λu s1 ⟨vs,o,k,n,b⟩=>?_) hs rfl));obtain⟨j,e,b,g,q⟩:=b;subst e
 cases n with
 | cons r rr=>
  cases rr;obtain⟨t,rfl⟩:=r;exact call_range_1 (MU k (by omega) (by omega) b g (by simpa using q))
theorem Hn{a b:aq}{f:TA}{p pos:fD}(g:Gl X "range")(x:X.mg "range" = none)(l:PA X [a,b] f)(hs:aO [a,b] X.env=[(aB,eval a X.env),(aB,eval b X.env)]:=by rfl)(c:aO [b] X.env=[(aB,eval b X.env)]:=by rfl) :
  PI X tg (.Call (.Name "range" p) [a,b] [] pos) (Zcf f):=by
 intro w s u H R I h;refine Call_ (Ub I g x boot_range (dI (Ys (l pos w s u H _ I h) λz s1 ⟨vs,y,v,o,d⟩=>?_) (by rw[hs,c]) (by rw[c];rfl)));obtain⟨i,j,e,⟨d,m,n,k⟩,q⟩:=d;subst e
 cases o with
 | cons r rr=>
  cases rr with
  | cons r' rr=>
   cases rr;obtain⟨t,rfl⟩:=r;obtain⟨t',rfl⟩:=r';exact call_range_2 (MU v d m n k q)
noncomputable def Zes(wi:TI)(g:TG)(tb:TS):TS:=λD σ H=>wi σ H λJ H1=>∃W:Nat->Nat->St->Hp->Prop,(∃m,W 0 m σ H1)/\∀i m σ H,W i m σ H->
 (J.stop i H/\D.nx σ H)\/(J.go i H/\∃N:St->Hp->Prop,(∀σ' H',N σ' H'->∃m',m'<m/\W (i+1) m' σ' H')/\∀x H',J.yld i H x H'->g x σ H' λσ2 H2=>tb { D with nx:=N,ct:=N,bk:=D.nx } σ2 H2)
noncomputable def Sr(fp:List aH)(h:bH):List (aH×cy):=fp.filterMap λb=>(h.get? b).map λo=>(b,o)
theorem Vs{a:List aH}{h:bH}{b:aH}{o:cy}(c:b∈a)(e:h.get? b=aA o):(b,o)∈Sr a h:=kq.mpr ⟨b,c,by rw[e];rfl⟩
theorem Ho{a:List aH}{h:bH}{p:aH×cy}(c:p∈Sr a h):p.1∈a/\h.get? p.1=aA p.2:=by
 obtain⟨b,d,e⟩:=kq.mp c
 cases q:h.get? b with
 | none=>rw[q] at e;cases e
 | some o=>
  rw[q] at e;have f:=ay e;subst f;exact⟨d,q⟩
theorem Inv.pinned{c:List (aH×cy)}{f:St}{H:Hp}{s:aI}{a:List aH}(I:Inv X c f H s)(i:∀b∈a,Vr X c H b)(k:∀b∈a,∃o,s.heap.get? b=aA o/\∀v,o.data≠.cell v):Inv X (c++Sr a s.heap) f H s:=
 I.pins_of λp j=>(cB.mp j).elim (λz=>I.pin p (aj _ z)) λz=>by obtain⟨g,e⟩:=Ho z;obtain⟨m,f1,l,_⟩:=i p.1 g;obtain⟨o,h,d⟩:=k p.1 g;rw[e] at h;cases h;exact⟨e,m,f1,l,d⟩
theorem Inv.unpinned{b pl:List (aH×cy)}{a:St}{H:Hp}{s:aI}(I:Inv X (b++pl) a H s):Inv X b a H s:=I.pins_of λp c=>I.pin p (aj _ (b7 _ c))
theorem AE{p:aq}{t:List bS}{U:TI}{g:TG}{tb:TS}{pos:fD}(F:k8 (model X.prog X.w) X.A X.env X.xe)(hc:X.calm=aC)(hi:PI X tg p U)(hg:PG X tg g)(j:PSs X t tb)
  (hs:∀x,bq p X.env x=pure x:=by intro _;rfl):PS X (.For tg p t [] pos) (Zes U g tb):=by
 intro z s Y H D I h;refine wpAny_For (Ys (hi z s Y H _ I h) λv s1 h1=>Ys h1 λitv s2 h2=>?_) hs;obtain⟨it,E,tn,J,H2,e,I2,T,O,f2,W,⟨m0,w0⟩,turn⟩:=h2;subst e
 -- what stays aC of the iterator's objects through the loop
 have c:∀{H':Hp},(∀b∈E,H' b=none)->∀b∈E,Vr X z H' b:=λhn b j=>⟨hn b j,(f2 b j).2⟩;refine codeAny_forLoop_any (λn Z=>∃i σ' H',Inv X z σ' H' Z/\tn i Z.heap/\(∀b∈E,H' b=none)/\W i n σ' H') ?_ m0 ⟨0,Y,H2,I2,O,λb j=>(f2 b j).1,w0⟩;rintro n s3 ⟨i,q,L,I3,B,A,w3⟩;rcases turn i n q L w3 with⟨G,qn⟩ | ⟨go,N,hN,step⟩
 ·refine fF F (Ys (T.done X rfl rfl rfl hc i z s3 q L X.xe I3 (c A) B G) λr s4 ⟨P,I4⟩=>?_);subst P;exact g9 ⟨q,L,I4,qn⟩
 ·refine fF F (Ys (T.item X rfl rfl rfl hc i z s3 q L X.xe I3 (c A) B go) λr s4 ⟨u,P,h4⟩=>?_);subst P;refine fF F (Ys h4 λ_ s5 ⟨x,H5,I5,r5,y5,y,M⟩=>?_);have Q:=I5.pinned (c M) (T.obj _ _ y);refine fF F (Ys (hg _ s5 q H5 x u _ Q r5 (step x H5 y5)) λ_ s6 ⟨R,H6,I6,q6⟩=>?_);refine fF F (Ys (j _ s6 R H6 _ I6 q6) λf S w=>?_);have again:∀{a:St}{k:Hp},Inv X (z++Sr E s5.heap) a k S->N a k->∃m,m<n/\∃i σ' H',Inv X z σ' H' S/\tn i S.heap/\(∀b∈E,H' b=none)/\W i m σ' H':=λ{a k} l C=>by obtain⟨m',hm,w7⟩:=hN a k C;refine⟨m',hm,i+1,a,k,l.unpinned,T.keep _ _ _ y λb j o e=>(l.pin (b,o) (aj _ (aj _ (Vs j e)))).1,λb j=>?_,w7⟩;obtain⟨o,e,d⟩:=T.obj _ _ y b j;exact(l.pin (b,o) (aj _ (aj _ (Vs j e)))).2.1
  cases f with
  | next=>obtain⟨a,k,l,C⟩:=w;exact again l C
  | cont=>obtain⟨a,k,l,C⟩:=w;exact again l C
  | brk=>obtain⟨a,k,l,w⟩:=w;exact⟨a,k,l.unpinned,w⟩
  | ret v=>obtain⟨x7,a,k,l,r7,w⟩:=w;exact⟨x7,a,k,l.unpinned,r7,w⟩
end
abbrev R2:=V->V->Hp->VK->Prop
noncomputable def TC(X:Cx)(f:aE->aE->Sem aE)(r:R2):Prop:=
 ∀(n5:List (aH×cy))(s:aI)(σ:St)(H:Hp)(x y:V)(v u:aE)(Q:VK),Inv X n5 σ H s->RelV x v->RelV y u->r x y H Q->
  ak (model X.prog X.w) X.A (f v u) (EP X n5 σ Q) X.xe s
noncomputable def UnR(X:Cx)(f:aE->Sem aE)(r:V->Hp->VK->Prop):Prop:=
 ∀(n5:List (aH×cy))(s:aI)(σ:St)(H:Hp)(x:V)(v:aE)(Q:VK),Inv X n5 σ H s->RelV x v->r x H Q->
  ak (model X.prog X.w) X.A (f v) (EP X n5 σ Q) X.xe s
noncomputable def Xr(X:Cx)(f:aE)(r:List V->Hp->VK->Prop):Prop:=
 ∀(n5:List (aH×cy))(s:aI)(σ:St)(H:Hp)(xs:List V)(us:List aE)(Q:VK),Inv X n5 σ H s->Vals xs us->r xs H Q->
  ak (model X.prog X.w) X.A (call f us) (EP X n5 σ Q) X.xe s
noncomputable def Zeu(X:Cx)(r:V->Hp->(Bool->Hp->Prop)->Prop):Prop:=
 ∀(n5:List (aH×cy))(s:aI)(σ:St)(H:Hp)(x:V)(v:aE)(Q:Bool->Hp->Prop),Inv X n5 σ H s->RelV x v->r x H Q->
  ak (model X.prog X.w) X.A (truthy v) (TP X n5 σ Q) X.xe s
noncomputable def tOp(r:R2)(ta tb:TE):TE:=λσ H Q=>ta σ H λx H1=>tb σ H1 λy H2=>r x y H2 Q
noncomputable def tUn(r:V->Hp->VK->Prop)(ta:TE):TE:=λσ H Q=>ta σ H λx H1=>r x H1 Q
noncomputable def rI(C:Int->Int->Prop)(g:Int->Int->V):R2:=λx y H Q=>∃i j,x = .int i/\y = .int j/\C i j/\Q (g i j) H
noncomputable def BM(g:Int->Int->V):R2:=λx y H Q=>∃i j,x = .int i/\y = .int j/\Q (g i j) H
noncomputable def rU(g:Int->V):V->Hp->VK->Prop:=λx H Q=>∃i,x = .int i/\Q (g i) H
section
variable {X:Cx} {a b c:aq} {ta tb tc:TE} {pos:fD}
theorem AF(k:PE X a ta)(r:PE X b tb){i:List (aH×cy)}{s:aI}{c:St}{H:Hp}{R:V->V->Hp->Prop}(I:Inv X i c H s)
  (h:ta c H λx j=>tb c j λy d=>R x y d) {Q:aE->aI->Prop} {f:aE->aE->Sem aE}
  (o:∀v u s2 x y d,Inv X i c d s2->RelV x v->RelV y u->R x y d->ak (model X.prog X.w) X.A (f v u) Q X.xe s2) :
  ak (model X.prog X.w) X.A (eval a X.env) (λv e=>ak (model X.prog X.w) X.A (eval b X.env) (λu g=>ak (model X.prog X.w) X.A (f v u) Q X.xe g) X.xe e) X.xe s:=by
 refine Ys (k i s c H _ I h) λv s1 ⟨x,j,p,t,n⟩=>?_;refine Ys (r i s1 c j _ p n) λu s2 ⟨y,d,q,m,l⟩=>?_;exact o v u s2 x y d q t m l
theorem Fb{op:Operator}{r:R2}(l:TC X (eJ op) r)(d:PE X a ta)(j:PE X b tb):PE X (.BinOp a op b pos) (tOp r ta tb):=by intro f s e H Q I h;exact wpAny_BinOp (AF d j I h λv u s2 x y k g i c q=>l f s2 e k x y v u Q g i c q)
theorem Zcg{op:UnaryOp}{r:V->Hp->VK->Prop}(j:UnR X (unaryOp op) r)(e:PE X a ta):PE X (.UnaryOp op a pos) (tUn r ta):=by intro c s b H Q I h;exact UnaryOp_ (Ys (e c s b H _ I h) λv s1 ⟨x,d,i,g,f⟩=>j c s1 b d x v Q i g f)
theorem AG{f:aE->aE->Sem aE}{C:Int->Int->Prop}{g:Int->Int->Int}
  (rule:∀(i j:Int)(t u:Tok)(s:aI)(Q:aE->aI->Prop)(E:aE->aI->Prop),C i j->Q (.int (g i j) s.toks) { s with toks:=s.toks+1 }->ak (model X.prog X.w) X.A (f (.int i t) (.int j u)) Q E s) :
  TC X f (rI C λi j=>.int (g i j)):=by
 intro e s d H x y v u Q I b a h;obtain⟨i,j,rfl,rfl,c,q⟩:=h;obtain⟨t,rfl⟩:=b;obtain⟨t',rfl⟩:=a;exact rule i j t t' s _ _ c ⟨.int (g i j),H,I.tok _,⟨_,rfl⟩,q⟩
theorem Zch{f:aE->aE->Sem aE}{g:Int->Int->Int}
  (rule:∀(i j:Int)(t u:Tok)(s:aI)(Q:aE->aI->Prop)(E:aE->aI->Prop),Q (.int (g i j) s.toks) { s with toks:=s.toks+1 }->ak (model X.prog X.w) X.A (f (.int i t) (.int j u)) Q E s) :
  TC X f (BM λi j=>.int (g i j)):=by
 intro d s c H x y v u Q I b a h;obtain⟨i,j,rfl,rfl,q⟩:=h;obtain⟨t,rfl⟩:=b;obtain⟨t',rfl⟩:=a;exact rule i j t t' s _ _ ⟨.int (g i j),H,I.tok _,⟨_,rfl⟩,q⟩
theorem Zci{f:aE->aE->Sem aE}{g:Int->Int->Bool}
  (rule:∀(i j:Int)(t u:Tok)(s:aI)(Q:aE->aI->Prop)(E:aE->aI->Prop),Q (.bool (g i j)) s->ak (model X.prog X.w) X.A (f (.int i t) (.int j u)) Q E s) :
  TC X f (BM λi j=>.bl (g i j)):=by
 intro d s c H x y v u Q I b a h;obtain⟨i,j,rfl,rfl,q⟩:=h;obtain⟨t,rfl⟩:=b;obtain⟨t',rfl⟩:=a;exact rule i j t t' s _ _ ⟨.bl (g i j),H,I,rfl,q⟩
noncomputable def Kn(i j:Int):Prop:=0<j/\j<1073741824
noncomputable def BN(i j:Int):Prop:=j≠0/\j.natAbs<1073741824
noncomputable def MV(i j:Int):Prop:=0<=j/\j<=1000000/\i.natAbs<2^64
noncomputable def CMul(i j:Int):Prop:=(-(2^64)<i/\i<2^64)\/(-(2^64)<j/\j<2^64)
theorem CMul.ok{i j:Int}(h:CMul i j):IntMulOk i j:=by
 rcases h with⟨b,a⟩ | ⟨b,a⟩
 ·exact .of_left (intBits_le_64 b a)
 ·exact .of_right (intBits_le_64 b a)
theorem AH:TC X (eJ .Add) (BM λi j=>.int (i+j)):=Zch λ_ _ _ _ _ _ _ q=>add_int q
theorem AI:TC X (eJ .Sub) (BM λi j=>.int (i-j)):=Zch λ_ _ _ _ _ _ _ q=>sub_int q
theorem AJ:TC X (eJ .Mult) (rI CMul λi j=>.int (i*j)):=AG λ_ _ _ _ _ _ _ a q=>mul_int q a.ok
theorem DH:TC X (eJ .FloorDiv) (rI Kn λi j=>.int (i/j)):=AG λi j _ _ _ _ _ a q=>by have c:=a.1;have b:=a.2;exact floordiv_int (by omega) (by rw[dO i (by omega)];exact q) (.inl (PyProof.noPylong_small (by omega)))
theorem AK:TC X (eJ .Mod) (rI (λ_ j=>0<j) λi j=>.int (i%j)):=AG λi j _ _ _ _ _ a q=>by exact mod_int' (by omega) (by rw[Int.fmod_eq_emod_of_nonneg i (by omega)];exact q)
theorem DI:TC X (eJ .Mod) (rI (λ_ j=>j≠0) λi j=>.int (i.fmod j)):=AG λ_ _ _ _ _ _ _ a q=>mod_int' a q
theorem AL:TC X (eJ .Pow) (rI MV λi j=>.int (i^j.toNat)):=AG λ_ _ _ _ _ _ _ a q=>pow_int_small a.1 a.2.1 a.2.2 q
theorem unI{f:aE->Sem aE}{g:Int->Int}
  (rule:∀(i:Int)(t:Tok)(s:aI)(Q:aE->aI->Prop)(E:aE->aI->Prop),Q (.int (g i) s.toks) { s with toks:=s.toks+1 }->ak (model X.prog X.w) X.A (f (.int i t)) Q E s) :
  UnR X f (rU λi=>.int (g i)):=by
 intro c s b H x v Q I a h;obtain⟨i,rfl,q⟩:=h;obtain⟨t,rfl⟩:=a;exact rule i t s _ _ ⟨.int (g i),H,I.tok _,⟨_,rfl⟩,q⟩
theorem AM:UnR X (unaryOp .USub) (rU λi=>.int (-i)):=unI λ_ _ _ _ _ q=>neg_int q
end
section
variable {X:Cx} {a b c:aq} {ta tb tc:TE} {pos:fD}
theorem Zcj:TC X (gA .Lt) (BM λi j=>.bl (decide (i<j))):=Zci λ_ _ _ _ _ _ _ q=>lt_int q
theorem Zck:TC X (gA .Gt) (BM λi j=>.bl (decide (j<i))):=Zci λ_ _ _ _ _ _ _ q=>gt_int q
theorem Ss(b:aq){op:mn}(h:op≠.In:=by decide)(d:op≠.NotIn:=by decide):dJ op b=aB:=by
 have c:(op==mn.In)=aB:=by cases op<;>first | rfl | exact absurd rfl h
 have a:(op==mn.NotIn)=aB:=by cases op<;>first | rfl | exact absurd rfl d
 cases b<;>simp[dJ,c,a]
theorem DJ{op:mn}{r:R2}(m:TC X (gA op) r)(d:PE X a ta)(k:PE X b tb)(g:dJ op b=aB):PE X (.Compare a [op] [b] pos) (tOp r ta tb):=by intro f s e H Q I h;exact wpAny_Compare1 (AF d k I h λv u s2 x y l i j c q=>m f s2 e l x y v u Q i j c q) g
noncomputable def JW(t:TE):TT:=λσ H Q=>t σ H λx H'=>∃k,x = .bl k/\Q k H'
theorem DK{op:mn}{r:R2}(C:TC X (gA op) r)(i:PE X a ta)(A:PE X b tb)(p:dJ op b=aB):PT X (.Compare a [op] [b] pos) (JW (tOp r ta tb)):=by
 intro f s d H Q I h
 refine kE (Ys (i f s d H _ I h) λv s1 ⟨x,t,o,D,E⟩=>Ys (A f s1 d t _ o E) λu s2 ⟨y,B,q,n,j⟩=>
  Ys (C f s2 d B x y v u _ q D n j) λc F ⟨z,w,l,g,k,e,m⟩=>?_) p
 subst e;cases g;exact dw ⟨w,l,m⟩
noncomputable def Zev(K:aD)(x:V)(H:Hp)(k:Bool):Prop:=
 match x with
 | .non=>k=aB
 | .bl b=>k=b
 | .int i=>k=(i != 0)
 | .str y=>y.length<=sizeLine/\k=((y.length:Int) != 0)
 | .byt y=>y.size<=sizeLine/\k=((y.size:Int) != 0)
 | .ref p=>(∃xs,SqL K H p xs/\k = !xs.isEmpty)\/(∃xs,SqT K H p xs/\k = !xs.isEmpty)\/∃n6,H p=aA (.dK n6)/\k = !n6.isEmpty
 | _=>False
theorem Ko{a:Type}{b:List (a×V)}{vs:List (a×aE)}(r:KV b vs):(!vs.isEmpty) = !b.isEmpty:=by cases r<;>rfl
theorem Qs{a:List V}{b:List aE}(r:Vals a b):(!b.toArray.isEmpty) = !a.isEmpty:=by cases r<;>simp
theorem Nh:(sizeLine:Nat)<2^63:=by rw[jP];decide
theorem tru_ok:Zeu X (λx H Q=>∃k,Zev X.K x H k/\Q k H):=by
 intro z s w H x v Q I d h;obtain⟨k,e,q⟩:=h;have hs:=jP
 cases x with
 | non=>
  cases d;have a:=e;subst a;exact truthy_none ⟨H,I,q⟩
 | bl b=>
  cases d;have a:=e;subst a;exact dw ⟨H,I,q⟩
 | int i=>
  obtain⟨t,rfl⟩:=d;have a:=e;subst a;exact PySem.P.truthy_int ⟨H,I,q⟩
 | str y=>
  obtain⟨t,rfl⟩:=d;obtain⟨o,a⟩:=e;subst a;exact PySem.P.truthy_str (by omega) ⟨H,I.tok _,q⟩
 | byt y=>
  obtain⟨t,rfl⟩:=d;obtain⟨o,a⟩:=e;subst a;exact PySem.W.truthy_bytes (by omega) ⟨H,I.tok _,q⟩
 | ref p=>
  cases d;have a:=e;rcases a with⟨n,f,a⟩ | ⟨n,f,a⟩ | ⟨u,f,a⟩
  ·subst a;obtain⟨l,r,pl,g⟩:=I.list f;have c:=r.length;exact wpAny_truthy_list pl.isList (by simp only[aR];omega) ⟨H,I.tok _,by rw[Qs r];exact q⟩
  ·subst a;obtain⟨l,r,pl,g⟩:=I.tuple f;have c:=r.length;exact truthy_tuple pl (by simp only[aR];omega) ⟨H,I.tok _,by rw[Qs r];exact q⟩
  ·subst a;obtain⟨g,j,vs,r,m⟩:=I.hok p _ f;have c:=Paired.length r;exact wpAny_truthy_dict j m (by omega) ⟨H,I.tok _,by rw[Ko r];exact q⟩
 | _=>exact(e).elim
theorem TF{x:V}{a:List aE}(r:Vals [x] a):∃u,a=[u]/\RelV x u:=by
 cases r with
 | cons r1 r2=>cases r2;exact⟨_,rfl,r1⟩
theorem JX{x y:V}{a:List aE}(r:Vals [x,y] a):∃u w',a=[u,w']/\RelV x u/\RelV y w':=by
 cases r with
 | cons r1 r2=>
  cases r2 with
  | cons r3 r4=>cases r4;exact⟨_,_,rfl,r1,r3⟩
theorem Qt:Xr X (.builtin "abs") (λa H Q=>∃i,a=[.int i]/\Q (.int (if i<0 then -i else i)) H):=by intro d s c H a b Q I r h;obtain⟨i,rfl,q⟩:=h;obtain⟨u,rfl,t,rfl⟩:=TF r;exact call_abs_int λu tk=>⟨.int (if i<0 then -i else i),H,I.tok _,⟨_,rfl⟩,q⟩
theorem Hq(c:X.calm=aC):Xr X (.builtin "min") (λb H Q=>∃i j,b=[.int i,.int j]/\Q (.int (if j<i then j else i)) H):=by
 intro f s e H b g Q I r h;obtain⟨i,j,rfl,q⟩:=h;obtain⟨u,d,rfl,⟨t,rfl⟩,⟨t',rfl⟩⟩:=JX r;refine min_two_ints (I.ok.hd c) λh' tk k=>⟨_,H,I.kept k,?_,q⟩;by_cases a:j<i
 ·rw[nZ a,nZ a];exact⟨_,rfl⟩
 ·rw[ng a,ng a];exact⟨_,rfl⟩
noncomputable def Zcl(K:aD)(x:V)(H:Hp)(n:Nat):Prop:=
 match x with
 | .str y=>y.length<=sizeLine/\n=y.length
 | .byt y=>y.size<=sizeLine/\n=y.size
 | .ref p=>(∃xs,SqL K H p xs/\n=xs.length)\/∃xs,SqT K H p xs/\n=xs.length
 | _=>False
theorem Fc:Xr X (.builtin "len") (λc H Q=>∃x n,c=[x]/\Zcl X.K x H n/\Q (.int n) H):=by
 intro m s l H c o Q I r h;obtain⟨x,n,rfl,e,q⟩:=h;obtain⟨u,rfl,g⟩:=TF r;have hs:=jP
 cases x with
 | str y=>
  obtain⟨t,rfl⟩:=g;obtain⟨k,b⟩:=e;subst b;exact len_str (by omega) ⟨.int _,H,I.tok _,⟨_,rfl⟩,q⟩
 | byt y=>
  obtain⟨t,rfl⟩:=g;obtain⟨k,b⟩:=e;subst b;exact PySem.W.len_bytes (by omega) ⟨.int _,H,I.tok _,⟨_,rfl⟩,q⟩
 | ref p=>
  cases g;have b:=e;rcases b with⟨c,f,b⟩ | ⟨c,f,b⟩
  ·subst b;obtain⟨i,d,pl,j⟩:=I.list f;have a:=d.length;exact Calls.call_len_list pl.isList (by simp only[aR];omega) ⟨.int c.length,H,I.tok _,⟨_,by simp only[aR];rw[a]⟩,q⟩
  ·subst b;obtain⟨i,d,pl,j⟩:=I.tuple f;have a:=d.length;exact len_tuple pl (by simp only[aR];omega) ⟨.int c.length,H,I.tok _,⟨_,by simp only[aR];rw[a]⟩,q⟩
 | _=>exact(e).elim
end
structure ObjM(h:bH)(x dx C:aH)(mA:a0->Option aE):Prop where
 obj:h.get? x=aA (jx C dx)
 ns:h.Ns1 dx mA
 ne:dx≠x
theorem Hr{h:bH}{d:aH}{f:a0->Option aE}(n:h.Ns1 d f):∃od,h.get? d=aA od/\∀b,gs b od=aA (f b):=by
 obtain⟨o,es,ep,l,g,j,_,k⟩:=n;refine⟨o,l,λb=>?_⟩;have e:=k b;unfold nsFind nN at e;rw[<-il] at e;unfold gs;rw[g]
 dsimp only
 split
 ·rename_i y q;rw[q] at e;exact congrArg aA e
 ·rename_i q;rw[q] at e;have a:es.toList.any (·.refKey)=aB:=by rw[gu];intro y m;obtain⟨z,t,c⟩:=j y (Array.mem_toList_iff.mp m);simp[DictEntry.refKey,c]
  have i:¬es.toList.any (·.refKey)=aC:=by rw[a];exact bT
  rw[ng i];exact congrArg aA e
theorem ObjM.look{h:bH}{x b C:aH}{c:a0->Option aE}(I:ObjM h x b C c):∃a,dP h x (jx C b) C (aA a)/\∀name,gs name a=aA (c name):=
 let⟨a,e,d⟩:=Hr I.ns
 ⟨a,⟨I.obj,rfl,rfl,e⟩,d⟩
section
variable {P:au} {w:bc} {H H':Hp} {h h':bH} {a C dx:aH} {fs fs':List (a0×V)}
theorem DL(c:HOk P w H h)(e:H a=aA (.ins C dx fs)):∃b,ObjM h a dx C b/\(∀f,Al (fs.lookup f) (b f))/\nJ b (fs.map (·.1))/\fs.length<=1000/\H dx=aA (.own a):=by obtain⟨d,z,ne,g,b,n,r,q⟩:=(c a _ e);exact⟨b,⟨g,n,ne⟩,r,q,z,d⟩
end
structure Cls(K:aD)(C:aH):Prop where
 pg:mH K C ja=aC
 hd:PySem.W.hasDictIn K C=aC
 po:PySem.W.plainOver K C=aC
 sa:bN K (.ref C) "__setattr__" = aA (aA (.builtin "object.__setattr__"))
theorem Cls.get{K:aD}{C:aH}(c:Cls K C)(f:a0):mH K C f=aC:=c.pg
section
variable {X:Cx} {n5:List (aH×cy)} {σ:St} {H:Hp} {s:aI} {a C dx:aH} {fs:List (a0×V)} {f:a0} {v:V} {A:bQ} {E:aE->aI->Prop}
theorem DM{prog:au}{w:bc}{env:jN}{e:aq}{f:a0}{pos:fD}{s:aI}{Q:aE->aI->Prop}(b:jU e f env (eval e env)=eval e env)
  (h:ak (model prog w) A (eval e env) (λo a=>ak (model prog w) A (getAttr o f aC) Q E a) E s):ak (model prog w) A (eval (.Attribute e f pos) env) Q E s:=
 Attribute_any_ h (by rw[arm_eval_Attribute,b])
end
section
variable {X:Cx} {n5:List (aH×cy)} {σ:St} {H:Hp} {s:aI} {A:bQ} {E:aE->aI->Prop} {Q:aE->aI->Prop} {c:aE} {b:Bool}
inductive TyOf(K:aD)(H:Hp):V->aE->Prop where
 | non:TyOf K H .non (.type "NoneType")
 | bl (x:Bool):TyOf K H (.bl x) (.type "bool")
 | int (i:Int):TyOf K H (.int i) (.type "int")
 | str (x:a0):TyOf K H (.str x) (.type "str")
 | flt (x:UInt64):TyOf K H (.flt x) (.type "float")
 | lst {a:aH} {xs:List V} (e:H a=aA (.lst xs)):TyOf K H (.ref a) (.type "list")
 | frz {a:aH} {o:cy} {xs:List V} (e:H a=aA (.frz o (.lst xs))):TyOf K H (.ref a) (.type "list")
 | tup {a:aH} {xs:List V} (e:H a=aA (.tup xs)):TyOf K H (.ref a) (.type "tuple")
 | dK {a:aH} {n6:List (Oc×V)} (e:H a=aA (.dK n6)):TyOf K H (.ref a) (.type "dict")
 | dT {a:aH} {n6:List (List Oc×V)} (e:H a=aA (.dT n6)):TyOf K H (.ref a) (.type "dict")
 | ins {a C dx:aH} {fs:List (a0×V)} (e:H a=aA (.ins C dx fs)) (cl:Cls K C) (ha:bN K (.ref C) "__class__" = aA (aA (.builtin "object.__class__")))
   (hn:l4 K (.builtin "object.__class__") "__get__" = aA (aA (.builtin "getset_descriptor.__get__"))) (htk:PySem.W.takesIn K (.builtin "object.__class__")=aA aC)
   (hm:iR K C (.type "object")=aA aC):TyOf K H (.ref a) (.ref C)
theorem Hs{x:V}{u t:aE}(I:Inv X n5 σ H s)(d:RelV x u)(ty:TyOf X.K H x t)(e:aw X.K t c=aA b)(h:∀tk,Q (.bool b) { s with toks:=tk }) :
  ak (model X.prog X.w) A (call (.builtin "isinstance") [u,c]) Q E s:=by
 cases ty with
 | non=>cases (d);exact cQ PySem.W.kitx_none I.kIn dZ e (λz=>nomatch z) h
 | bl y=>cases (d);exact cQ PySem.W.kitx_bool I.kIn dZ e (λz=>nomatch z) h
 | int i=>obtain⟨t,q⟩:=(d);cases q;exact cQ PySem.W.kitx_int I.kIn dZ e (λz=>nomatch z) h
 | str y=>obtain⟨t,q⟩:=(d);cases q;exact cQ PySem.W.kitx_str I.kIn dZ e (λz=>nomatch z) h
 | flt y=>obtain⟨t,q⟩:=(d);cases q;exact cQ PySem.W.kitx_float I.kIn dZ e (λz=>nomatch z) h
 | @lst a j ea=>
  cases (d);obtain⟨_,_,n,_,f⟩:=(I.hok a _ ea);exact cQ l5 I.kIn ⟨_,f,rfl⟩ e (λz=>nomatch z) h
 | @frz a ob j ea=>
  cases (d);obtain⟨_,_,_,n,_,f⟩:=(I.hok a _ ea);exact cQ l5 I.kIn ⟨_,f,rfl⟩ e (λz=>nomatch z) h
 | @tup a j ea=>
  cases (d);obtain⟨_,_,_,p⟩:=(I.hok a _ ea);obtain⟨o,f,g,_⟩:=p;exact cQ PySem.W.kitx_tuple I.kIn ⟨o,f,g⟩ e (λz=>nomatch z) h
 | @dK a n6 ea=>
  cases (d);obtain⟨_,_,vs,_,p⟩:=(I.hok a _ ea);obtain⟨o,es,ep,f,g,_⟩:=p;exact cQ l6 I.kIn ⟨o,f,g.1⟩ e (λz=>nomatch z) h
 | @dT a n6 ea=>
  cases (d);obtain⟨_,_,j,_,o,es,ep,f,g,_⟩:=(I.hok a _ ea);exact cQ l6 I.kIn ⟨o,f,g.1⟩ e (λz=>nomatch z) h
 | @ins a C dx fs ea cl ha hn htk hm=>
  cases (d);obtain⟨l,O,_⟩:=DL I.hok ea;obtain⟨k,J,_⟩:=O.look;exact cQ (PySem.W.kitx_own (cl.get _) cl.hd ha hn htk hm) I.kIn J e (λz=>nomatch z) h
end
structure Room(k:Nat)(A:bQ):Prop where
 hd:A.handled=none
 dp:A.depth+3*k+5<kJ
 un:A.units+16*k+200<gk
 gd:A.guards=aA []
theorem Room.mono{j k:Nat}{A:bQ}(r:Room k A)(h:j<=k):Room j A:=⟨r.hd,by have:=r.dp;omega,by have:=r.un;omega,r.gd⟩
theorem Room.deeper{k:Nat}{A:bQ}(r:Room (k+1) A)(env:jN):Room k (A.deeper env):=
 ⟨r.hd,by have:=r.dp;show A.depth+1+3*k+5<_;omega,by have:=r.un;show A.units+3+16*k+200<_;omega,r.gd⟩
theorem Kp{A:bQ}{C:aH}{b:List aE}{a:List (a0×aE)}:(A.under (.builtin "type.__call__" ⟨.ref C::b,a⟩)).depth=A.depth+1:=by
 first | rfl | simp[jl,Code.weight,Code.isCreation,Code.isGuard,Code.isCaller,Code.frames,l7,guardIds]
theorem Kq{A:bQ}{C:aH}{b:List aE}{a:List (a0×aE)}:(A.under (.builtin "type.__call__" ⟨.ref C::b,a⟩)).units=A.units+1:=by
 first | rfl | simp[jl,Code.cUnits,Code.frames,l7]
theorem Room.make{k:Nat}{A:bQ}(r:Room (k+1) A)(C:aH)(b:List aE)(a:List (a0×aE)):Room k (A.under (.builtin "type.__call__" ⟨.ref C::b,a⟩)):=
 ⟨r.hd,by have:=r.dp;rw[Kp];omega,by have:=r.un;rw[Kq];omega,by first | exact r.gd | (simpa [jl,pushGuards,Code.guards,Code.isGuard,guardIds] using r.gd)⟩
theorem Room.depth{k:Nat}{A:bQ}(r:Room k A):A.depth<kJ:=by have:=r.dp;omega
theorem Room.units{k:Nat}{A:bQ}(r:Room k A):A.units+64<gk:=by have:=r.un;omega
noncomputable def Ht:TA:=λ_ H Q=>Q [] H
noncomputable def U6(ta:TE)(tr:TA):TA:=λσ H Q=>ta σ H λx H1=>tr σ H1 λxs H2=>Q (x::xs) H2
section
variable {X:Cx} {e:aq} {es:List aq} {te:TE} {t:TA} {pos:fD}
theorem Xv:PA X [] Ht:=λ_ _ _ _ H Q I h=>Calls.spliced_nil ⟨[],H,I,.nil,h⟩
theorem Z4(c:PE X e te)(f:PA X es t)(hs:aO (e::es) X.env=(aB,eval e X.env)::aO es X.env:=by rfl):PA X (e::es) (U6 te t):=by intro pos b s a H Q I h;rw[hs];refine Calls.spliced_cons (Ys (c b s a H _ I h) λu s1 ⟨x,k,i,n,o⟩=>?_);exact Ys (f pos b s1 a k _ i o) λp s2 ⟨m,l,j,g,d⟩=>⟨x::m,l,j,.cons n g,d⟩
noncomputable def Zcm(t:TA):TE:=λσ H Q=>t σ H λxs H1=>xs.length<=sizeLine/\∀p,H1 p=none->Q (.ref p) (upd H1 p (.tup xs))
noncomputable def Zew(t:TA):TE:=λσ H Q=>t σ H λxs H1=>xs.length<=sizeLine/\∀p,H1 p=none->Q (.ref p) (upd H1 p (.lst xs))
theorem Ni{x1}(h:PA X es t):PE X (.Tuple es x1 pos) (Zcm t):=by intro f s c H Q I k;refine wpAny_Tuple_spliced (Ys (h pos f s c H _ I k) λj s1 ⟨i,g,a,r,z,q⟩=>⟨by rw[<-r.length];exact z,?_⟩);have d:=a.hok.fresh (aN _);refine⟨.ref s1.heap.objs.size,upd g s1.heap.objs.size (.tup i),a.laid (λb u e=>aG _ e) (aN _) ?_,rfl,q _ d⟩;exact⟨⟨z,λo e=>Qq e⟩,j,r,⟨_,ag _ rfl,rfl,_,rfl⟩⟩
theorem Fd(h:PA X es t):PE X (.List es pos) (Zew t):=by intro f s c H Q I k;refine wpAny_List_spliced (Ys (h pos f s c H _ I k) λj s1 ⟨i,g,a,r,z,q⟩=>⟨by rw[<-r.length];exact z,?_⟩);have d:=a.hok.fresh (aN _);refine⟨.ref s1.heap.objs.size,upd g s1.heap.objs.size (.lst i),a.laid (λb u e=>aG _ e) (aN _) ?_,rfl,q _ d⟩;exact⟨z,j,0,r,ag _ rfl⟩
end
abbrev Sp:=List V->Hp->VK->XK->Prop
abbrev Dv:=List jN->Hp->aI->XK->aE->aI->Prop
structure Env0(P:au)(w:bc)(K:aD)(mg:a0->Option aE)(base:bH)(A:bQ)(outer:List jN)(s:aI)(H:Hp):Prop where
 frames:A.frames=aA outer
 mod:Mod K mg base
 bs:∀b o,base.get? b=aA o->s.heap.get? b=aA o/\H b=none
 bsz:base.objs.size<=s.heap.objs.size
 funs:s.heap.FunFrames base outer
 frf:∀b∈MN outer,H b=none
 tab:TabsH K mg base H
 hok:HOk P w H s.heap
 bare:jO s.gens
noncomputable def CE(outer:List jN)(P:au)(w:bc)(H:Hp)(s:aI)(Q:VK)(u:aE)(s':aI):Prop:=
 ∃v H',s'.os=s.os/\jO s'.gens/\Un (MN outer) [] H H' s.heap s'.heap/\HOk P w H' s'.heap/\RelV v u/\Q v H'
noncomputable def CR(CX:Dv)(outer:List jN)(P:au)(w:bc)(H:Hp)(s:aI)(Q:VK)(E:XK)(r:mq)(s':aI):Prop:=
 match r with
 | .ok (.ret u)=>CE outer P w H s Q u s'
 | .ok _=>False
 | .error e=>CX outer H s E e s'
structure Te(P:au)(w:bc)(K:aD)(mg:a0->Option aE)(base:bH)(CX:Dv)(k:Nat)(f:aH)(fd:eU)(ps:List a0)(sp:Sp):Prop where
 len:∀vs H Q E,sp vs H Q E->vs.length=ps.length
 run:∀(A:bQ)(outer:List jN)(s:aI)(H:Hp)(args:Args)(us:List aE)(vs:List V)(Q:VK)(E:XK),Room k A->Env0 P w K mg base A outer s H->k9 s fd args (ps.zip us)->Vals vs us->sp vs H Q E->
  gO (model P w) A (.call (.ref f) args) (CR CX outer P w H s Q E) s
theorem Env0.make{P:au}{w:bc}{K:aD}{b:a0->Option aE}{base:bH}{A:bQ}{a:List jN}{s:aI}{H:Hp}(e:Env0 P w K b base A a s H)(C:aH)(d:List aE)(c:List (a0×aE)) :
  Env0 P w K b base (A.under (.builtin "type.__call__" ⟨.ref C::d,c⟩)) a s H:=⟨by first | exact e.frames | (simpa [jl,Code.envs,l7,pushEnvs] using e.frames),e.mod,e.bs,e.bsz,e.funs,e.frf,e.tab,e.hok,e.bare⟩
section
variable {X:Cx} {n5:List (aH×cy)} {σ:St} {H:Hp} {s s':aI}
theorem Inv.env0(I:Inv X n5 σ H s):Env0 X.prog X.w X.K X.mg X.base X.A X.stack s H:=
 ⟨I.ok.frames,I.ok.mod,I.bs,aX I.ok.bsz I.sz,I.stack,I.stkFree,I.ok.tab.un I.base,I.hok,I.bare⟩
theorem Inv.after{Q:VK}{u:aE}(I:Inv X n5 σ H s)(h:CE X.stack X.prog X.w H s Q u s'):EP X n5 σ Q u s':=by obtain⟨v,e,os,a,un,c,r,q⟩:=h;obtain⟨i,g,d,t,f⟩:=s';obtain rfl:=os;exact⟨v,e,I.call un c a (λb z=>absurd z (by simp)),r,q⟩
end
noncomputable def Fe(sp:Sp)(dvs:List V)(E:XK)(t:TA):TE:=λσ H Q=>t σ H λvs H1=>sp (vs++dvs) H1 Q E
noncomputable def Binds(K:aD)(fd:eU)(ps:List a0)(ds:List aE):Prop:=
 ∀(s:aI)(us:List aE),K.In s.heap->(us++ds).length=ps.length->k9 s fd ⟨us,[]⟩ (ps.zip (us++ds))
theorem Binds.all{K:aD}{c:eU}{b:List a0}(h:∀a:List aE,a.length=b.length->gv c ⟨a,[]⟩=pure (b.zip a)):Binds K c b []:=λs a _ d=>by rw[cS] at d ⊢;exact .of_eq (h a d)
noncomputable def Kr(CX:Dv)(X:Cx)(E:XK):Prop:=∀(n5:List (aH×cy))(σ:St)(H:Hp)(s:aI)(e:aE)(s':aI),Inv X n5 σ H s->CX X.stack H s E e s'->X.xe e s'
section
variable {X:Cx} {CX:Dv} {k:Nat} {f C:aH} {fd:eU} {ps:List a0} {sp:Sp} {dvs:List V} {ds:List aE} {E:XK} {x m:a0} {p pos apos:fD} {e o:aq} {es:List aq} {ta:TE} {t:TA}
theorem AN{d:List (aH×cy)}{c:St}{H:Hp}{s:aI}{Q:VK}{a:List aE}{vs:List V}(F:Te X.prog X.w X.K X.mg X.base CX k f fd ps sp)(j:Room k X.A)(o:Binds X.K fd ps ds)(l:Vals dvs ds)(n:Kr CX X E)
  (I:Inv X d c H s) (r:Vals vs a) (h:sp (vs++dvs) H Q E):ak (model X.prog X.w) X.A (call (.ref f) a) (EP X d c Q) X.xe s:=by
 have g:=r.append l;have i:(a++ds).length=ps.length:=by rw[<-g.length];exact F.len _ _ _ _ h
 refine ip (gx (F.run X.A X.stack s H ⟨a,[]⟩ (a++ds) (vs++dvs) Q E j I.env0 (o s a I.kIn i) g h) λr m b=>?_)
 cases r with
 | error e=>exact n d c H s e m I b
 | ok fl=>
  cases fl with
  | ret u=>exact I.after b
  | next=>exact cD b
  | brk=>exact cD b
  | cont=>exact cD b
theorem DN(F:Te X.prog X.w X.K X.mg X.base CX k f fd ps sp)(j:Room k X.A)(g:Gl X x)(u:X.mg x=aA (.ref f))(m:eV X.K (.ref f)=aC)(w:Binds X.K fd ps ds)(l:Vals dvs ds)(v:Kr CX X E)
  (i:PA X (e::es) t) (a:(x==("__debug__" : a0))=aB:=by decide) (d:aO (e::es) X.env=(aB,eval e X.env)::aO es X.env:=by rfl) (b:(dD pos (aO es X.env)).any (·.1)=aB:=by rfl) :
  PE X (.Call (.Name x p) (e::es) [] pos) (Fe sp dvs E t):=by
 intro o s n H Q I h;refine f9 (Vq I g u ?_ a);refine ir I.ok.mod.kin m (Ys (i pos o s n H _ I h) λz s1 ⟨vs,y,c,r,q⟩=>⟨c.kIn,?_⟩) d b;exact AN F j w l v c r q
end
structure Zk(N P:List a0)(sc:du):Prop where
 kind:sc.kind = .function
 co:sc.isCoroutine=aB
 gen:sc.isGenerator=aB
 nd:N.Nodup
 pre:N.take P.length=P
 par:∀x∈P,sc.names.lookup x=aA .local\/sc.names.lookup x=aA .cell
 nofree:∀y∈sc.names,y.2≠.free
theorem OB{kindOf:a0->Option eY}{x:a0}:∀{binds:List (a0×aE)}{m:a0->Option aE},(∀v,(x,v)∉binds)->mv kindOf binds m x=m x
 | [],_,_=>rfl
 | (n,v)::r,m,h=>by
  unfold mv;rw[OB λw a=>h w (aW _ a)];split
  ·have:x≠n:=by rintro rfl;exact h v af
   simp[this]
  ·rfl
theorem OC{kindOf:a0->Option eY}{x:a0}:∀{binds:List (a0×aE)}{m:a0->Option aE},(∀v,(x,v)∉binds)->mw kindOf binds m x=m x
 | [],_,_=>rfl
 | (n,v)::r,m,h=>by
  unfold mw;rw[OC λw a=>h w (aW _ a)];split
  ·rfl
  ·have:x≠n:=by rintro rfl;exact h v af
   simp[this]
theorem OD{kindOf:a0->Option eY}{x:a0}{v:aE}:∀{P:List a0}{vs:List aE}{i:Nat}{m:a0->Option aE},P.Nodup->P[i]?=aA x->vs[i]?=aA v->kindOf x=aA .local->
  mv kindOf (P.zip vs) m x=aA v
 | [],_,_,_,_,h,_,_=>by simp at h
 | _::_,[],_,_,_,_,h,_=>by simp at h
 | p::P,w::vs,0,m,nd,h1,h2,hk=>by simp at h1 h2;subst h1;subst h2;show mv kindOf ((p,w)::P.zip vs) m p=_;unfold mv;rw[OB λv a=>(bY.mp nd).1 (i6 a).1,nZ hk];simp
 | p::P,w::vs,i+1,m,nd,h1,h2,hk=>by show mv kindOf ((p,w)::P.zip vs) m x=_;unfold mv;exact OD (i:=i) (bY.mp nd).2 (by simpa using h1) (by simpa using h2) hk
theorem OE{kindOf:a0->Option eY}{x:a0}{v:aE}:∀{P:List a0}{vs:List aE}{i:Nat}{m:a0->Option aE},P.Nodup->P[i]?=aA x->vs[i]?=aA v->kindOf x≠aA .local->
  mw kindOf (P.zip vs) m x=aA v
 | [],_,_,_,_,h,_,_=>by simp at h
 | _::_,[],_,_,_,_,h,_=>by simp at h
 | p::P,w::vs,0,m,nd,h1,h2,hk=>by simp at h1 h2;subst h1;subst h2;show mw kindOf ((p,w)::P.zip vs) m p=_;unfold mw;rw[OC λv a=>(bY.mp nd).1 (i6 a).1,ng hk];simp
 | p::P,w::vs,i+1,m,nd,h1,h2,hk=>by show mw kindOf ((p,w)::P.zip vs) m x=_;unfold mw;exact OE (i:=i) (bY.mp nd).2 (by simpa using h1) (by simpa using h2) hk
noncomputable def start(N:List a0)(vs:List V):St:=vs.map aA++aY (N.length-vs.length) none
noncomputable def Tf(CX:Dv)(P:au)(w:bc)(K:aD)(mg:a0->Option aE)(base:bH)(N:List a0)(qual:a0)(scope:du)(f:aH)(cd:aE)(A:bQ)(outer:List jN)(s:aI)(H:Hp)(E:XK):Cx where
 prog:=P
 w:=w
 K:=K
 mg:=mg
 base:=base
 A:=A.deeper (gi qual scope s.heap.objs.size f cd)
 N:=N
 s₀:=s
 H₀:=H
 env:=gi qual scope s.heap.objs.size f cd
 outer:=outer
 stack:=gi qual scope s.heap.objs.size f cd::outer
 ex:=[]
 calm:=aC
 fn:=λ_=>aC
 pn:=[]
 xe:=λe s'=>ak (model P w) (A.deeper (gi qual scope s.heap.objs.size f cd)) (leaving (gi qual scope s.heap.objs.size f cd) e) (λ_ s''=>CX outer H s E e s'') (λe' s''=>CX outer H s E e' s'') s'
theorem MW{a:du}{n:Nat}{x:a0}(h:a.names.lookup x=aA .cell):∃c,(iO n a.names []).lookup x=aA c:=by have q:=gy a.names n [] (.inl h);exact cE.mp q
theorem DO{a b c:a0}(h:a++c=b++c):a=b:=by
 obtain⟨a⟩:=a;obtain⟨b⟩:=b;have d:a++c.cps=b++c.cps:=congrArg a0.cps h;have e:a.toList++c.cps.toList=b.toList++c.cps.toList:=by rw[<-kc,<-kc,d]
 have f:=Array.toList_inj.mp (List.append_cancel_right e);rw[f]
theorem OF{CX:Dv}{P:au}{w:bc}{K:aD}{I:a0->Option aE}{base:bH}{N n:List a0}{g:a0}{d:du}{f:aH}{B:aE}{A:bQ}{j:List jN}{s s1:aI}{H:Hp}{E:XK}{L:List aE}{vs:List V}
  (J:cZ K B g=aC) (S:Zk N n d) (R:A.handled=none) (m:Env0 P w K I base A j s H) (Y:vs.length=n.length) (r:Vals vs L)
  (x:InCallC s s.heap.objs.size (mv (gi g d s.heap.objs.size f B).kindOf (n.zip L) λ_=>none) (iO (s.heap.objs.size+1) d.names []) (mw (gi g d s.heap.objs.size f B).kindOf (n.zip L) λ_=>none) s1) :
  Inv (Tf CX P w K I base N g d f B A j s H E) [] (start N vs) H s1:=by
 have U:n.length<=N.length:=by have:=congrArg iT S.pre;rw[bV] at this;omega
 obtain⟨G,tk,rfl,M⟩:=x.done;have t:∀b:aH,b∉(Tf CX P w K I base N g d f B A j s H E).ex:=λb z=>absurd (show b∈([]:List aH) from z) (by simp)
 refine⟨⟨m.mod,S.kind,rfl,rfl,aN _,λy z c G l=>?_,λy o=>?_,λy c _ h=>?_,λ_=>R,bQ.frames_deeper m.frames,.inr ⟨rfl,rfl⟩,λb z=>absurd z (t b),m.bs,m.bsz,λb _ _=>t b,λb z=>absurd z (t b),m.funs,m.frf,m.tab,λq _ W _=>by rw[<-DO W];exact J⟩,
  rfl,m.bare,Un.kept M,⟨_,x.toInCall.ns,λi y v G l X=>?_⟩,λy c h=>⟨_,x.cell y c h⟩,m.hok.fresh (aN _),λy c h=>?_,λp C=>absurd (show p∈([]:List (aH×cy)) from C) (by simp),m.hok.kept M,?_⟩
 ·exact name_of_addr x.apart (dW G) (dW l)
 ·have o:=o;rcases o with o | o
  ·exact MW o
  ·exact absurd rfl (S.nofree _ (dW o))
 ·exact dA (x.above y c (dW h))
 ·have F:i<vs.length:=by
   unfold start at l;by_cases F:i<vs.length
   ·exact F
   ·rw[bU (by simpa using F)] at l;rw[bu] at l;split at l<;>cases l
  have Q:vs[i]?=aA v:=by
   unfold start at l;rw[ao (by simpa using F),aZ] at l
   cases e:vs[i]? with
   | none=>rw[e] at l;cases l
   | some a=>rw[e] at l;cases l;rfl
  obtain⟨u,O,T⟩:=r.get Q;have C:n[i]?=aA y:=by rw[<-S.pre,fN (by omega)];exact G
  have D:n.Nodup:=by rw[<-S.pre];exact S.nd.sublist (l8 _ _)
  refine⟨u,T,?_⟩;rcases S.par y (c9 C) with k | k
  ·exact .inl ⟨k,OD D C O k⟩
  ·obtain⟨c,e⟩:=MW k;refine .inr ⟨.inl k,c,e,?_⟩;have q:=x.cell y c e;rw[OE D C O (by show d.names.lookup y≠_;rw[k];decide)] at q;exact q
 ·exact m.hok.fresh (dA (x.above y c (dW h)))
 ·unfold start;show _=N.length;rw[bJ,aP,dY];omega
theorem YZ{CX:Dv}{P:au}{w:bc}{K:aD}{M:a0->Option aE}{base:bH}{k:Nat}{f:aH}{l d:a0}{h:mI}{i:List bS}{a:du}{Y kV G Z g ct oc:aE}{X od:Option aH}
  {O:Array (Option aE)} {N L:List a0} {sp:Sp} (lk:K.lookup f=aA ⟨oc,od,.func (cC l d h i a Y kV G Z X g ct),O⟩) (F:cZ K g d=aC) (S:Zk N L a)
  (len:∀vs H Q E,sp vs H Q E->vs.length=L.length)
  (p:∀(A:bQ)(c:List jN)(s:aI)(H:Hp)(vs:List V)(Q:VK)(E:XK),Room k (A.deeper (gi d a s.heap.objs.size f g))->sp vs H Q E->
   ∃t,PSs (Tf CX P w K M base N d a f g A c s H E) i t/\t { nx:=λ_ m=>Q .non m,rt:=Q } (start N vs) H) :
  Te P w K M base CX (k+1) f (cC l d h i a Y kV G Z X g ct) L sp:=by
 refine⟨len,λA c s H args us vs Q E R C hb r B=>?_⟩;have hl:=len _ _ _ _ B;have KX:=C.mod.kin.keeps λb o e=>(C.bs b o e).1;have W:=C.mod.nolimit.keeps λb o e=>(C.bs b o e).1
 have z:∀y∈L.zip us,a.names.lookup y.1=aA .local\/(a.names.lookup y.1=aA .cell/\((iO (s.heap.objs.size+1) a.names []).lookup y.1).isSome=aC):=λ⟨n,v⟩ hy=>by
  rcases S.par n (i6 hy).1 with q | q
  ·exact .inl q
  ·exact .inr ⟨q,gy _ _ _ (.inl q)⟩
 refine kF R.depth (KX _ _ lk) rfl S.co S.gen rfl (kr KX F) (hb _ _ _ _ ?_);refine iu S.kind z λenv he s1 x=>?_;subst he;refine⟨W.keeps x.toInCall.keep,codeAny_func ?_⟩;obtain⟨t,ht,hq⟩:=p A c s H vs Q E (R.deeper _) B;have I:Inv (Tf CX P w K M base N d a f g A c s H E) [] (start N vs) H s1:=OF F S R.hd C hl r x;refine b9 (ht [] s1 (start N vs) H _ I hq) (λfl T hs=>?_) λe T hs=>hs
 have D:∀{j:St}{m:Hp}{v:V}{u:aE},Inv (Tf CX P w K M base N d a f g A c s H E) [] j m T->RelV v u->Q v m->CE c P w H s Q u T:=
  λ{j m v u} J U q=>⟨v,m,J.os,J.bare,J.base,J.hok,U,q⟩
 cases fl with
 | ret u=>
  obtain⟨v,j,m,J,U,q⟩:=hs;exact D J U q
 | next=>
  obtain⟨j,m,J,q⟩:=hs;exact D (v:=V.non) J rfl q
 | brk=>
  obtain⟨_,_,_,q⟩:=hs;exact cD q
 | cont=>
  obtain⟨_,_,_,q⟩:=hs;exact cD q
section
variable {X:Cx} {x:a0} {p pos:fD} {e:aq} {es:List aq} {t:TA} {id T:String} {r:List V->Hp->VK->Prop}
noncomputable def tCB(r:List V->Hp->VK->Prop)(t:TA):TE:=λσ H Q=>t σ H λvs H1=>r vs H1 Q
theorem Qu(o:Xr X (.builtin id) r)(g:Gl X x)(l:X.mg x=none)(j:dN x=aA (.builtin id))(i:PA X (e::es) t)(q:x≠"__name__":=by decide)(a:(x==("__debug__" : a0))=aB:=by decide)
  (f:aO (e::es) X.env=(aB,eval e X.env)::aO es X.env:=by rfl) (b:(dD pos (aO es X.env)).any (·.1)=aB:=by rfl):PE X (.Call (.Name x p) (e::es) [] pos) (tCB r t):=by
 intro d s c H Q I h;refine f9 (Ub I g l j ?_ q a);exact PyProof.Rows.callWith_builtin1 (Ys (i pos d s c H _ I h) λn s1 ⟨vs,m,k,u,v⟩=>o d s1 c m vs n Q k u v) f b
theorem OG(o:Xr X (.type T) r)(g:Gl X x)(l:X.mg x=none)(j:dN x=aA (.type T))(i:PA X (e::es) t)(q:x≠"__name__":=by decide)(a:(x==("__debug__" : a0))=aB:=by decide)
  (f:aO (e::es) X.env=(aB,eval e X.env)::aO es X.env:=by rfl) (b:(dD pos (aO es X.env)).any (·.1)=aB:=by rfl):PE X (.Call (.Name x p) (e::es) [] pos) (tCB r t):=by
 intro d s c H Q I h;refine f9 (Ub I g l j ?_ q a);exact dI (Ys (i pos d s c H _ I h) λn s1 ⟨vs,m,k,u,v⟩=>o d s1 c m vs n Q k u v) f b
end
end L2
namespace HT
open PySem PyProof.Rows
section
variable {prog:au} {w:bc} {A:bQ} {E:aE->aI->Prop} {s:aI}
theorem cat_tup{t b:aH}{vs a:List aE}{Q:aE->aI->Prop}(x:IsTup s.heap t vs.toArray)(y:IsTup s.heap b a.toArray)(p:vs≠[])
  (B:a=[]->Q (.ref t) s) (u:a≠[]->Q (.ref s.heap.objs.size) { s with heap:=s.heap.push { cls:=.type "tuple",data:=.seq (vs++a).toArray } })
  (l:vs.length+a.length<=sizeLine):ak (model prog w) A (eJ .Add (.ref t) (.ref b)) Q E s:=by
 obtain⟨⟨m,dd,d,r⟩,h,z,n,v⟩:=id x;obtain⟨⟨o,g,data2,f⟩,c,k,q,j⟩:=id y;subst z v k j;have e:vs.toArray++a.toArray=(vs++a).toArray:=by simp
 by_cases i:a=[]
 ·exact l9 ⟨_,h,rfl⟩ ⟨_,c,rfl⟩ jb kh gz gm (gW _ _)
   (tuple_addW1 t b vs.toArray a.toArray n q dd g r f (by simpa using p) (by simp[i])) ⟨h,c,B i⟩
 ·refine l9 ⟨_,h,rfl⟩ ⟨_,c,rfl⟩ jb kh gz gm (gW _ _)
   (tuple_addW2 t b vs.toArray a.toArray n q dd g r f (by simpa using p) (by simpa using i) (by rw[aR];exact l)) ⟨h,c,?_⟩
  rw[e];exact u i
noncomputable def sIx(n d:Nat):Option Int->Nat
 | none=>d
 | some v=>if v<0 then(v+(n:Int)).toNat else min v.toNat n
theorem sIx_none(n d:Nat):sIx n d none=d:=rfl
theorem sIx_nat(n d k:Nat):sIx n d (aA (k:Int))=min k n:=rfl
theorem JY(v:Int)(n d:Nat):(if v<0 then max (v+(n:Int)) 0 else min v (n:Int))=((sIx n d (aA v):Nat):Int):=by
 show(if v<0 then max (v+(n:Int)) 0 else min v (n:Int))=(((if v<0 then(v+(n:Int)).toNat else min v.toNat n):Nat):Int);by_cases a:v<0
 ·simp only[nZ a];omega
 ·simp only[ng a];omega
theorem Ks(lo a:Option Int)(n:Nat):jG lo a 1 (n:Int)=(((sIx n 0 lo:Nat):Int),((sIx n n a:Nat):Int)):=by
 refine Prod.ext ?_ ?_
 ·cases lo with
  | none=>rfl
  | some v=>exact JY v n 0
 ·cases a with
  | none=>rfl
  | some v=>exact JY v n n
theorem Kt(i j:Nat):fE (i:Int) (j:Int) 1=j-i:=by
 unfold fE;split<;>omega
theorem Qv{v:aE}{o:Option Int}{Q:Option Int->aI->Prop}(p:ku v o)(h:Q o s):ak (model prog w) A (jq.Slice.slicePartIndex v) Q E s:=by
 cases p with
 | none=>exact slicePart_none h
 | int i t=>exact slicePart_int h
theorem Su{d:aH}{e f:aE}{lo b:Option Int}{n:Nat}{Q:Int×Int×Nat->aI->Prop}(hs:s.heap.IsSliceOf d e f .none)(pl:ku e lo)(g:ku f b)
  (h:Q (((sIx n 0 lo:Nat):Int),1,sIx n n b-sIx n 0 lo) s):ak (model prog w) A (jq.Slice.sliceApplied (.ref d) (pure (n:Int))) Q E s:=by
 obtain⟨os,a,i,c⟩:=id hs;refine aF (aF (bx a c rfl (aF (bx a c rfl (aF (bx a c rfl (a9 ?_)))))));refine aF (slicePart_none ?_);refine aF (Qv pl (aF (Qv g (aF (a9 ?_)))));show ak _ _ (match jG lo b 1 (n:Int) with | (lo,b)=>pure (lo,(1:Int),fE lo b 1)) _ _ s;rw[Ks lo b n];show ak _ _ (pure (((sIx n 0 lo:Nat):Int),(1:Int),fE ((sIx n 0 lo:Nat):Int) ((sIx n n b:Nat):Int) 1)) _ _ s;rw[Kt];exact a9 h
theorem Ff(a:Array aE)(i k:Nat):((aM k).filterMap λ(m:Nat)=>a[((i:Int)+(m:Int)*1).toNat]?).toArray=((a.toList.drop i).take k).toArray:=by
 have e:(λ(m:Nat)=>a[((i:Int)+(m:Int)*1).toNat]?)=λm=>a[i+m]?:=by
  funext m;have:((i:Int)+(m:Int)*1).toNat=i+m:=by omega
  rw[this]
 rw[e];have:=pick_run a i k;rw[List.filterMap_map] at this;have b:((λx=>a[x]?) ∘ λx=>i+x)=λm=>a[i+m]?:=rfl;rw[b] at this;rw[this]
theorem getItem_tuple_cut{t i:aH}{a:Array aE}{k l:aE}{lo c:Option Int}{Q:aE->aI->Prop}(d:IsTup s.heap t a)(hs:s.heap.IsSliceOf i k l .none)(pl:ku k lo)(m:ku l c)
  (p:¬(sIx a.size 0 lo=0/\sIx a.size a.size c=a.size))
  (h:Q (.ref s.heap.objs.size) { s with heap:=s.heap.push { cls:=.type "tuple",data:=.seq ((a.toList.drop (sIx a.size 0 lo)).take (sIx a.size a.size c-sIx a.size 0 lo)).toArray } })
  (o:a.size<=sizeLine):ak (model prog w) A (mh (.ref t) (.ref i)) Q E s:=by
 have b:sizeOk (.seq ((a.toList.drop (sIx a.size 0 lo)).take (sIx a.size a.size c-sIx a.size 0 lo)).toArray):=by show((a.toList.drop (sIx a.size 0 lo)).take (sIx a.size a.size c-sIx a.size 0 lo)).toArray.size<=sizeLine;rw[aR,bV,ck,gR];omega
 obtain⟨os,j,f,n⟩:=id hs;have g:s.TypeIs (.ref i) "slice":=⟨os,j,f⟩;unfold mh
 try with_reducible refine df ?_
 first | refine aF (a9 ?_) | skip
 refine aF (wpAny_sequenceKey d.typeIs rfl ?_)
 refine aF (dy d.typeIs fR
  (gP fR d.typeIs entry_tuple_getitem ?_ (args_tuple_getitem _ _)))
 show ak _ _ (jq.Tuple.tupleItemsOf (.ref t) >>= _) _ _ s;refine aF (tupleItemsOf_ d ?_);refine aF (wpAny_typeOf g ?_);refine aF (Su hs pl m ?_);have e:¬((((sIx a.size 0 lo:Nat):Int)==0&&(1:Int)==1&&(sIx a.size a.size c-sIx a.size 0 lo)==a.size)=aC):=by intro q;rw[bX,bX] at q;have u:=eq_of_beq q.1.1;have r:=eq_of_beq q.2;exact p ⟨by omega,by omega⟩
 show ak _ _ (if(((sIx a.size 0 lo:Nat):Int)==0&&(1:Int)==1&&(sIx a.size a.size c-sIx a.size 0 lo)==a.size)=aC then _ else _) _ _ s;rw[ng e,Ff]
 first
  | exact aF (dQ (a9 ⟨_,rfl,a9 h⟩) b)
  | exact aF (dQ (aF (a9 (a9 ⟨_,rfl,a9 h⟩))) b)
  | exact aF (aF (dQ (a9 (a9 ⟨_,rfl,a9 h⟩)) b))
  | exact aF (aF (dQ (a9 ⟨_,rfl,a9 h⟩) b))
end
end HT
namespace L2
open PySem PySem.Spec PyProof.Rows
abbrev TO:=St->Hp->(Option Int->Hp->Prop)->Prop
noncomputable def PO(X:Cx)(e:Option aq)(t:TO):Prop:=
 ∀(n5:List (aH×cy))(s:aI)(σ:St)(H:Hp)(Q:Option Int->Hp->Prop),Inv X n5 σ H s->t σ H Q->
  ak (model X.prog X.w) X.A (evalPart e X.env) (λu s'=>∃o H',Inv X n5 σ H' s'/\ku u o/\Q o H') X.xe s
noncomputable def DP:TO:=λ_ H Q=>Q none H
noncomputable def Zcn(t:TE):TO:=λσ H Q=>t σ H λx H1=>∃i,x = .int i/\Q (aA i) H1
section
variable {X:Cx} {e:aq} {te:TE} {lo hi:Option aq} {tl th:TO} {pos p2:fD}
theorem DQ:PO X none DP:=by intro b s a H Q I h;exact a9 ⟨none,H,I,.none,h⟩
theorem DR(h:PE X e te):PO X (aA e) (Zcn te):=by intro g s b H Q I c;refine Ys (h g s b H _ I c) λu s1 ⟨x,a,f,d,j⟩=>?_;obtain⟨i,rfl,q⟩:=j;obtain⟨t,rfl⟩:=d;exact⟨aA i,a,f,.int i t,q⟩
noncomputable def SlR(X:Cx)(r:V->Option Int->Option Int->Hp->VK->Prop):Prop:=
 ∀(n5:List (aH×cy))(s:aI)(σ:St)(H:Hp)(x:V)(v vl vu:aE)(lo hi:Option Int)(sl:aH)(Q:VK),Inv X n5 σ H s->RelV x v->s.heap.IsSliceOf sl vl vu .none->ku vl lo->ku vu hi->r x lo hi H Q->
  ∃T id,typeLookup (.type T) "__getitem__" = pure (aA (.builtin id))/\s.TypeIs v T/\ak (model X.prog X.w) X.A (mh v (.ref sl)) (EP X n5 σ Q) X.xe s
noncomputable def tSl(r:V->Option Int->Option Int->Hp->VK->Prop)(te:TE)(tl th:TO):TE:=λσ H Q=>te σ H λx H1=>tl σ H1 λl H2=>th σ H2 λu H3=>r x l u H3 Q
theorem MX{r:V->Option Int->Option Int->Hp->VK->Prop}(w:SlR X r)(j:PE X e te)(n:PO X lo tl)(E:PO X hi th):PE X (.Subscript e (.Slice lo hi none p2) pos) (tSl r te tl th):=by intro c s a H Q I h;refine Subscript_ (Ys (j c s a H _ I h) λv s1 ⟨x,B,z,G,J⟩=>?_);refine wpAny_Slice (Ys (n c s1 a B _ z J) λf s2 ⟨l,D,A,pl,o⟩=>Ys (E c s2 a D _ A o) λg d ⟨u,i,p,y,t⟩=>?_);refine a9 ?_;have F:Inv X c a i { d with heap:=d.heap.push { cls:=.type "slice",data:=.fields #[f,g,.none] } }:=p.kept λb L q=>aG _ q;obtain⟨T,id,m,C,k⟩:=w c { d with heap:=d.heap.push { cls:=.type "slice",data:=.fields #[f,g,.none] } } a i x v f g l u d.heap.objs.size Q F G (bH.IsSliceOf.new ..) pl y t;exact tail_any C m k rfl
noncomputable def Hu(xs:List V)(lo hi:Option Int):List V:=(xs.drop (HT.sIx xs.length 0 lo)).take (HT.sIx xs.length xs.length hi-HT.sIx xs.length 0 lo)
theorem RJ(a:List V)(lo b:Option Int):(Hu a lo b).length<=a.length:=by unfold Hu;rw[bV,ck];omega
noncomputable def Zey(K:aD):V->Option Int->Option Int->Hp->VK->Prop:=λx lo hi H Q=>∃a xs,x = .ref a/\SqT K H a xs/\
 ¬(HT.sIx xs.length 0 lo=0/\HT.sIx xs.length xs.length hi=xs.length)/\∀p,H p=none->Q (.ref p) (upd H p (.tup (Hu xs lo hi)))
theorem AO:SlR X (Zey X.K):=by
 intro u s t H x v p w lo f z Q I m hs pl j h;obtain⟨a,d,rfl,l,n,q⟩:=h;cases m;obtain⟨k,r,g,i⟩:=I.tuple l;have c:k.toArray.size=d.length:=by rw[aR];exact r.length.symm
 refine⟨"tuple",_,fR.lookup,g.typeIs,?_⟩;refine HT.getItem_tuple_cut g hs pl j (by rw[c];exact n) ?_ (by rw[c];exact i);rw[c];refine⟨.ref s.heap.objs.size,_,I.laid (λb y q=>aG _ q) (aN _) ?_,rfl,q _ (I.hok.fresh (aN _))⟩;exact⟨⟨aX (RJ d lo f) i,λo e=>Qq e⟩,_,(r.drop (HT.sIx d.length 0 lo)).take (HT.sIx d.length d.length f-HT.sIx d.length 0 lo),mJ _ _⟩
noncomputable def Zco(K:aD):R2:=λx y H Q=>∃a b xs ys,x = .ref a/\y = .ref b/\SqT K H a xs/\SqT K H b ys/\xs≠[]/\xs.length+ys.length<=sizeLine/\
 (ys=[]->Q (.ref a) H)/\(ys≠[]->∀p,H p=none->Q (.ref p) (upd H p (.tup (xs++ys))))
theorem Vals.nil_iff{a:List V}{b:List aE}(r:Vals a b):b=[]↔a=[]:=by
 cases r with
 | nil=>simp
 | cons _ _=>simp
theorem DS:TC X (eJ .Add) (Zco X.K):=by intro B s A H x y v u Q I m i h;obtain⟨a,b,D,C,rfl,rfl,j,n,l,f,r,k⟩:=h;cases m;cases i;obtain⟨t,d,p,_⟩:=I.tuple j;obtain⟨g,c,p2,_⟩:=I.tuple n;refine HT.cat_tup p p2 (λz=>l (d.nil_iff.mp z)) (λz=>⟨.ref a,H,I,rfl,r (c.nil_iff.mp z)⟩) (λz=>?_) (by rw[<-d.length,<-c.length];exact f);refine⟨.ref s.heap.objs.size,_,I.laid (λb E q=>aG _ q) (aN _) ?_,rfl,k (λw=>z (c.nil_iff.mpr w)) _ (I.hok.fresh (aN _))⟩;exact⟨⟨by rw[bJ];exact f,λo e=>Qq e⟩,_,d.append c,mJ _ _⟩
end
noncomputable def Nj(n:Nat)(i:Int):Option Nat:=if 0<=i then(if i<n then aA i.toNat else none) else if -(n:Int)<=i then aA (i+n).toNat else none
noncomputable def So{α:Type}(xs:List α)(i:Int):Option α:=(Nj xs.length i).bind λj=>xs[j]?
theorem JZ{n:Nat}{i:Int}{j:Nat}(h:Nj n i=aA j):seqIndex? i n=aA j/\j<n/\-(n:Int)<=i/\i<n:=by
 unfold Nj at h;by_cases b:0<=i
 ·rw[nZ b] at h;by_cases a:i<n
  ·rw[nZ a] at h;have e:=ay h;exact⟨by rw[mU b a,e],by omega,by omega,a⟩
  ·rw[ng a] at h;cases h
 ·rw[ng b] at h;by_cases a : -(n:Int)<=i
  ·rw[nZ a] at h;have e:=ay h;exact⟨by rw[la (by omega) a,e],by omega,a,by omega⟩
  ·rw[ng a] at h;cases h
theorem Nk{b:Type}{a:List b}{i:Int}{v:b}(h:So a i=aA v):∃j,seqIndex? i a.length=aA j/\a[j]?=aA v/\j<a.length/\-(a.length:Int)<=i/\i<a.length:=by
 unfold So at h
 cases e:Nj a.length i with
 | none=>rw[e] at h;cases h
 | some j=>
  rw[e] at h;obtain⟨g,c,d,f⟩:=JZ e;exact⟨j,g,h,c,d,f⟩
theorem Vt{b:Type}{a:List b}{j:Nat}{v:b}(h:a[j]?=aA v):So a (j:Int)=aA v:=by
 have c:=(aS.mp h).1;have e:Nj a.length (j:Int)=aA j:=by unfold Nj;rw[nZ (by omega),nZ (by omega)];simp
 unfold So;rw[e];exact h
noncomputable def Nl(b:aq):Prop:=∀o i,subscripted b aB o i=operate [o,i] (mh o i)
noncomputable def IxR(X:Cx)(r:R2):Prop:=
 ∀(value slice:aq)(n5:List (aH×cy))(s:aI)(σ:St)(H:Hp)(x y:V)(v u:aE)(Q:VK),Inv X n5 σ H s->RelV x v->RelV y u->r x y H Q->
  subscripted slice aB v u=operate [v,u] (mh v u)->ak (model X.prog X.w) X.A (subscriptTail value slice v u) (EP X n5 σ Q) X.xe s
noncomputable def MtR(X:Cx)(id:String)(r:V->List V->Hp->VK->Prop):Prop:=
 ∀(n5:List (aH×cy))(s:aI)(σ:St)(H:Hp)(x:V)(xs:List V)(v:aE)(us:List aE)(Q:VK),Inv X n5 σ H s->RelV x v->Vals xs us->r x xs H Q->
  ak (model X.prog X.w) X.A (call (.builtin id) (v::us)) (EP X n5 σ Q) X.xe s
section
variable {X:Cx} {a b:aq} {ta tb:TE} {pos:fD}
theorem IxR.or{r d:R2}(h:IxR X r)(h':IxR X d):IxR X (λx y H Q=>r x y H Q\/d x y H Q):=by
 intro a b f s e H x y v u Q I g c q hs;rcases q with q | q
 ·exact h a b f s e H x y v u Q I g c q hs
 ·exact h' a b f s e H x y v u Q I g c q hs
theorem Fg{r:R2}(e:IxR X r)(d:PE X a ta)(k:PE X b tb)(hs:Nl b):PE X (.Subscript a b pos) (tOp r ta tb):=by intro g s f H Q I h;exact Subscript_ (AF d k I h λv u s2 x y l i j c q=>e a b g s2 f l x y v u Q i j c q (hs _ _))
noncomputable def AQ(K:aD):R2:=λx y H Q=>∃p xs i v,x = .ref p/\y = .int i/\SqL K H p xs/\So xs i=aA v/\Q v H
noncomputable def Zcp(K:aD):R2:=λx y H Q=>∃p xs i v,x = .ref p/\y = .int i/\SqT K H p xs/\So xs i=aA v/\Q v H
noncomputable def Zcq:R2:=λx y H Q=>∃z i c,x = .str z/\y = .int i/\z.length<=sizeLine/\So z.cps.toList i=aA c/\Q (.str ⟨#[c]⟩) H
theorem ix_list:IxR X (AQ X.K):=by
 intro c d B s A H x y v u Q I C k h hs;obtain⟨p,L,i,z,rfl,rfl,F,l,q⟩:=h;cases C;obtain⟨t,rfl⟩:=k;obtain⟨o,r,pl,J⟩:=I.list F;obtain⟨j,b,n,G,D,E⟩:=Nk l;obtain⟨w,f,ZV⟩:=r.get n;have m:=r.length;have M:=Nh;have a:EP X B A Q w s:=⟨z,H,I,ZV,q⟩;by_cases g:0<=i
 ·have e:i.toNat=j:=by rw[mU g E] at b;exact ay b
  exact item_listR pl.isList g (by omega) (by rw[e];simpa using f) a hs
 ·have e:(i+(o.toArray.size:Int)).toNat=j:=by rw[la (by omega) D] at b;rw[aR,<-m];exact ay b
  exact jm pl.isList.typeIs slot_list_getitem.lookup
   (wpAny_getItem_list_neg pl.isList (by omega) (by rw[aR]<;>omega) (by omega) (by rw[e];simpa using f) ⟨rfl,a⟩) hs
theorem ix_tup:IxR X (Zcp X.K):=by
 intro a c m s l H x y v u Q I o d h hs;obtain⟨p,F,i,z,rfl,rfl,A,e,q⟩:=h;cases o;obtain⟨t,rfl⟩:=d;obtain⟨C,r,pl,E⟩:=I.tuple A;obtain⟨j,n,k,B,D,G⟩:=Nk e;obtain⟨w,f,ZV⟩:=r.get k;have g:=r.length;have J:=Nh;have b:EP X m l Q w s:=⟨z,H,I,ZV,q⟩
 exact jm pl.typeIs slot_tuple_getitem.lookup
  (getItem_tuple pl (by omega) (by omega) (by rw[aR,<-g];exact n) (by simpa using f) ⟨rfl,b⟩) hs
theorem AS:IxR X Zcq:=by
 intro a b A s w H x y v u Q I m e h hs;obtain⟨z,i,c,rfl,rfl,B,f,q⟩:=h;obtain⟨t,rfl⟩:=m;obtain⟨t',rfl⟩:=e;obtain⟨j,d,l,r,n,p⟩:=Nk f;have g:z.cps.toList.length=z.length:=by simp[a0.length]
 rw[g] at d n p;have C:=Nh
 exact tail_any (typeIs_str s z t) slot_str_getitem.lookup (getItem_str (by
  have o:decide (i < -(2^63:Int))=aB:=decide_eq_false (by omega);have k:decide (i ≥ 2^63)=aB:=decide_eq_false (by omega);rw[o,k,Bool.or_false]) (by rw[d];simpa using l) ⟨.str ⟨#[c]⟩,H,I.tok _,⟨_,rfl⟩,q⟩) hs
noncomputable def rIx(K:aD):R2:=λx y H Q=>AQ K x y H Q\/Zcp K x y H Q\/Zcq x y H Q
theorem AU:IxR X (rIx X.K):=ix_list.or (ix_tup.or AS)
theorem Ku(a:List aE)(n j:Nat)(u:aE):ky (·.setIfInBounds j u) { cls:=.type "list",data:=.seq a.toArray n }={ cls:=.type "list",data:=.seq (a.set j u).toArray n }:=by simp[ky]
theorem Inv.lst{d:List (aH×cy)}{c:St}{H:Hp}{s:aI}{p:aH}{b:List V}(I:Inv X d c H s)(h:H p=aA (.lst b)) :
  ∃(a:List aE) (n:Nat),Vals b a/\s.heap.get? p=aA { cls:=.type "list",data:=.seq a.toArray n }/\b.length<=sizeLine:=by
 obtain⟨z,a,n,r,e⟩:=I.hok p _ h;exact⟨a,n,r,e,z⟩
theorem Inv.lstUpd{k:List (aH×cy)}{i:St}{H:Hp}{s:aI}{p:aH}{o d:List V}{g a:List aE}{n c:Nat}{f:cy->cy}(I:Inv X k i H s)(h:H p=aA (.lst o))
  (v:s.heap.get? p=aA { cls:=.type "list",data:=.seq g.toArray n }) (j:f { cls:=.type "list",data:=.seq g.toArray n }={ cls:=.type "list",data:=.seq a.toArray c }) (r:Vals d a) (m:d.length<=sizeLine) (t:Nat) :
  Inv X k i (upd H p (.lst d)) { s with heap:=s.heap.update p f,toks:=t }:=by
 have e:(s.heap.update p f).get? p=aA { cls:=.type "list",data:=.seq a.toArray c }:=by rw[cw f v (by rw[j]<;>rfl),j]
 refine I.write (by rw[h];trivial) (.inl rfl) (λb u l q=>(bg _ _ (bB l)).trans q) ⟨_,e⟩ ?_;exact⟨m,a,c,r,e⟩
noncomputable def Fh:V->V->V->Hp->(Hp->Prop)->Prop:=λo i v H Q=>∃p xs k j,o = .ref p/\i = .int k/\H p=aA (.lst xs)/\Nj xs.length k=aA j/\Q (upd H p (.lst (xs.set j v)))
theorem XN:Zb9 X Fh:=by
 intro G s F H o i v E C u Q I x z A h;obtain⟨p,J,k,j,rfl,rfl,m,y,q⟩:=h;cases x;obtain⟨t,rfl⟩:=z;obtain⟨f,n,r,d,B⟩:=I.lst m;obtain⟨a,D,e,l⟩:=JZ y;have b:=r.length;have L:=Nh
 have w:=
  I.lstUpd m d (Ku f n j u) (r.set A j) (by rw[cj];exact B) s.toks
 by_cases g:0<=k
 ·have c:k.toNat=j:=by rw[mU g l] at a;exact ay a
  exact PySem.W.ki_setAt d g (by omega) (by rw[aR,<-b];exact l) (by rw[c];exact⟨_,w,q⟩)
 ·have c:(k+(f.toArray.size:Int)).toNat=j:=by rw[la (by omega) e] at a;rw[aR,<-b];exact ay a
  exact PySem.W.ki_setBack d (by omega) (by rw[aR,<-b];exact e) (by omega) (by rw[c];exact⟨_,w,q⟩)
theorem Nm(lo a:Option Int)(n:Nat):(gn lo a none n).1=((HT.sIx n 0 lo:Nat):Int)/\(gn lo a none n).2.1=((HT.sIx n n a:Nat):Int)/\(gn lo a none n).2.2=1:=by
 refine⟨?_,?_,rfl⟩
 ·cases lo with
  | none=>simp[gn,HT.sIx]
  | some i=>
   simp only[gn,HT.sIx,mK];by_cases h:i<0
   ·simp only[h,if_true]<;>omega
   ·simp only[h,if_false]<;>omega
 ·cases a with
  | none=>simp[gn,HT.sIx]
  | some i=>
   simp only[gn,HT.sIx,mK];by_cases h:i<0
   ·simp only[h,if_true]<;>omega
   ·simp only[h,if_false]<;>omega
theorem Od(a:List aE)(lo b:Option Int):slicePick a.toArray lo b none=((a.drop (HT.sIx a.length 0 lo)).take (HT.sIx a.length a.length b-HT.sIx a.length 0 lo)).toArray:=by
 obtain⟨e,c,d⟩:=Nm lo b a.toArray.size;unfold slicePick;rw[e,c,d];simp only[sliceRange_one,pick_run]<;>rfl
noncomputable def Zez(K:aD):V->Option Int->Option Int->Hp->VK->Prop:=λx lo hi H Q=>∃a xs,x = .ref a/\SqL K H a xs/\∀p,H p=none->Q (.ref p) (upd H p (.lst (Hu xs lo hi)))
theorem DT:SlR X (Zez X.K):=by intro o s n H x v l p lo e u Q I j hs pl g h;obtain⟨a,d,rfl,i,q⟩:=h;cases j;obtain⟨m,r,f,k⟩:=I.list i;have c:=r.length;refine⟨"list",_,slot_list_getitem.lookup,f.isList.typeIs,?_⟩;refine wpAny_getItem_list_slice f.isList hs pl g .none (by simp) ?_ (by rw[aR]<;>omega);rw[Od,<-c];refine⟨.ref s.heap.objs.size,_,I.laid (λb t q=>aG _ q) (aN _) ?_,rfl,q _ (I.hok.fresh (aN _))⟩;exact⟨aX (RJ d lo e) k,_,0,(r.drop (HT.sIx d.length 0 lo)).take (HT.sIx d.length d.length e-HT.sIx d.length 0 lo),ag _ rfl⟩
theorem Vu:Xr X (.type "list") (λx H Q=>∃p f,x=[.ref p]/\(SqL X.K H p f\/SqT X.K H p f)/\∀l,H l=none->Q (.ref l) (upd H l (.lst f))):=by
 intro z s y H x B Q I r h;obtain⟨p,f,rfl,m,q⟩:=h;obtain⟨u,rfl,A⟩:=TF r;cases A
 have i:∀(a:List aE),Vals f a->f.length<=sizeLine->∀(h':bH)(d:Nat),(∀b o',s.heap.get? b=aA o'->h'.get? b=aA o')->
   h'.get? s.heap.objs.size=aA { cls:=.type "list",dict:=none,data:=.seq a.toArray d,slots:=#[] }->EP X z y Q (.ref s.heap.objs.size) { s with heap:=h' }:=λa c j h' d k e=>
  ⟨.ref s.heap.objs.size,_,I.laid k (aN _) (show ObjOk X.prog X.w _ h' _ (.lst f) from⟨j,a,d,c,e⟩),rfl,q _ (I.hok.fresh (aN _))⟩
 rcases m with m | m
 ·obtain⟨a,c,pl,j⟩:=I.list m;have g:=c.length;obtain⟨o,v,w,n,t⟩:=pl.isList;exact call_list_seq p (.inl rfl) v w t (λh' d k e=>i a c j h' d k e) (by simp only[aR]<;>omega)
 ·obtain⟨a,c,pl,j⟩:=I.tuple m;have g:=c.length;obtain⟨o,v,w,n,t⟩:=pl;exact call_list_seq p (.inr rfl) v w t (λh' d k e=>i a c j h' d k e) (by simp only[aR]<;>omega)
theorem Zn:Xr X (.type "tuple") (λk H Q=>∃p a,k=[.ref p]/\((SqL X.K H p a/\∀l,H l=none->Q (.ref l) (upd H l (.tup a)))\/(SqT X.K H p a/\Q (.ref p) H))):=by
 intro w s v H k x Q I r h;obtain⟨p,a,rfl,h⟩:=h;obtain⟨u,rfl,n⟩:=TF r;cases n;rcases h with⟨d,q⟩ | ⟨d,q⟩
 ·obtain⟨g,c,pl,j⟩:=I.list d;have f:=c.length;refine call_tuple_list pl.isList (λh' t=>?_) (by simp only[aR]<;>omega);have i:=I.kept (t':=s.toks) t
  have m:=
   i.laid (t':=s.toks) (λb o e=>aG _ e) (aN _) (show ObjOk X.prog X.w _ _ _ (.tup a) from⟨⟨j,λo e=>Qq e⟩,g,c,mJ _ _⟩)
  exact⟨.ref h'.objs.size,_,m,rfl,q _ (i.hok.fresh (aN _))⟩
 ·obtain⟨g,c,pl,j⟩:=I.tuple d;exact call_tuple_same pl ⟨.ref p,H,I,rfl,q⟩
noncomputable def tyV(K:aD)(T:String)(x:V)(H:Hp):Prop:=match x with
 | .str _=>T = "str"
 | .int _=>T = "int"
 | .ref p=>(T = "list"/\∃xs,SqL K H p xs)\/(T = "tuple"/\∃o,K.lookup p=aA o/\o.cls = .type "tuple"/\o.dict=none)\/
   (T = "dict"/\((∃n6,H p=aA (.dK n6))\/∃n6,H p=aA (.dT n6)))\/(T = "set"/\∃S n,H p=aA (.set S n))\/(T = "tuple"/\∃xs,H p=aA (.tup xs))
 | _=>False
theorem AV{m:List (aH×cy)}{l:St}{H:Hp}{s:aI}{T:String}{x:V}{v:aE}(I:Inv X m l H s)(r:RelV x v)(ty:tyV X.K T x H) :
  s.TypeIs v T/\∀a,v = .ref a->∃ob,s.heap.get? a=aA ob/\ob.dict=none:=by
 cases x with
 | str z=>
  obtain⟨t,rfl⟩:=r;cases (ty);exact⟨typeIs_str s z t,λ_ e=>nomatch e⟩
 | int i=>
  obtain⟨t,rfl⟩:=r;cases (ty);exact⟨jn s i t,λ_ e=>nomatch e⟩
 | ref p=>
  cases r;rcases ty with⟨rfl,q,w⟩ | ⟨rfl,o,b,u,g⟩ | ⟨rfl,b⟩ | ⟨rfl,S,n,b⟩ | ⟨rfl,q,b⟩;rotate_left 4
  ·obtain⟨z,k,_,o,h,f,_⟩:=(I.hok p _ b);refine⟨⟨o,h,f⟩,λa e=>?_⟩;cases e;exact⟨o,h,z.2 o h⟩
  ·obtain⟨k,_,pl,_⟩:=I.list w;refine⟨pl.isList.typeIs,λa e=>?_⟩;cases e;obtain⟨o,n,e,c,g,_⟩:=pl;exact⟨o,e,g⟩
  ·refine⟨⟨o,I.kIn p o b,u⟩,λa e=>?_⟩;cases e;exact⟨o,I.kIn _ o b,g⟩
  ·have z:∃o,s.heap.get? p=aA o/\o.ExactDict:=by
    rcases b with⟨j,b⟩ | ⟨j,b⟩
    ·obtain⟨_,_,_,_,o,_,_,e,d,_⟩:=I.hok p _ b;exact⟨o,e,d⟩
    ·obtain⟨_,_,_,_,o,_,_,e,d,_⟩:=I.hok p _ b;exact⟨o,e,d⟩
   obtain⟨o,e,d⟩:=z;refine⟨⟨o,e,d.1⟩,λa f=>?_⟩;cases f;exact⟨o,e,d.2.1⟩
  ·obtain⟨o,_,_,_,e,d,_⟩:=I.hok p _ b;refine⟨⟨o,e,d.1⟩,λa f=>?_⟩;cases f;exact⟨o,e,d.2.1⟩
 | _=>exact cD ty
noncomputable def tBM(K:aD)(T:String)(r:V->List V->Hp->VK->Prop)(to:TE)(t:TA):TE:=λσ H Q=>to σ H λx H1=>tyV K T x H1/\t σ H1 λxs H2=>r x xs H2 Q
variable {o e:aq} {es:List aq} {to:TE} {t:TA} {name:a0} {apos n9:fD} {T id:String} {r:V->List V->Hp->VK->Prop}
theorem MY(A:PlainAttrs T)(d:Slot T name id)(g:typeOf (.builtin id)=pure (.type "method_descriptor"))(w:MtR X id r)(C:PE X o to)(n:PA X (e::es) t)
  (c:jU o name X.env (eval o X.env)=eval o X.env:=by rfl)
  (f:((dD n9 (aO (e::es) X.env)).all (λx=>!x.1)&&(backToKw n9 (mV [] X.env)).all (λx=>x.1.isSome)
   &&decide ((e::es).length+([]:List Keyword).length+(if([]:List Keyword).isEmpty then 0 else 1)<30))=aC:=by rfl)
  (b:(apos.endLine==n9.line)=aC:=by rfl) (hs:aO (e::es) X.env=(aB,eval e X.env)::aO es X.env:=by rfl) (a:(dD n9 (aO es X.env)).any (·.1)=aB:=by rfl) :
  PE X (.Call (.Attribute o name apos) (e::es) [] n9) (tBM X.K T r to t):=by
 intro j s i H Q I h;refine wpAny_Call_method_late c f b rfl (Ys (C j s i H _ I h) λv s1 ⟨x,z,k,m,ty,E⟩=>?_);obtain⟨F,u⟩:=AV k m ty;refine⟨T,id,A,d,g,F,u,?_⟩;have l:=n n9 j s1 i z _ k E;rw[hs] at l ⊢;refine jo (by show(aB || (dD n9 (aO es X.env)).any (·.1))=aB;rw[a]<;>rfl) (iU ?_);exact Ys l λD s2 ⟨vs,B,y,q,p⟩=>w j s2 i B x vs v D Q y m q p
end
noncomputable def MtM(X:Cx)(id:String)(r:V->List V->Hp->VK->Prop):Prop:=
 ∀(n5:List (aH×cy))(s:aI)(σ:St)(H:Hp)(x:V)(xs:List V)(v:aE)(us:List aE)(Q:VK),Inv X n5 σ H s->RelV x v->Vals xs us->r x xs H Q->
  ak (model X.prog X.w) X.A (call (.builtin id) (v::us)) (EP X n5 σ Q) X.xe s
theorem Vals.one:∀{x:V}{us:List aE},Vals [x] us->∃u,us=[u]/\RelV x u
 | _,_,.cons r .nil=>⟨_,rfl,r⟩
theorem Vals.two:∀{x y:V}{us:List aE},Vals [x,y] us->∃u v,us=[u,v]/\RelV x u/\RelV y v
 | _,_,_,.cons r (.cons q .nil)=>⟨_,_,rfl,r,q⟩
theorem Vals.dropLast{a:List V}{b:List aE}(h:Vals a b):Vals a.dropLast b.dropLast:=by
 induction h with
 | nil=>exact .nil
 | cons r t ih=>
  cases t with
  | nil=>exact .nil
  | cons q t'=>exact .cons r ih
theorem Vals.rep{a:List V}{b:List aE}(h:Vals a b):∀k:Nat,Vals (aY k a).flatten (aY k b).flatten
 | 0=>.nil
 | k+1=>by rw[eK,eK,gE,gE];exact Vals.append h (Vals.rep h k)
theorem Sv(a:List aE):∀(k:Nat)(acc:List aE),
  kz (λd c=>d++c) acc.toArray (aY k a.toArray)=(acc++(aY k a).flatten).toArray
 | 0,acc=>by simp
 | k+1,acc=>by
  have e:acc.toArray++a.toArray=(acc++a).toArray:=by simp
  have b:(acc++a)++(aY k a).flatten=acc++(aY (k+1) a).flatten:=by rw[eK,gE,hU]
  rw[<-b,<-Sv a k (acc++a),<-e,eK,List.foldl_cons]
section
variable {X:Cx} {n5:List (aH×cy)} {σ:St} {H:Hp} {s:aI} {l b:aH} {xs ys zs:List V}
theorem Inv.lset{b a:List aE}{n:Nat}{f:Array aE->Array aE}{t':Nat}(I:Inv X n5 σ H s)(c:H l=aA (.lst xs))
  (e:s.heap.get? l=aA { cls:=.type "list",data:=.seq b.toArray n }) (i:f b.toArray=a.toArray) (d:Vals ys a) (j:ys.length<=sizeLine) :
  Inv X n5 σ (upd H l (.lst ys)) { s with heap:=s.heap.update l (ky f),toks:=t' }:=by
 have q:=PySem.IsL.update e f;rw[i] at q;refine I.write (by rw[c];exact trivial) (.inl rfl) (λk u g h=>(bg s.heap (ky f) (bB g)).trans h) ⟨_,q⟩ ?_;exact⟨j,a,_,d,q⟩
theorem Inv.lnew{a:List aE}{t':Nat}(I:Inv X n5 σ H s)(b:Vals ys a)(c:ys.length<=sizeLine) :
  Inv X n5 σ (upd H s.heap.objs.size (.lst ys)) { s with heap:=s.heap.push { cls:=.type "list",data:=.seq a.toArray },toks:=t' }:=
 I.laid (λ_ _ q=>aG _ q) (aN _) ⟨c,a,0,b,ag _ rfl⟩
theorem Inv.fresh(I:Inv X n5 σ H s):H s.heap.objs.size=none:=I.hok.fresh (aN _)
theorem Inv.lstM(I:Inv X n5 σ H s)(b:H l=aA (.lst xs)):xs.length<=sizeLine/\∃(a:List aE) (n:Nat),Vals xs a/\xs.length=a.length/\s.heap.get? l=aA { cls:=.type "list",data:=.seq a.toArray n }:=by obtain⟨z,a,n,r,e⟩:=I.hok l _ b;exact⟨z,a,n,r,r.length,e⟩
theorem MZ{n:Nat}(h:n<=sizeLine):gX n=aB:=by exact decide_eq_false (by omega)
end
section
variable {X:Cx}
noncomputable def J0:V->List V->Hp->VK->Prop:=λx vs H Q=>∃l xs y,x = .ref l/\vs=[y]/\H l=aA (.lst xs)/\xs.length<sizeLine/\Q .non (upd H l (.lst (xs++[y])))
theorem Sw:MtM X "list.append" J0:=by intro j s i H x vs v o Q I d f h;obtain⟨l,m,y,rfl,rfl,a,k,q⟩:=h;cases d;obtain⟨u,rfl,c⟩:=f.one;obtain⟨z,b,n,r,g,e⟩:=I.lstM a;refine gj F.slot_list_append ⟨_,e,rfl⟩ F.entry_list_append (F.args_list_append_2 _ _) (PySem.list_append l b.toArray n u (by rw[aR];omega)) ⟨e,?_⟩;refine⟨.non,_,I.lset a e (by simp) (r.append (.cons c .nil)) ?_,rfl,q⟩;rw[bJ,fC];omega
noncomputable def DU:V->List V->Hp->VK->Prop:=λx vs H Q=>∃l b xs zs,x = .ref l/\vs=[.ref b]/\H l=aA (.lst xs)/\H b=aA (.lst zs)/\xs.length+zs.length<=sizeLine/\Q .non (upd H l (.lst (xs++zs)))
theorem mt_extend:MtM X "list.extend" DU:=by
 intro C s B H x vs v J Q I p t h;obtain⟨l,b,G,A,rfl,rfl,g,i,E,q⟩:=h;cases p;obtain⟨u,rfl,m⟩:=t.one;cases m;obtain⟨z,d,n,r,y,e⟩:=I.lstM g;obtain⟨D,a,o,k,w,j⟩:=I.lstM i;have f:d.toArray.size+a.toArray.size<=sizeLine:=by rw[aR,aR];omega
 have c:¬(!d.toArray.isEmpty&&gX (d.toArray.size+a.toArray.size))=aC:=by rw[MZ f,Bool.and_false];exact bT
 refine gj F.slot_list_extend ⟨_,e,rfl⟩ F.entry_list_extend (F.args_list_extend_2 _ _)
  (AutoSeq1.list_extend_list_list_0 l d.toArray n b a.toArray o c (by omega) (by omega)) ⟨e,j,?_⟩
 refine⟨.non,_,I.lset g e (by simp) (r.append k) ?_,rfl,q⟩;rw[bJ];omega
noncomputable def Ze3:R2:=λx y H Q=>∃l b xs zs,x = .ref l/\y = .ref b/\H l=aA (.lst xs)/\H b=aA (.lst zs)/\xs.length+zs.length<=sizeLine/\∀p,H p=none->Q (.ref p) (upd H p (.lst (xs++zs)))
theorem AW:TC X (eJ .Add) Ze3:=by
 intro w s t H x y v u Q I j d h;obtain⟨l,b,D,p,rfl,rfl,k,f,C,q⟩:=h;cases j;cases d;obtain⟨z,c,n,r,o,e⟩:=I.lstM k;obtain⟨B,a,A,i,m,g⟩:=I.lstM f;refine PySem.P.add_list e g ?_ (by rw[aR,aR];omega);have ea:c.toArray++a.toArray=(c++a).toArray:=by simp
 rw[ea];exact⟨.ref _,_,I.lnew (r.append i) (by rw[bJ];omega),rfl,q _ I.fresh⟩
noncomputable def Ze4:R2:=λx y H Q=>∃l k xs,x = .ref l/\y = .int k/\H l=aA (.lst xs)/\-(2^63)<=k/\k<2^63/\xs.length*k.toNat<=sizeLine/\
 ∀p,H p=none->Q (.ref p) (upd H p (.lst (aY k.toNat xs).flatten))
theorem Nn{b:Type}(a:List b)(k:Nat):(aY k a).flatten.length=k*a.length:=by simp
theorem AX:TC X (eJ .Mult) Ze4:=by
 intro M s L H x y v u Q I C o h;obtain⟨l,k,N,rfl,rfl,E,J,w,j,q⟩:=h;cases C;obtain⟨t,rfl⟩:=o;obtain⟨z,b,n,r,p,e⟩:=I.lstM E;have d:b.toArray.size*k.toNat<=sizeLine:=by rw[aR,<-p];exact j
 have f:¬b.toArray.size*k.toNat>(2^63-1)/8:=by
  have:(sizeLine:Nat)<=(2^63-1)/8:=by decide
  omega
 have i:¬(!Builtin.List.listFitsIndex k)=aC:=by rw[fitsIndex_both J w];exact bT
 have c:¬gX (b.toArray.size*k.toNat)=aC:=by rw[MZ d];exact bT
 have g:kz (λD B=>D++B) #[] (aY (if b.toArray.isEmpty=aC then 0 else k.toNat) b.toArray)=(aY k.toNat b).flatten.toArray:=by
  have G:=λm=>by have:=Sv b m [];rw[List.nil_append] at this;exact this
  rw[G]
  cases b with
  | nil=>simp
  | cons a r'=>rw[ng (by simp)]
 refine jH rfl ⟨_,e,rfl⟩ (λA=>jn A k t) noFill_list_mul F.fills_int_mul F.slot_int_rmul repeat_list F.slot_int_index.lookup
  (gj F.slot_int_rmul (jn s k t) F.entry_int_rmul (F.args_int_rmul_2 _ _) (int___rmul___int_list k t l b.toArray n)
   ⟨e,rfl,⟨_,e,rfl⟩,gj F.slot_list_mul ⟨_,e,rfl⟩ F.entry_list_mul (F.args_list_mul_2 _ _) (AutoListH.list___mul___list_int_3 l b.toArray n k t i f c) ⟨e,?_⟩⟩)
 rw[g];exact⟨.ref _,_,I.lnew (r.rep k.toNat) (by rw[Nn,fL];exact j),rfl,q _ I.fresh⟩
end
end L2
namespace Att
open PySem PySem.W PySem.Calls PyProof.Rows
theorem RP{P:Params}{h:bH}:∀(c:List Int)(vs:List aE),WellAll P h vs (c.map mL)->IntsAre vs c:=by
 intro c
 induction c with
 | nil=>
  intro vs w;cases w;exact .nil
 | cons n c ih=>
  intro vs w
  cases w with
  | cons a b=>
   cases a;exact .cons _ _ (ih _ b)
theorem script_of{l:OpenLaw}{n:Nat}(s:l.most=aA n){P:Params}{h:bH}{b:List WData}{e:List aE}
  (f:l.row.toRowW.claim.pre b=aC) (j:WellAll P h e b) :
  ∃a vs c,e=[cJ a]/\b=[WData.list (c.map mL)]/\h.get? a=aA { cls:=.type "list",data:=.seq vs.toArray }/\IntsAre vs c/\c.length<=n:=by
 have k:=(pre_splitW f).1;have q:=(pre_splitW f).2;obtain⟨d,r,rfl,t,p⟩:=hasAllW_cons k;obtain rfl:=hasAllW_nil p;obtain⟨u,rfl,o⟩:=hasW_list t;obtain⟨c,rfl⟩:=items_int o
 have g:c.length<=n:=by
  have i:(WTm.not (.lt (.lit (.int (n:Int))) (.len (.arg 0)))).holds [] { args:=[.list (c.map .int)] }=aC:=by have i:=(holds_andW q).1;rw[s] at i;exact i
  have m:=condW_of i (w_not (w_lt w_lit (w_len_list (w_arg rfl))))
  first
   | (rw[decide_eq_true q'] at m;exact absurd m rfl)
   | (simp at m;omega)
 cases j with
 | cons w1 w2=>
  cases w2
  cases w1 with
  | list ho hall=>exact⟨_,_,c,rfl,rfl,ho,RP c _ hall,g⟩
theorem post_true(l:OpenLaw)(a:List WData):l.row.toRowW.claim.post a (.bool aC) a=aC:=
 postW_of
  (show WShape.has [] (.bool aC) .bool=aC by first | rfl | decide | simp[WShape.arms])
  (w_eq_bool (w_res rfl) w_lit) rfl
end Att
namespace L2
open PySem PySem.Spec PyProof.Rows
structure M2(X:Cx)(o:aq)(m:a0)(apos:fD)(e f:aq)(n9:fD):Prop where
 base:jU o m X.env (eval o X.env)=eval o X.env
 few:((dD n9 (aO [e,f] X.env)).all (λx=>!x.1)&&(backToKw n9 (mV [] X.env)).all (λx=>x.1.isSome)
  &&decide (([e,f]:List aq).length+([]:List Keyword).length+(if([]:List Keyword).isEmpty then 0 else 1)<30))=aC
 line:(apos.endLine==n9.line)=aC
 trees:dD n9 (aO [e,f] X.env)=[(aB,eval e X.env),(aB,eval f X.env)]
theorem OH:∀{vs:List aE}{ns:List Int},IntsAre vs ns->Vals (ns.map V.int) vs
 | _,_,.nil=>.nil
 | _,_,.cons n t h=>.cons ⟨t,rfl⟩ (OH h)
noncomputable def AY(H:Hp):Prop:=∀b,H b=none\/∃o xs,H b=aA (.frz o (.lst xs))
theorem law_call{P:au}{w:bc}{K:aD}{J U:a0->Option aE}{CX:Dv}{k:Nat}{S a:aH}{Z:eU}{x:a0}{sp:Sp}{f:aI}{vs:List aE}{D:List Int}
  (y:∀(q:a0)(c:aH),Hi q=aC->cZ K (.ref c) q=aC->False) (KX:K.In f.heap) (M:f.heap.Ns az J) (i:f.heap.Ns kj U) (Y:∀x:a0,x≠"__name__"->U x=dN x) (B:f.heap.NoLimit) (hg:f.gens = #[])
  (N:f.heap.get? a=aA { cls:=.type "list",data:=.seq vs.toArray }) (hi:IntsAre vs D) (hl:D.length<=sizeLine) (hr:Room k lh)
  (F:∀base:bH,K.In base->base.Ns az J->Te P w K J base CX k S Z [x] sp) (t:∀(s:aI)(u:aE),k9 s Z ⟨[u],[]⟩ [(x,u)])
  (T:∀H:Hp,AY H->SqL K H a (D.map V.int)->sp [.ref a] H (λv _=>v = .bl aC) λ_ _ _=>False)
  (X:∀H e j,CX [] H f (λ_ _ _=>False) e j->False) :
  gO (model P w) lh (.call (.ref S) ⟨[.ref a],[]⟩) (λr j=>r = .ok (.ret (.bool aC))/\OldK f.heap j.heap/\j.os=f.os/\jO j.gens) f:=by
 have rv:=OH hi;have L:=hi.length
 -- from an abstract heap in which nothing but the script may be tracked
 have p:∀H:Hp,AY H->SqL K H a (D.map V.int)->HOk P w H f.heap->(∀b,H b≠none->b=a)->(H a≠none->K.lookup a=none)->
   gO (model P w) lh (.call (.ref S) ⟨[.ref a],[]⟩) (λr j=>r = .ok (.ret (.bool aC))/\OldK f.heap j.heap/\j.os=f.os/\jO j.gens) f:=by
  intro H hO hS G hA hK;have g:∀{b:aH}{o:cy},f.heap.get? b=aA o->H b=none->(Nf f.heap H).get? b=aA o:=λe n=>G3 e n
  have W:∀{b:aH}{o:cy}{es:Array DictEntry}{ep:Nat},f.heap.get? b=aA o->o.data = .dict es ep->H b=none:=λ{b o es ep} e d=>by
   cases q:H b with
   | none=>rfl
   | some u=>
    have R:b=a:=hA b (by rw[q];simp);subst R;rw[N] at e;cases e;have d':Data.seq vs.toArray _=Data.dict es ep:=d;cases d'
  have l:∀{b:aH}{m:a0->Option aE},f.heap.Ns b m->(Nf f.heap H).Ns b m:=λ{b m} ⟨o,es,ep,e,d,r⟩=>⟨o,es,ep,g e (W e d),d,r⟩
  have A:K.In (Nf f.heap H):=λb o e=>g (KX b o e) (by
   cases q:H b with
   | none=>rfl
   | some u=>
    have R:b=a:=hA b (by rw[q];simp);subst R;rw[hK (by rw[q];simp)] at e;cases e)
  have hM:Mod K J (Nf f.heap H):=⟨A,l M,⟨U,l i,Y⟩,let⟨mc,Q,O⟩:=B;⟨mc,l Q,O⟩⟩;have e0:Env0 P w K J (Nf f.heap H) lh [] f H:=⟨rfl,hM,λb o e=>Dz e,Nat.le_of_eq (Hj _ _),trivial,λb i=>absurd (show b∈([]:List aH) from i) (by simp),λq c Q O=>(y q c Q O).elim,G,.of_eq hg⟩;refine gx ((F _ A (l M)).run lh [] f H ⟨[.ref a],[]⟩ [.ref a] [.ref a] _ _ hr e0 (t f (.ref a)) (.cons rfl .nil) (T H hO hS)) λr j h=>?_
  cases r with
  | error e=>exact(X H e j h).elim
  | ok fl=>
   cases fl with
   | next=>exact cD h
   | brk=>exact cD h
   | cont=>exact cD h
   | ret u=>
    obtain⟨v,H',os,E,un,I,r',q⟩:=h;have q':v = .bl aC:=q;subst q';obtain rfl:u=aE.bool aC:=r';refine⟨rfl,OldK.of_keep λb o e=>?_,os,E⟩
    cases q:H b with
    | none=>exact un.keep b o e q (by intro z;exact absurd (show b∈([]:List aH) from z) (by simp)) (by simp)
    | some u=>
     rcases hO b with z | ⟨ob,xs,z⟩
     ·rw[q] at z;cases z
     ·have z2:=un.frzs b ob _ z;obtain⟨e1,_⟩:=G b _ z;obtain⟨e2,_⟩:=I b _ z2;rw[e] at e1;cases e1;exact e2
 cases hk:K.lookup a with
 | some o=>
  -- the script is one of the module's own objects
  have e:=KX a o hk;rw[N] at e;cases e;refine p (λ_=>none) (λ_=>.inl rfl) (.inr ⟨_,vs.toArray,_,hk,rfl,rfl,rfl,by rw[aR,L];exact hl,by simpa using rv⟩) (λb u z=>by have C:(none:Option HO)=aA u:=z;cases C) (λb z=>absurd rfl z) λz=>absurd rfl z
 | none=>
  refine p (λb=>if b=a then aA (.frz { cls:=.type "list",data:=.seq vs.toArray } (.lst (D.map V.int))) else none) (λb=>?_) (.inl (.inr ⟨{ cls:=.type "list",data:=.seq vs.toArray },nZ rfl⟩)) (λb u z=>?_) (λb z=>?_) λ_=>hk
  ·by_cases i:b=a
   ·exact .inr ⟨_,_,nZ i⟩
   ·exact .inl (ng i)
  ·by_cases i:b=a
   ·have C:=(nZ i).symm.trans z;cases C;subst i;exact⟨N,by rw[aP];exact hl,vs,_,rv,N⟩
   ·have C:=(ng i).symm.trans z;cases C
  ·by_cases i:b=a
   ·exact i
   ·exact absurd (ng i) z
noncomputable def YE(s:bS):mI:=match s with
 | .FunctionDef _ a _ _ _ _ _ _ _ _=>a
 | _=>{ posonlyargs:=[],args:=[],vararg:=none,kwonlyargs:=[],kw_defaults:=[],kwarg:=none,defaults:=[] }
noncomputable def ZY(s:bS):List bS:=match s with
 | .FunctionDef _ _ b _ _ _ _ _ _ _=>b
 | _=>[]
noncomputable def Ze(s:bS):du:=match s with
 | .FunctionDef _ _ _ _ _ _ sc _ _ _=>sc
 | _=>{ kind:=.function,names:=[],isGenerator:=aB,isCoroutine:=aB }
abbrev OI:Dv:=λ_ _ _ _ _ _=>False
abbrev E0:XK:=λ_ _ _=>False
theorem Zcr{X:Cx}:Kr OI X E0:=λ_ _ _ _ _ _ _ h=>h.elim
structure Fun(K:aD)(x qual:a0)(st:bS)(f:aH)(fd:eU):Prop where
 ex:∃(oc:aE) (od:Option aH) (kV doc pm:aE) (an:Option aH) (cdv ct:aE) (osl:Array (Option aE)),
  fd=cC x qual (YE st) (ZY st) (Ze st) .none kV doc pm an cdv ct/\K.lookup f=aA ⟨oc,od,.func fd,osl⟩/\cZ K cdv qual=aC
 kp:eV K (.ref f)=aC
section
variable {P:au} {w:bc} {K:aD} {mg:a0->Option aE} {base:bH}
theorem Fun.ok{x b:a0}{st:bS}{f:aH}{j:eU}{N g:List a0}{k:Nat}{sp:Sp}(F:Fun K x b st f j)(S:Zk N g (Ze st))(len:∀vs H Q E,sp vs H Q E->vs.length=g.length)
  (d:∀(c:aE)(A:bQ)(a:List jN)(s:aI)(H:Hp)(vs:List V)(Q:VK)(E:XK),Room k (A.deeper (gi b (Ze st) s.heap.objs.size f c))->sp vs H Q E->
   ∃t,PSs (Tf OI P w K mg base N b (Ze st) f c A a s H E).nox (ZY st) t/\t { nx:=λ_ n=>Q .non n,rt:=Q } (start N vs) H):Te P w K mg base OI (k+1) f j g sp:=by
 obtain⟨r,u,kV,o,y,v,c,ct,l,rfl,p,i⟩:=F.ex;refine YZ p i S len λA a s H vs Q E m e=>?_;obtain⟨t,h,q⟩:=d c A a s H vs Q E m e;exact⟨t,h.nox,q⟩
theorem Fun.binds{x a:a0}{st:bS}{f:aH}{i:eU}{g:List a0}(F:Fun K x a st f i)
  (h:∀(kV c e:aE)(d:Option aH)(b ct:aE)(us:List aE),us.length=g.length->gv (cC x a (YE st) (ZY st) (Ze st) .none kV c e d b ct) ⟨us,[]⟩=pure (g.zip us)):Binds K i g []:=by
 obtain⟨l,m,kV,c,e,d,b,ct,j,rfl,n,k⟩:=F.ex;exact .all (h kV c e d b ct)
theorem Fi{x a:a0}{st:bS}{f:aH}{j:aE}{i g:Option aH}{e:Array (Option aE)}{kV d h b ct:aE}(l:K.lookup f=aA ⟨j,i,.func (cC x a (YE st) (ZY st) (Ze st) .none kV d h g b ct),e⟩)
  (c:cZ K b a=aC) (k:eV K (.ref f)=aC):Fun K x a st f (cC x a (YE st) (ZY st) (Ze st) .none kV d h g b ct):=⟨⟨j,i,kV,d,h,g,b,ct,e,rfl,l,c⟩,k⟩
end
section
variable {X:Cx}
theorem pv(i:Nat){x:a0}{pos:fD}(c:X.N[i]?=aA x:=by rfl)(d:Vis X.env.scope x:=by first | exact lA rfl | exact kK (lA rfl) | exact kK (kK rfl))(b:(x==("__debug__" : a0))=aB:=by decide)
  (a:(x==("__classdict__" : a0))=aB:=by decide):PE X (.Name x pos) (Tx i):=Am c d b a
end
theorem Zcs{A B:Prop}(h:B):if aB=aC then A else B:=by rw[ng bT];exact h
theorem Zct{A B:Prop}(h:A):if aC=aC then A else B:=by rw[nZ rfl];exact h
noncomputable def Same(H H':Hp):Prop:=∀b o,H b=aA o->H' b=aA o
theorem Same.refl(H:Hp):Same H H:=λ_ _ h=>h
theorem Same.trans{H d e:Hp}(a:Same H d)(b:Same d e):Same H e:=λc o h=>b c o (a c o h)
theorem Same.free{H a:Hp}(e:Same H a){l:aH}(h:a l=nR):H l=nR:=by
 cases q:H l with
 | none=>rfl
 | some o=>
  rw[e l o q] at h;cases h
end L2
set_option maxHeartbeats 4000000
namespace L2
open PySem PySem.Spec PyProof.Rows
noncomputable def XQ(cells:List (a0×aH)):List (a0×eY)->List (a0×aH)->List (a0×aH)
 | [],acc=>acc
 | (n,k)::r,acc=>XQ cells r (if(k==b0)=aC then(n,(cells.lookup n).getD 0)::acc else acc)
theorem U7{env:jN}:∀(names:List (a0×eY))(acc:List (a0×aH)),(∀y∈names,y.2 = .free->(env.cells.lookup y.1).isSome=aC)->
  (forIn (m:=Sem) names acc λ(x:a0×eY) (cs:List (a0×aH))=>
   match x with
   | (name,kind)=>if(kind==b0)=aC then do
     let c <-cellOf env name
     pure (fm ((name,c)::cs))
    else pure (fm cs))=pure (XQ env.cells names acc)
 | [],acc,_=>rfl
 | (n,k)::r,acc,h=>by
  rw[List.forIn_cons];have d:=λa=>U7 r a λy f=>h y (aW _ f)
  cases hk:(k==b0) with
  | true=>
   have hs:=h (n,k) af (by simpa using hk);obtain⟨c,b⟩:=cE.mp hs;have b:env.cells.lookup n=aA c:=b;have e:cellOf env n=pure c:=by unfold cellOf;rw[b]
   dsimp only
   rw[hk,nZ rfl,e];refine kL (d ((n,c)::acc)) ?_;show _=pure (XQ env.cells r (if(k==b0)=aC then(n,(env.cells.lookup n).getD 0)::acc else acc));rw[nZ hk,b];rfl
  | false=>
   dsimp only
   rw[hk,ng bT];refine kL (d acc) ?_;show _=pure (XQ env.cells r (if(k==b0)=aC then(n,(env.cells.lookup n).getD 0)::acc else acc));rw[ng (by rw[hk];exact bT)]
theorem W5{a:du}{env:jN}(h:∀y∈a.names,y.2 = .free->(env.cells.lookup y.1).isSome=aC):closureFor a env=pure (XQ env.cells a.names []):=by
 have e:=U7 a.names [] h;unfold closureFor
 dsimp only
 rw[e];rfl
theorem Vf{cells:List (a0×aH)}{x:a0}{c:aH}:∀(names:List (a0×eY))(acc:List (a0×aH)),(∀y∈names,y.2 = .free->(cells.lookup y.1).isSome=aC)->(acc.lookup x=aA c->cells.lookup x=aA c)->
  (XQ cells names acc).lookup x=aA c->cells.lookup x=aA c
 | [],_,_,h,e=>h e
 | (n,k)::r,acc,hf,h,e=>by
  refine Vf r _ (λy g=>hf y (aW _ g)) ?_ e;intro q;by_cases f:(k==b0)=aC
  ·rw[nZ f,b5] at q
   cases hx:x==n with
   | true=>
    rw[hx] at q;have b:x=n:=by simpa using hx
    obtain⟨d,a⟩:=cE.mp (hf (n,k) af (by simpa using f));have a:cells.lookup n=aA d:=a;rw[a] at q;rw[b,a];exact q
   | false=>rw[hx] at q;exact h q
  ·rw[ng f] at q;exact h q
theorem Qw{cells:List (a0×aH)}{x:a0}:∀(names:List (a0×eY))(acc:List (a0×aH)),(acc.lookup x).isSome=aC->((XQ cells names acc).lookup x).isSome=aC
 | [],_,h=>h
 | (n,k)::r,acc,h=>by
  refine Qw r _ ?_;split
  ·rw[b5];split<;>simp_all
  ·exact h
theorem Vg{cells:List (a0×aH)}{x:a0}:∀(names:List (a0×eY))(acc:List (a0×aH)),(x,b0)∈names->((XQ cells names acc).lookup x).isSome=aC
 | (n,k)::r,acc,h=>by
  rcases aa.mp h with e | h
  ·cases e;refine Qw r _ ?_;rw[nZ (by decide),b5];simp
  ·exact Vg r _ h
structure CompScope(N:List a0)(around scope:du)(own fr:List a0)(ix:List Nat):Prop where
 kind:scope.kind = .function
 nocell:∀y∈scope.names,y.2≠.cell
 names:∀y∈scope.names,y.2 = .local->scope.names.lookup y.1=aA .local
 frees:∀y∈scope.names,y.2 = .free->(around.names.lookup y.1=aA .cell\/around.names.lookup y.1=aA .free)
 slots:fr.map aA=ix.map (λi=>N[i]?)
 outs:∀x∈fr,(x,b0)∈scope.names
 apart:∀x∈fr,scope.names.lookup x≠aA .local
noncomputable def ZH(X:Cx)(N':List a0)(scope:du)(cl:List (a0×aH))(C:aH)(s:aI)(H:Hp)(ex:List aH):Cx:=
 { X with N:=N',s₀:=s,H₀:=H,env:=kM scope cl C X.env,outer:=X.stack,ex:=ex,fn:=λ_=>aB,pn:=[],xe:=λ_ _=>False }
noncomputable def ZW(n:Nat)(ix:List Nat)(σ:St):St:=aY n none++ix.map (λi=>(σ[i]?).join)
theorem YQ{env:jN}{x:a0}:∀{names:List (a0×eY)}{k:eY},names.lookup x=aA k->
  (names.map λ(n,k)=>if(k==b0&&env.scope.kind==.function&&env.kindOf n==aA .cell) then(n,cG) else(n,k)).lookup x =
   aA (if(k==b0&&env.scope.kind==.function&&env.kindOf x==aA .cell)=aC then cG else k)
 | [],_,h=>by simp at h
 | (n,k')::r,k,h=>by
  show List.lookup x ((if(k'==b0&&env.scope.kind==.function&&env.kindOf n==aA .cell)=aC then(n,cG) else(n,k'))::_)=_
  cases hx:x==n with
  | true=>
   simp only[b5,hx] at h;cases h;have e:x=n:=by simpa using hx
   subst e;split
   ·simp[b5]
   ·simp[b5]
  | false=>
   simp only[b5,hx] at h;split
   ·simp only[b5,hx];exact YQ h
   ·simp only[b5,hx];exact YQ h
theorem Wl{env:jN}{x:a0}:∀{names:List (a0×eY)}{k':eY},
  (names.map λ(n,k)=>if(k==b0&&env.scope.kind==.function&&env.kindOf n==aA .cell) then(n,cG) else(n,k)).lookup x=aA k'->∃k,names.lookup x=aA k
 | [],_,h=>by simp at h
 | (n,k0)::r,k',h=>by
  have h:List.lookup x ((if(k0==b0&&env.scope.kind==.function&&env.kindOf n==aA .cell)=aC then(n,cG) else(n,k0))::_)=aA k':=h
  cases hx:x==n with
  | true=>exact⟨k0,by simp[b5,hx]⟩
  | false=>
   have:∃k,r.lookup x=aA k:=by
    apply Wl (env:=env) (k':=k');split at h<;>simpa [b5,hx] using h
   obtain⟨k,e⟩:=this;exact⟨k,by simp[b5,hx,e]⟩
section
variable {X:Cx} {n5:List (aH×cy)} {σ:St} {H:Hp} {s:aI} {own fr:List a0} {ix:List Nat} {scope:du}
theorem CompScope.clos(S:CompScope X.N X.env.scope scope own fr ix)(I:Inv X n5 σ H s):∀y∈scope.names,y.2 = .free->(X.env.cells.lookup y.1).isSome=aC:=λy a b=>by obtain⟨c,e⟩:=I.ok.has y.1 (S.frees y a b);rw[e];rfl
end
theorem Np{prog:au}{w:bc}{A:bQ}{R:mq->aI->Prop}{s:aI}{C a z:aq}{D:List aq}{o:du}{pos:fD}{B y:aE}{env:jN}(I:Nat->aI->Prop)
  (turn:∀n s,I n s->ak (model prog w) A (nM B) (λr b=>match r with
   | none=>R (.ok .next) b
   | some v=>ak (model prog w) A (jy a B v) (λ_ g=>ak (model prog w) A (assign a env v) (λ_ l=>
     ak (model prog w) A (forIn D aC λc r=>if r=aC then do let ok <-mi c env (eval c env);pure (fm ok) else pure (fm r)) (λok d=>
      if ok=aC then ak (model prog w) A (eval C env) (λx k=>
       ak (model prog w) A (call (.builtin "list.append") [y,x]) (λ_ i=>∃m,m<n/\I m i) (ka (model prog w) A env λe f=>R (.error e) f) k) (ka (model prog w) A env λe f=>R (.error e) f) d
      else ∃m,m<n/\I m d) (ka (model prog w) A env λe f=>R (.error e) f) l) (ka (model prog w) A env λe f=>R (.error e) f) g) (ka (model prog w) A env λe f=>R (.error e) f) b) (ka (model prog w) A env λe f=>R (.error e) f) s)
  (n:Nat) (h:I n s) :
  gO (model prog w) A (.compLoop (.ListComp C [⟨a,z,D,0⟩] o pos) 0 B y env) R s:=by
 refine codeAny_loop rfl I (λn s E=>?_) n h;refine wpAny_noted ?_;refine aF (gV (aF (b9 (turn n s E) (λr b h₁=>?_) λ_ _ h'=>h')))
 cases r with
 | none=>exact a9 h₁
 | some v=>
  refine aF (b9 h₁ (λ_ g p=>?_) λ_ _ h'=>h');refine aF (b9 p (λ_ l q=>aF (b9 q (λok d j=>?_) λ_ _ h'=>h')) λ_ _ h'=>h')
  cases ok with
  | false=>exact a9 ⟨rfl,j⟩
  | true=>
   exact aF (aF (b9 j (λx k t=>aF (b9 t (λ_ i u=>a9 (a9 ⟨rfl,u⟩)) λ_ _ h'=>h')) λ_ _ h'=>h'))
noncomputable def Kv(X:Cx)(nV:List aq)(t:TT):Prop:=
 ∀(n5:List (aH×cy))(s:aI)(σ:St)(H:Hp)(Q:Bool->Hp->Prop),Inv X n5 σ H s->t σ H Q->
  ak (model X.prog X.w) X.A (forIn nV aC λc r=>if r=aC then do let ok <-mi c X.env (eval c X.env);pure (fm ok) else pure (fm r)) (TP X n5 σ Q) X.xe s
noncomputable def Zcu:TT:=λ_ H Q=>Q aC H
theorem DV{X:Cx}:Kv X [] Zcu:=λ_ _ _ H _ I h=>wpAny_tests_nil ⟨H,I,h⟩
theorem DW{X:Cx}{c:aq}{t:TT}(h:PT X c t):Kv X [c] t:=λb s a H Q I d=>wpAny_tests_one (h b s a H Q I d)
noncomputable def Zcv(n:Nat)(ix:List Nat)(g:TG)(tt:TT)(te:TE)(σ:St)(Q:VK)(J:It)(H1:Hp):Prop:=
 ∃W:Nat->Nat->List V->Hp->Prop,(∃m,W 0 m [] H1)/\∀i m ys H,W i m ys H->ys.length<=sizeLine/\
  ((J.stop i H/\∀p,H p=none->Q (.ref p) (upd H p (.lst ys)))\/
   (J.go i H/\∃N:List V->Hp->Prop,(∀ys' H',N ys' H'->∃m',m'<m/\W (i+1) m' ys' H')/\
    ∀x H',J.yld i H x H'->g x (ZW n ix σ) H' λσ2 H2=>σ2.drop n=(ZW n ix σ).drop n/\tt σ2 H2 λb H3=>if b=aC then te σ2 H3 λy H4=>N (ys++[y]) H4 else N ys H3))
noncomputable def Qx(n:Nat)(ix:List Nat)(wi:TI)(g:TG)(tt:TT)(te:TE):TE:=λσ H Q=>wi σ H λJ H1=>Zcv n ix g tt te σ Q J H1
theorem Hv{n:Nat}{ix:List Nat}{c a:St}(d:a.drop n=(ZW n ix c).drop n):∀(i:Nat) v,(ZW n ix c)[i]?=aA (aA v)->a[i]?=aA (aA v):=λi v e=>by
 by_cases b:i<n
 ·unfold ZW at e;rw[ao (by simpa using b),bu] at e;rw[nZ b] at e;cases e
 ·have q:=congrArg (λl=>l[i-n]?) d;simp only[eZ] at q;rw[show n+(i-n)=i by omega] at q;rw[q];exact e
section
variable {X:Cx} {tg nX iter:aq} {nV:List aq} {scope:du} {pos:fD} {own fr:List a0} {ix:List Nat} {wi:TI} {g:TG} {tt:TT} {te:TE}
theorem Fj{Z:List (aH×cy)}{B:St}{G:Hp}{s2:aI}{D:List aH}{h₁:bH}{tk:Nat}{C:aH}(S:CompScope X.N X.env.scope scope own fr ix)(d:Inv X Z B G s2)(I:∀b∈D,Vr X Z G b)(R:∀b∈D,b<s2.heap.objs.size)
  (U:s2.heap.objs.size<=C) (P:h₁.Ns C λ_=>none) (s:∀b o,s2.heap.get? b=aA o->h₁.get? b=aA o) :
  Inv (ZH X (own++fr) scope (XQ X.env.cells scope.names []) C s2 G D) [] (ZW own.length ix B) G { s2 with heap:=h₁,toks:=tk }:=by
 have cs:=S.clos d;have sub:∀x c,(XQ X.env.cells scope.names []).lookup x=aA c->X.env.cells.lookup x=aA c:=λx c e=>Vf scope.names [] cs (λh=>by simp at h) e;have O:=d.stkSub
 have N:(ZH X (own++fr) scope (XQ X.env.cells scope.names []) C s2 G D).Ok:=by
  refine⟨d.ok.mod,S.kind,d.ok.glob,d.ok.blt,U,λx y c t f=>d.ok.inj x y c (sub x c t) (sub y c f),λx hx=>?_,λx c h _=>?_,d.ok.hd,d.ok.frames,.inl rfl,λb A=>⟨?_,λx c e=>?_⟩,d.bs,?_,λb o e A=>?_,λb A z=>?_,d.stack,d.stkFree,d.ok.tab.un d.base,λ_ z=>absurd rfl z⟩
  ·-- the cells of the block's free names
   have M:(x,b0)∈scope.names:=by
    have:∃k',(relabel scope X.env).names.lookup x=aA k'/\(k' = .cell\/k' = .free):=by
     rcases hx with h | h
     ·exact⟨_,h,.inl rfl⟩
     ·exact⟨_,h,.inr rfl⟩
    obtain⟨k',e,W⟩:=this;obtain⟨k,F⟩:=Wl e;have T:=YQ (env:=X.env) F;have e:(scope.names.map λ(n,k)=>if(k==b0&&X.env.scope.kind==.function&&X.env.kindOf n==aA .cell) then(n,cG) else(n,k)).lookup x=aA k':=e;rw[T] at e;have m:=dW F
    cases k with
    | free=>exact m
    | cell=>exact absurd rfl (S.nocell _ m)
    | _=>simp at e;subst e;rcases W with z | z<;>cases z
   exact cE.mp (Vg _ _ M)
  ·cases h
  ·-- D differs from the frame
   exact ar (aV (R b A) U)
  ·exact(I b A).2.2.2.2.1 x c (sub x c e)
  ·exact aX d.ok.bsz d.sz
  ·rcases(I b A).2.2.2.1 with z | z
   ·exact d.ok.noex b o e z
   ·exact absurd (aV (aQ (d.ok.bs b o e).1) z) (cK _)
  ·rcases aa.mp (O b z) with e | e
   ·exact(I b A).2.1 e
   ·exact(I b A).2.2.1 e
 have sl:fr.length=ix.length:=by simpa using congrArg iT S.slots
 refine⟨N,rfl,d.bare,Un.kept s,⟨_,P,λi x v t f g=>?_⟩,λx c e=>?_,d.hok.fresh U,λx c e=>d.freeC x c (sub x c e),λp hp=>absurd (show p∈([]:List (aH×cy)) from hp) (by simp),d.hok.kept s,?_⟩
 ·-- a name of the def around
  have t:(own++fr)[i]?=aA x:=t;have H:¬i<own.length:=λH=>by unfold ZW at f;rw[ao (by simpa using H),bu,nZ H] at f;cases f
  rw[bU (by omega)] at t;unfold ZW at f;rw[bU (by simpa using H),dY,aZ] at f
  cases ej:ix[i-own.length]? with
  | none=>rw[ej] at f;cases f
  | some j=>
   rw[ej] at f;have f:(B[j]?).join=aA v:=by simpa using f
   have f:B[j]?=aA (aA v):=by
    cases q:B[j]? with
    | none=>rw[q] at f;cases f
    | some z=>rw[q] at f;exact congrArg aA f
   have hN:X.N[j]?=aA x:=by have q:=congrArg (λl=>l[i-own.length]?) S.slots;simp only[aZ,t,ej] at q;exact(ay q).symm
   have hm:=S.outs x (c9 t);have Y:=S.frees _ hm rfl;obtain⟨m,hn,hl⟩:=d.loc;obtain⟨u,r,l⟩:=hl j x v hN f (by rcases Y with k | k;exact .inr (.inl k);exact .inr (.inr k));refine⟨u,r,?_⟩;rcases l with⟨k,_⟩ | ⟨_,c,hc,w⟩
   ·have k:X.env.scope.names.lookup x=aA .local:=k;rcases Y with q | q<;>rw[k] at q<;>cases q
   ·obtain⟨c',E⟩:=cE.mp (Vg _ [] hm);have ec:=sub x c' E;rw[hc] at ec;cases ec;refine .inr ⟨?_,c,E,?_⟩
    ·have g:=g;rcases g with g | g
     ·obtain⟨k0,F⟩:=Wl g;have T:=YQ (env:=X.env) F;have g:(scope.names.map λ(n,k)=>if(k==b0&&X.env.scope.kind==.function&&X.env.kindOf n==aA .cell) then(n,cG) else(n,k)).lookup x=aA .local:=g;rw[T] at g
      have J:k0 = .local:=by
       cases k0<;>simp at g ⊢
       split at g<;>cases g
      subst J;exact absurd F (S.apart x (c9 t))
     ·exact g
    ·obtain⟨o,Q,L⟩:=w;exact⟨o,s _ _ Q,L⟩
 ·obtain⟨v,o,Q,L⟩:=d.cell x c (sub x c e);exact⟨v,o,s _ _ Q,L⟩
 ·show(ZW own.length ix B).length=(own++fr).length;unfold ZW;rw[bJ,dY,aP,bJ,sl]
noncomputable def MO(fv:a0->Bool)(X:Cx)(N':List a0)(scope:du)(cl:List (a0×aH))(C:aH)(s:aI)(H:Hp)(ex:List aH):Cx:=
 { X with N:=N',s₀:=s,H₀:=H,env:=kM scope cl C X.env,outer:=X.stack,ex:=ex,fn:=fv,pn:=[],xe:=λ_ _=>False }
theorem OJ{fv:a0->Bool}{N:List a0}{cl:List (a0×aH)}{kk:Nat}{C D:aH}{h₁:bH}{tk:Nat}{n5:List (aH×cy)}{Z:St}{t:Hp}{s2:aI}{k:List aH}{it:aH}{tn:Nat->bH->Prop}{J:It}{Fin:List V->Hp->Prop}{RR:aE->aH->mq->aI->Prop}
  (G:X.calm=aC) (hg:PG (MO fv X N scope cl C s2 t k) tg g) (ht:Kv (MO fv X N scope cl C s2 t k) nV tt) (he:PE (MO fv X N scope cl C s2 t k) nX te)
  (I2:Inv X n5 Z t s2) (T:Ng X.prog X.w X.K tg J k it tn) (st2:tn 0 s2.heap) (f2:∀b∈k,Vr X n5 t b)
  {W:Nat->Nat->List V->Hp->Prop} {m0:Nat} (w0:W 0 m0 [] t)
  (turn:∀i m f H,W i m f H->f.length<=sizeLine/\
   ((J.stop i H/\Fin f H)\/
    (J.go i H/\∃N:List V->Hp->Prop,(∀ys' j,N ys' j->∃m',m'<m/\W (i+1) m' ys' j)/\
     ∀x j,J.yld i H x j->g x (ZW kk ix Z) j λσ2 t=>σ2.drop kk=(ZW kk ix Z).drop kk/\tt σ2 t λb w=>if b=aC then te σ2 w λy H4=>N (f++[y]) H4 else N f w)))
  (hRR:∀(D C:aH)(oC:cy)(m:a0->Option aE)(I:aI)(j:Hp)(f:List V),Inv X (n5++[(C,oC)]) Z (upd j D (.lst f)) I->I.heap.get? C=aA oC->I.heap.Ns C m->Vr X n5 (upd j D (.lst f)) C->j D=none->Fin f j->RR (.ref D) C (.ok .next) I)
  (hfp:∀b∈k,b<s2.heap.objs.size) (hC:@Eq Nat C (D+1)) (hDD:@Eq Nat s2.heap.objs.size D) (old:∀b o,s2.heap.get? b=aA o->h₁.get? b=aA o) (hacc:h₁.get? D=aA { cls:=.type "list",data:=.seq ([]:List aE).toArray 0 })
  (I0:∀tk,Inv (MO fv X N scope cl C s2 t k) [] (ZW kk ix Z) t { s2 with heap:=h₁,toks:=tk }) (hcl:∀x c,cl.lookup x=aA c->c≠D) :
  gO (model X.prog X.w) X.A (.compStart (.ListComp nX [⟨tg,iter,nV,0⟩] scope pos) 0 (.ref it) (.ref D) (kM scope cl C X.env)) (RR (.ref D) C) { s2 with heap:=h₁,toks:=tk }:=by
 have hDC:@Ne Nat D C:=by omega
 have h:∀b,b<s2.heap.objs.size->b≠C/\b≠D:=λb a=>by rw[hDD] at a;exact⟨ar (by omega),ar a⟩
 have loop:gO (model X.prog X.w) X.A (.compLoop (.ListComp nX [⟨tg,iter,nV,0⟩] scope pos) 0 (.ref it) (.ref D) (kM scope cl C X.env)) (RR (.ref D) C) { s2 with heap:=h₁,toks:=tk }:=by
  generalize l:MO fv X N scope cl C s2 t k=Y at I0 hg ht he
  have E:∀{j:Hp}{pn:List (aH×cy)},(∀b∈k,j b=none)->(∀p∈pn,∀b∈k,p.1≠b)->∀b∈k,Vr Y pn j b:=λ{j pn} hn B b a=>by
   subst l;refine⟨hn b a,(h b (hfp b a)).1,λz=>?_,.inl a,λx c e=>?_,λp hp'=>B p hp' b a⟩
   ·exact(I0 0).ok.exfs b a z
   ·exact((I0 0).ok.exf b a).2 x c e
  have dfp:=λb a=>bB (h b (hfp b a)).2;have P:∀x c,Y.env.cells.lookup x=aA c->c≠D:=by subst l;exact hcl
  have hfsD:D∉Y.fs:=λz=>by subst l;obtain⟨_,o,ho,_⟩:=(I0 0).ok.funs.mem z;have:=aQ ho;have:D<s2.heap.objs.size:=this;exact cK _ (Nat.lt_of_lt_of_eq this hDD)
  have eL:Y.env.locals=C:=by subst l;rfl
  have eS:Y.s₀=s2:=by subst l;rfl
  have eP:Y.pn=[]:=by subst l;rfl
  refine Np (λn I=>∃i f A F j,Inv Y [] (ZW kk ix Z) j I/\tn i I.heap/\(∀b∈k,j b=none)/\I.heap.get? D=aA { cls:=.type "list",data:=.seq A F }/\Vals f A.toList/\j D=none/\W i n f j) ?_ m0
   ⟨0,[],#[],0,t,I0 _,T.keep _ _ _ st2 λb _ o e=>old b o e,λb a=>(f2 b a).1,hacc,.nil,I2.hok.fresh (by omega),w0⟩
  rintro n s3 ⟨i,f,A,F,w,I3,st3,fr3,oD,vD,nD,w3⟩;obtain⟨hlen,R⟩:=turn i n f w w3;have hsize:A.size<=sizeLine:=by have:=vD.length;simp only[gR] at this;omega
  have pD:Inv Y [(D,{ cls:=.type "list",data:=.seq A F })] (ZW kk ix Z) w s3:=I3.pins_of λp B=>by rw[ah.mp B];exact⟨oD,nD,by rw[eL];exact hDC,hfsD,λv z=>by cases z⟩
  have YP:Y.prog=X.prog:=by subst l;rfl
  have Yw:Y.w=X.w:=by subst l;rfl
  have YK:Y.K=X.K:=by subst l;rfl
  have YA:Y.A=X.A:=by subst l;rfl
  have Yx:Y.xe=λ_ _=>False:=by subst l;rfl
  have Ye:Y.env=kM scope cl C X.env:=by subst l;rfl
  have ne1:∀p∈[((D,{ cls:=.type "list",data:=.seq A F }):aH×cy)],∀b∈k,p.1≠b:=λp B b a=>by rw[ah.mp B];exact dfp b a
  rcases R with⟨stop,qn⟩ | ⟨go,N,hN,step⟩
  ·have d:=T.done Y YP Yw YK (by subst l;exact G) i _ s3 _ w (ka (model X.prog X.w) X.A (kM scope cl C X.env) λe I=>RR (.ref D) C (.error e) I) pD (E fr3 ne1) st3 stop;rw[YA] at d;refine Ys d λr s4 ⟨hr,I4⟩=>?_;subst hr;obtain⟨oD4,s,_⟩:=I4.pin (D,_) (by rw[eP];exact af);obtain⟨m,hn,_⟩:=I4.loc;rw[eL] at hn;obtain⟨oC,es,ep,hoC,hdC,hrest⟩:=id hn;have U:w C=none:=by have:=I4.free;rw[eL] at this;exact this
   have un:Un (MN X.stack) k t w s2.heap s4.heap:=by have:=I4.base;subst l;exact this
   have lt2:∀b o,s2.heap.get? b=aA o->b≠D:=λb o e=>(h b (aQ e)).2
   have un':Un (MN X.stack) k t (upd w D (.lst f)) s2.heap s4.heap:=by
    refine⟨un.keep,un.slot,λb o e n hx=>?_,un.there,λb xs e=>?_,λb o u e=>?_,λb ps e=>?_⟩
    ·rw[upd_ne (lt2 b o e)];exact un.free b o e n hx
    ·have q:=un.tups b xs e;rw[upd_ne (Zt q s)];exact q
    ·have q:=un.frzs b o u e;rw[upd_ne (Zt q s)];exact q
    ·obtain⟨more,q⟩:=un.tbls b ps e;exact⟨more,by rw[upd_ne (Zt q s)];exact q⟩
   have hok4:HOk X.prog X.w w s4.heap:=by have:=I4.hok;rw[YP,Yw] at this;exact this
   have hok':HOk X.prog X.w (upd w D (.lst f)) s4.heap:=λb u q=>by
    by_cases a:b=D
    ·subst a;rw[Zs] at q;cases q;exact⟨hlen,A.toList,F,vD,by simpa using oD4⟩
    ·rw[upd_ne a] at q;exact(hok4 b u q).stay (λc v _ z=>z) (λc z=>by rw[upd_ne (Zt z s)];exact z) (λc xs z=>by rw[upd_ne (Zt z s)];exact z) λc u z=>by rw[upd_ne (Zt z s)];exact z
   have os4:s4.os=s2.os:=by rw[I4.os,eS]
   have I5:=I2.call' os4 un' hok' I4.bare λb a=>⟨(f2 b a).2.2.2.1,(f2 b a).2.1,(f2 b a).2.2.2.2.1,(f2 b a).2.2.2.2.2⟩;have CL:C≠X.env.locals:=λz=>by exact(h _ I2.lt).1 z.symm
   have S:Vr X n5 (upd w D (.lst f)) C:=I2.fpOk (by omega) (by rw[upd_ne (bB hDC)];exact U);refine hRR D C oC m s4 w f (I5.pins_of λp B=>?_) hoC hn S s qn;rcases cB.mp B with z | z
   ·exact I5.pin p (aj _ z)
   ·rw[ah.mp z];exact⟨hoC,S.1,S.2.1,S.2.2.1,λv z=>by rw[hdC] at z;cases z⟩
  ·have d:=T.item Y YP Yw YK (by subst l;exact G) i _ s3 _ w (λ_ _=>False) pD (E fr3 ne1) st3 go;rw[YA] at d;refine b9 d (λr s4 ⟨u,hr,h4⟩=>?_) λ_ _ z=>z.elim;subst hr;refine b9 h4 (λ_ s5 ⟨x,H5,I5,r5,y5,st5,fr5⟩=>?_) λ_ _ z=>z.elim;have I5':=I5.pinned (E fr5 ne1) (T.obj _ _ st5);have a6:=hg _ s5 _ H5 x u _ I5' r5 (step x H5 y5);rw[YP,Yw,YA,Ye,Yx] at a6;refine b9 a6 (λ_ s6 ⟨Q,H6,I6,dr,q6⟩=>?_) λ_ _ z=>z.elim;have a7:=ht _ s6 Q H6 _ I6 q6;rw[YP,Yw,YA,Ye,Yx] at a7;refine b9 a7 (λok s7 ⟨H7,I7,q7⟩=>?_) λ_ _ z=>z.elim
   have back:∀{M:Hp}{L:aI},Inv Y ([((D,{ cls:=.type "list",data:=.seq A F }):aH×cy)]++Sr k s5.heap) Q M L->
     L.heap.get? D=aA { cls:=.type "list",data:=.seq A F }/\M D=none/\tn (i+1) L.heap/\(∀b∈k,M b=none):=λ{M L} O=>by
    obtain⟨e1,e2,_⟩:=O.pin (D,{ cls:=.type "list",data:=.seq A F }) (by simp);refine⟨e1,e2,T.keep _ _ _ st5 λb a o e=>(O.pin (b,o) (by rw[eP];exact aW _ (Vs a e))).1,λb a=>?_⟩;obtain⟨o,e,_⟩:=T.obj _ _ st5 b a;exact(O.pin (b,o) (by rw[eP];exact aW _ (Vs a e))).2.1
   have unp:∀{M:Hp}{L:aI},Inv Y ([((D,{ cls:=.type "list",data:=.seq A F }):aH×cy)]++Sr k s5.heap) Q M L->Inv Y [] (ZW kk ix Z) M L:=λ{M L} O=>
    (O.pins_of λp B=>absurd B (by simp)).weak (by
     have e1:=(I0 0).len;have e2:=O.len;rw[e1,e2]) (Hv dr)
   cases ok with
   | false=>
    obtain⟨e1,e2,e3,e4⟩:=back I7;obtain⟨m',hm,w7⟩:=hN _ _ q7;exact⟨m',hm,i+1,f,A,F,H7,unp I7,e3,e4,e1,vD,e2,w7⟩
   | true=>
    have a8:=he _ s7 Q H7 _ I7 q7;rw[YP,Yw,YA,Ye,Yx] at a8;refine b9 a8 (λyv L ⟨y,M,O,ry,q8⟩=>?_) λ_ _ z=>z.elim;obtain⟨e1,e2,e3,e4⟩:=back O;obtain⟨m',hm,w8⟩:=hN _ _ q8;refine append_at e1 (λh9 hs9 hD9=>?_) hsize;have I9:=(unp O).turned (t':=L.toks) (λb o a e=>hs9.extBut b o a e) e2 (by rw[eL];exact hDC) (.inr (by rw[eS];omega)) P (λp B=>absurd (show p∈([]:List (aH×cy)) by rw[eP] at B;exact B) (by simp));refine⟨m',hm,i+1,f++[y],A.push yv,F+1,M,I9,T.keep _ _ _ e3 λb a o e=>hs9.extBut b o (bB (dfp b a)) e,e4,hD9,?_,e2,w8⟩;rw[Array.toList_push];exact vD.append (.cons ry .nil)
 exact codeAny_compStart_list loop (T.self X.A 0 _ _ _ (T.keep _ _ _ st2 λb _ o e=>old b o e) loop)
theorem Qy{M:List (aH×cy)}{L:St}{A:Hp}{s2:aI}{Q:List aH}{it:aH}{Z:Nat->bH->Prop}{J:It}{Fin:List V->Hp->Prop}{RR:aE->aH->mq->aI->Prop}{E:aE->aI->Prop}
  (l:X.calm=aC) (S:CompScope X.N X.env.scope scope own fr ix)
  (hg:∀cl C s H ex,PG (ZH X (own++fr) scope cl C s H ex) tg g) (ht:∀cl C s H ex,Kv (ZH X (own++fr) scope cl C s H ex) nV tt) (he:∀cl C s H ex,PE (ZH X (own++fr) scope cl C s H ex) nX te)
  (O:Inv X M L A s2) (T:Ng X.prog X.w X.K tg J Q it Z) (I:Z 0 s2.heap) (f2:∀b∈Q,Vr X M A b)
  {W:Nat->Nat->List V->Hp->Prop} {m0:Nat} (w0:W 0 m0 [] A)
  (turn:∀i m ys H,W i m ys H->ys.length<=sizeLine/\
   ((J.stop i H/\Fin ys H)\/
    (J.go i H/\∃N:List V->Hp->Prop,(∀ys' H',N ys' H'->∃m',m'<m/\W (i+1) m' ys' H')/\
     ∀x H',J.yld i H x H'->g x (ZW own.length ix L) H' λn A=>n.drop own.length=(ZW own.length ix L).drop own.length/\tt n A λb H3=>if b=aC then te n H3 λy H4=>N (ys++[y]) H4 else N ys H3)))
  (R:∀(D C:aH)(oC:cy)(m:a0->Option aE)(s':aI)(H':Hp)(ys:List V),Inv X (M++[(C,oC)]) L (upd H' D (.lst ys)) s'->s'.heap.get? C=aA oC->s'.heap.Ns C m->Vr X M (upd H' D (.lst ys)) C->H' D=none->Fin ys H'->RR (.ref D) C (.ok .next) s') :
  ak (model X.prog X.w) X.A (newList []) (λG u=>ak (model X.prog X.w) X.A (jA scope X.env.globals (XQ X.env.cells scope.names []) [] X.env.qual none .none (aA X.env)) (λk F=>
   gO (model X.prog X.w) X.A (.compStart (.ListComp nX [⟨tg,iter,nV,0⟩] scope pos) 0 (.ref it) G { k with scope:=relabel scope X.env }) (RR G k.locals) F) E u) E s2:=by
 have B:∀b∈Q,b<s2.heap.objs.size:=λb P=>by obtain⟨o,e,_⟩:=T.obj 0 s2.heap I b P;exact aQ e
 refine dQ (wpAny_newFunctionEnv S.nocell (by simp) (λh₁ d a=>?_) S.kind);generalize r:s2.heap.push { cls:=.type "list",dict:=none,data:=.seq ([]:List aE).toArray }=G2 at d a ⊢;have Y:G2.objs.size=s2.heap.objs.size+1:=by rw[<-r,cT]
 generalize hCC:G2.objs.size=C at d a Y ⊢;generalize p:s2.heap.objs.size=D at Y ⊢;have U:D≠C:=by omega
 have j:∀b,b<s2.heap.objs.size->b≠C/\b≠D:=λb P=>by rw[p] at P;exact⟨ar (by omega),ar P⟩
 have w:=λb o e=>a.extBut b o (j b (aQ e)).1 (aG _ (r▸aG _ e))
 have t:h₁.get? D=aA { cls:=.type "list",data:=.seq ([]:List aE).toArray 0 }:=by
  have e0:G2.get? D=aA { cls:=.type "list",data:=.seq ([]:List aE).toArray 0 }:=by rw[<-r,<-p];exact ag _ rfl
  exact a.extBut _ _ U (aG _ e0)
 have f:h₁.Ns C λ_=>none:=by simpa using d
 have I0:=λtk=>Fj (tk:=tk) S O f2 B (by omega) f w;refine OJ (s2:=s2) (h₁:=h₁) (fv:=λ_=>aB) (N:=own++fr) (C:=C) (D:=D) (cl:=XQ X.env.cells scope.names []) l (hg _ _ _ _ _) (ht _ _ _ _ _) (he _ _ _ _ _) O T I f2 w0 turn R B Y p w t I0 λx c e z=>?_;obtain⟨v,q⟩:=O.cell x c (Vf scope.names [] (S.clos O) (λh=>by simp at h) e);exact(j c q.lt).2 z
theorem DY(c:X.calm=aC)(r:PI X tg iter wi)(S:CompScope X.N X.env.scope scope own fr ix)
  (k:∀cl C s H ex,PG (ZH X (own++fr) scope cl C s H ex) tg g) (A:∀cl C s H ex,Kv (ZH X (own++fr) scope cl C s H ex) nV tt) (j:∀cl C s H ex,PE (ZH X (own++fr) scope cl C s H ex) nX te)
  (hs:∀x,bq iter X.env x=pure x:=by intro _;rfl):PE X (.ListComp nX [⟨tg,iter,nV,0⟩] scope pos) (Qx own.length ix wi g tt te):=by
 intro w s t H Q I h;refine gY rfl hs (W5 (S.clos I)) S.kind S.names (Ys (r w s t H _ I h) λv s1 M=>Ys M λG s2 p=>?_);obtain⟨Z,N,P,J,Y,e,y,T,i,F,W,⟨O,q⟩,turn⟩:=p;subst e;refine Qy c S k A j y T i F q turn ?_;intro D C U m R E z l n L a u d;refine⟨m,L,λh' f=>⟨.ref D,upd E D (.lst z),?_,rfl,d D u⟩⟩;exact(l.unpinned).turned (λb o B e=>f.extBut b o B e) a.1 a.2.1 a.2.2.2.1 a.2.2.2.2.1 a.2.2.2.2.2
theorem DZ{i:Nat}{y:a0}{u d:fD}(hN:X.N.Nodup)(hy:X.N[i]?=aA y)(c:X.env.scope.names.lookup y=aA .local)(f:X.calm=aC)(G:PI X tg iter wi)(S:CompScope X.N X.env.scope scope own fr ix)
  (z:∀cl C s H ex,PG (ZH X (own++fr) scope cl C s H ex) tg g) (U:∀cl C s H ex,Kv (ZH X (own++fr) scope cl C s H ex) nV tt) (w:∀cl C s H ex,PE (ZH X (own++fr) scope cl C s H ex) nX te)
  (k:fT (.ListComp nX [⟨tg,iter,nV,0⟩] scope pos) (aA (.Name y u)) d.line X.env=pure aC:=by rfl)
  (hs:∀x,bq iter X.env x=pure x:=by intro _;rfl):PS X (.Assign [.Name y u] (.ListComp nX [⟨tg,iter,nV,0⟩] scope pos) d) (Kk (Qx own.length ix wi g tt te) (TB i)):=by
 intro O s L H D0 I h;rw[exec_Assign_Name_used _ _ _ _ k];refine aF (gV (aF ?_))
 refine aF (b9 (gY rfl hs (W5 (S.clos I)) S.kind S.names
  (Ys (G O s L H _ I h) λv s1 h1=>Ys h1 λitv s2 B=>?_)) (λ_ P hq=>a9 (a9 hq)) λ_ _ e=>e)
 obtain⟨it,fp,tn,J,H2,e,Q,T,q,f2,W,⟨m0,E⟩,turn⟩:=B;subst e;refine Qy f S z U w Q T q f2 E turn ?_;intro D C t m P Z R A l hn a M n;refine wpAny_assign_Name (Ua A hN hy (.inl c) (v:=.ref D) rfl (λs6 r=>?_) (.inr c));obtain⟨N,_⟩:=r.pin (C,t) (aj _ (aj _ af));obtain⟨o',es,ep,j,F⟩:=hn;rw[l] at j;cases j;refine⟨m,⟨t,es,ep,N,F⟩,λh' p=>⟨_,upd Z D (.lst R),?_,n D M⟩⟩;exact(r.unpinned).turned (λb o Y e=>p.extBut b o Y e) a.1 a.2.1 a.2.2.2.1 a.2.2.2.2.1 a.2.2.2.2.2
end
open AutoSeq1 (wpAny_loadPart')
section
variable {prog:au} {w:bc} {A:bQ} {E:aE->aI->Prop} {s:aI}
theorem TH{c l:aH}{i:Nat}{items}{x:aE}{Q:aE->aI->Prop}(a:s.heap.IsTupleIter c l i)
  (j:s.heap.IsTuple l items) (g:items[i]?=aA x)
  (h:∀h',h'.IsTupleIter c l (i+1)->dB c s.heap h'->Q x { s with heap:=h' }) :
  ak (model prog w) A (jI (.ref c)) Q E s:=by
 obtain⟨o,d,k,b⟩:=id a;obtain⟨m,e,_,n,f⟩:=j
 refine aF (dy a.typeIs F.slot_tuple_iterator_next
  (gP F.slot_tuple_iterator_next a.typeIs F.entry_tuple_iterator_next ?_ (F.args_tuple_iterator_next_1 _)))
 show ak _ _ (field (.ref c) 0 >>= _) _ _ s;refine aF (bx d b rfl ?_);refine aF (bx d b rfl ?_);refine aF (eh e f ?_);simp only[gF,g];refine aF (iA d b (by simp) (a9 ⟨x,rfl,a9 (h _ ?_ (kd ..))⟩));exact⟨_,cw _ d (gD (dE b _)),(jQ ..).trans k,by rw[dE b];simp[gH]⟩
theorem Sx{b l:aH}{i:Nat}{items}{Q:aE->aI->Prop}(h:A.handled=none)
  (a:s.heap.IsTupleIter b l i) (n:s.heap.IsTuple l items) (k:items[i]?=none)
  (j:∀h' e,mW b s.heap h'->(∃o,h'.get? e=aA o/\o.cls = .type "StopIteration")->E (.ref e) { s with heap:=h' }) :
  ak (model prog w) A (jI (.ref b)) Q E s:=by
 obtain⟨o,g,r,c⟩:=id a;obtain⟨p,d,_,q,f⟩:=n
 refine aF (dy a.typeIs F.slot_tuple_iterator_next
  (gP F.slot_tuple_iterator_next a.typeIs F.entry_tuple_iterator_next ?_ (F.args_tuple_iterator_next_1 _)))
 show ak _ _ (field (.ref b) 0 >>= _) _ _ s;refine aF (bx g c rfl ?_);refine aF (bx g c rfl ?_);refine aF (eh d f ?_);simp only[gF,k];refine aF (lB (aF (iA g c (by simp) ?_)));refine aF ?_;refine aF (m:=firstArgMember _ _) (wpAny_of_eq rfl ?_);refine dQ ?_ (by size_fits);refine aF (wpAny_handled ?_)
 first | rw[h] | rw[h]
 refine aF (a9 (wpAny_throw ?_));exact j _ _ (((kd ..).extBut.push _).push _) ⟨_,ag _ rfl,rfl⟩
end
noncomputable def SeqB(b:Bool)(h:bH)(a:aH)(nY:Array aE):Prop:=if b=aC then h.IsList a nY else h.IsTuple a nY
noncomputable def IterB(b:Bool)(h:bH)(it a:aH)(i:Nat):Prop:=if b=aC then h.IsListIter it a i else h.IsTupleIter it a i
noncomputable def R3(b:Bool)(K:aD)(H:Hp)(a:aH)(xs:List V):Prop:=if b=aC then SqL K H a xs else SqT K H a xs
noncomputable def V4(b:Bool)(a:aH):cy:={ cls:=.type (if b=aC then "list_iterator" else "tuple_iterator"),data:=.fields #[.ref a,.int 0 0] }
theorem SeqB.at{b:Bool}{h h':bH}{a:aH}{c:Array aE}(x:SeqB b h a c)(k:∀o,h.get? a=aA o->h'.get? a=aA o):SeqB b h' a c:=by
 cases b with
 | true=>obtain⟨o,e,r⟩:=(x);exact⟨o,k o e,r⟩
 | false=>obtain⟨o,e,r⟩:=(x);exact⟨o,k o e,r⟩
theorem SeqB.has{b:Bool}{h:bH}{a:aH}{c:Array aE}(x:SeqB b h a c):∃o,h.get? a=aA o:=by
 cases b with
 | true=>obtain⟨o,e,r⟩:=(x);exact⟨o,e⟩
 | false=>obtain⟨o,e,r⟩:=(x);exact⟨o,e⟩
theorem IterB.at{b:Bool}{h h':bH}{c a:aH}{i:Nat}(x:IterB b h c a i)(k:∀o,h.get? c=aA o->h'.get? c=aA o):IterB b h' c a i:=by
 cases b with
 | true=>obtain⟨o,e,r⟩:=(x);exact⟨o,k o e,r⟩
 | false=>obtain⟨o,e,r⟩:=(x);exact⟨o,k o e,r⟩
theorem IterB.has{b:Bool}{h:bH}{c a:aH}{i:Nat}(x:IterB b h c a i):∃o,h.get? c=aA o/\∀v,o.data≠.cell v:=by
 cases b with
 | true=>obtain⟨o,e,_,d⟩:=(x);exact⟨o,e,λv z=>by rw[d] at z;cases z⟩
 | false=>obtain⟨o,e,_,d⟩:=(x);exact⟨o,e,λv z=>by rw[d] at z;cases z⟩
theorem IterB.new{b:Bool}{h:bH}{c a:aH}(e:h.get? c=aA (V4 b a)):IterB b h c a 0:=by
 cases b with
 | true=>exact⟨_,e,rfl,rfl⟩
 | false=>exact⟨_,e,rfl,rfl⟩
section
variable {X:Cx} {n5:List (aH×cy)} {σ:St} {H:Hp} {s:aI} {a:aH} {xs ys:List V} {b:Bool}
theorem Inv.seqB(I:Inv X n5 σ H s)(h:R3 b X.K H a xs):∃c:List aE,Vals xs c/\SeqB b s.heap a c.toArray/\xs.length<=sizeLine:=by
 cases b with
 | true=>
  obtain⟨c,r,p,z⟩:=I.list (h);exact⟨c,r,p.isList,z⟩
 | false=>
  obtain⟨c,r,p,z⟩:=I.tuple (h);exact⟨c,r,p,z⟩
theorem Inv.seqB_inj(I:Inv X n5 σ H s)(h:R3 b X.K H a xs)(h':R3 b X.K H a ys):xs=ys:=by
 cases b with
 | true=>exact I.list_inj (h) (h')
 | false=>exact I.tuple_inj (h) (h')
end
theorem Draws.seq{prog:au}{w:bc}{A:bQ}(b:Bool)(p:A.handled=none)(f l:aH)(g:l≠f)(a:Array aE) :
  Draws prog w A f [f,l] a.size (λi v=>a[i]?=aA v) (λi h=>IterB b h f l i/\SeqB b h l a) where
 live:=λ_ _ st=>let⟨o,q,_⟩:=st.1.has;⟨o,q⟩
 frame:=λ_ _ _ st n=>⟨st.1.at λo e=>n f (by simp) o e,st.2.at λo e=>n l (by simp) o e⟩
 item:=λi s Q E j st m=>by
  cases b with
  | true=>
   refine wpAny_nextOf_list_item (st.1) (st.2) (x:=a[i]) (by simp[j]) λh' c d=>?_;exact m _ h' s.toks (by simp[j]) ⟨c,st.2.at λo e=>d.extBut l o g e⟩ d
  | false=>
   refine TH (st.1) (st.2) (x:=a[i]) (by simp[j]) λh' c d=>?_;exact m _ h' s.toks (by simp[j]) ⟨c,st.2.at λo e=>d.extBut l o g e⟩ d
 done:=λs Q E st k=>by
  cases b with
  | true=>exact wpAny_nextOf_list_end p (st.1) (st.2) (by simp) k
  | false=>exact Sx p (st.1) (st.2) (by simp) k
theorem Yj{prog:au}{w:bc}{A:bQ}{E:aE->aI->Prop}{s:aI}{b:Bool}{a:aH}{d:Array aE}{Q:aE->aI->Prop}(h:SeqB b s.heap a d)
  (c:Q (.ref s.heap.objs.size) { s with heap:=s.heap.push (V4 b a) }):ak (model prog w) A (pyIter (.ref a)) Q E s:=by
 cases b with
 | true=>exact wpAny_pyIter_list (h) c
 | false=>exact ko (h) c
set_option maxHeartbeats 4000000 in
theorem Qz(b:Bool)(l:aH)(a:Array aE) :
  Meets (jq.«enumerate.__new__» ⟨[.type "enumerate",.ref l],[]⟩) (λ_ R s=>SeqB b s.heap l a/\
   R (.ok (.ret (.ref (s.heap.push (V4 b l)).objs.size)))
    { s with heap:=(s.heap.push (V4 b l)).push { cls:=.type "enumerate",data:=.fields #[.none,.bool aB,.ref s.heap.objs.size,gH 0,.none,.none] } }):=
 .of_wp λprog w A R s h=>by
  obtain⟨k,g,d,tk,os⟩:=s;obtain⟨i,h⟩:=h;have j:=sub_enumerate;obtain⟨o,e⟩:=i.has;have f:SeqB b (nS ⟨k,g,d,tk,os⟩) l a:=i
  wp_walk using i7 e
  refine wpAny_stack_any λst=>a9 ?_;split
  ·rename_i c _ _ _ _ _;cases (c==ji "enumerate")
   ·wp_walk using i7 e,Yj f
    exact⟨_,rfl,h⟩
   ·wp_walk using i7 e,Yj f
    exact⟨_,rfl,h⟩
  ·wp_walk using i7 e,Yj f
   exact⟨_,rfl,h⟩
section
variable {prog:au} {w:bc} {A:bQ} {E:aE->aI->Prop} {s:aI}
theorem Oe{b:Bool}{l:aH}{a:Array aE}{Q:aE->aI->Prop}(f:SeqB b s.heap l a)
  (h:∀h',IsEnum h' (s.heap.objs.size+1) s.heap.objs.size 0 .none->IterB b h' s.heap.objs.size l 0->h'.objs.size=s.heap.objs.size+2->
   (∀b o,s.heap.get? b=aA o->h'.get? b=aA o)->Q (.ref (s.heap.objs.size+1)) { s with heap:=h' }) :
  ak (model prog w) A (call (.type "enumerate") [.ref l]) Q E s:=by
 refine callType_new F.called_enumerate rfl (F.typeCall_enumerate_1 _) (F.newCall_enumerate_1 _) (λc=>F.args_object_init_2 c _) F.entry_enumerate_new
  (Qz b l a) ⟨f,?_⟩
 have e:(s.heap.push (V4 b l)).objs.size=s.heap.objs.size+1:=cT ..;rw[e]
 have d:IsEnum ((s.heap.push (V4 b l)).push
   { cls:=.type "enumerate",data:=.fields #[.none,.bool aB,.ref s.heap.objs.size,gH 0,.none,.none] }) (s.heap.objs.size+1) s.heap.objs.size 0 .none:=by
  have:=ag (s.heap.push (V4 b l))
   (o:={ cls:=.type "enumerate",data:=.fields #[.none,.bool aB,.ref s.heap.objs.size,gH 0,.none,.none] }) rfl
  rw[e] at this;exact this
 refine⟨⟨_,d,rfl⟩,h _ d (IterB.new (aG _ (ag _ rfl))) (by simp) λb o x=>aG _ (aG _ x)⟩
end
noncomputable def Ite(b:Bool)(K:aD)(a:aH):It:=
  ⟨λi H=>∃xs x,R3 b K H a xs/\xs[i]?=aA x,
   λi H v H'=>∃p x,H p=none/\v = .ref p/\H'=upd H p (.tup [.int i,x])/\∀xs,R3 b K H a xs->xs[i]?=aA x,
   λi H=>∃xs,R3 b K H a xs/\xs.length=i⟩
theorem Hw{P:au}{w:bc}{K:aD}{elts:List aq}{k:Nat}{pos:fD}(b:Bool)(a e r:aH)(O:e≠r) :
  Ng P w K (.Tuple elts k pos) (Ite b K a) [e,r] e (λi h=>(∃B,IsEnum h e r i B)/\IterB b h r a i) where
 mem:=by simp
 obj:=λi h st c J=>by
  rcases aa.mp J with rfl | J
  ·obtain⟨⟨B,q⟩,_⟩:=st;exact⟨_,q,λv z=>by cases z⟩
  ·rw[ah.mp J];exact st.2.has
 keep:=λi h h' st kk=>⟨let⟨B,q⟩:=st.1;⟨B,kk e (by simp) _ q⟩,st.2.at λo q=>kk r (by simp) o q⟩
 item:=by
  intro X hP hw hK J i n5 s σ H E I M st hg;subst hP hw hK;obtain⟨xs,x,hq,hx⟩:=hg;obtain⟨S,rv,p,hz⟩:=I.seqB hq;obtain⟨u,hu,ru⟩:=rv.get hx;obtain⟨⟨B,G⟩,l⟩:=st;have fe:=M e (by simp);have fi:=M r (by simp);obtain⟨oa,N⟩:=p.has
  -- the sequence is neither record
  have j:∀c,Vr X n5 H c->(∃oc,s.heap.get? c=aA oc/\∃n vs,oc.cls = .type n/\oc.data = .fields vs)->a≠c:=λc _ ⟨oc,T,n,vs,hn,hv⟩ z=>by
   subst z;rw[N] at T;cases T
   cases b with
   | true=>obtain⟨o,F,_,m,d⟩:=(p);rw[N] at F;cases F;rw[hv] at d;cases d
   | false=>obtain⟨o,F,_,m,d⟩:=(p);rw[N] at F;cases F;rw[hv] at d;cases d
  have ae:=j e fe ⟨_,G,_,_,rfl,rfl⟩
  have ai:=j r fi (by
   cases b with
   | true=>obtain⟨o,F,c1,d1⟩:=(l);exact⟨o,F,_,_,c1,d1⟩
   | false=>obtain⟨o,F,c1,d1⟩:=(l);exact⟨o,F,_,_,c1,d1⟩)
  have D:=Draws.seq (prog:=X.prog) (w:=X.w) (A:=X.A.in1) b (I.ok.hd J) r a ai S.toArray;have hlt:i<S.toArray.size:=by have:=(aS.mp hu).1;simpa using this
  refine wpAny_pyNext_enum_itemD D G ⟨l,p⟩ hlt O (by simp[O,bB ae]) λy h' tk hPy ho hs' hT hsz hk=>?_
  have ey:y=u:=by
   have q1:=hPy;have q2:S.toArray[i]?=aA u:=by simpa using hu
   rw[q1] at q2;exact ay q2
  subst ey;refine⟨_,rfl,wpAny_letOwnedTupleGo_enum ho λU he2 L=>?_⟩;have Tne:=fK (aQ G);have C:=I.hok.fresh (aN _);have kk:∀c o,c∉[e,r]->s.heap.get? c=aA o->U.get? c=aA o:=λc o g q=>L.extBut c o (λz=>g (by simp[z])) (hk c o (λz=>g (by simp[z])) (λz=>g (by simp[z])) q);have hT2:=L.extBut _ _ Tne hT;have hcs:∀c∈[e,r],(c∈X.ex\/X.s₀.heap.objs.size<=c)/\c≠X.env.locals/\(∀x d,X.env.cells.lookup x=aA d->d≠c)/\∀p∈X.pn++n5,p.1≠c:=λc g=>by have f:=M c g;exact⟨f.2.2.2.1,f.2.1,f.2.2.2.2.1,f.2.2.2.2.2⟩
  have nfp:∀c R,H c=aA R->c∉[e,r]:=λc R q g=>by rw[(M c g).1] at q;cases q
  have Y:=λc R q=>(I.hok c R q).stay (λd v hd q'=>kk d v (by
    rcases hd with z | z
    ·rw[z];exact nfp c R q
    ·exact nfp d _ z) q') (λ_ z=>z) (λ_ _ z=>z) λ_ _ z=>z
  have new:ObjOk X.prog X.w (upd H s.heap.objs.size (.tup [.int i,x])) U s.heap.objs.size (.tup [.int i,x]):=
   ⟨⟨by show 2<=sizeLine;decide,λo e=>by rw[hT2] at e;cases e;rfl⟩,[.int i tk,y],.cons ⟨tk,rfl⟩ (.cons ru .nil),⟨_,hT2,rfl,_,rfl⟩⟩
  have W:HOk X.prog X.w (upd H s.heap.objs.size (.tup [.int i,x])) U:=λc R q=>by
   by_cases hb:c=s.heap.objs.size
   ·subst hb;rw[Zs] at q;cases q;exact new
   ·rw[upd_ne hb] at q;exact(Y c R q).stay (λd v _ q'=>q') (λd z=>by rw[upd_ne (Zt z C)];exact z) (λd zs z=>by rw[upd_ne (Zt z C)];exact z) λd u z=>by rw[upd_ne (Zt z C)];exact z
  have un:Un (MN X.stack) [e,r] H (upd H s.heap.objs.size (.tup [.int i,x])) s.heap U:=by
   refine⟨λc o q _ _ t=>kk c o t q,λc o q _ _ t=>⟨o.slots,kk c o t q⟩,λc o q n _=>?_,λc o q t=>⟨o,kk c o t q⟩,λc zs q=>?_,λc o zs q=>?_,λc ps q=>⟨#[],?_⟩⟩
   ·rw[upd_ne (ar (aQ q))];exact n
   ·rw[upd_ne (Zt q C)];exact q
   ·rw[upd_ne (Zt q C)];exact q
   ·rw[upd_ne (Zt q C),q];simp
  have I2:Inv X n5 σ (upd H s.heap.objs.size (.tup [.int i,x])) { s with heap:=U,toks:=tk+1 }:=I.call un W I.bare hcs;refine⟨.ref s.heap.objs.size,upd H s.heap.objs.size (.tup [.int i,x]),I2,rfl,⟨_,x,C,rfl,rfl,λzs hzs=>by rw[I.seqB_inj hzs hq];exact hx⟩,⟨⟨y,by simpa using he2⟩,?_⟩,λc g=>?_⟩
  ·exact hs'.1.at λo q=>L.extBut r o (bB O) q
  ·rw[upd_ne (ar (by
    rcases aa.mp g with rfl | g
    ·exact aQ G
    ·rw[ah.mp g];obtain⟨o,q,_⟩:=l.has;exact aQ q))]
   exact(M c g).1
 done:=by
  intro X hP hw hK J i n5 s σ H E I M st hg;subst hP hw hK;obtain⟨xs,hq,hx⟩:=hg;obtain⟨S,rv,p,hz⟩:=I.seqB hq;obtain⟨⟨B,G⟩,l⟩:=st;have fi:=M r (by simp)
  have ai:a≠r:=λz=>by
   subst z
   cases b with
   | true=>
    obtain⟨o,F,_,m,d⟩:=(p);obtain⟨o',e2,_,Z⟩:=(l);rw[F] at e2;cases e2;rw[d] at Z;cases Z
   | false=>
    obtain⟨o,F,_,m,d⟩:=(p);obtain⟨o',e2,_,Z⟩:=(l);rw[F] at e2;cases e2;rw[d] at Z;cases Z
  have D:=Draws.seq (prog:=X.prog) (w:=X.w) (A:=X.A.in1) b (I.ok.hd J) r a ai S.toArray;have hl:=rv.length;have hi:i=S.toArray.size:=by simp;omega
  refine wpAny_pyNext_enum_endD D G (by rw[<-hi];exact⟨l,p⟩) λh' t=>⟨rfl,?_⟩;obtain⟨f0,f1,f2,f3,f4,f5⟩:=fi;exact I.turned (λc o hb q=>t c o hb q) f0 f1 f3 f4 f5
 self:=λA i s Q E st hQ=>by obtain⟨⟨B,G⟩,_⟩:=st;exact wpAny_pyIter_enum G hQ
end L2
namespace L2
open PySem PySem.Spec PyProof.Rows
section
variable {X:Cx}
noncomputable def Zcw(b:Bool)(K:aD)(ta:TA):TI:=λσ H R=>ta σ H λvs H1=>∃a,vs=[.ref a]/\(∃xs,R3 b K H1 a xs)/\R (Ite b K a) H1
theorem D3{g:List aq}{k:Nat}{i:fD}(b:Bool){a:aq}{n:TA}{p pos:fD}(o:Gl X "enumerate")(x:X.mg "enumerate" = none)(t:PA X [a] n)(hs:aO [a] X.env=[(aB,eval a X.env)]:=by rfl) :
  PI X (.Tuple g k i) (.Call (.Name "enumerate" p) [a] [] pos) (Zcw b X.K n):=by
 intro w s v H R I h;refine Call_ (Ub I o x rfl (dI (Ys (t pos w s v H _ I h) λL s1 ⟨vs,z,d,B,C⟩=>?_) hs rfl));obtain⟨a,e,⟨J,D⟩,q⟩:=C;subst e
 cases B with
 | cons r rr=>
  cases rr;cases r;obtain⟨E,F,f,G⟩:=d.seqB D;refine Oe f λh' m j A u=>?_;refine wpAny_pyIter_enum m ?_;have y:=d.kept (t':=s1.toks) u;have ne:s1.heap.objs.size+1≠s1.heap.objs.size:=fK (iP _);refine⟨s1.heap.objs.size+1,[s1.heap.objs.size+1,s1.heap.objs.size],_,_,z,rfl,y,Hw b a (s1.heap.objs.size+1) s1.heap.objs.size ne,⟨⟨.none,m⟩,j⟩,λc l=>?_,q⟩;rcases aa.mp l with rfl | l
  ·exact d.fpOk (kN _) (d.hok.fresh (kN _))
  ·rw[ah.mp l];exact d.fpOk (aN _) (d.hok.fresh (aN _))
end
section
variable {prog:au} {w:bc} {A:bQ} {E:aE->aI->Prop} {s:aI}
structure OK(z TI TO i1 i2:aH)(fp1 fp2:List aH):Prop where
 TIz:TI≠z
 TOz:TO≠z
 i1z:i1≠z
 i2z:i2≠z
 TITO:TI≠TO
 TIi1:TI≠i1
 TIi2:TI≠i2
 TOi1:TO≠i1
 TOi2:TO≠i2
 i12:i1≠i2
 z1:z∉fp1
 TO1:TO∉fp1
 i21:i2∉fp1
 z2:z∉fp2
 TO2:TO∉fp2
 i12':i1∉fp2
theorem Fm{z TI TO i1 Z:aH}{fp1 fp2:List aH}{n1 n2 k:Nat}{P1 P2:Nat->aE->Prop}{Y T:Nat->bH->Prop}{a b:aE}{Q:aE->aI->Prop}(D:OK z TI TO i1 Z fp1 fp2)
  (D1:Draws prog w A i1 fp1 n1 P1 Y) (D2:Draws prog w A Z fp2 n2 P2 T)
  (hz:jz s.heap z TI TO .none) (hTI:gJ s.heap TI (.ref i1) (.ref Z)) (hTO:gJ s.heap TO a b)
  (h1:Y k s.heap) (h2:T k s.heap) (hx:k<n1) (hy:k<n2)
  (hQ:∀x y h' tk,P1 k x->P2 k y->jz h' z TI TO (gH s.heap.objs.size)->gJ h' TO x y->Y (k+1) h'->T (k+1) h'->gJ h' s.heap.objs.size x y->h'.objs.size=s.heap.objs.size+1->
   (∀c o,c≠z->c≠TO->c≠i1->c≠Z->s.heap.get? c=aA o->h'.get? c=aA o)->Q (.ref s.heap.objs.size) { s with heap:=h',toks:=tk }) :
  ak (model prog w) A (jq.«zip.__next__» ⟨[.ref z],[]⟩) (λfin s'=>∃v,fin = .done (.ret v)/\Q v s') E s:=by
 show ak _ _ (field (.ref z) 2 >>= _) _ _ _;refine aF (bx hz rfl rfl ?_);refine aF (bx hz rfl rfl ?_);refine aF (eh hTI rfl ?_);refine aF ?_;refine aF (bx hz rfl rfl (a9 ?_));refine aF (lB ?_);refine aF (bx hz rfl rfl ?_);refine aF (el hz (by simp) λh₁ B l=>?_)
 replace B:jz h₁ z TI TO .ellipsis:=B
 refine aF ?_;refine aF (aF (iS ?_));have st1:=D1.frame _ _ _ h1 λc r o e=>l.extBut c o (λq=>D.z1 (q▸r)) e;refine aF (D1.item k _ _ _ hx st1 λx M tk₂ hPx S h=>a9 ?_)
 replace h:dB i1 h₁ M:=h
 have G:=h.extBut _ _ D.TOi1 (l.extBut _ _ D.TOz hTO);refine aF (eh G rfl ?_);refine aF (iV G λH m g=>?_)
 replace m:gJ H TO x b:=m
 replace g:dB TO M H:=g
 refine aF (mX (a9 ?_));refine aF (aF (iS ?_));have st2:=D2.frame _ _ _ h2 λc r o e=>g.extBut c o (λq=>D.TO2 (q▸r)) (h.extBut c o (λq=>D.i12' (q▸r)) (l.extBut c o (λq=>D.z2 (q▸r)) e));refine aF (D2.item k _ _ _ hy st2 λy L O hPy W f=>a9 ?_)
 replace f:dB Z H L:=f
 have F:=f.extBut _ _ D.TOi2 m;refine aF (eh F rfl ?_);refine aF (iV F λi j d=>?_)
 replace j:gJ i TO x y:=j
 replace d:dB TO L i:=d
 refine aF (mX (a9 (a9 ?_)));refine aF (eh j rfl ?_);refine aF (wpAny_newTuple ?_);have hsz:i.objs.size=s.heap.objs.size:=by rw[d.1,f.1,g.1,h.1,l.1]
 have I:=d.extBut _ _ D.TOz.symm (f.extBut _ _ D.i2z.symm (g.extBut _ _ D.TOz.symm (h.extBut _ _ D.i1z.symm B)))
 have P:∀c o,c≠z->c≠TO->c≠i1->c≠Z->s.heap.get? c=aA o->i.get? c=aA o:=λc o c1 c2 c3 c4 e=>
  d.extBut _ _ c2 (f.extBut _ _ c4 (g.extBut _ _ c2 (h.extBut _ _ c3 (l.extBut _ _ c1 e))))
 have X:=D1.frame _ _ _ S λc r o e=>d.extBut c o (λq=>D.TO1 (q▸r)) (f.extBut c o (λq=>D.i21 (q▸r)) (g.extBut c o (λq=>D.TO1 (q▸r)) e));have U:=D2.frame _ _ _ W λc r o e=>d.extBut c o (λq=>D.TO2 (q▸r)) e;have N:=aQ I;refine aF ?_;have R:jz (i.push { cls:=.type "tuple",data:=.seq #[x,y] }) z TI TO .ellipsis:=aG _ I;refine aF (el R (by simp) λh₇ u t=>?_)
 replace u:jz h₇ z TI TO (gH i.objs.size):=u
 refine el u (by simp) λC n p=>?_
 replace n:jz C z TI TO (gH i.objs.size):=n
 have up:∀c o,c≠z->i.get? c=aA o->C.get? c=aA o:=λc o c1 e=>p.extBut _ _ c1 (t.extBut _ _ c1 (aG _ e));have J:=p.extBut _ _ (fK N) (t.extBut _ _ (fK N) (ag _ rfl));have hz8:C.objs.size=i.objs.size+1:=by rw[p.1,t.1,cT]
 rw[hsz] at n J hz8;refine a9 ⟨_,rfl,?_⟩;rw[hsz];exact hQ x y C O hPx hPy n (up _ _ D.TOz j) (D1.frame _ _ _ X λc r o e=>up c o (λq=>D.z1 (q▸r)) e) (D2.frame _ _ _ U λc r o e=>up c o (λq=>D.z2 (q▸r)) e) J hz8 λc o c1 c2 c3 c4 e=>up c o c1 (P c o c1 c2 c3 c4 e)
theorem D4{z TI TO F H:aH}{N I:List aH}{T n2 k:Nat}{P1 P2:Nat->aE->Prop}{M L:Nat->bH->Prop}{a b:aE}{Q:PySem.Fin->aI->Prop}(D:OK z TI TO F H N I)
  (W:Draws prog w A F N T P1 M) (D2:Draws prog w A H I n2 P2 L)
  (J:jz s.heap z TI TO .none) (hTI:gJ s.heap TI (.ref F) (.ref H)) (X:gJ s.heap TO a b)
  (h1:M k s.heap) (h2:L k s.heap) (G:k=T\/(k<T/\k=n2))
  (hE:∀h' tk e,(∀c o,c≠z->c≠TO->c≠F->c≠H->s.heap.get? c=aA o->h'.get? c=aA o)->(∃o,h'.get? e=aA o/\o.cls = .type "StopIteration")->E (.ref e) { s with heap:=h',toks:=tk }) :
  ak (model prog w) A (jq.«zip.__next__» ⟨[.ref z],[]⟩) Q E s:=by
 show ak _ _ (field (.ref z) 2 >>= _) _ _ _;refine aF (bx J rfl rfl ?_);refine aF (bx J rfl rfl ?_);refine aF (eh hTI rfl ?_);refine aF ?_;refine aF (bx J rfl rfl (a9 ?_));refine aF (lB ?_);refine aF (bx J rfl rfl ?_);refine aF (el J (by simp) λh₁ j g=>?_)
 replace j:jz h₁ z TI TO .ellipsis:=j
 replace g:dB z s.heap h₁:=g
 refine aF ?_;refine aF (aF (iS ?_));have B:=W.frame _ _ _ h1 λc O o e=>g.extBut c o (λq=>D.z1 (q▸O)) e;rcases G with U | ⟨hx,U⟩
 ·rw[U] at B;refine aF (W.done _ _ _ B λl e d S=>?_)
  replace d:mW F h₁ l:=d
  obtain⟨Z,n,t⟩:=S;have r:=d _ _ D.i1z.symm j;have C:e≠z:=λx=>by subst x;rw[r] at n;cases n;simp at t
  refine el r (by simp) λm _ f=>?_
  replace f:dB z l m:=f
  exact hE m _ e (λc o c1 _ c3 _ x=>f.extBut _ _ c1 (d _ _ c3 (g.extBut _ _ c1 x))) ⟨Z,f.extBut _ _ C n,t⟩
 ·refine aF (W.item k _ _ _ hx B λx l tk₂ hPx Y d=>a9 ?_)
  replace d:dB F h₁ l:=d
  have p:=d.extBut _ _ D.TOi1 (g.extBut _ _ D.TOz X);refine aF (eh p rfl ?_);refine aF (iV p λm R f=>?_)
  replace f:dB TO l m:=f
  refine aF (mX (a9 ?_));refine aF (aF (iS ?_));have P:=D2.frame _ _ _ h2 λc O o e=>f.extBut c o (λq=>D.TO2 (q▸O)) (d.extBut c o (λq=>D.i12' (q▸O)) (g.extBut c o (λq=>D.z2 (q▸O)) e));rw[U] at P;refine aF (D2.done _ _ _ P λv e h S=>?_)
  replace h:mW H m v:=h
  obtain⟨Z,n,t⟩:=S;have u:=h _ _ D.i2z.symm (f.extBut _ _ D.TOz.symm (d.extBut _ _ D.i1z.symm j));have C:e≠z:=λx=>by subst x;rw[u] at n;cases n;simp at t
  refine el u (by simp) λy _ i=>?_
  replace i:dB z v y:=i
  exact hE y _ e (λc o c1 c2 c3 c4 x=>i.extBut _ _ c1 (h _ _ c4 (f.extBut _ _ c2 (d.extBut _ _ c3 (g.extBut _ _ c1 x))))) ⟨Z,i.extBut _ _ C n,t⟩
theorem RQ{z TI TO i h:aH}{g f:List aH}{m q k:Nat}{p t:Nat->aE->Prop}{e d:Nat->bH->Prop}{a b:aE}{Q:Option aE->aI->Prop}(D:OK z TI TO i h g f)
  (G:Draws prog w A.in1 i g m p e) (C:Draws prog w A.in1 h f q t d)
  (r:jz s.heap z TI TO .none) (l:gJ s.heap TI (.ref i) (.ref h)) (j:gJ s.heap TO a b)
  (S:e k s.heap) (v:d k s.heap) (H:k<m) (R:k<q)
  (u:∀x y h' tk,p k x->t k y->jz h' z TI TO (gH s.heap.objs.size)->gJ h' TO x y->e (k+1) h'->d (k+1) h'->gJ h' s.heap.objs.size x y->h'.objs.size=s.heap.objs.size+1->
   (∀c o,c≠z->c≠TO->c≠i->c≠h->s.heap.get? c=aA o->h'.get? c=aA o)->Q (aA (.ref s.heap.objs.size)) { s with heap:=h',toks:=tk }) :
  ak (model prog w) A (nM (.ref z)) Q E s:=by
 have n:s.TypeIs (.ref z) "zip":=⟨_,r,rfl⟩
 exact aF (jV (dy n F.slot_zip_next
  (gP F.slot_zip_next n F.entry_zip_next
   (Fm D G C r l j S v H R λx y h' tk I p2 J N L P B O M=>a9 (u x y h' tk I p2 J N L P B O M)) (F.args_zip_next_1 _))))
theorem QA{z TI TO l j:aH}{i f:List aH}{m r k:Nat}{G I:Nat->aE->Prop}{h g:Nat->bH->Prop}{a b:aE}{Q:Option aE->aI->Prop}(D:OK z TI TO l j i f)
  (C:Draws prog w A.in1 l i m G h) (B:Draws prog w A.in1 j f r I g)
  (t:jz s.heap z TI TO .none) (p:gJ s.heap TI (.ref l) (.ref j)) (n:gJ s.heap TO a b)
  (L:h k s.heap) (x:g k s.heap) (d:k=m\/(k<m/\k=r))
  (v:∀h' tk,(∀c o,c≠z->c≠TO->c≠l->c≠j->s.heap.get? c=aA o->h'.get? c=aA o)->Q none { s with heap:=h',toks:=tk }):ak (model prog w) A (nM (.ref z)) Q E s:=by
 have q:s.TypeIs (.ref z) "zip":=⟨_,t,rfl⟩
 refine aF (jV (dy q F.slot_zip_next
  (gP F.slot_zip_next q F.entry_zip_next (D4 D C B t p n L x d λh' tk e y u=>?_) (F.args_zip_next_1 _))))
 obtain⟨o,H,J⟩:=u;refine aF (wpAny_isInstance ⟨o,H,J⟩ isSubtype_stop ?_);exact a9 (v _ tk y)
end
abbrev zq1(h:bH)(b1:Bool)(l1:aH):bH:=h.push (V4 b1 l1)
abbrev zq2(h:bH)(b1 b2:Bool)(l1 l2:aH):bH:=(zq1 h b1 l1).push (V4 b2 l2)
abbrev zq3(h:bH)(b1 b2:Bool)(l1 l2:aH):bH:=(zq2 h b1 b2 l1 l2).push { cls:=.type "tuple",data:=.seq #[.ref h.objs.size,.ref (zq1 h b1 l1).objs.size] }
abbrev zq4(h:bH)(b1 b2:Bool)(l1 l2:aH):bH:=(zq3 h b1 b2 l1 l2).push { cls:=.type "tuple",data:=.seq #[.none,.none] }
abbrev AZ(h:bH)(b1 b2:Bool)(l1 l2:aH):bH:=(zq4 h b1 b2 l1 l2).push { cls:=.type "zip",data:=.fields #[.none,.bool aB,.bool aB,.ref (zq2 h b1 b2 l1 l2).objs.size,.ref (zq3 h b1 b2 l1 l2).objs.size] }
theorem Of(c f:Bool)(a b:aH)(q n:Array aE) :
  Meets (jq.«zip.__new__» ⟨[.type "zip",.ref a,.ref b],[]⟩) (λ_ R s=>SeqB c s.heap a q/\SeqB f s.heap b n/\
   R (.ok (.ret (.ref (zq4 s.heap c f a b).objs.size))) { s with heap:=AZ s.heap c f a b }):=
 .of_wp λprog w A R s h=>by
  obtain⟨p,g,d,tk,os⟩:=s;obtain⟨j,k,h⟩:=h;have m:=sub_zip;have l:=j;have i:SeqB f (nS ⟨p.push (V4 c a),g,d,tk,os⟩) b n:=k.at λo e=>aG _ e
  wp_walk using Yj l,Yj i
  exact⟨_,rfl,h⟩
section
variable {prog:au} {w:bc} {A:bQ} {E:aE->aI->Prop} {s:aI}
theorem Nq{b e:Bool}{a d:aH}{r q:Array aE}{Q:aE->aI->Prop}(j:SeqB b s.heap a r)(l:SeqB e s.heap d q)
  (h:∀h',jz h' (s.heap.objs.size+4) (s.heap.objs.size+2) (s.heap.objs.size+3) .none->gJ h' (s.heap.objs.size+2) (.ref s.heap.objs.size) (.ref (s.heap.objs.size+1))->
   gJ h' (s.heap.objs.size+3) .none .none->IterB b h' s.heap.objs.size a 0->IterB e h' (s.heap.objs.size+1) d 0->h'.objs.size=s.heap.objs.size+5->
   (∀c o,s.heap.get? c=aA o->h'.get? c=aA o)->Q (.ref (s.heap.objs.size+4)) { s with heap:=h' }) :
  ak (model prog w) A (call (.type "zip") [.ref a,.ref d]) Q E s:=by
 refine callType_new F.called_zip rfl (F.typeCall_zip_2 _ _) (F.newCall_zip_2 _ _) (λm=>F.args_object_init_3 m _ _) F.entry_zip_new
  (Of b e a d r q) ⟨j,l,?_⟩
 have f:(zq1 s.heap b a).objs.size=s.heap.objs.size+1:=cT ..;have k:(zq2 s.heap b e a d).objs.size=s.heap.objs.size+2:=by rw[cT,f]
 have g:(zq3 s.heap b e a d).objs.size=s.heap.objs.size+3:=by rw[cT,k]
 have i:(zq4 s.heap b e a d).objs.size=s.heap.objs.size+4:=by rw[cT,g]
 have y:(AZ s.heap b e a d).objs.size=s.heap.objs.size+5:=by rw[cT,i]
 have n:(AZ s.heap b e a d).get? (zq4 s.heap b e a d).objs.size=aA _:=ag _ rfl;have u:(AZ s.heap b e a d).get? (zq3 s.heap b e a d).objs.size=aA _:=aG _ (ag _ rfl);have p:(AZ s.heap b e a d).get? (zq2 s.heap b e a d).objs.size=aA _:=aG _ (aG _ (ag _ rfl));have t:(AZ s.heap b e a d).get? (zq1 s.heap b a).objs.size=aA (V4 e d):=aG _ (aG _ (aG _ (ag _ rfl)));have v:(AZ s.heap b e a d).get? s.heap.objs.size=aA (V4 b a):=aG _ (aG _ (aG _ (aG _ (ag _ rfl))));rw[k,g,i] at n;rw[f,k] at p;rw[g] at u;rw[f] at t;rw[i]
 exact⟨⟨_,n,rfl⟩,h _ n p u (IterB.new v) (IterB.new t) y λc o x=>
  aG _ (aG _ (aG _ (aG _ (aG _ x))))⟩
end
theorem Inv.newTup{X:Cx}{w:List (aH×cy)}{E:St}{H:Hp}{s:aI}{l:List aH}{k:bH}{tk n:Nat}{B:List aE}{j:List V}(I:Inv X w E H s)(F:∀b∈l,Vr X w H b)
  (kk:∀c o,c∉l->s.heap.get? c=aA o->k.get? c=aA o) (C:k.get? s.heap.objs.size=aA { cls:=.type "tuple",data:=.seq B.toArray n }) (L:Vals j B) (M:j.length<=sizeLine) :
  Inv X w E (upd H s.heap.objs.size (.tup j)) { s with heap:=k,toks:=tk }:=by
 have a:=I.hok.fresh (aN _);have y:∀c∈l,(c∈X.ex\/X.s₀.heap.objs.size<=c)/\c≠X.env.locals/\(∀x d,X.env.cells.lookup x=aA d->d≠c)/\∀p∈X.pn++w,p.1≠c:=λc h=>by have f:=F c h;exact⟨f.2.2.2.1,f.2.1,f.2.2.2.2.1,f.2.2.2.2.2⟩
 have r:∀c i,H c=aA i->c∉l:=λc i q h=>by rw[(F c h).1] at q;cases q
 have t:=λc i q=>(I.hok c i q).stay (λd v J A=>kk d v (by
   rcases J with z | z
   ·rw[z];exact r c i q
   ·exact r d _ z) A) (λ_ z=>z) (λ_ _ z=>z) λ_ _ z=>z
 have new:ObjOk X.prog X.w (upd H s.heap.objs.size (.tup j)) k s.heap.objs.size (.tup j):=
  ⟨⟨M,λo e=>by rw[C] at e;cases e;rfl⟩,B,L,⟨_,C,rfl,_,rfl⟩⟩
 have m:HOk X.prog X.w (upd H s.heap.objs.size (.tup j)) k:=λc i q=>by
  by_cases G:c=s.heap.objs.size
  ·subst G;rw[Zs] at q;cases q;exact new
  ·rw[upd_ne G] at q;exact(t c i q).stay (λd v _ A=>A) (λd z=>by rw[upd_ne (Zt z a)];exact z) (λd D z=>by rw[upd_ne (Zt z a)];exact z) λd u z=>by rw[upd_ne (Zt z a)];exact z
 have un:Un (MN X.stack) l H (upd H s.heap.objs.size (.tup j)) s.heap k:=by
  refine⟨λc o q _ _ g=>kk c o g q,λc o q _ _ g=>⟨o.slots,kk c o g q⟩,λc o q n _=>?_,λc o q g=>⟨o,kk c o g q⟩,λc D q=>?_,λc o D q=>?_,λc N q=>⟨#[],?_⟩⟩
  ·rw[upd_ne (ar (aQ q))];exact n
  ·rw[upd_ne (Zt q a)];exact q
  ·rw[upd_ne (Zt q a)];exact q
  ·rw[upd_ne (Zt q a),q];simp
 exact I.call un m I.bare y
theorem Inv.turnedL{X:Cx}{k:List (aH×cy)}{r:St}{H:Hp}{s:aI}{g:List aH}{l:bH}{tk:Nat}(I:Inv X k r H s)(t:∀b∈g,Vr X k H b)
  (kk:∀c o,c∉g->s.heap.get? c=aA o->l.get? c=aA o):Inv X k r H { s with heap:=l,toks:=tk }:=by
 have m:∀c∈g,(c∈X.ex\/X.s₀.heap.objs.size<=c)/\c≠X.env.locals/\(∀x d,X.env.cells.lookup x=aA d->d≠c)/\∀p∈X.pn++k,p.1≠c:=λc e=>by have f:=t c e;exact⟨f.2.2.2.1,f.2.1,f.2.2.2.2.1,f.2.2.2.2.2⟩
 have i:∀c h,H c=aA h->c∉g:=λc h q e=>by rw[(t c e).1] at q;cases q
 have j:=λc h q=>(I.hok c h q).stay (λd v w y=>kk d v (by
   rcases w with z | z
   ·rw[z];exact i c h q
   ·exact i d _ z) y) (λ_ z=>z) (λ_ _ z=>z) λ_ _ z=>z
 have un:Un (MN X.stack) g H H s.heap l:=
  ⟨λc o q _ _ a=>kk c o a q,λc o q _ _ a=>⟨o.slots,kk c o a q⟩,λc o q n _=>n,λc o q a=>⟨o,kk c o a q⟩,λc u q=>q,λc o u q=>q,λc A q=>⟨#[],by rw[q];simp⟩⟩
 exact I.call un j I.bare m
theorem SeqB.ne_rec{b:Bool}{h:bH}{a c:aH}{j:Array aE}{o:cy}{vs:Array aE}(p:SeqB b h a j)(e:h.get? c=aA o)(d:o.data = .fields vs):a≠c:=λz=>by
 subst z
 cases b with
 | true=>obtain⟨i,f,_,m,g⟩:=(p);rw[e] at f;cases f;rw[d] at g;cases g
 | false=>obtain⟨i,f,_,m,g⟩:=(p);rw[e] at f;cases f;rw[d] at g;cases g
theorem IterB.rec{b:Bool}{h:bH}{c a:aH}{i:Nat}(x:IterB b h c a i):∃o,h.get? c=aA o/\∃vs,o.data = .fields vs:=by
 cases b with
 | true=>obtain⟨o,e,_,d⟩:=(x);exact⟨o,e,_,d⟩
 | false=>obtain⟨o,e,_,d⟩:=(x);exact⟨o,e,_,d⟩
structure A1(a1 a2 TO TI:aH):Prop where
 a:a1≠TO
 b:a2≠TO
 c:a1≠TI
 d:a2≠TI
noncomputable def Itz(b1 b2:Bool)(K:aD)(a1 a2:aH):It:=
  ⟨λi H=>∃xs ys x y,R3 b1 K H a1 xs/\R3 b2 K H a2 ys/\xs[i]?=aA x/\ys[i]?=aA y,
   λi H v H'=>∃p x y,H p=none/\v = .ref p/\H'=upd H p (.tup [x,y])/\(∀xs,R3 b1 K H a1 xs->xs[i]?=aA x)/\∀ys,R3 b2 K H a2 ys->ys[i]?=aA y,
   λi H=>∃xs ys,R3 b1 K H a1 xs/\R3 b2 K H a2 ys/\(i=xs.length\/(i<xs.length/\i=ys.length))⟩
theorem Fo{P:au}{w:bc}{K:aD}{elts:List aq}{k:Nat}{pos:fD}(b1 b2:Bool)(a1 a2 z TI TO G F:aH)(d:[z,TI,TO,G,F].Nodup) :
  Ng P w K (.Tuple elts k pos) (Itz b1 b2 K a1 a2) [z,TI,TO,G,F] z
   (λi h=>jz h z TI TO .none/\gJ h TI (.ref G) (.ref F)/\(∃u v,gJ h TO u v/\A1 a1 a2 TO TI)/\IterB b1 h G a1 i/\IterB b2 h F a2 i) where
 mem:=by simp
 obj:=λi h st c Y=>by
  obtain⟨B,b,⟨u,v,m,_⟩,O,N⟩:=st;simp only[aa,dG,or_false] at Y;rcases Y with rfl | rfl | rfl | rfl | rfl
  ·exact⟨_,B,λv q=>by cases q⟩
  ·exact⟨_,b,λv q=>by cases q⟩
  ·exact⟨_,m,λv q=>by cases q⟩
  ·exact O.has
  ·exact N.has
 keep:=λi h h' st kk=>by obtain⟨B,b,⟨u,v,m,f⟩,O,N⟩:=st;exact⟨kk z (by simp) _ B,kk TI (by simp) _ b,⟨u,v,kk TO (by simp) _ m,f⟩,O.at λo q=>kk G (by simp) o q,N.at λo q=>kk F (by simp) o q⟩
 item:=by
  intro X hP hw hK Y i n5 s σ H E I hf st hg;subst hP hw hK;obtain⟨xs,ys,x,y,S,T,hx,hy⟩:=hg;obtain⟨j,rv1,R,hz1⟩:=I.seqB S;obtain⟨l,rv2,p2,hz2⟩:=I.seqB T;obtain⟨u,hu,ru⟩:=rv1.get hx;obtain⟨v,hv,rv⟩:=rv2.get hy;obtain⟨B,b,⟨q1,q2,m,f⟩,O,N⟩:=st;obtain⟨o1,e1,vs1,d1⟩:=O.rec;obtain⟨o2,e2,vs2,d2⟩:=N.rec;have A1z:=R.ne_rec B rfl;have A2z:=p2.ne_rec B rfl;have Z:=R.ne_rec e1 d1;have A12:=R.ne_rec e2 d2;have A21:=p2.ne_rec e1 d1;have A22:=p2.ne_rec e2 d2;simp only[bY,aa,dG,not_or,cg,and_true,not_false_eq_true] at d;obtain⟨⟨n,r,t,C⟩,⟨W,U,M⟩,⟨L,J⟩,p⟩:=d;obtain⟨f1,f2,f3,f4⟩:=f;have D:OK z TI TO G F [G,a1] [F,a2]:=⟨bB n,bB r,bB t,bB C,W,U,M,L,J,p,by simp[t,bB A1z],by simp[L,bB f1],by simp[bB p,bB A12],by simp[C,bB A2z],by simp[J,bB f2],by simp[p,bB A21]⟩;have D1:=Draws.seq (prog:=X.prog) (w:=X.w) (A:=X.A.in1) b1 (I.ok.hd Y) G a1 Z j.toArray;have D2:=Draws.seq (prog:=X.prog) (w:=X.w) (A:=X.A.in1) b2 (I.ok.hd Y) F a2 A22 l.toArray;have l1:i<j.toArray.size:=by simpa using(aS.mp hu).1
  have l2:i<l.toArray.size:=by simpa using(aS.mp hv).1
  refine RQ D D1 D2 B b m ⟨O,R⟩ ⟨N,p2⟩ l1 l2 λx' y' h' tk hPx hPy c1 c2 c3 c4 c5 c6 hk=>?_
  have ex':x'=u:=by
   have w1:=hPx;have w2:j.toArray[i]?=aA u:=by simpa using hu
   rw[w1] at w2;exact ay w2
  have ey':y'=v:=by
   have w1:=hPy;have w2:l.toArray[i]?=aA v:=by simpa using hv
   rw[w1] at w2;exact ay w2
  subst ex' ey';refine⟨_,rfl,wpAny_letOwnedTupleGo_zip c1 λh3 hz3 g=>?_⟩
  replace g:dB z h' h3:=g
  have kk:∀c o,c∉[z,TI,TO,G,F]->s.heap.get? c=aA o->h3.get? c=aA o:=λc o a q=>
   g.extBut c o (λe=>a (by simp[e])) (hk c o (λe=>a (by simp[e])) (λe=>a (by simp[e])) (λe=>a (by simp[e])) (λe=>a (by simp[e])) q)
  have hTn:=I.hok.fresh (aN _);have hT3:=g.extBut _ _ (fK (aQ B)) c5;have I2:=I.newTup (tk:=tk) hf kk hT3 (.cons ru (.cons rv .nil)) (by show 2<=sizeLine;decide);refine⟨.ref s.heap.objs.size,_,I2,rfl,⟨_,x,y,hTn,rfl,rfl,λzs hzs=>by rw[I.seqB_inj hzs S];exact hx,λzs hzs=>by rw[I.seqB_inj hzs T];exact hy⟩,⟨hz3,g.extBut _ _ (bB n) (hk _ _ (bB n) W U M b),⟨_,_,g.extBut _ _ (bB r) c2,f1,f2,f3,f4⟩,c3.1.at λo q=>g.extBut _ o (bB t) q,c4.1.at λo q=>g.extBut _ o (bB C) q⟩,λc a=>?_⟩;rw[upd_ne (ar ?_)]
  ·exact(hf c a).1
  ·simp only[aa,dG,or_false] at a;rcases a with rfl | rfl | rfl | rfl | rfl
   ·exact aQ B
   ·exact aQ b
   ·exact aQ m
   ·exact aQ e1
   ·exact aQ e2
 done:=by intro X hP hw hK Y i n5 s σ H E I hf st hg;subst hP hw hK;obtain⟨xs,ys,S,T,hx⟩:=hg;obtain⟨j,rv1,R,hz1⟩:=I.seqB S;obtain⟨l,rv2,p2,hz2⟩:=I.seqB T;obtain⟨B,b,⟨q1,q2,m,f⟩,O,N⟩:=st;obtain⟨o1,e1,vs1,d1⟩:=O.rec;obtain⟨o2,e2,vs2,d2⟩:=N.rec;have A1z:=R.ne_rec B rfl;have A2z:=p2.ne_rec B rfl;have Z:=R.ne_rec e1 d1;have A12:=R.ne_rec e2 d2;have A21:=p2.ne_rec e1 d1;have A22:=p2.ne_rec e2 d2;simp only[bY,aa,dG,not_or,cg,and_true,not_false_eq_true] at d;obtain⟨⟨n,r,t,C⟩,⟨W,U,M⟩,⟨L,J⟩,p⟩:=d;obtain⟨f1,f2,f3,f4⟩:=f;have D:OK z TI TO G F [G,a1] [F,a2]:=⟨bB n,bB r,bB t,bB C,W,U,M,L,J,p,by simp[t,bB A1z],by simp[L,bB f1],by simp[bB p,bB A12],by simp[C,bB A2z],by simp[J,bB f2],by simp[p,bB A21]⟩;have D1:=Draws.seq (prog:=X.prog) (w:=X.w) (A:=X.A.in1) b1 (I.ok.hd Y) G a1 Z j.toArray;have D2:=Draws.seq (prog:=X.prog) (w:=X.w) (A:=X.A.in1) b2 (I.ok.hd Y) F a2 A22 l.toArray;have n1:=rv1.length;have n2:=rv2.length;refine QA D D1 D2 B b m ⟨O,R⟩ ⟨N,p2⟩ (by simp only[aR];omega) λh' tk hk=>⟨rfl,?_⟩;exact I.turnedL hf λc o a q=>hk c o (λe=>a (by simp[e])) (λe=>a (by simp[e])) (λe=>a (by simp[e])) (λe=>a (by simp[e])) q
 self:=λA i s Q E st hQ=>wpAny_pyIter_zip st.1 hQ
section
variable {X:Cx}
noncomputable def Ze5(b1 b2:Bool)(K:aD)(ta:TA):TI:=λσ H R=>ta σ H λvs H1=>∃a1 a2,vs=[.ref a1,.ref a2]/\(∃xs,R3 b1 K H1 a1 xs)/\(∃ys,R3 b2 K H1 a2 ys)/\R (Itz b1 b2 K a1 a2) H1
theorem A3{f:List aq}{k:Nat}{m:fD}(z E:Bool){a b:aq}{A:TA}{p pos:fD}(J:Gl X "zip")(Q:X.mg "zip" = none)(L:PA X [a,b] A)
  (hs:aO [a,b] X.env=[(aB,eval a X.env),(aB,eval b X.env)]:=by rfl) (o:aO [b] X.env=[(aB,eval b X.env)]:=by rfl) :
  PI X (.Tuple f k m) (.Call (.Name "zip" p) [a,b] [] pos) (Ze5 z E X.K A):=by
 intro P s O H R I h;refine Call_ (Ub I J Q boot_zip (dI (Ys (L pos P s O H _ I h) λus s1 ⟨vs,S,l,M,q1⟩=>?_) (by rw[hs,o]) (by rw[o];rfl)));obtain⟨u,w,e,⟨xs,v⟩,⟨ys,x⟩,q⟩:=q1;subst e
 cases M with
 | cons r rr=>
  cases rr with
  | cons r' rr=>
   cases rr;cases r;cases r';obtain⟨F,W,B,_⟩:=l.seqB v;obtain⟨D,U,p2,_⟩:=l.seqB x;refine Nq B p2 λh' c1 c2 c3 c4 c5 c6 N=>?_;refine wpAny_pyIter_zip c1 ?_;have T:=l.kept (t':=s1.toks) N;have y:=let⟨_,e⟩:=B.has;aQ e;have C:=let⟨_,e⟩:=p2.has;aQ e;generalize Z:s1.heap.objs.size=n at *;have ne:∀(a:aH)(j:Nat),a<n->a≠n+j:=λa j h=>ar (aV h (fU _ _));have Y:([n+4,n+2,n+3,n,n+1]:List aH).Nodup:=by have d:∀(i j:Nat),i≠j->(n+i:Nat)≠n+j:=λi j h e=>h (ke e);have t:∀(i:Nat),i≠0->(n+i:Nat)≠n:=λi h e=>h (ke (e.trans (Nat.add_zero n).symm));simp only[bY,aa,dG,not_or,cg,and_true,not_false_eq_true];exact⟨⟨d 4 2 (by decide),d 4 3 (by decide),t 4 (by decide),d 4 1 (by decide)⟩,⟨d 2 3 (by decide),t 2 (by decide),d 2 1 (by decide)⟩,⟨t 3 (by decide),d 3 1 (by decide)⟩,(t 1 (by decide)).symm⟩
   refine⟨n+4,[n+4,n+2,n+3,n,n+1],_,_,S,rfl,T,Fo z E u w (n+4) (n+2) (n+3) n (n+1) Y,⟨c1,c2,⟨_,_,c3,ne u 3 y,ne w 3 C,ne u 2 y,ne w 2 C⟩,c4,c5⟩,λc G=>?_,q⟩
   have g:s1.heap.objs.size<=c:=by
    rw[Z];simp only[aa,dG,or_false] at G;rcases G with rfl | rfl | rfl | rfl | rfl
    ·exact fU _ _
    ·exact fU _ _
    ·exact fU _ _
    ·exact aN _
    ·exact fU _ _
   exact l.fpOk g (l.hok.fresh g)
end
theorem Walks.seqB{prog:au}{w:bc}{A:bQ}(b:Bool)(e:A.handled=none)(I c:aH)(d:c≠I)(a:Array aE) :
  Walks prog w A I [I,c] [I] a.size (λi v=>a[i]?=aA v) (λi h=>IterB b h I c i/\SeqB b h c a):=by
 cases b with
 | true=>exact Walks.list e I c d a
 | false=>exact Walks.tuple e I c d a
section
variable {X:Cx}
theorem YR(J:X.calm=aC):Xr X (.builtin "sum") (λB H Q=>∃(b:Bool) (p:aH) (a:List Int),B=[.ref p]/\R3 b X.K H p (a.map V.int)/\Q (.int a.sum) H):=by
 intro N s M H B P Q I r h;obtain⟨b,p,a,rfl,L,q⟩:=h;obtain⟨u,rfl,G⟩:=TF r;cases G;obtain⟨n,w,d,O⟩:=I.seqB L;have z:=let⟨_,e⟩:=d.has;aQ e;refine call_sum_walkG (Yj d ?_);refine⟨_,_,_,_,_,_,λi=>a.getD i 0,rfl,Walks.seqB (A:=X.A.in1) b (I.ok.hd J) s.heap.objs.size p (ar z) n.toArray,⟨IterB.new (ag _ rfl),d.at λo e=>aG _ e⟩,λc g=>?_,λi v j=>?_,λh' tk t' y=>?_⟩
 ·show c<(s.heap.push _).objs.size;rw[cT];rcases aa.mp g with rfl | g
  ·exact iP _
  ·rw[ah.mp g];exact lj z
 ·have j:=j;have j:n[i]?=aA v:=by simpa using j
  have l:=w.length;rw[aP] at l;have D:i<a.length:=by rw[l];exact(aS.mp j).1
  obtain⟨u,C,E⟩:=w.get (i:=i) (x:=.int a[i]) (by simp);rw[j] at C;cases C;obtain⟨t,rfl⟩:=E;refine⟨t,?_⟩;show k7 a[i] t=k7 (a.getD i 0) t;rw[aJ,aL D];rfl
 ·have e:preSum (λi=>a.getD i 0) n.toArray.size=a.sum:=by
   have l:=w.length;rw[aP] at l;rw[aR,<-l]
   have m:∀k,k<=a.length->preSum (λi=>a.getD i 0) k=(a.take k).sum:=by
    intro k
    induction k with
    | zero=>intro _;simp[preSum]
    | succ k ih=>
     intro y;rw[preSum,ih (by omega),List.take_add_one,aJ,aL (by omega),i8];simp
   rw[m _ (aN _),fV]
  rw[e];refine⟨.int a.sum,H,I.kept (λc o f=>y c o ?_ (aG _ f)),⟨_,rfl⟩,q⟩;intro F;rw[ah.mp F] at f;exact absurd (aQ f) (cK _)
theorem Hx(E:X.calm=aC):Xr X (.builtin "any") (λm H Q=>∃(b:Bool) (p:aH) (bs:List Bool),m=[.ref p]/\R3 b X.K H p (bs.map V.bl)/\Q (.bl (bs.any id)) H):=by
 intro L s J H m P Q I r h;obtain⟨b,p,bs,rfl,F,q⟩:=h;obtain⟨u,rfl,C⟩:=TF r;cases C;obtain⟨j,l,a,O⟩:=I.seqB F;have D:p<s.heap.objs.size:=let⟨_,e⟩:=a.has;aQ e;have k:=l.length;rw[aP] at k;refine call_any_walk (Yj a ?_);refine⟨_,_,_,_,_,_,λi=>bs.getD i aC,rfl,Walks.seqB (A:=X.A.in1) b (I.ok.hd E) s.heap.objs.size p (ar D) j.toArray,⟨IterB.new (ag _ rfl),a.at λo e=>aG _ e⟩,λi v M G N g t=>?_,λh' tk w=>?_⟩
 ·have g:j.toArray[i]?=aA v:=g;have g:j[i]?=aA v:=by simpa using g
  have d:i<bs.length:=by rw[k];exact(aS.mp g).1
  obtain⟨u,n,y⟩:=l.get (i:=i) (x:=.bl bs[i]) (by rw[aZ,aL d];rfl);rw[g] at n;cases n;cases y;refine dw ?_;have e:bs.getD i aC=bs[i]:=by rw[aJ,aL d];rfl
  rw[<-e];exact t
 ·have e:(aM j.toArray.size).any (λi=>bs.getD i aC)=bs.any id:=by
   rw[aR,<-k,m4,fX,fX];constructor
   ·rintro⟨i,d,h⟩;have d:=aU.mp d;rw[aJ,aL d] at h;exact⟨_,eT d,h⟩
   ·rintro⟨x,B,h⟩;obtain⟨i,d,rfl⟩:=gK.mp B;refine⟨i,aU.mpr d,?_⟩;rw[aJ,aL d];exact h
  rw[e];refine⟨.bl (bs.any id),H,I.kept (λc o f=>w c o ?_ (aG _ f)),rfl,q⟩;intro z;rw[ah.mp z] at f;exact absurd (aQ f) (cK _)
theorem RK:Xr X (.builtin "isinstance") (λa H Q=>∃x T t b,a=[x,.ty T]/\TyOf X.K H x t/\aw X.K t (.type T)=aA b/\Q (.bl b) H):=by intro i s g H a j Q I r h;obtain⟨x,T,t,b,rfl,e,c,q⟩:=h;obtain⟨u,v,rfl,d,f⟩:=JX r;cases f;exact Hs I d e c λtk=>⟨.bl b,H,I.tok tk,rfl,q⟩
theorem M0{K:aD}:aw K (.type "int") (.type "int")=aA aC:=rfl
theorem Nr{K:aD}:aw K (.type "int") (.type "bool")=aA aB:=rfl
theorem M1{K:aD}:aw K (.type "tuple") (.type "tuple")=aA aC:=rfl
theorem Og{K:aD}:aw K (.type "list") (.type "list")=aA aC:=rfl
theorem M3{K:aD}:aw K (.type "str") (.type "str")=aA aC:=rfl
noncomputable def J1:V->List V->Hp->VK->Prop:=λx vs H Q=>∃l xs k y,x = .ref l/\vs=[.int k,y]/\H l=aA (.lst xs)/\0<=k/\k<2^63/\xs.length<sizeLine/\Q .non (upd H l (.lst (xs.take k.toNat++y::xs.drop k.toNat)))
theorem OL:MtM X "list.insert" J1:=by
 intro B s w H x vs v E Q I i m h;obtain⟨l,D,k,y,rfl,rfl,d,A,p,C,q⟩:=h;cases i;obtain⟨G,f,rfl,o,g⟩:=m.two;obtain⟨t,rfl⟩:=o;obtain⟨z,a,n,r,u,e⟩:=I.lstM d;have b:¬(!Builtin.List.listFitsIndex k)=aC:=by rw[fitsIndex_both (by omega) p];exact bT
 refine gj F.slot_list_insert ⟨_,e,rfl⟩ F.entry_list_insert (F.args_list_insert_3 _ _ _) (AutoListH.list_insert_list_int_val_1 l a.toArray n k t f b (by rw[aR];omega)) ⟨e,?_⟩;refine⟨.non,_,I.lset d e ?_ ((r.take k.toNat).append (.cons g (r.drop k.toNat))) ?_,rfl,q⟩
 ·show(have j:=if k<0 then(k+((a.toArray.size:Nat):Int)).toNat else min k.toNat a.toArray.size;(a.toArray.extract 0 j).push f++a.toArray.extract j)=_;rw[ng (by omega)];by_cases c:k.toNat<=a.length
  ·rw[eB (by rw[aR];exact c)];simp;rw[bh (by simp)]
  ·rw[jc (by rw[aR];omega)];rw[bh (by omega),iB (by omega)];simp
 ·rw[bJ,bp,bV,ck];omega
end
noncomputable def TK(H H':Hp):Prop:=∀b xs,H b=aA (.tup xs)->H' b=aA (.tup xs)
theorem Same.tk{H a:Hp}(s:Same H a):TK H a:=λb c h=>s b _ h
theorem Same.new{H:Hp}{p:aH}(h:H p=none)(o:HO):Same H (upd H p o):=λb u q=>by rw[upd_ne (Zt q h)];exact q
structure Def(K:aD)(mg:a0->Option aE)(x:a0)(st:bS):Prop where
 ex:∃f fd,mg x=aA (.ref f)/\Fun K x x st f fd
theorem def_mk{K:aD}{h:bH}{g:a0->Option aE}{x:a0}{st:bS}{f:aH}{i:aE}{j m:Option aH}{d:Array (Option aE)}{kV e n b ct:aE}(X:K.In h)(G:h.Ns az g)
  (a:b6 K az x=aA (aA (.ref f))) (l:K.lookup f=aA ⟨i,j,.func (cC x x (YE st) (ZY st) (Ze st) .none kV e n m b ct),d⟩)
  (c:cZ K b x=aC) (k:eV K (.ref f)=aC):Def K g x st:=⟨f,_,cU X G a,Fi l c k⟩
structure Xd(P:au)(w:bc)(K:aD)(mg:a0->Option aE)(base:bH)(x:a0)(ps:List a0)(sp:Sp)(k:Nat):Prop where
 ex:∃f fd,mg x=aA (.ref f)/\eV K (.ref f)=aC/\Binds K fd ps []/\Te P w K mg base OI k f fd ps sp
section
variable {P:au} {w:bc} {K:aD} {mg:a0->Option aE} {base:bH}
theorem Def.cal{x:a0}{st:bS}{N d:List a0}{k:Nat}{sp:Sp}(D:Def K mg x st)(S:Zk N d (Ze st))
  (j:∀(kV doc pm:aE)(an:Option aH)(b ct:aE)(us:List aE),us.length=d.length->gv (cC x x (YE st) (ZY st) (Ze st) .none kV doc pm an b ct) ⟨us,[]⟩=pure (d.zip us))
  (len:∀vs H Q E,sp vs H Q E->vs.length=d.length)
  (c:∀(f:aH)(b:aE)(A:bQ)(a:List jN)(s:aI)(H:Hp)(vs:List V)(Q:VK)(E:XK),Room k (A.deeper (gi x (Ze st) s.heap.objs.size f b))->sp vs H Q E->
   ∃t,PSs (Tf OI P w K mg base N x (Ze st) f b A a s H E).nox (ZY st) t/\t { nx:=λ_ l=>Q .non l,rt:=Q } (start N vs) H):Xd P w K mg base x d sp (k+1):=by
 obtain⟨f,g,i,F⟩:=D.ex;exact⟨f,g,i,F.kp,F.binds j,F.ok S len λb A a s H vs Q E e h=>c f b A a s H vs Q E e h⟩
end
section
variable {X:Cx} {x:a0} {ps:List a0} {sp:Sp} {k:Nat} {e:aq} {es:List aq} {t:TA} {p pos:fD}
theorem Kw(C:Xd X.prog X.w X.K X.mg X.base x ps sp k)(i:Room k X.A)(l:Gl X x)(m:PA X (e::es) t)
  (g:(x==("__debug__" : a0))=aB:=by decide) (j:aO (e::es) X.env=(aB,eval e X.env)::aO es X.env:=by rfl) (h:(dD pos (aO es X.env)).any (·.1)=aB:=by rfl) :
  PE X (.Call (.Name x p) (e::es) [] pos) (Fe sp [] E0 t):=by
 obtain⟨f,n,a,b,c,d⟩:=C.ex;exact DN d i l a b c .nil Zcr m g j h
end
noncomputable def Ue(N:List a0)(around scope:du)(own fr:List a0)(ix:List Nat):Bool:=
 (match scope.kind with | .function=>aC | _=>aB)&&scope.names.all (λy=>y.2 != .cell)&&scope.names.all (λy=>y.2 != .local || scope.names.lookup y.1==aA .local)&&
 scope.names.all (λy=>y.2 != .free || (around.names.lookup y.1==aA .cell || around.names.lookup y.1==aA .free))&&(fr.map aA==ix.map (λi=>N[i]?))&&
 fr.all (λx=>scope.names.contains (x,b0))&&fr.all (λx=>scope.names.lookup x != aA .local)
theorem OM{N:List a0}{a b:du}{own fr:List a0}{ix:List Nat}(h:Ue N a b own fr ix=aC):CompScope N a b own fr ix:=by
 unfold Ue at h;simp only[bX] at h;obtain⟨⟨⟨⟨⟨⟨f,i⟩,g⟩,k⟩,m⟩,l⟩,j⟩:=h;refine⟨?_,λy c=>?_,λy c e=>?_,λy c e=>?_,by simpa using m,λx d=>?_,λx d=>?_⟩
 ·split at f
  ·assumption
  ·cases f
 ·simpa using bA.mp i y c
 ·have:=bA.mp g y c;rw[e] at this;simpa using this
 ·have:=bA.mp k y c;rw[e] at this;simpa using this
 ·simpa using bA.mp l x d
 ·simpa using bA.mp j x d
section
variable {X:Cx} {tg nX iter:aq} {nV:List aq} {scope:du} {pos:fD} {wi:TI} {g:TG} {tt:TT} {te:TE}
theorem M4(own fr:List a0)(ix:List Nat)(a:X.calm=aC)(e:PI X tg iter wi)(S:Ue X.N X.env.scope scope own fr ix=aC)
  (c:∀cl C s H ex,PG (ZH X (own++fr) scope cl C s H ex) tg g) (d:∀cl C s H ex,Kv (ZH X (own++fr) scope cl C s H ex) nV tt) (b:∀cl C s H ex,PE (ZH X (own++fr) scope cl C s H ex) nX te)
  (hs:∀x,bq iter X.env x=pure x:=by intro _;rfl):PE X (.ListComp nX [⟨tg,iter,nV,0⟩] scope pos) (Qx own.length ix wi g tt te):=
 DY a e (OM S) c d b hs
theorem Fp(own fr:List a0)(ix:List Nat){i:Nat}{y:a0}{e a:fD}(l:X.N.Nodup)(m:X.N[i]?=aA y)(c:X.env.scope.names.lookup y=aA .local)(b:X.calm=aC)(j:PI X tg iter wi)(S:Ue X.N X.env.scope scope own fr ix=aC)
  (h:∀cl C s H ex,PG (ZH X (own++fr) scope cl C s H ex) tg g) (k:∀cl C s H ex,Kv (ZH X (own++fr) scope cl C s H ex) nV tt) (f:∀cl C s H ex,PE (ZH X (own++fr) scope cl C s H ex) nX te)
  (d:fT (.ListComp nX [⟨tg,iter,nV,0⟩] scope pos) (aA (.Name y e)) a.line X.env=pure aC:=by rfl)
  (hs:∀x,bq iter X.env x=pure x:=by intro _;rfl):PS X (.Assign [.Name y e] (.ListComp nX [⟨tg,iter,nV,0⟩] scope pos) a) (Kk (Qx own.length ix wi g tt te) (TB i)):=
 DZ l m c b j (OM S) h k f d hs
end
structure XY(mg:a0->Option aE):Prop where
 «len» : mg "len" = none
 «sum» : mg "sum" = none
 «range» : mg "range" = none
 «enumerate» : mg "enumerate" = none
 «zip» : mg "zip" = none
 «tuple» : mg "tuple" = none
 «list» : mg "list" = none
 «all» : mg "all" = none
 «any» : mg "any" = none
 «isinstance» : mg "isinstance" = none
 «int» : mg "int" = none
 «bool» : mg "bool" = none
 «str» : mg "str" = none
 «min» : mg "min" = none
 «max» : mg "max" = none
 «sorted» : mg "sorted" = none
 «abs» : mg "abs" = none
 «ValueError» : mg "ValueError" = none
 «reversed» : mg "reversed" = none
 «set» : mg "set" = none
abbrev Ze6(g:TG)(tb:TS)(D:YH)(σ:St)(J:It)(H:Hp):Prop:=
 ∃W:Nat->Nat->St->Hp->Prop,(∃m,W 0 m σ H)/\∀i m σ H,W i m σ H->
   (J.stop i H/\D.nx σ H)\/(J.go i H/\∃N:St->Hp->Prop,(∀σ' H',N σ' H'->∃m',m'<m/\W (i+1) m' σ' H')/\∀x H',J.yld i H x H'->g x σ H' λσ2 H2=>tb { D with nx:=N,ct:=N,bk:=D.nx } σ2 H2)
noncomputable def Zp(l:List Int)(i:Nat):Int:=l.getD i 0
theorem Sy(l:List Int):(aM l.length).map (Zp l)=l:=by
 apply dR;intro i;rw[aZ];by_cases h:i<l.length
 ·rw[aL (by simpa using h)];simp[Zp,aL h]
 ·rw[bb (by simpa using h),bb (by omega)];rfl
theorem Ya{f:Nat->Int}{n i:Nat}(h:i<n):Zp ((aM n).map f) i=f i:=by unfold Zp;rw[aJ,aZ,bO h];rfl
noncomputable def ZT(w:List (List Int))(i:Nat):List Int:=w.getD i []
theorem M5{w:List (List Int)}{i:Nat}(h:i<w.length):w[i]?=aA (ZT w i):=by unfold ZT;rw[aJ,aL h];rfl
noncomputable def Z9(w:List (List Int))(i j:Nat):Int:=Zp (ZT w i) j
structure ZU(w:List (List Int)):Prop where
 pos:1<=w.length
 few:w.length<=7
 sq:∀i,i<w.length->(ZT w i).length=w.length
 lo:∀i j,i<w.length->j<w.length->0<=Z9 w i j
 hi:∀i j,i<w.length->j<w.length->Z9 w i j<=9
 sym:∀i j,i<w.length->j<w.length->Z9 w i j=Z9 w j i
 dia:∀i,i<w.length->Z9 w i i=0
noncomputable def A4(K:aD):List V->Hp->VK->Prop:=λxs H Q=>∃p ys,xs=[.ref p]/\((SqL K H p ys/\∀l,H l=none->Q (.ref l) (upd H l (.tup ys)))\/(SqT K H p ys/\Q (.ref p) H))
noncomputable def D5(K:aD):List V->Hp->VK->Prop:=λxs H Q=>∃p ys,xs=[.ref p]/\(SqL K H p ys\/SqT K H p ys)/\∀l,H l=none->Q (.ref l) (upd H l (.lst ys))
theorem Same.off{H a:Hp}{p:aH}(s:Same H a)(n:a p=none):H p=none:=s.free n
abbrev Tie:=Nat×Nat×Int
noncomputable def Sz(M:List (List Int))(a b:Nat)(t:Int):List (List Int):=M.set a ((ZT M a).set b t)
structure MatOk(n:Nat)(M:List (List Int)):Prop where
 len:M.length=n
 row:∀i,i<n->(ZT M i).length=n
 lo:∀i j,i<n->j<n->0<=Z9 M i j
 hi:∀i j,i<n->j<n->Z9 M i j<=9
 sym:∀i j,i<n->j<n->Z9 M i j=Z9 M j i
 dia:∀i,i<n->Z9 M i i=0
theorem ON{M:List (List Int)}{a i:Nat}{r:List Int}(b:a<M.length):ZT (M.set a r) i=if a=i then r else ZT M i:=by
 unfold ZT;by_cases h:a=i
 ·subst h;simp[b]
 ·simp[h]
theorem D6{l:List Int}{b j:Nat}{t:Int}(a:b<l.length):Zp (l.set b t) j=if b=j then t else Zp l j:=by
 unfold Zp;by_cases h:b=j
 ·subst h;simp[a]
 ·simp[h]
theorem M6{n:Nat}{M:List (List Int)}{a b i j:Nat}{t:Int}(f:M.length=n)(c:∀i,i<n->(ZT M i).length=n)(d:a<n)(e:b<n):Z9 (Sz M a b t) i j=if a=i/\b=j then t else Z9 M i j:=by
 show Zp (ZT (M.set a ((ZT M a).set b t)) i) j=_;rw[ON (by omega)];by_cases h:a=i
 ·subst h;rw[nZ rfl,D6 (by rw[c a d];exact e)];by_cases q:b=j
  ·rw[nZ q,nZ ⟨rfl,q⟩]
  ·rw[ng q,ng (λz=>q z.2)];rfl
 ·rw[ng h,ng (λz=>h z.1)];rfl
theorem Vv{n:Nat}{M:List (List Int)}{a b:Nat}{t:Int}(f:M.length=n)(c:∀i,i<n->(ZT M i).length=n)(d:a<n):(Sz M a b t).length=n/\∀i,i<n->(ZT (Sz M a b t) i).length=n:=by
 refine⟨by unfold Sz;rw[cj];exact f,λi e=>?_⟩;show(ZT (M.set a ((ZT M a).set b t)) i).length=n;rw[ON (by omega)];split
 ·rw[cj];exact c a d
 ·exact c i e
theorem MatOk.zero(n:Nat):MatOk n (aY n (aY n 0)):=by
 have r:∀i,i<n->ZT (aY n (aY n (0:Int))) i=aY n 0:=λi a=>by unfold ZT;rw[aJ,bu,nZ a];rfl
 have z:∀i j,i<n->j<n->Z9 (aY n (aY n (0:Int))) i j=0:=λi j a b=>by show Zp (ZT _ i) j=0;rw[r i a];unfold Zp;rw[aJ,bu,nZ b];rfl
 exact⟨by simp,λi a=>by rw[r i a];simp,λi j a b=>by rw[z i j a b];omega,λi j a b=>by rw[z i j a b];omega,λi j a b=>by rw[z i j a b,z j i b a],λi a=>z i i a a⟩
theorem MatOk.web{n:Nat}{M:List (List Int)}(h:MatOk n M)(b:1<=n)(a:n<=7):ZU M:=by have e:=h.len;subst e;exact⟨b,a,h.row,h.lo,h.hi,h.sym,h.dia⟩
theorem Xe(f:Nat->Int)(n:Nat):((aM (n+1)).map f).sum=((aM n).map f).sum+f n:=by rw[kA];simp
theorem Xw{f g:Nat->Int}{n:Nat}(h:∀i,i<n->f i=g i):((aM n).map f).sum=((aM n).map g).sum:=by congr 1;apply av;intro i a;exact h i (aU.mp a)
theorem J2(f g:Nat->Int)(n:Nat):((aM n).map λi=>f i-g i).sum=((aM n).map f).sum-((aM n).map g).sum:=by
 induction n with
 | zero=>simp
 | succ n ih=>rw[Xe,Xe,Xe,ih];omega
theorem Hy(c:Int)(n:Nat):((aM n).map λ_=>c).sum=n*c:=by
 induction n with
 | zero=>simp
 | succ n ih=>rw[Xe,ih];rw[show((n+1:Nat):Int)=(n:Int)+1 by omega,kO];omega
theorem Nt(l:List Int):((aM l.length).map (Zp l)).sum=l.sum:=by rw[Sy]
structure NamesOk(i:Nat)(l:List Int):Prop where
 len:l.length=i
 nd:l.Nodup
 lo:∀x∈l,0<=x
 hi:∀x∈l,x<i
theorem NamesOk.nil:NamesOk 0 []:=⟨rfl,cg,λ_ h=>by simp at h,λ_ h=>by simp at h⟩
theorem NamesOk.ins{i:Nat}{l:List Int}(h:NamesOk i l)(k:Nat):NamesOk (i+1) (l.take k++(i:Int)::l.drop k):=by
 have b:(l.take k++(i:Int)::l.drop k).Perm ((i:Int)::l):=by have:=List.perm_middle (a:=(i:Int)) (l₁:=l.take k) (l₂:=l.drop k);rw[kG] at this;exact this
 refine⟨by rw[b.length_eq,bp,h.len],?_,λx c=>?_,λx c=>?_⟩
 ·rw[b.nodup_iff,bY];exact⟨λd=>by have:=h.hi _ d;omega,h.nd⟩
 ·rcases aa.mp (b.mem_iff.mp c) with e | e
  ·omega
  ·exact h.lo x e
 ·rcases aa.mp (b.mem_iff.mp c) with e | e
  ·omega
  ·have:=h.hi x e;omega
theorem NamesOk.at{i:Nat}{l:List Int}(h:NamesOk i l){x:Nat}(a:x<i):0<=Zp l x/\Zp l x<i:=by
 have e:Zp l x=l[x]'(by rw[h.len];exact a):=by unfold Zp;rw[aJ,aL (by rw[h.len];exact a)];rfl
 rw[e];exact⟨h.lo _ (eT _),h.hi _ (eT _)⟩
theorem NamesOk.ne{i:Nat}{l:List Int}(h:NamesOk i l){x y:Nat}(b:x<i)(a:y<i)(n:x≠y):Zp l x≠Zp l y:=by
 have c:Zp l x=l[x]'(by rw[h.len];exact b):=by unfold Zp;rw[aJ,aL (by rw[h.len];exact b)];rfl
 have d:Zp l y=l[y]'(by rw[h.len];exact a):=by unfold Zp;rw[aJ,aL (by rw[h.len];exact a)];rfl
 rw[c,d];intro e;exact n ((mG h.nd).mp e)
theorem lt_size{n:Nat}(h:n<=10000):n<sizeLine:=bK h (by decide)
end L2
namespace VL
open PySem PySem.Spec PyProof.Rows L2
variable {K:aD}
noncomputable def NsO(od:cy)(f:a0)(u:aE):Prop:=∀(hp:bH)(dx:aH),hp.get? dx=aA od->hp.Ns1 dx (λn=>if n=f then aA u else none)
noncomputable def WS(n:a0):a0:=if n = "NoWeb" then "place" else if n = "Apart" then "houses" else if n = "TooMany" then "most" else "total"
structure Lam where
 qual:a0
 params:mI
 body:aq
 scope:du
 free:a0
inductive PV where
 | non | bl (b:Bool) | int (i:Int) | str (x:a0) | ty (n:String) | exc (n:a0) | exf (n:a0) (l:PV) | clo (L:Lam) (l:PV)
 | tup (l:List PV) | lst (l:List PV) | cst (l:List PV)
 | dK (ks:List Oc) (vs:List PV) | dT (ks:List (List Oc)) (vs:List PV)
instance:Inhabited PV:=⟨.non⟩
mutual
/-- nothing in it can be changed -/
def Z5:PV->Bool
 | .tup l=>ZK l
 | .cst l=>ZK l
 | .lst _=>aB
 | .dK _ _=>aB
 | .dT _ _=>aB
 | .non=>aC
 | .bl _=>aC
 | .int _=>aC
 | .str _=>aC
 | .ty _=>aC
 | .exc _=>aC
 | .exf _ _=>aC
 | .clo _ l=>Z5 l
def ZK:List PV->Bool
 | []=>aC
 | x::r=>Z5 x&&ZK r
end
theorem Xx:∀l:List PV,ZK l=l.all Z5
 | []=>rfl
 | x::r=>by rw[jW,<-Xx r];rfl
noncomputable def KL(K:aD)(a:aH)(xs:List V):Prop:=
 ∃(o:cy) (nY:Array aE) (n:Nat),K.lookup a=aA o/\o.cls = .type "list"/\o.dict=none/\o.data = .seq nY n/\nY.size<=sizeLine/\Vals xs nY.toList
noncomputable def CsK(K:aD)(H:Hp)(p:aH)(xs:List V):Prop:=(∃o,H p=aA (.frz o (.lst xs)))\/KL K p xs
theorem CsK.sq{K:aD}{H:Hp}{p:aH}{a:List V}(h:CsK K H p a):SqL K H p a:=by
 rcases h with h | h
 ·exact .inl (.inr h)
 ·exact .inr h
noncomputable def CloAt(H:Hp)(L:Lam)(v:V)(u:aE):Prop:=∃f fo c oc e eo pm ct,v = .ref f/\H f=aA (.frz fo (.own 0))/\fo.data = .func (PySem.W.kla_fn "<lambda>" L.qual L.params L.body L.scope [(L.free,e)] pm (.ref c) ct)/\H c=aA (.frz oc (.own 0))/\G1 oc L.qual/\H e=aA (.frz eo (.own 1))/\eo.data = .cell (aA u)
mutual
/-- v is the tree l in the heap H;fp: the addresses of nY lists and dicts -/
def Is(K:aD)(H:Hp):PV->V->List aH->Prop
 | .non,v,fp=>v = .non/\fp=[]
 | .bl b,v,fp=>v = .bl b/\fp=[]
 | .int i,v,fp=>v = .int i/\fp=[]
 | .str x,v,fp=>v = .str x/\fp=[]
 | .ty n,v,fp=>v = .ty n/\fp=[]
 | .exc n,v,fp=>(∃e o x C,v = .ref e/\H e=aA (.frz o (.own x))/\o.cls = .ref C/\b6 K az n=aA (aA (.ref C))/\o.dict=none/\∃vs,o.data = .fields vs)/\fp=[]
 | .exf n l,v,fp=>(∃e o x C dx od u z,v = .ref e/\H e=aA (.frz o (.own x))/\o.cls = .ref C/\b6 K az n=aA (aA (.ref C))/\o.dict=aA dx/\(∃vs,o.data = .fields vs)/\H dx=aA (.frz od (.own dx))/\NsO od (WS n) u/\RelV z u/\Is K H l z [])/\fp=[]
 | .clo L l,v,fp=>∃u x,CloAt H L v u/\RelV x u/\Is K H l x fp
 | .tup l,v,fp=>∃p xs,v = .ref p/\H p=aA (.tup xs)/\Iss K H l xs fp
 | .lst l,v,fp=>∃p xs fq,v = .ref p/\H p=aA (.lst xs)/\Iss K H l xs fq/\fp=p::fq
 | .cst l,v,fp=>∃p xs,v = .ref p/\CsK K H p xs/\Iss K H l xs fp
 | .dK ks l,v,fp=>∃p n6 fq,v = .ref p/\Rd H p (.dK n6)/\n6.map (·.1)=ks/\Iss K H l (n6.map (·.2)) fq/\fp=p::fq
 | .dT ks l,v,fp=>∃p n6 fq,v = .ref p/\Rd H p (.dT n6)/\n6.map (·.1)=ks/\Iss K H l (n6.map (·.2)) fq/\fp=p::fq
def Iss(K:aD)(H:Hp):List PV->List V->List aH->Prop
 | [],xs,fp=>xs=[]/\fp=[]
 | l::ls,xs,fp=>∃x r f1 f2,xs=x::r/\Is K H l x f1/\Iss K H ls r f2/\fp=f1++f2
end
noncomputable def RdK(H H':Hp)(p:aH):Prop:=(∀xs,H p=aA (.lst xs)->H' p=aA (.lst xs))/\(∀n6,Rd H p (.dK n6)->Rd H' p (.dK n6))/\∀n6,Rd H p (.dT n6)->Rd H' p (.dT n6)
theorem RdK.of{H a:Hp}{p:aH}(h:∀o,H p=aA o->a p=aA o):RdK H a p:=by
 have r:∀u,Rd H p u->Rd a p u:=λu q=>by
  rcases q with q | ⟨o,q⟩
  ·exact .inl (h _ q)
  ·exact .inr ⟨o,h _ q⟩
 exact⟨λ_=>h _,λ_=>r _,λ_=>r _⟩
structure D7(H H':Hp):Prop where
 tup:TK H H'
 frz:∀b o xs,H b=aA (.frz o (.lst xs))->H' b=aA (.frz o (.lst xs))
 exc:∀b o x,H b=aA (.frz o (.own x))->H' b=aA (.frz o (.own x))
theorem Same.tk2{H a:Hp}(s:Same H a):D7 H a:=⟨s.tk,λb o c h=>s b _ h,λb o x h=>s b _ h⟩
theorem CsK.tr{K:aD}{H b:Hp}(t:D7 H b){p:aH}{a:List V}(h:CsK K H p a):CsK K b p a:=by
 rcases h with⟨o,h⟩ | h
 ·exact .inl ⟨o,t.frz p o a h⟩
 ·exact .inr h
theorem CloAt.tr{H d:Hp}(t:D7 H d){L:Lam}{v:V}{u:aE}(h:CloAt H L v u):CloAt d L v u:=by obtain⟨f,fo,c,a,e,b,j,ct,o,i,g,l,n,m,k⟩:=h;exact⟨f,fo,c,a,e,b,j,ct,o,t.exc f fo 0 i,g,t.exc c a 0 l,n,t.exc e b 1 m,k⟩
mutual
theorem Is.tr{H w:Hp}(f:D7 H w):∀(l:PV)(v:V)(fp:List aH),(∀p∈fp,RdK H w p)->Is K H l v fp->Is K w l v fp
 | .non,_,_,_,h=>by simpa only[Is] using h
 | .bl _,_,_,_,h=>by simpa only[Is] using h
 | .int _,_,_,_,h=>by simpa only[Is] using h
 | .str _,_,_,_,h=>by simpa only[Is] using h
 | .ty _,_,_,_,h=>by simpa only[Is] using h
 | .exc _,_,_,_,h=>by simp only[Is] at h ⊢;obtain⟨⟨e,o,x,C,a,b,c⟩,d⟩:=h;exact⟨⟨e,o,x,C,a,f.exc e o x b,c⟩,d⟩
 | .exf _ l,_,_,_,h=>by simp only[Is] at h ⊢;obtain⟨⟨e,o,x,C,s,y,u,z,a,b,c1,c2,c3,c4,c5,B,A,D⟩,d⟩:=h;exact⟨⟨e,o,x,C,s,y,u,z,a,f.exc e o x b,c1,c2,c3,c4,f.exc s y s c5,B,A,Is.tr f l z [] (λp t=>by simp at t) D⟩,d⟩
 | .clo L l,v,fp,hm,h=>by simp only[Is] at h ⊢;obtain⟨u,x,E,i,g⟩:=h;exact⟨u,x,E.tr f,i,Is.tr f l x fp hm g⟩
 | .tup l,v,fp,hm,h=>by simp only[Is] at h ⊢;obtain⟨p,j,e,t,g⟩:=h;exact⟨p,j,e,f.tup p j t,Iss.tr f l j fp hm g⟩
 | .lst l,v,fp,hm,h=>by simp only[Is] at h ⊢;obtain⟨p,j,k,e,i,g,rfl⟩:=h;exact⟨p,j,k,e,(hm p af).1 _ i,Iss.tr f l j k (λq m=>hm q (aW _ m)) g,rfl⟩
 | .cst l,v,fp,hm,h=>by simp only[Is] at h ⊢;obtain⟨p,j,e,i,g⟩:=h;exact⟨p,j,e,i.tr f,Iss.tr f l j fp hm g⟩
 | .dK ks l,v,fp,hm,h=>by simp only[Is] at h ⊢;obtain⟨p,n,k,e,i,r,g,rfl⟩:=h;exact⟨p,n,k,e,(hm p af).2.1 _ i,r,Iss.tr f l _ k (λq m=>hm q (aW _ m)) g,rfl⟩
 | .dT ks l,v,fp,hm,h=>by simp only[Is] at h ⊢;obtain⟨p,n,k,e,i,r,g,rfl⟩:=h;exact⟨p,n,k,e,(hm p af).2.2 _ i,r,Iss.tr f l _ k (λq m=>hm q (aW _ m)) g,rfl⟩
theorem Iss.tr{H b:Hp}(d:D7 H b):∀(l:List PV)(xs:List V)(fp:List aH),(∀p∈fp,RdK H b p)->Iss K H l xs fp->Iss K b l xs fp
 | [],_,_,_,h=>by simpa only[Iss] using h
 | l::ls,xs,fp,hm,h=>by simp only[Iss] at h ⊢;obtain⟨x,r,f1,c,e,g,f,rfl⟩:=h;exact⟨x,r,f1,c,e,Is.tr d l x f1 (λq a=>hm q (b7 _ a)) g,Iss.tr d ls r c (λq a=>hm q (aj _ a)) f,rfl⟩
end
theorem Is.mono{H b:Hp}(s:Same H b){l:PV}{v:V}{a:List aH}(h:Is K H l v a):Is K b l v a:=Is.tr (Same.tk2 s) l v a (λp _=>RdK.of λo q=>s p o q) h
theorem Iss.mono{H b:Hp}(s:Same H b){l:List PV}{v:List V}{a:List aH}(h:Iss K H l v a):Iss K b l v a:=Iss.tr (Same.tk2 s) l v a (λp _=>RdK.of λo q=>s p o q) h
mutual
theorem Is.pure{H:Hp}:∀(l:PV)(v:V)(fp:List aH),Z5 l=aC->Is K H l v fp->fp=[]
 | .non,_,_,_,h=>by simp only[Is] at h;exact h.2
 | .bl _,_,_,_,h=>by simp only[Is] at h;exact h.2
 | .int _,_,_,_,h=>by simp only[Is] at h;exact h.2
 | .str _,_,_,_,h=>by simp only[Is] at h;exact h.2
 | .ty _,_,_,_,h=>by simp only[Is] at h;exact h.2
 | .exc _,_,_,_,h=>by simp only[Is] at h;exact h.2
 | .exf _ _,_,_,_,h=>by simp only[Is] at h;exact h.2
 | .clo L l,v,fp,hp,h=>by simp only[Is] at h;obtain⟨u,x,d,c,a⟩:=h;exact Is.pure l x fp (by simpa only[Z5] using hp) a
 | .tup l,v,fp,hp,h=>by simp only[Is] at h;obtain⟨p,b,e,_,a⟩:=h;exact Iss.pure l b fp (by simpa only[Z5] using hp) a
 | .lst l,v,fp,hp,h=>by simp[Z5] at hp
 | .cst l,v,fp,hp,h=>by simp only[Is] at h;obtain⟨p,b,e,_,a⟩:=h;exact Iss.pure l b fp (by simpa only[Z5] using hp) a
 | .dK ks l,v,fp,hp,h=>by simp[Z5] at hp
 | .dT ks l,v,fp,hp,h=>by simp[Z5] at hp
theorem Iss.pure{H:Hp}:∀(l:List PV)(xs:List V)(fp:List aH),ZK l=aC->Iss K H l xs fp->fp=[]
 | [],_,_,_,h=>by simp only[Iss] at h;exact h.2
 | l::ls,xs,fp,hp,h=>by simp only[Iss] at h;simp only[ZK,bX] at hp;obtain⟨x,r,f1,b,e,c,a,rfl⟩:=h;rw[Is.pure l x f1 hp.1 c,Iss.pure ls r b hp.2 a];rfl
end
section
variable {H H':Hp}
theorem Iss.len:∀{l:List PV}{xs:List V}{fp:List aH},Iss K H l xs fp->xs.length=l.length
 | [],xs,fp,h=>by simp only[Iss] at h;rw[h.1];rfl
 | l::ls,xs,fp,h=>by simp only[Iss] at h;obtain⟨x,r,f1,b,rfl,_,a,_⟩:=h;rw[bp,bp,a.len]
theorem Iss.get:∀{l:List PV}{xs:List V}{fp:List aH}{i:Nat}{a:PV},Iss K H l xs fp->l[i]?=aA a->∃x f1,xs[i]?=aA x/\Is K H a x f1/\∀p∈f1,p∈fp
 | [],xs,fp,i,a,h,e=>by simp at e
 | l::ls,xs,fp,0,a,h,e=>by simp only[Iss] at h;obtain⟨x,r,f1,d,rfl,m,_,rfl⟩:=h;simp at e;subst e;exact⟨x,f1,rfl,m,λp b=>b7 _ b⟩
 | l::ls,xs,fp,i+1,a,h,e=>by simp only[Iss] at h;obtain⟨x,r,f1,d,rfl,_,c,rfl⟩:=h;obtain⟨y,g,j,k,f⟩:=c.get (i:=i) (a:=a) (by simpa using e);exact⟨y,g,by simpa using j,k,λp b=>aj _ (f p b)⟩
theorem Iss.get'{l:List PV}{d:List V}{b:List aH}{i:Nat}{x:V}(h:Iss K H l d b)(e:d[i]?=aA x):∃a f1,l[i]?=aA a/\Is K H a x f1/\∀p∈f1,p∈b:=by
 have c:i<l.length:=by rw[<-h.len];exact(aS.mp e).1
 obtain⟨y,f1,f,g,j⟩:=h.get (aL c);rw[e] at f;cases f;exact⟨_,f1,aL c,g,j⟩
theorem Iss.nil:Iss K H [] [] []:=by simp[Iss]
theorem Iss.cons{l:PV}{ls:List PV}{x:V}{b:List V}{f1 a:List aH}(d:Is K H l x f1)(c:Iss K H ls b a):Iss K H (l::ls) (x::b) (f1++a):=by exact⟨x,b,f1,a,rfl,d,c,rfl⟩
theorem Iss.inv{l:PV}{ls:List PV}{b:List V}{a:List aH}(h:Iss K H (l::ls) b a):∃x r f1 f2,b=x::r/\Is K H l x f1/\Iss K H ls r f2/\a=f1++f2:=by simpa only[Iss] using h
theorem Iss.append:∀{l m:List PV}{xs ys:List V}{f1 f2:List aH},Iss K H l xs f1->Iss K H m ys f2->Iss K H (l++m) (xs++ys) (f1++f2)
 | [],m,xs,ys,f1,f2,h,h'=>by simp only[Iss] at h;rw[h.1,h.2];exact h'
 | l::ls,m,xs,ys,f1,f2,h,h'=>by obtain⟨x,r,c,d,rfl,a,b,rfl⟩:=h.inv;rw[hU];exact Iss.cons a (b.append h')
theorem Iss.one{l:PV}{x:V}{f:List aH}(h:Is K H l x f):Iss K H [l] [x] f:=by
 have:=Iss.cons h (Iss.nil)
 rwa [cS] at this
theorem Iss.take:∀{l:List PV}{xs:List V}{fp:List aH}(n:Nat),Iss K H l xs fp->∃f1,Iss K H (l.take n) (xs.take n) f1/\∀p∈f1,p∈fp
 | l,xs,fp,0,h=>⟨[],by rw[kP,kP];exact Iss.nil,λp c=>by simp at c⟩
 | [],xs,fp,n+1,h=>by simp only[Iss] at h;rw[h.1];exact⟨[],by rw[nB,nB];exact Iss.nil,λp c=>by simp at c⟩
 | l::ls,xs,fp,n+1,h=>by
  obtain⟨x,r,f1,g,rfl,f,d,rfl⟩:=h.inv;obtain⟨e,a,b⟩:=d.take n;refine⟨f1++e,Iss.cons f a,λp c=>?_⟩;rcases cB.mp c with h | h
  ·exact b7 _ h
  ·exact aj _ (b p h)
theorem Iss.drop:∀{l:List PV}{xs:List V}{fp:List aH}(n:Nat),Iss K H l xs fp->∃f1,Iss K H (l.drop n) (xs.drop n) f1/\∀p∈f1,p∈fp
 | l,xs,fp,0,h=>⟨fp,h,λp c=>c⟩
 | [],xs,fp,n+1,h=>by simp only[Iss] at h;rw[h.1];exact⟨[],by rw[nC,nC];exact Iss.nil,λp c=>by simp at c⟩
 | l::ls,xs,fp,n+1,h=>by obtain⟨x,r,f1,f,rfl,g,d,rfl⟩:=h.inv;obtain⟨e,a,b⟩:=d.drop n;exact⟨e,a,λp c=>aj _ (b p c)⟩
theorem Iss.setP:∀{l:List PV}{xs:List V}{a:PV}{x:V}(i:Nat),ZK l=aC->Z5 a=aC->Iss K H l xs []->Is K H a x []->Iss K H (l.set i a) (xs.set i x) []
 | [],xs,a,x,i,_,_,h,_=>by simp only[Iss] at h;rw[h.1];simp only[List.set_nil];exact Iss.nil
 | l::ls,xs,a,x,0,hp,_,h,ha=>by simp only[ZK,bX] at hp;obtain⟨y,r,f1,f,rfl,_,b,e⟩:=h.inv;have c:=Iss.pure _ _ _ hp.2 b;subst c;exact Iss.cons (f1:=[]) ha b
 | l::ls,xs,a,x,i+1,hp,hq,h,ha=>by simp only[ZK,bX] at hp;obtain⟨y,r,f1,f,rfl,d,b,e⟩:=h.inv;have g:=Is.pure _ _ _ hp.1 d;have c:=Iss.pure _ _ _ hp.2 b;subst g c;exact Iss.cons (f1:=[]) d (Iss.setP i hp.2 hq b ha)
theorem Is.int_inv{i:Int}{v:V}{a:List aH}(h:Is K H (.int i) v a):v = .int i/\a=[]:=by simpa only[Is] using h
theorem Is.int(i:Int):Is K H (.int i) (.int i) []:=by simp[Is]
theorem Is.bl(i:Bool):Is K H (.bl i) (.bl i) []:=by simp[Is]
theorem Is.non:Is K H .non .non []:=by simp[Is]
theorem Is.str(x:a0):Is K H (.str x) (.str x) []:=by simp[Is]
theorem Is.ty(n:String):Is K H (.ty n) (.ty n) []:=by simp[Is]
theorem Is.bl_inv{i:Bool}{v:V}{a:List aH}(h:Is K H (.bl i) v a):v = .bl i/\a=[]:=by simpa only[Is] using h
theorem Is.str_inv{i:a0}{v:V}{a:List aH}(h:Is K H (.str i) v a):v = .str i/\a=[]:=by simpa only[Is] using h
theorem Is.non_inv{v:V}{a:List aH}(h:Is K H .non v a):v = .non/\a=[]:=by simpa only[Is] using h
theorem Is.ty_inv{n:String}{v:V}{a:List aH}(h:Is K H (.ty n) v a):v = .ty n/\a=[]:=by simpa only[Is] using h
theorem Is.tup_inv{l:List PV}{v:V}{a:List aH}(h:Is K H (.tup l) v a):∃p xs,v = .ref p/\H p=aA (.tup xs)/\Iss K H l xs a:=by simpa only[Is] using h
theorem Is.tup{l:List PV}{p:aH}{a:List V}{b:List aH}(h:H p=aA (.tup a))(c:Iss K H l a b):Is K H (.tup l) (.ref p) b:=by simp only[Is];exact⟨p,a,rfl,h,c⟩
theorem Is.lst_inv{l:List PV}{v:V}{a:List aH}(h:Is K H (.lst l) v a):∃p xs fq,v = .ref p/\H p=aA (.lst xs)/\Iss K H l xs fq/\a=p::fq:=by simpa only[Is] using h
theorem Is.lst{l:List PV}{p:aH}{b:List V}{a:List aH}(h:H p=aA (.lst b))(c:Iss K H l b a):Is K H (.lst l) (.ref p) (p::a):=by simp only[Is];exact⟨p,b,a,rfl,h,c,rfl⟩
theorem Is.cst_inv{l:List PV}{v:V}{a:List aH}(h:Is K H (.cst l) v a):∃p xs,v = .ref p/\CsK K H p xs/\Iss K H l xs a:=by simpa only[Is] using h
theorem Is.cst{l:List PV}{p:aH}{a:List V}{b:List aH}(h:CsK K H p a)(c:Iss K H l a b):Is K H (.cst l) (.ref p) b:=by simp only[Is];exact⟨p,a,rfl,h,c⟩
theorem Is.dT_inv{a:List (List Oc)}{l:List PV}{v:V}{b:List aH}(h:Is K H (.dT a l) v b):∃p n6 fq,v = .ref p/\Rd H p (.dT n6)/\n6.map (·.1)=a/\Iss K H l (n6.map (·.2)) fq/\b=p::fq:=by simpa only[Is] using h
theorem Is.dK_inv{a:List Oc}{l:List PV}{v:V}{b:List aH}(h:Is K H (.dK a l) v b):∃p n6 fq,v = .ref p/\Rd H p (.dK n6)/\n6.map (·.1)=a/\Iss K H l (n6.map (·.2)) fq/\b=p::fq:=by simpa only[Is] using h
end
abbrev iL(l:List Int):List PV:=l.map PV.int
theorem Yg(l:List Int):ZK (iL l)=aC:=by rw[Xx,bA];intro x a;obtain⟨i,_,rfl⟩:=br.mp a;rfl
theorem Iss.iL{H:Hp}:∀{l:List Int}{xs:List V}{fp:List aH},Iss K H (VL.iL l) xs fp->xs=l.map V.int/\fp=[]
 | [],xs,fp,h=>by simpa only[VL.iL,List.map_nil,Iss] using h
 | i::l,xs,fp,h=>by obtain⟨x,r,f1,c,rfl,b,a,rfl⟩:=Iss.inv (show Iss K H (PV.int i::VL.iL l) xs fp from h);obtain⟨rfl,rfl⟩:=b.int_inv;obtain⟨rfl,rfl⟩:=a.iL;exact⟨rfl,rfl⟩
theorem Iss.ofInts{H:Hp}:∀(l:List Int),Iss K H (VL.iL l) (l.map V.int) []
 | []=>Iss.nil
 | i::l=>Iss.cons (f1:=[]) (Is.int i) (Iss.ofInts l)
end VL
namespace VL
open PySem PySem.Spec PyProof.Rows L2
variable {K:aD}
abbrev Sq:=L2.St
abbrev ZE:=List (Option PV)
abbrev XE:=ZE->Option PV
structure EnvIs(K:aD)(Rm:aH->Prop)(H:Hp)(s:ZE)(σ:Sq):Prop where
 is:∀(i:Nat) l,s[i]?=aA (aA l)->∃v fp,σ[i]?=aA (aA v)/\Is K H l v fp/\∀p∈fp,¬Rm p
theorem EnvIs.mono{d:aH->Prop}{H g:Hp}{s:ZE}{f:Sq}(h:EnvIs K d H s f)(e:Same H g):EnvIs K d g s f:=⟨λi l q=>by
 obtain⟨v,j,a,b,c⟩:=h.is i l q;exact⟨v,j,a,b.mono e,c⟩⟩
theorem EnvIs.free{e:aH->Prop}{H:Hp}{s:ZE}{d:Sq}(h:EnvIs K e H s d):EnvIs K (λ_=>False) H s d:=⟨λi l q=>by
 obtain⟨v,f,a,b,c⟩:=h.is i l q;exact⟨v,f,a,b,λ_ _ z=>z⟩⟩
theorem Same.mut{H a:Hp}(e:Same H a){p:aH}(h:U2 (H p)):U2 (a p):=by
 cases q:H p with
 | none=>rw[q] at h;exact h.elim
 | some o=>rw[e p o q,<-q];exact h
theorem Xf{H:Hp}{p:aH}(h:U2 (H p)):H p≠none:=λz=>by rw[z] at h;exact h
noncomputable def tF(K:aD)(f:XE):TE:=λσ H Q=>∃(Rm:aH->Prop) (s:ZE) (l:PV),(∀p,Rm p->U2 (H p))/\EnvIs K Rm H s σ/\f s=aA l/\∀v H' fp,Same H H'->Is K H' l v fp->(∀p∈fp,¬Rm p)->Q v H'
noncomputable def tM(K:aD)(f:XE):TE:=λσ H Q=>∃(s:ZE) (l:PV),EnvIs K (λ_=>False) H s σ/\f s=aA l/\∀v H' fp,Same H H'->Is K H' l v fp->fp.Nodup->(∀p∈fp,H p=none/\U2 (H' p))->Q v H'
noncomputable def VE(X:Cx)(e:aq)(f:XE):Prop:=PE X e (tF X.K f)
noncomputable def VM(X:Cx)(e:aq)(f:XE):Prop:=PE X e (tM X.K f)
section
variable {X:Cx} {e:aq} {f g:XE} {t t':TE}
theorem PE.imp(h:PE X e t)(i:∀a H Q,t' a H Q->t a H Q):PE X e t':=λb s a H Q I q=>h b s a H Q I (i a H Q q)
theorem VM.ve(h:VM X e f):VE X e f:=PE.imp h λm H Q ⟨j,s,l,b,env,e,k⟩=>
 ⟨s,l,env.free,e,λv d a g i _ n=>k v d a g i λp c z=>Xf (b p z) (n p c).1⟩
noncomputable def eP(f:XE):XE:=λs=>(f s).bind λl=>if Z5 l=aC then aA l else none
theorem D8{s:ZE}{l:PV}(h:eP f s=aA l):f s=aA l/\Z5 l=aC:=by
 unfold eP at h
 cases q:f s with
 | none=>rw[q] at h;cases h
 | some a=>
  rw[q] at h;simp only[aT] at h;split at h
  ·cases h;exact⟨rfl,by assumption⟩
  ·cases h
theorem VE.pure(h:VE X e f):VM X e (eP f):=PE.imp h λm H Q ⟨s,l,env,e,k⟩=>by
 obtain⟨g,b⟩:=D8 e;refine⟨λ_=>False,s,l,λ_ z=>z.elim,env,g,λv d a j i n=>?_⟩;have:=Is.pure l v a b i;subst this;exact k v d [] j i cg λp c=>by simp at c
end
noncomputable def Za(i:Nat):XE:=λs=>(s[i]?).join
noncomputable def eC(l:PV):XE:=λ_=>aA l
theorem OO{i:Nat}{s:ZE}{l:PV}(h:Za i s=aA l):s[i]?=aA (aA l):=by
 unfold Za at h
 cases q:s[i]? with
 | none=>rw[q] at h;cases h
 | some o=>rw[q] at h;cases o with
  | none=>cases h
  | some a=>cases h;rfl
section
variable {X:Cx} {pos:fD}
theorem Zcx{e:aq}{i:Nat}(h:PE X e (Tx i)):VE X e (Za i):=PE.imp h λj H Q ⟨f,s,l,g,env,e,k⟩=>by obtain⟨v,d,a,b,c⟩:=env.is i l (OO e);exact⟨v,a,k v H d (Same.refl H) b c⟩
theorem D9{e:aq}{v:V}{l:PV}(h:PE X e (tC v))(b:∀H,Is X.K H l v []):VE X e (eC l):=PE.imp h λf H Q ⟨c,s,l',d,env,e,k⟩=>by
 cases e;exact k v H [] (Same.refl H) (b H) λp a=>by simp at a
theorem Zg{i j}:VE X (.Constant (.int i) j pos) (eC (.int i)):=D9 An λ_=>Is.int i
theorem M7{i j}:VE X (.Constant (.bool i) j pos) (eC (.bl i)):=D9 Zb2 λ_=>Is.bl i
theorem Nu{j}:VE X (.Constant .none j pos) (eC .non):=D9 Ao λ_=>Is.non
end
noncomputable def RB(K:aD)(r:R2)(g:PV->PV->Option PV):Prop:=∀(H:Hp)(x y:V)(a b l:PV)(fa fb:List aH),Is K H a x fa->Is K H b y fb->g a b=aA l->∀Q:VK,
 (∀v H' fp,Same H H'->Is K H' l v fp->(∀p∈fp,p∈fa\/p∈fb\/H p=none)->Q v H')->r x y H Q
noncomputable def Zi(g:PV->PV->Option PV)(a b:XE):XE:=λs=>(a s).bind λx=>(b s).bind λy=>g x y
theorem QB{g:PV->PV->Option PV}{a b:XE}{s:ZE}{l:PV}(h:Zi g a b s=aA l):∃x y,a s=aA x/\b s=aA y/\g x y=aA l:=by
 unfold Zi at h
 cases q:a s with
 | none=>rw[q] at h;cases h
 | some x=>cases q2:b s with
  | none=>rw[q,q2] at h;cases h
  | some y=>rw[q,q2] at h;exact⟨x,y,rfl,rfl,h⟩
section
variable {X:Cx} {a b:aq} {fa fb:XE} {pos:fD}
theorem J3{r:R2}{g:PV->PV->Option PV}(n:RB K r g):∀b H Q,tF K (Zi g fa fb) b H Q->tOp r (tF K fa) (tF K fb) b H Q:=λb H Q ⟨d,s,l,a,env,e,k⟩=>by
 obtain⟨f,i,o,u,e⟩:=QB e;refine⟨d,s,f,a,env,o,λx G f1 s1 B j=>⟨d,s,i,λp c=>Same.mut s1 (a p c),env.mono s1,u,λy C E s2 q w=>?_⟩⟩;refine n C x y f i l f1 E (B.mono s2) q e Q λv t m D A F=>k v t m (s1.trans (s2.trans D)) A λp c z=>?_;rcases F p c with h | h | h
 ·exact j p h z
 ·exact w p h z
 ·exact Xf (Same.mut (s1.trans s2) (a p z)) h
theorem Wz{op:Operator}{r:R2}{g:PV->PV->Option PV}(f:TC X (eJ op) r)(c:RB X.K r g)(e:VE X a fa)(d:VE X b fb):VE X (.BinOp a op b pos) (Zi g fa fb):=
 PE.imp (Fb f e d) (J3 c)
theorem Fq{op:mn}{r:R2}{g:PV->PV->Option PV}(h:TC X (gA op) r)(c:RB X.K r g)(f:VE X a fa)(e:VE X b fb)(d:dJ op b=aB):VE X (.Compare a [op] [b] pos) (Zi g fa fb):=
 PE.imp (DJ h f e d) (J3 c)
theorem Zcy{r:R2}{g:PV->PV->Option PV}(f:IxR X r)(c:RB X.K r g)(e:VE X a fa)(d:VE X b fb)(hs:Nl b):VE X (.Subscript a b pos) (Zi g fa fb):=
 PE.imp (Fg f e d hs) (J3 c)
end
noncomputable def gI(g:Int->Int->Int):PV->PV->Option PV
 | .int i,.int j=>aA (.int (g i j))
 | _,_=>none
noncomputable def gB(g:Int->Int->Bool):PV->PV->Option PV
 | .int i,.int j=>aA (.bl (g i j))
 | _,_=>none
noncomputable def GV(C:Int->Int->Prop)[∀i j,Decidable (C i j)](g:Int->Int->Int):PV->PV->Option PV
 | .int i,.int j=>if C i j then aA (.int (g i j)) else none
 | _,_=>none
theorem Cc{g:Int->Int->Int}{a b l:PV}(h:gI g a b=aA l):∃i j,a = .int i/\b = .int j/\l = .int (g i j):=by
 unfold gI at h;split at h
 ·cases h;exact⟨_,_,rfl,rfl,rfl⟩
 ·cases h
theorem Cd{g:Int->Int->Bool}{a b l:PV}(h:gB g a b=aA l):∃i j,a = .int i/\b = .int j/\l = .bl (g i j):=by
 unfold gB at h;split at h
 ·cases h;exact⟨_,_,rfl,rfl,rfl⟩
 ·cases h
theorem Fs{C:Int->Int->Prop}[∀i j,Decidable (C i j)]{g:Int->Int->Int}{a b l:PV}(h:GV C g a b=aA l):∃i j,a = .int i/\b = .int j/\C i j/\l = .int (g i j):=by
 unfold GV at h;split at h
 ·split at h
  ·cases h;exact⟨_,_,rfl,rfl,by assumption,rfl⟩
  ·cases h
 ·cases h
theorem Zcz(g:Int->Int->Int):RB K (BM λi j=>.int (g i j)) (gI g):=λH x y a b l h fb c d e Q k=>by obtain⟨i,j,rfl,rfl,rfl⟩:=Cc e;exact⟨i,j,c.int_inv.1,d.int_inv.1,k _ H [] (Same.refl H) (Is.int _) λp f=>by simp at f⟩
theorem Zc0(g:Int->Int->Bool):RB K (BM λi j=>.bl (g i j)) (gB g):=λH x y a b l h fb c d e Q k=>by obtain⟨i,j,rfl,rfl,rfl⟩:=Cd e;exact⟨i,j,c.int_inv.1,d.int_inv.1,k _ H [] (Same.refl H) (Is.bl _) λp f=>by simp at f⟩
theorem QC(C:Int->Int->Prop)[∀i j,Decidable (C i j)](g:Int->Int->Int):RB K (rI C λi j=>.int (g i j)) (GV C g):=λH x y a b l m fb d f e Q k=>by obtain⟨i,j,rfl,rfl,c,rfl⟩:=Fs e;exact⟨i,j,d.int_inv.1,f.int_inv.1,c,k _ H [] (Same.refl H) (Is.int _) λp h=>by simp at h⟩
instance (i j:Int):Decidable (CMul i j):=by unfold CMul;infer_instance
instance (i j:Int):Decidable (Kn i j):=by unfold Kn;infer_instance
instance (i j:Int):Decidable (BN i j):=by unfold BN;infer_instance
instance (i j:Int):Decidable (MV i j):=by unfold MV;infer_instance
abbrev Yb:=gI (· + ·)
abbrev Y5:=gI (· - ·)
abbrev WA:=GV CMul (· * ·)
abbrev Kx:=GV Kn (· / ·)
abbrev Xq:=GV (λ_ j=>0<j) (· % ·)
abbrev Oh:=GV MV (λi j=>i^j.toNat)
abbrev Hz:=gB (λi j=>decide (i<j))
abbrev M8:=gB (λi j=>decide (j<i))
section
variable {X:Cx} {a b:aq} {fa fb:XE} {pos:fD}
theorem Z7(d:VE X a fa)(c:VE X b fb):VE X (.BinOp a .Add b pos) (Zi Yb fa fb):=Wz AH (Zcz _) d c
theorem YJ(d:VE X a fa)(c:VE X b fb):VE X (.BinOp a .Sub b pos) (Zi Y5 fa fb):=Wz AI (Zcz _) d c
theorem Xg(d:VE X a fa)(c:VE X b fb):VE X (.BinOp a .Mult b pos) (Zi WA fa fb):=Wz AJ (QC _ _) d c
theorem Nv(d:VE X a fa)(c:VE X b fb):VE X (.BinOp a .FloorDiv b pos) (Zi Kx fa fb):=Wz DH (QC _ _) d c
theorem YD(d:VE X a fa)(c:VE X b fb):VE X (.BinOp a .Mod b pos) (Zi Xq fa fb):=Wz AK (QC _ _) d c
theorem QD(d:VE X a fa)(c:VE X b fb):VE X (.BinOp a .Pow b pos) (Zi Oh fa fb):=Wz AL (QC _ _) d c
end
noncomputable def ZJ:PV->PV->Option PV
 | .lst l,.int i=>So l i
 | .cst l,.int i=>So l i
 | .tup l,.int i=>So l i
 | .str z,.int i=>if z.length<=sizeLine then(So z.cps.toList i).map λc=>.str ⟨#[c]⟩ else none
 | _,_=>none
theorem Ky{l:List PV}{c:List V}{H:Hp}{b:List aH}{i:Int}{a:PV}(h:Iss K H l c b)(e:So l i=aA a):∃x f1,So c i=aA x/\Is K H a x f1/\∀p∈f1,p∈b:=by
 unfold So at e ⊢;rw[h.len]
 cases q:Nj l.length i with
 | none=>rw[q] at e;cases e
 | some j=>rw[q] at e;exact h.get e
theorem Zc1:RB K (rIx K) ZJ:=λH x y a b l r fb n o e Q k=>by
 unfold ZJ at e;split at e
 ·obtain⟨p,i,s,rfl,d,h,rfl⟩:=n.lst_inv;obtain⟨z,f1,m,g,f⟩:=Ky h e;exact .inl ⟨p,i,_,z,rfl,o.int_inv.1,SqL.of d,m,k z H f1 (Same.refl H) g λq j=>.inl (aW _ (f q j))⟩
 ·obtain⟨p,i,rfl,d,h⟩:=n.cst_inv;obtain⟨z,f1,m,g,f⟩:=Ky h e;exact .inl ⟨p,i,_,z,rfl,o.int_inv.1,d.sq,m,k z H f1 (Same.refl H) g λq j=>.inl (f q j)⟩
 ·obtain⟨p,i,rfl,d,h⟩:=n.tup_inv;obtain⟨z,f1,m,g,f⟩:=Ky h e;exact .inr (.inl ⟨p,i,_,z,rfl,o.int_inv.1,SqT.of d,m,k z H f1 (Same.refl H) g λq j=>.inl (f q j)⟩)
 ·split at e
  ·cases q:So _ _ with
   | none=>rw[q] at e;cases e
   | some c=>
    rw[q] at e;cases e;exact .inr (.inr ⟨_,_,c,n.str_inv.1,o.int_inv.1,by assumption,q,k _ H [] (Same.refl H) (Is.str _) λp d=>by simp at d⟩)
  ·cases e
 ·cases e
section
variable {X:Cx} {a b:aq} {fa fb:XE} {pos:fD}
theorem Zl(d:VE X a fa)(c:VE X b fb)(hs:Nl b:=by exact λ_ _=>rfl):VE X (.Subscript a b pos) (Zi ZJ fa fb):=Zcy AU Zc1 d c hs
end
abbrev XT:=ZE->Option Bool
noncomputable def M9(K:aD)(f:XT):TT:=λσ H Q=>∃(Rm:aH->Prop) (s:ZE) (c:Bool),(∀p,Rm p->U2 (H p))/\EnvIs K Rm H s σ/\f s=aA c/\∀H',Same H H'->Q c H'
noncomputable def VT(X:Cx)(e:aq)(f:XT):Prop:=PT X e (M9 X.K f)
noncomputable def VW(X:Cx)(e:aq)(f:XT):Prop:=PW X e (M9 X.K f)
section
variable {X:Cx} {e:aq} {f:XT}
theorem PT.imp{t t':TT}(h:PT X e t)(i:∀a H Q,t' a H Q->t a H Q):PT X e t':=λb s a H Q I q=>h b s a H Q I (i a H Q q)
theorem PW.imp{t t':TT}(h:PW X e t)(i:∀b H Q,t' b H Q->t b H Q):PW X e t':=λa c s b H Q I q=>h a c s b H Q I (i b H Q q)
theorem VW.vt(h:VW X e f):VT X e f:=PW.pt h
end
noncomputable def xB(f:XE):XT:=λs=>match f s with | some (.bl c)=>aA c | _=>none
theorem TJ{f:XE}{s:ZE}{c:Bool}(h:xB f s=aA c):f s=aA (.bl c):=by
 unfold xB at h;split at h
 ·cases h;assumption
 ·cases h
section
variable {X:Cx} {a b c:aq} {n8:List aq} {fa fb:XE} {ga gb:XT} {pos:fD}
theorem Nw(h:VE X a fa)(d:∀whole,mi a X.env whole=(do let v <-whole;standAt a.pos;holding [v] (truthy v)):=by intro _;rfl):VT X a (xB fa):=
 PT.imp (Aq h d) λm H Q ⟨b,s,c,f,env,e,k⟩=>⟨b,s,.bl c,f,env,TJ e,λv g l j i n=>⟨c,i.bl_inv.1,k g j⟩⟩
theorem Ft:∀a H Q,M9 K (xB fa) a H Q->JW (tF K fa) a H Q:=λa H Q ⟨b,s,c,d,env,e,k⟩=>⟨b,s,.bl c,d,env,TJ e,λv f h g i n=>⟨c,i.bl_inv.1,k f g⟩⟩
theorem Kz{t t':TE}(i:∀a H Q,t' a H Q->t a H Q):∀a H Q,JW t' a H Q->JW t a H Q:=λa H Q h=>i a H _ h
theorem SA{op:mn}{r:R2}{g:PV->PV->Option PV}(j:TC X (gA op) r)(d:RB X.K r g)(i:VE X a fa)(f:VE X b fb)(e:dJ op b=aB):VT X (.Compare a [op] [b] pos) (xB (Zi g fa fb)):=
 PT.imp (DK j i f e) λc H Q h=>Kz (J3 d) c H Q (Ft c H Q h)
theorem OP(d:VE X a fa)(c:VE X b fb):VT X (.Compare a [.Lt] [b] pos) (xB (Zi Hz fa fb)):=SA Zcj (Zc0 _) d c (Ss _)
theorem La(d:VE X a fa)(c:VE X b fb):VT X (.Compare a [.Gt] [b] pos) (xB (Zi M8 fa fb)):=SA Zck (Zc0 _) d c (Ss _)
noncomputable def QE(a b:XT):XT:=λs=>(a s).bind λc=>if c=aC then b s else aA aB
noncomputable def Dw(a b:XT):XT:=λs=>(a s).bind λc=>if c=aC then aA aC else b s
noncomputable def Fu(a:XT):XT:=λs=>(a s).map not
theorem Ce:∀a H Q,M9 K (QE ga gb) a H Q->Zb4 (M9 K ga) (M9 K gb) a H Q:=λa H Q ⟨b,s,c,f,env,e,k⟩=>by
 unfold QE at e
 cases q:ga s with
 | none=>rw[q] at e;cases e
 | some d=>
  rw[q] at e;refine⟨b,s,d,f,env,q,λg s1=>?_⟩
  cases d with
  | true=>
   exact⟨b,s,c,λp i=>Same.mut s1 (f p i),env.mono s1,e,λh s2=>k h (s1.trans s2)⟩
  | false=>
   cases e;exact k g s1
theorem A5:∀a H Q,M9 K (Dw ga gb) a H Q->tOr (M9 K ga) (M9 K gb) a H Q:=λa H Q ⟨b,s,c,f,env,e,k⟩=>by
 unfold Dw at e
 cases q:ga s with
 | none=>rw[q] at e;cases e
 | some d=>
  rw[q] at e;refine⟨b,s,d,f,env,q,λg s1=>?_⟩
  cases d with
  | true=>
   cases e;exact k g s1
  | false=>
   exact⟨b,s,c,λp i=>Same.mut s1 (f p i),env.mono s1,e,λh s2=>k h (s1.trans s2)⟩
theorem Nx(b:VT X a ga):VW X (.BoolOp .And [a] pos) ga:=DE b
theorem KA(b:VT X a ga):VW X (.BoolOp .Or [a] pos) ga:=Ar b
theorem KC(d:VT X a ga)(c:VW X (.BoolOp .And (b::n8) pos) gb):VW X (.BoolOp .And (a::b::n8) pos) (QE ga gb):=PW.imp (As d c) Ce
theorem J4(d:VT X a ga)(c:VW X (.BoolOp .Or (b::n8) pos) gb):VW X (.BoolOp .Or (a::b::n8) pos) (Dw ga gb):=PW.imp (Zb5 d c) A5
theorem A6(g:VT X a ga):VT X (.UnaryOp .Not a pos) (Fu ga):=PT.imp (Au g) λh H Q ⟨b,s,c,f,env,e,k⟩=>by
 unfold Fu at e
 cases q:ga s with
 | none=>rw[q] at e;cases e
 | some d=>rw[q] at e;cases e;exact⟨b,s,d,f,env,q,k⟩
end
section
variable {X:Cx} {a b c:aq} {n8:List aq} {fa fb:XE} {gc:XT} {pos:fD}
noncomputable def RS(a b:XE):XE:=λs=>(xB a s).bind λc=>if c=aC then b s else aA (.bl aB)
noncomputable def eOr(a b:XE):XE:=λs=>(xB a s).bind λc=>if c=aC then aA (.bl aC) else b s
noncomputable def HA(a:XE):XE:=λs=>(xB a s).map λc=>.bl !c
noncomputable def Fv(c:XT)(a b:XE):XE:=λs=>(c s).bind λk=>if k=aC then a s else b s
theorem Ny{op}(h:VE X a fa):VE X (.BoolOp op [a] pos) fa:=Av h
theorem SD(i:VE X a fa)(r:VE X (.BoolOp .And (b::n8) pos) fb):VE X (.BoolOp .And (a::b::n8) pos) (RS fa fb):=PE.imp (Aw i r) λx H Q ⟨g,s,l,h,env,e,k⟩=>by
 unfold RS at e
 cases q:xB fa s with
 | none=>rw[q] at e;cases e
 | some d=>
  rw[q] at e;refine⟨g,s,.bl d,h,env,TJ q,λv m w s1 t _=>⟨d,t.bl_inv.1,?_⟩⟩
  cases d with
  | true=>
   exact⟨g,s,l,λp c=>Same.mut s1 (h p c),env.mono s1,e,λn u f s2 j o=>k n u f (s1.trans s2) j o⟩
  | false=>
   cases e;exact k _ m [] s1 (Is.bl aB) λp c=>by simp at c
theorem Fw(c:VE X a fa):VE X (.UnaryOp .Not a pos) (HA fa):=PE.imp (Ax c) λm H Q ⟨b,s,l,f,env,e,k⟩=>by
 unfold HA at e
 cases q:xB fa s with
 | none=>rw[q] at e;cases e
 | some d=>
  rw[q] at e;cases e;exact⟨b,s,.bl d,f,env,TJ q,λv g j s1 i _=>⟨d,i.bl_inv.1,k _ g [] s1 (Is.bl _) λp h=>by simp at h⟩⟩
theorem J5(u:VT X c gc)(r:VE X a fa)(t:VE X b fb):VE X (.IfExp c a b pos) (Fv gc fa fb):=PE.imp (G7 u r t) λv H Q ⟨g,s,l,h,env,e,k⟩=>by
 unfold Fv at e
 cases q:gc s with
 | none=>rw[q] at e;cases e
 | some d=>
  rw[q] at e;refine⟨g,s,d,h,env,q,λw s1=>?_⟩
  cases d with
  | true=>
   exact⟨g,s,l,λp n=>Same.mut s1 (h p n),env.mono s1,e,λj o f s2 i m=>k j o f (s1.trans s2) i m⟩
  | false=>
   exact⟨g,s,l,λp n=>Same.mut s1 (h p n),env.mono s1,e,λj o f s2 i m=>k j o f (s1.trans s2) i m⟩
end
section
variable {X:Cx} {a b c:aq} {fa fb fc:XE} {pos:fD}
noncomputable def Fx(neg:Bool):PV->Option PV
 | .non=>aA (.bl !neg)
 | _=>aA (.bl neg)
noncomputable def KD:PV->Bool
 | .non=>aC
 | _=>aB
theorem QG{H:Hp}{l:PV}{v:V}{g:List aH}(i:Is K H l v g):decide (v=V.non)=KD l:=by
 cases l with
 | non=>rw[i.non_inv.1];rfl
 | bl b=>rw[i.bl_inv.1];rfl
 | int j=>rw[i.int_inv.1];rfl
 | str y=>rw[i.str_inv.1];rfl
 | ty n=>rw[i.ty_inv.1];rfl
 | exc C=>obtain⟨⟨e,o,x,C,rfl,_⟩,_⟩:=i;rfl
 | exf C l=>obtain⟨⟨e,o,x,C,r,m,u,z,rfl,_⟩,_⟩:=i;rfl
 | clo C l=>obtain⟨u,x,⟨f,fo,c,h,e,k,q,ct,rfl,_⟩,_⟩:=i;rfl
 | lst l=>obtain⟨p,a,d,rfl,_⟩:=i.lst_inv;rfl
 | cst l=>obtain⟨p,a,rfl,_⟩:=i.cst_inv;rfl
 | tup l=>obtain⟨p,a,rfl,_⟩:=i.tup_inv;rfl
 | dK ks l=>obtain⟨p,a,d,rfl,_⟩:=i.dK_inv;rfl
 | dT ks l=>obtain⟨p,a,d,rfl,_⟩:=i.dT_inv;rfl
noncomputable def SE(neg:Bool)(a:XE):XE:=λs=>(a s).bind (Fx neg)
theorem Cf:∀a H Q,tF K (SE aB fa) a H Q->Zb3 (tF K fa) a H Q:=λa H Q ⟨d,s,l,f,env,e,k⟩=>by
 unfold SE at e
 cases q:fa s with
 | none=>rw[q] at e;cases e
 | some m=>
  rw[q] at e;simp only[aT] at e;refine⟨d,s,m,f,env,q,λv b h s1 c _=>?_⟩;show Q _ b;rw[QG c];have:l = .bl (KD m):=by cases m<;>cases e<;>rfl
  subst this;exact k _ b [] s1 (Is.bl _) λp g=>by simp at g
theorem Fy:∀a H Q,tF K (SE aC fa) a H Q->BG (tF K fa) a H Q:=λa H Q ⟨d,s,l,f,env,e,k⟩=>by
 unfold SE at e
 cases q:fa s with
 | none=>rw[q] at e;cases e
 | some m=>
  rw[q] at e;refine⟨d,s,m,f,env,q,λv b h s1 c _=>?_⟩;show Q _ b;rw[QG c];have:l = .bl (!KD m):=by cases m<;>cases e<;>rfl
  subst this;exact k _ b [] s1 (Is.bl _) λp g=>by simp at g
theorem BO:∀a H Q,M9 K (xB fa) a H Q->tB (tF K fa) a H Q:=λa H Q ⟨b,s,c,d,env,e,k⟩=>⟨b,s,.bl c,d,env,TJ e,λv f h g i n=>⟨c,i.bl_inv.1,k f g⟩⟩
theorem J6{t t':TE}(i:∀a H Q,t' a H Q->t a H Q):∀a H Q,tB t' a H Q->tB t a H Q:=λa H Q h=>i a H _ h
theorem A7{j pos'}(c:VE X a fa):VT X (.Compare a [.Is] [.Constant .none j pos'] pos) (xB (SE aB fa)):=PT.imp (G6 (Ap c)) λb H Q h=>J6 Cf b H Q (BO b H Q h)
theorem Nz{j pos'}(c:VE X a fa):VT X (.Compare a [.IsNot] [.Constant .none j pos'] pos) (xB (SE aC fa)):=PT.imp (G6 (DD c)) λb H Q h=>J6 Fy b H Q (BO b H Q h)
noncomputable def NA:PV->Option PV
 | .int i=>aA (.int (-i))
 | _=>none
noncomputable def GW(g:PV->Option PV)(a:XE):XE:=λs=>(a s).bind g
theorem QH(c:VE X a fa):VE X (.UnaryOp .USub a pos) (GW NA fa):=PE.imp (Zcg AM c) λj H Q ⟨b,s,l,d,env,e,k⟩=>by
 unfold GW at e
 cases q:fa s with
 | none=>rw[q] at e;cases e
 | some m=>
  rw[q] at e;simp only[aT] at e;unfold NA at e;split at e
  ·cases e;exact⟨b,s,_,d,env,q,λv f i s1 h _=>⟨_,h.int_inv.1,k _ f [] s1 (Is.int _) λp g=>by simp at g⟩⟩
  ·cases e
end
end VL
namespace VL
open PySem PySem.Spec PyProof.Rows L2
variable {K:aD}
noncomputable def RU:List XE->ZE->Option (List PV)
 | [],_=>aA []
 | f::fs,s=>(f s).bind λx=>(RU fs s).map (x::·)
theorem QI{f:XE}{fs:List XE}{s:ZE}{ls:List PV}(h:RU (f::fs) s=aA ls):∃x r,f s=aA x/\RU fs s=aA r/\ls=x::r:=by
 unfold RU at h
 cases q:f s with
 | none=>rw[q] at h;cases h
 | some x=>cases q2:RU fs s with
  | none=>rw[q,q2] at h;cases h
  | some r=>rw[q,q2] at h;cases h;exact⟨x,r,rfl,rfl,rfl⟩
theorem Wm:∀{fs:List XE}{s:ZE}{ls:List PV},RU fs s=aA ls->ls.length=fs.length
 | [],_,_,h=>by cases h;rfl
 | f::fs,s,ls,h=>by obtain⟨x,r,_,a,rfl⟩:=QI h;rw[bp,bp,Wm a]
noncomputable def tFA(K:aD)(fs:List XE):TA:=λσ H Q=>∃(Rm:aH->Prop) (s:ZE) (ls:List PV),(∀p,Rm p->U2 (H p))/\EnvIs K Rm H s σ/\RU fs s=aA ls/\∀vs H' fp,Same H H'->Iss K H' ls vs fp->(∀p∈fp,¬Rm p)->Q vs H'
noncomputable def tMA(K:aD)(fs:List XE):TA:=λσ H Q=>∃(s:ZE) (ls:List PV),EnvIs K (λ_=>False) H s σ/\RU fs s=aA ls/\∀vs H' fp,Same H H'->Iss K H' ls vs fp->fp.Nodup->(∀p∈fp,H p=none/\U2 (H' p))->Q vs H'
noncomputable def VA(X:Cx)(es:List aq)(fs:List XE):Prop:=PA X es (tFA X.K fs)
noncomputable def VMA(X:Cx)(es:List aq)(fs:List XE):Prop:=PA X es (tMA X.K fs)
section
variable {X:Cx} {e:aq} {es:List aq} {f:XE} {fs:List XE} {pos:fD} {k:Nat}
theorem PA.imp{t t':TA}(h:PA X es t)(i:∀a H Q,t' a H Q->t a H Q):PA X es t':=λpos b s a H Q I q=>h pos b s a H Q I (i a H Q q)
theorem A8:VA X [] []:=PA.imp Xv λd H Q ⟨b,s,ls,c,env,e,k⟩=>by
 cases e;exact k [] H [] (Same.refl H) Iss.nil λp a=>by simp at a
theorem TM(g:VE X e f)(i:VA X es fs)(hs:aO (e::es) X.env=(aB,eval e X.env)::aO es X.env:=by rfl):VA X (e::es) (f::fs):=PA.imp (Z4 g i hs) λv H Q ⟨b,s,ls,c,env,e,k⟩=>by
 obtain⟨o,l,u,j,rfl⟩:=QI e;refine⟨b,s,o,c,env,u,λx w f1 s1 q d=>⟨b,s,l,λp a=>Same.mut s1 (c p a),env.mono s1,j,λy r t s2 m n=>?_⟩⟩;refine k _ r (f1++t) (s1.trans s2) (Iss.cons (q.mono s2) m) λp a=>?_;rcases cB.mp a with h | h
 ·exact d p h
 ·exact n p h
theorem TN:VMA X [] []:=PA.imp Xv λb H Q ⟨s,ls,env,e,k⟩=>by
 cases e;exact k [] H [] (Same.refl H) Iss.nil cg λp a=>by simp at a
theorem Ug(d:VM X e f)(j:VMA X es fs)(hs:aO (e::es) X.env=(aB,eval e X.env)::aO es X.env:=by rfl):VMA X (e::es) (f::fs):=PA.imp (Z4 d j hs) λA H Q ⟨s,ls,env,e,k⟩=>by
 obtain⟨r,m,y,l,rfl⟩:=QI e;refine⟨s,r,env,y,λx B f1 s1 t i c=>⟨s,m,env.mono s1,l,λC u w s2 n v g=>?_⟩⟩;refine k _ u (f1++w) (s1.trans s2) (Iss.cons (t.mono s2) n) ?_ λp o=>?_
 ·refine gG.mpr ⟨i,v,λa d b q z=>?_⟩;subst z;exact Xf (c a d).2 (g a q).1
 ·rcases cB.mp o with h | h
  ·exact⟨(c p h).1,Same.mut s2 (c p h).2⟩
  ·exact⟨Same.off s1 (g p h).1,(g p h).2⟩
noncomputable def QJ(fs:List XE):XE:=λs=>(RU fs s).map .tup
noncomputable def TQ(fs:List XE):XE:=λs=>(RU fs s).map .lst
theorem map_some{d c:Type}{o:Option d}{g:d->c}{b:c}(h:o.map g=aA b):∃a,o=aA a/\b=g a:=by
 cases o with
 | none=>cases h
 | some a=>cases h;exact⟨a,rfl,rfl⟩
theorem SG(h:VA X es fs)(j:fs.length<=1000:=by decide):VE X (.Tuple es k pos) (QJ fs):=PE.imp (Ni h) λm H Q ⟨d,s,l,i,env,e,q⟩=>by
 obtain⟨ls,c,rfl⟩:=map_some e;refine⟨d,s,ls,i,env,c,λvs n f s1 b g=>⟨?_,λp a=>?_⟩⟩
 ·rw[b.len,Wm c];exact dA (lt_size (by omega))
 ·exact q _ _ f (s1.trans (Same.new a _)) (Is.tup Zs (b.mono (Same.new a _))) g
theorem A9(h:VMA X es fs)(m:fs.length<=1000:=by decide):VM X (.Tuple es k pos) (QJ fs):=PE.imp (Ni h) λn H Q ⟨s,l,env,e,q⟩=>by
 obtain⟨ls,g,rfl⟩:=map_some e;refine⟨s,ls,env,g,λvs o i s1 f j c=>⟨?_,λp b=>?_⟩⟩
 ·rw[f.len,Wm g];exact dA (lt_size (by omega))
 ·exact q _ _ i (s1.trans (Same.new b _)) (Is.tup Zs (f.mono (Same.new b _))) j λa d=>⟨(c a d).1,Same.mut (Same.new b _) (c a d).2⟩
theorem Fz(h:VA X es fs)(m:fs.length<=1000:=by decide):VE X (.List es pos) (TQ fs):=PE.imp (Fd h) λn H Q ⟨i,s,l,d,env,e,q⟩=>by
 obtain⟨ls,g,rfl⟩:=map_some e;refine⟨i,s,ls,d,env,g,λvs o j s1 f k=>⟨?_,λp c=>?_⟩⟩
 ·rw[f.len,Wm g];exact dA (lt_size (by omega))
 ·refine q _ _ (p::j) (s1.trans (Same.new c _)) (Is.lst Zs (f.mono (Same.new c _))) λa b z=>?_;rcases aa.mp b with rfl | b
  ·exact Xf (Same.mut s1 (d a z)) c
  ·exact k a b z
theorem NB(h:VMA X es fs)(k:fs.length<=1000:=by decide):VM X (.List es pos) (TQ fs):=PE.imp (Fd h) λm H Q ⟨s,l,env,e,q⟩=>by
 obtain⟨ls,g,rfl⟩:=map_some e;refine⟨s,ls,env,g,λvs n i s1 f j d=>⟨?_,λp b=>?_⟩⟩
 ·rw[f.len,Wm g];exact dA (lt_size (by omega))
 ·refine q _ _ (p::i) (s1.trans (Same.new b _)) (Is.lst Zs (f.mono (Same.new b _))) (bY.mpr ⟨λz=>Xf (d p z).2 b,j⟩) λa c=>?_;rcases aa.mp c with rfl | c
  ·exact⟨Same.off s1 b,by rw[Zs];exact dZ⟩
  ·exact⟨(d a c).1,Same.mut (Same.new b _) (d a c).2⟩
end
noncomputable def YS(K:aD)(D:List PV->Option PV)(n:Nat):Sp:=λvs H Q _=>vs.length=n/\∃ls fp l,Iss K H ls vs fp/\D ls=aA l/\∀v H' fq,Same H H'->Is K H' l v fq->fq.Nodup->(∀p∈fq,H p=none/\U2 (H' p))->Q v H'
noncomputable def Zc(D:List PV->Option PV)(fs:List XE):XE:=λs=>(RU fs s).bind D
theorem Zf{d c:Type}{o:Option d}{g:d->Option c}{b:c}(h:o.bind g=aA b):∃a,o=aA a/\g a=aA b:=by
 cases o with
 | none=>cases h
 | some a=>exact⟨a,rfl,h⟩
section
variable {X:Cx} {x:a0} {ps:List a0} {k:Nat} {e:aq} {es:List aq} {fs:List XE} {p pos:fD}
theorem J7{D:List PV->Option PV}{n:Nat}(C:Xd X.prog X.w X.K X.mg X.base x ps (YS X.K D n) k)(r:Room k X.A)(j:Gl X x)(b:VA X (e::es) fs)(B:fs.length=n:=by rfl)
  (c:(x==("__debug__" : a0))=aB:=by decide) (i:aO (e::es) X.env=(aB,eval e X.env)::aO es X.env:=by rfl) (d:(dD pos (aO es X.env)).any (·.1)=aB:=by rfl) :
  VM X (.Call (.Name x p) (e::es) [] pos) (Zc D fs):=PE.imp (Kw C r j b c i d) λF H Q ⟨s,l,env,e,q⟩=>by
 obtain⟨ls,h,o⟩:=Zf e;refine⟨λ_=>False,s,ls,λ_ z=>z.elim,env,h,λvs u m s1 g E=>?_⟩;show YS X.K D n (vs++[]) u Q E0;rw[cS];exact⟨by rw[g.len,Wm h,B],ls,m,l,g,o,λv w A s2 t y f=>q v w A (s1.trans s2) t y λa b=>⟨Same.off s1 (f a b).1,(f a b).2⟩⟩
end
noncomputable def RC(K:aD)(r:List V->Hp->VK->Prop)(g:List PV->Option PV):Prop:=∀(H:Hp)(vs:List V)(ls:List PV)(l:PV)(fp:List aH),Iss K H ls vs fp->g ls=aA l->∀Q:VK,
 (∀v H' fq,Same H H'->Is K H' l v fq->(∀p∈fq,p∈fp\/H p=none)->Q v H')->r vs H Q
noncomputable def RCM(K:aD)(r:List V->Hp->VK->Prop)(g:List PV->Option PV):Prop:=∀(H:Hp)(vs:List V)(ls:List PV)(l:PV)(fp:List aH),Iss K H ls vs fp->g ls=aA l->∀Q:VK,
 (∀v H' fq,Same H H'->Is K H' l v fq->fq.Nodup->(∀p∈fq,H p=none/\U2 (H' p))->Q v H')->r vs H Q
theorem BP{r:List V->Hp->VK->Prop}{g:List PV->Option PV}{fs:List XE}(j:RC K r g):∀a H Q,tF K (Zc g fs) a H Q->tCB r (tFA K fs) a H Q:=λa H Q ⟨c,s,l,b,env,e,k⟩=>by
 obtain⟨ls,w,i⟩:=Zf e;refine⟨c,s,ls,b,env,w,λvs n d s1 t f=>j n vs ls l d t i Q λv u x s2 m o=>k v u x (s1.trans s2) m λp q z=>?_⟩;rcases o p q with h | h
 ·exact f p h z
 ·exact Xf (Same.mut s1 (b p z)) h
theorem Zc3{r:List V->Hp->VK->Prop}{g:List PV->Option PV}{fs:List XE}(h:RCM K r g):∀a H Q,tM K (Zc g fs) a H Q->tCB r (tFA K fs) a H Q:=λa H Q ⟨s,l,env,e,k⟩=>by obtain⟨ls,q,f⟩:=Zf e;exact⟨λ_=>False,s,ls,λ_ z=>z.elim,env,q,λvs j d s1 m u=>h j vs ls l d m f Q λv n t s2 i o b=>k v n t (s1.trans s2) i o λp c=>⟨Same.off s1 (b p c).1,(b p c).2⟩⟩
section
variable {X:Cx} {x:a0} {k:Nat} {e:aq} {es:List aq} {fs:List XE} {p pos:fD} {id T:String} {r:List V->Hp->VK->Prop} {g:List PV->Option PV}
theorem Lb(i:Xr X (.builtin id) r)(c:RC X.K r g)(h:Gl X x)(d:X.mg x=none)(l:dN x=aA (.builtin id))(j:VA X (e::es) fs)(k:x≠"__name__":=by decide)(a:(x==("__debug__" : a0))=aB:=by decide)
  (f:aO (e::es) X.env=(aB,eval e X.env)::aO es X.env:=by rfl) (b:(dD pos (aO es X.env)).any (·.1)=aB:=by rfl):VE X (.Call (.Name x p) (e::es) [] pos) (Zc g fs):=
 PE.imp (Qu i h d l j k a f b) (BP c)
theorem Zx(i:Xr X (.type T) r)(c:RC X.K r g)(h:Gl X x)(d:X.mg x=none)(l:dN x=aA (.type T))(j:VA X (e::es) fs)(k:x≠"__name__":=by decide)(a:(x==("__debug__" : a0))=aB:=by decide)
  (f:aO (e::es) X.env=(aB,eval e X.env)::aO es X.env:=by rfl) (b:(dD pos (aO es X.env)).any (·.1)=aB:=by rfl):VE X (.Call (.Name x p) (e::es) [] pos) (Zc g fs):=
 PE.imp (OG i h d l j k a f b) (BP c)
theorem SH(i:Xr X (.type T) r)(c:RCM X.K r g)(h:Gl X x)(d:X.mg x=none)(l:dN x=aA (.type T))(j:VA X (e::es) fs)(k:x≠"__name__":=by decide)(a:(x==("__debug__" : a0))=aB:=by decide)
  (f:aO (e::es) X.env=(aB,eval e X.env)::aO es X.env:=by rfl) (b:(dD pos (aO es X.env)).any (·.1)=aB:=by rfl):VM X (.Call (.Name x p) (e::es) [] pos) (Zc g fs):=
 PE.imp (OG i h d l j k a f b) (Zc3 c)
end
theorem Iss.one_inv{H:Hp}{l:PV}{vs:List V}{c:List aH}(h:Iss K H [l] vs c):∃v,vs=[v]/\Is K H l v c:=by obtain⟨x,r,f1,d,rfl,a,b,rfl⟩:=h.inv;rw[b.1,b.2,cS];exact⟨x,rfl,a⟩
theorem Iss.two_inv{H:Hp}{l m:PV}{vs:List V}{e:List aH}(h:Iss K H [l,m] vs e):∃v w f1 d,vs=[v,w]/\Is K H l v f1/\Is K H m w d/\e=f1++d:=by obtain⟨x,r,f1,d,rfl,a,b,rfl⟩:=h.inv;obtain⟨y,rfl,c⟩:=b.one_inv;exact⟨x,y,f1,d,rfl,a,c,rfl⟩
noncomputable def SI:PV->Option (List PV)
 | .lst l=>aA l
 | .cst l=>aA l
 | .tup l=>aA l
 | _=>none
theorem WT{H:Hp}{l:PV}{v:V}{f:List aH}{m:List PV}(h:Is K H l v f)(e:SI l=aA m):∃p a g,v = .ref p/\(SqL K H p a\/SqT K H p a)/\Iss K H m a g/\∀q∈g,q∈f:=by
 cases l with
 | lst l=>
  cases e;obtain⟨p,a,g,rfl,b,c,rfl⟩:=h.lst_inv;exact⟨p,a,g,rfl,.inl (SqL.of b),c,λq d=>aW _ d⟩
 | cst l=>
  cases e;obtain⟨p,a,rfl,b,c⟩:=h.cst_inv;exact⟨p,a,f,rfl,.inl b.sq,c,λq d=>d⟩
 | tup l=>
  cases e;obtain⟨p,a,rfl,b,c⟩:=h.tup_inv;exact⟨p,a,f,rfl,.inr (SqT.of b),c,λq d=>d⟩
 | _=>cases e
noncomputable def YG:List PV->Option PV
 | [.str z]=>if z.length<=sizeLine then aA (.int z.length) else none
 | [l]=>(SI l).map λm=>.int m.length
 | _=>none
theorem Zaa:RC K (λb H Q=>∃x n,b=[x]/\Zcl K x H n/\Q (.int n) H) YG:=λH vs ls l f h e Q k=>by
 unfold YG at e;split at e
 ·split at e
  ·cases e;obtain⟨v,rfl,i⟩:=h.one_inv;exact⟨v,_,rfl,by rw[i.str_inv.1];exact⟨by assumption,rfl⟩,k _ H [] (Same.refl H) (Is.int _) λp a=>by simp at a⟩
  ·cases e
 ·obtain⟨m,d,rfl⟩:=map_some e;obtain⟨v,rfl,i⟩:=h.one_inv;obtain⟨p,b,g,rfl,a,c,_⟩:=WT i d;refine⟨_,b.length,rfl,?_,?_⟩
  ·rcases a with a | a
   ·exact .inl ⟨b,a,rfl⟩
   ·exact .inr ⟨b,a,rfl⟩
  ·rw[c.len];exact k _ H [] (Same.refl H) (Is.int _) λp a=>by simp at a
 ·cases e
noncomputable def ZN:List PV->Option PV
 | [l]=>(SI l).map .tup
 | _=>none
theorem ZD:RC K (A4 K) ZN:=λH vs ls l n h e Q k=>by
 unfold ZN at e;split at e
 ·obtain⟨m,j,rfl⟩:=map_some e;obtain⟨v,rfl,i⟩:=h.one_inv;rename_i l0
  cases l0 with
  | tup l=>
   cases j;obtain⟨p,d,rfl,c,g⟩:=id i.tup_inv;exact⟨p,d,rfl,.inr ⟨SqT.of c,k _ H n (Same.refl H) i λa b=>.inl b⟩⟩
  | lst l=>
   cases j;obtain⟨p,d,o,rfl,c,g,rfl⟩:=i.lst_inv;exact⟨p,d,rfl,.inl ⟨SqL.of c,λq f=>k _ _ o (Same.new f _) (Is.tup Zs (g.mono (Same.new f _))) λa b=>.inl (aW _ b)⟩⟩
  | cst l=>
   cases j;obtain⟨p,d,rfl,c,g⟩:=i.cst_inv;exact⟨p,d,rfl,.inl ⟨c.sq,λq f=>k _ _ n (Same.new f _) (Is.tup Zs (g.mono (Same.new f _))) λa b=>.inl b⟩⟩
  | _=>cases j
 ·cases e
noncomputable def Uh:List PV->Option PV
 | [l]=>(SI l).bind λm=>if ZK m=aC then aA (.lst m) else none
 | _=>none
theorem QK:RCM K (D5 K) Uh:=λH vs ls l o h e Q k=>by
 unfold Uh at e;split at e
 ·obtain⟨m,n,b⟩:=Zf e;split at b
  ·cases b;obtain⟨v,rfl,i⟩:=h.one_inv;obtain⟨p,j,r,rfl,g,d,hs⟩:=WT i n;have:=Iss.pure _ _ _ (by assumption) d;subst this;refine⟨p,j,rfl,g,λq c=>k _ _ [q] (Same.new c _) (Is.lst Zs (d.mono (Same.new c _))) (by simp) λa f=>?_⟩;rw[ah.mp f];exact⟨c,by rw[Zs];exact dZ⟩
  ·cases b
 ·cases e
noncomputable def Xh:List PV->Option (List Int)
 | []=>aA []
 | .int i::r=>(Xh r).map (i::·)
 | _=>none
theorem Y8:∀l:List Int,Xh (iL l)=aA l
 | []=>rfl
 | i::r=>by show(Xh (iL r)).map (i::·)=_;rw[Y8 r];rfl
theorem Y9:∀{m:List PV}{l:List Int},Xh m=aA l->m=iL l
 | [],l,h=>by cases h;rfl
 | .int i::r,l,h=>by obtain⟨a,e,rfl⟩:=map_some (show(Xh r).map (i::·)=aA l from h);rw[Y9 e];rfl
 | .non::_,_,h=>by cases h
 | .bl _::_,_,h=>by cases h
 | .str _::_,_,h=>by cases h
 | .ty _::_,_,h=>by cases h
 | .exc _::_,_,h=>by cases h
 | .exf _ _::_,_,h=>by cases h
 | .clo _ _::_,_,h=>by cases h
 | .tup _::_,_,h=>by cases h
 | .lst _::_,_,h=>by cases h
 | .cst _::_,_,h=>by cases h
 | .dK _ _::_,_,h=>by cases h
 | .dT _ _::_,_,h=>by cases h
abbrev bL(l:List Bool):List PV:=l.map PV.bl
noncomputable def UQ:List PV->Option (List Bool)
 | []=>aA []
 | .bl i::r=>(UQ r).map (i::·)
 | _=>none
theorem U8:∀l:List Bool,UQ (bL l)=aA l
 | []=>rfl
 | i::r=>by show(UQ (bL r)).map (i::·)=_;rw[U8 r];rfl
theorem TR:∀{m:List PV}{l:List Bool},UQ m=aA l->m=bL l
 | [],l,h=>by cases h;rfl
 | .bl i::r,l,h=>by obtain⟨a,e,rfl⟩:=map_some (show(UQ r).map (i::·)=aA l from h);rw[TR e];rfl
 | .non::_,_,h=>by cases h
 | .int _::_,_,h=>by cases h
 | .str _::_,_,h=>by cases h
 | .ty _::_,_,h=>by cases h
 | .exc _::_,_,h=>by cases h
 | .exf _ _::_,_,h=>by cases h
 | .clo _ _::_,_,h=>by cases h
 | .tup _::_,_,h=>by cases h
 | .lst _::_,_,h=>by cases h
 | .cst _::_,_,h=>by cases h
 | .dK _ _::_,_,h=>by cases h
 | .dT _ _::_,_,h=>by cases h
theorem Iss.bL{H:Hp}:∀{l:List Bool}{xs:List V}{fp:List aH},Iss K H (VL.bL l) xs fp->xs=l.map V.bl/\fp=[]
 | [],xs,fp,h=>by simpa only[VL.bL,List.map_nil,Iss] using h
 | i::l,xs,fp,h=>by obtain⟨x,r,f1,c,rfl,b,a,rfl⟩:=Iss.inv (show Iss K H (PV.bl i::VL.bL l) xs fp from h);obtain⟨rfl,rfl⟩:=b.bl_inv;obtain⟨rfl,rfl⟩:=a.bL;exact⟨rfl,rfl⟩
theorem NC{H:Hp}{p:aH}{a:List V}(h:SqL K H p a\/SqT K H p a):∃b,R3 b K H p a:=by
 rcases h with h | h
 ·exact⟨aC,h⟩
 ·exact⟨aB,h⟩
noncomputable def Vw:List PV->Option PV
 | [l]=>(SI l).bind λm=>(Xh m).map λns=>.int ns.sum
 | _=>none
noncomputable def FA:List PV->Option PV
 | [l]=>(SI l).bind λm=>(UQ m).map λbs=>.bl (bs.any id)
 | _=>none
theorem Vx:RC K (λd H Q=>∃(b:Bool) (p:aH) (a:List Int),d=[.ref p]/\R3 b K H p (a.map V.int)/\Q (.int a.sum) H) Vw:=λH vs ls l r h e Q k=>by
 unfold Vw at e;split at e
 ·obtain⟨m,q,f⟩:=Zf e;obtain⟨a,j,rfl⟩:=map_some f;obtain⟨v,rfl,i⟩:=h.one_inv;obtain⟨p,d,s,rfl,c,g,hs⟩:=WT i q;have o:=Y9 j;subst o;obtain⟨rfl,rfl⟩:=g.iL;obtain⟨b,n⟩:=NC c;exact⟨b,p,a,rfl,n,k _ H [] (Same.refl H) (Is.int _) λp c=>by simp at c⟩
 ·cases e
theorem Zab:RC K (λc H Q=>∃(b:Bool) (p:aH) (bs:List Bool),c=[.ref p]/\R3 b K H p (bs.map V.bl)/\Q (.bl (bs.any id)) H) FA:=λH vs ls l r h e Q k=>by
 unfold FA at e;split at e
 ·obtain⟨m,q,f⟩:=Zf e;obtain⟨d,j,rfl⟩:=map_some f;obtain⟨v,rfl,i⟩:=h.one_inv;obtain⟨p,c,s,rfl,a,g,hs⟩:=WT (K:=K) i q;have o:=TR j;subst o;obtain⟨rfl,rfl⟩:=g.bL;obtain⟨b,n⟩:=NC a;exact⟨b,p,d,rfl,n,k _ H [] (Same.refl H) (Is.bl _) λp a=>by simp at a⟩
 ·cases e
noncomputable def Lc:List PV->Option PV
 | [.int i,.int j]=>aA (.int (if j<i then j else i))
 | _=>none
noncomputable def Zc4:List PV->Option PV
 | [.int i,.int j]=>aA (.int (if j>i then j else i))
 | _=>none
noncomputable def Ld:List PV->Option PV
 | [.int i]=>aA (.int (if i<0 then -i else i))
 | _=>none
noncomputable def BQ:List PV->Option PV
 | [.int i]=>aA (.int i)
 | [.bl c]=>aA (.int (if c then 1 else 0))
 | _=>none
theorem Cg:RC K (λd H Q=>∃i j,d=[.int i,.int j]/\Q (.int (if j<i then j else i)) H) Lc:=λH vs ls l g h e Q k=>by
 unfold Lc at e;split at e
 ·cases e;obtain⟨v,w,f1,f,rfl,a,b,rfl⟩:=h.two_inv;exact⟨_,_,by rw[a.int_inv.1,b.int_inv.1],k _ H [] (Same.refl H) (Is.int _) λp c=>by simp at c⟩
 ·cases e
theorem KG:RC K (λc H Q=>∃i,c=[.int i]/\Q (.int (if i<0 then -i else i)) H) Ld:=λH vs ls l d h e Q k=>by
 unfold Ld at e;split at e
 ·cases e;obtain⟨v,rfl,a⟩:=h.one_inv;exact⟨_,by rw[a.int_inv.1],k _ H [] (Same.refl H) (Is.int _) λp b=>by simp at b⟩
 ·cases e
section
variable {X:Cx} {e:aq} {es:List aq} {fs:List XE} {p pos:fD}
noncomputable def tyP:PV->Option String
 | .int _=>aA "int"
 | .bl _=>aA "bool"
 | .tup _=>aA "tuple"
 | .lst _=>aA "list"
 | .str _=>aA "str"
 | _=>none
noncomputable def RL:List PV->Option PV
 | [a,.ty t]=>(tyP a).bind λu=>if t=u then aA (.bl aC) else if u = "int"/\t = "bool" then aA (.bl aB) else none
 | _=>none
theorem Oi:aw K (.type "bool") (.type "bool")=aA aC:=rfl
theorem Zac{H:Hp}{a:PV}{u:String}{v:V}{f:List aH}(e:tyP a=aA u)(h:Is K H a v f):TyOf K H v (.type u)/\aw K (.type u) (.type u)=aA aC:=by
 cases a<;>first
  | exact nomatch (show none=aA u from e)
  | cases e
 ·obtain⟨rfl,_⟩:=h.bl_inv;exact⟨TyOf.bl _,Oi⟩
 ·obtain⟨rfl,_⟩:=h.int_inv;exact⟨TyOf.int _,M0⟩
 ·obtain⟨rfl,_⟩:=h.str_inv;exact⟨TyOf.str _,M3⟩
 ·obtain⟨q,c,rfl,b,_⟩:=h.tup_inv;exact⟨TyOf.tup b,M1⟩
 ·obtain⟨q,c,d,rfl,b,_⟩:=h.lst_inv;exact⟨TyOf.lst b,Og⟩
theorem J8:RC K (λj H Q=>∃x T t b,j=[x,.ty T]/\TyOf K H x t/\aw K t (.type T)=aA b/\Q (.bl b) H) RL:=λH vs ls l n h e Q k=>by
 have d:∀b:Bool,l = .bl b->Q (.bl b) H:=λb z=>by subst z;exact k _ H [] (Same.refl H) (Is.bl _) λp i=>by simp at i
 unfold RL at e;split at e
 ·obtain⟨u,m,c⟩:=Zf e;obtain⟨v,w,f1,o,rfl,a,b,rfl⟩:=h.two_inv;obtain⟨f,g⟩:=Zac m a;split at c
  ·rename_i z;subst z;cases c;exact⟨_,_,_,_,by rw[b.ty_inv.1],f,g,d _ rfl⟩
  ·split at c
   ·rename_i z;obtain⟨rfl,rfl⟩:=z;cases c;exact⟨_,_,_,_,by rw[b.ty_inv.1],f,Nr,d _ rfl⟩
   ·cases c
 ·cases e
theorem BR{x:a0}{n:String}(c:Gl X x)(a:X.mg x=none)(e:dN x=aA (.type n))(d:x≠"__name__":=by decide)(b:(x==("__debug__" : a0))=aB:=by decide):VE X (.Name x pos) (eC (.ty n)):=
 D9 (DC c a e (v:=.ty n) rfl d b) λ_=>Is.ty n
end
end VL
namespace VL
open PySem PySem.Spec PyProof.Rows L2
variable {K:aD}
open Classical in
instance:DecidableEq PV:=λa b=>propDecidable (a=b)
noncomputable def U3:Nat->PV->PV->Bool
 | _+1,.non,.non=>aC
 | _+1,.bl _,.bl _=>aC
 | _+1,.int _,.int _=>aC
 | _+1,.str _,.str _=>aC
 | n+1,.tup l,.tup m=>(l.zip m).all λz=>U3 n z.1 z.2
 | n+1,.lst l,.lst m=>(l.zip m).all λz=>U3 n z.1 z.2
 | _,_,_=>aB
theorem TU{d c:Type}{p:d×c->Bool}{a:d}{b:c}{l:List d}{m:List c}(h:((a::l).zip (b::m)).all p=aC):p (a,b)=aC/\(l.zip m).all p=aC:=by rw[lC,jW,bX] at h;exact h
theorem Iss.inj'{n:Nat}{H:Hp}(c:∀a b v fa fb,U3 n a b=aC->Is K H a v fa->Is K H b v fb->a=b):∀{l m:List PV}{xs:List V}{fa fb:List aH},(l.zip m).all (λz=>U3 n z.1 z.2)=aC->Iss K H l xs fa->Iss K H m xs fb->l=m
 | [],m,xs,fa,fb,_,h,h'=>by
  simp only[Iss] at h;rw[h.1] at h';have:=h'.len
  cases m with
  | nil=>rfl
  | cons _ _=>simp at this
 | a::l,m,xs,fa,fb,hc,h,h'=>by
  obtain⟨x,r,f1,p,rfl,j,f,rfl⟩:=h.inv
  cases m with
  | nil=>have:=h'.len;simp at this
  | cons b m=>
   obtain⟨o,k,g,q,e,d,i,rfl⟩:=h'.inv;cases e;obtain⟨c1,c2⟩:=TU hc;rw[c a b x f1 g c1 j d,Iss.inj' c c2 f i]
theorem Is.inj'{H:Hp}:∀(n:Nat)(a b:PV)(v:V)(fa fb:List aH),U3 n a b=aC->Is K H a v fa->Is K H b v fb->a=b
 | 0,a,b,v,fa,fb,hc,_,_=>nomatch (show aB=aC from hc)
 | n+1,a,b,v,fa,fb,hc,ha,hb=>by
  cases a<;>cases b<;>first
   | exact nomatch (show aB=aC from hc)
   | skip
  ·rfl
  ·rw[ha.bl_inv.1] at hb;have:=hb.bl_inv.1;cases this;rfl
  ·rw[ha.int_inv.1] at hb;have:=hb.int_inv.1;cases this;rfl
  ·rw[ha.str_inv.1] at hb;have:=hb.str_inv.1;cases this;rfl
  ·obtain⟨p,k,rfl,f,g⟩:=ha.tup_inv;obtain⟨i,j,e,c,d⟩:=hb.tup_inv;cases e;rw[f] at c;cases c;rw[Iss.inj' (Is.inj' n) hc g d]
  ·obtain⟨p,k,l,rfl,f,g,_⟩:=ha.lst_inv;obtain⟨i,j,h,e,c,d,_⟩:=hb.lst_inv;cases e;rw[f] at c;cases c;rw[Iss.inj' (Is.inj' n) hc g d]
section
variable {X:Cx} {n5:List (aH×cy)} {σ:Sq} {H:Hp} {s:aI} {A:bQ}
theorem KH{n:Nat}(i:∀a b x y fa fb u w,U3 n a b=aC->Is K H a x fa->Is K H b y fb->RelV x u->RelV y w->∃r,jr A s u w r/\(r=aC↔a=b)) :
  ∀{l m:List PV}{xs ys:List V}{fa fb:List aH}{us ws:List aE},(l.zip m).all (λz=>U3 n z.1 z.2)=aC->Iss K H l xs fa->Iss K H m ys fb->Vals xs us->Vals ys ws->
  ∃e:Nat->Bool,(∀j (c:j<us.length) (d:j<ws.length),jr A s us[j] ws[j] (e j))/\((aM (min us.length ws.length)).all e=aC↔l.take (min us.length ws.length)=m.take (min us.length ws.length))
 | [],m,xs,ys,fa,fb,us,ws,_,h,_,r,_=>by simp only[Iss] at h;obtain⟨rfl,_⟩:=h;cases r;exact⟨λ_=>aC,λj c=>by simp at c,by simp⟩
 | a::l,[],xs,ys,fa,fb,us,ws,_,_,h,_,r=>by simp only[Iss] at h;obtain⟨rfl,_⟩:=h;cases r;exact⟨λ_=>aC,λj c d=>by simp at d,by simp⟩
 | a::l,b::m,xs,ys,fa,fb,us,ws,hc,h,h',r,r'=>by
  obtain⟨x,I,f1,E,rfl,c,d,rfl⟩:=h.inv;obtain⟨y,F,B,G,rfl,p,C,rfl⟩:=h'.inv;obtain⟨c1,c2⟩:=TU hc
  cases r with
  | cons q v=>cases r' with
   | cons q' v'=>
    obtain⟨t,D,f⟩:=i a b x y f1 B _ _ c1 c p q q';obtain⟨e,o,g⟩:=KH i c2 d C v v';refine⟨λj=>match j with | 0=>t | k+1=>e k,λj c d=>?_,?_⟩
    ·cases j with
     | zero=>exact D
     | succ k=>exact o k (by simpa using c) (by simpa using d)
    ·simp only[bp,Nat.succ_min_succ,List.range_succ_eq_map,jW,ll,bX,List.take_succ_cons,List.cons.injEq];exact and_congr f g
theorem Iss.same'{l m:List PV}{f e:List V}{i fb:List aH}{c d:List aE}(h:Iss K H l f i)(h':Iss K H m e fb)(r:Vals f c)(g:Vals e d) :
  (l.take (min c.length d.length)=m.take (min c.length d.length)/\c.length=d.length)↔l=m:=by
 have n:=h.len;have j:=h'.len;have o:=r.length;have k:=g.length;constructor
 ·rintro⟨a,b⟩;rw[bh (by omega),bh (by omega)] at a;exact a
 ·intro a;subst a;exact⟨rfl,by omega⟩
noncomputable def BS(A:bQ)(s:aI)(u w:aE)(r:Bool):Prop:=SeqAt.RcAt A s u w r/\SeqAt.RcNeAt A s u w !r
theorem QL(I:Inv X n5 σ H s):∀(n:Nat)(A:bQ)(a b:PV)(x y:V)(m fb:List aH)(u w:aE),A.units+2*n+2<gk->U3 n a b=aC->Is K H a x m->Is K H b y fb->RelV x u->RelV y w->
  (∃r,jr A s u w r/\(r=aC↔a=b))/\∃r,BS A s u w r/\(r=aC↔a=b)
 | 0,A,a,b,x,y,m,fb,u,w,hu,hc,_,_,_,_=>nomatch (show aB=aC from hc)
 | n+1,A,a,b,x,y,m,fb,u,w,hu,hc,ha,hb,ru,ZV=>by
  cases a<;>cases b<;>first
   | exact nomatch (show aB=aC from hc)
   | skip
  ·rw[ha.non_inv.1] at ru;rw[hb.non_inv.1] at ZV;cases ru;cases ZV;exact⟨⟨aC,kB _,by simp⟩,aC,⟨SeqAt.RcAt.none_none,SeqAt.RcNeAt.none_none⟩,by simp⟩
  ·rw[ha.bl_inv.1] at ru;rw[hb.bl_inv.1] at ZV;cases ru;cases ZV;exact⟨⟨_,jr.bool_bool _ _,by simp⟩,_,⟨SeqAt.RcAt.bool_bool _ _,SeqAt.RcNeAt.bool_bool _ _⟩,by simp⟩
  ·rw[ha.int_inv.1] at ru;rw[hb.int_inv.1] at ZV;obtain⟨t,rfl⟩:=ru;obtain⟨t',rfl⟩:=ZV;exact⟨⟨_,jr.int_int _ _ _ _,by simp⟩,_,⟨SeqAt.RcAt.int_int _ _ _ _,SeqAt.RcNeAt.int_int _ _ _ _⟩,by simp⟩
  ·rw[ha.str_inv.1] at ru;rw[hb.str_inv.1] at ZV;obtain⟨t,rfl⟩:=ru;obtain⟨t',rfl⟩:=ZV;exact⟨⟨_,jr.str_str _ _ _ _,by simp⟩,_,⟨SeqAt.RcAt.str_str _ _ _ _,SeqAt.RcNeAt.str_str _ _ _ _⟩,by simp⟩
  ·rename_i J Q;obtain⟨p,Z,rfl,O,E⟩:=id ha.tup_inv;obtain⟨B,Y,rfl,o,i⟩:=id hb.tup_inv;cases ru;cases ZV;obtain⟨D,G,q,_⟩:=I.tuple (SqT.of O);obtain⟨C,h,v,_⟩:=I.tuple (SqT.of o);obtain⟨f,F,k⟩:=KH (A:=A.in1) (λa b x y m fb u w c P N R L=>(QL I n A.in1 a b x y m fb u w (by show A.units+1+2*n+2<gk;omega) c P N R L).1) hc E i G h;have U:=SeqAt.RcAt.tuples (A:=A) (e:=f) (show s.heap.IsTuple p D.toArray from q) (show s.heap.IsTuple B C.toArray from v) (by omega) (λj z l=>F j (by simpa using z) (by simpa using l));have rn:=SeqAt.RcNeAt.tuples (A:=A) (e:=f) (show s.heap.IsTuple p D.toArray from q) (show s.heap.IsTuple B C.toArray from v) (by omega) (λj z l=>F j (by simpa using z) (by simpa using l));have g:(((aM (min D.toArray.size C.toArray.size)).all f&&D.toArray.size==C.toArray.size)=aC)↔PV.tup J=PV.tup Q:=by simp only[aR,bX,beq_iff_eq,PV.tup.injEq];rw[k];exact Iss.same' E i G h
   refine⟨?_,_,⟨U,rn⟩,g⟩;by_cases e:p=B
   ·subst e;exact⟨aC,kB _,by simp[Is.inj' (n+1) _ _ _ _ _ hc ha hb]⟩
   ·exact⟨_,lD e U,g⟩
  ·rename_i J Q;obtain⟨p,Z,fq,rfl,O,E,_⟩:=id ha.lst_inv;obtain⟨B,Y,W,rfl,o,i,_⟩:=id hb.lst_inv;cases ru;cases ZV;obtain⟨D,G,q,_⟩:=I.list (SqL.of O);obtain⟨C,h,v,_⟩:=I.list (SqL.of o);obtain⟨f,F,k⟩:=KH (A:=A.in1) (λa b x y m fb u w c P N R L=>(QL I n A.in1 a b x y m fb u w (by show A.units+1+2*n+2<gk;omega) c P N R L).1) hc E i G h
   have M:∃r,BS A s (.ref p) (.ref B) r/\(r=aC↔PV.lst J=PV.lst Q):=by
    have g:=Iss.same' E i G h;by_cases d:D.length=C.length
    ·refine⟨_,⟨SeqAt.RcAt.lists (e:=f) q.isList v.isList (by simpa using d) (by omega) (λj z l=>F j (by simpa using z) (by simpa using l)),SeqAt.RcNeAt.lists (e:=f) q.isList v.isList (by simpa using d) (by omega) (λj z l=>F j (by simpa using z) (by simpa using l))⟩,?_⟩;rw[d,Nat.min_self] at k g;simp only[aR,PV.lst.injEq];rw[d,k,<-g];simp
    ·refine⟨aB,⟨SeqAt.RcAt.lists_lengths q.isList v.isList (by simpa using d) (by omega),SeqAt.RcNeAt.lists_lengths q.isList v.isList (by simpa using d) (by omega)⟩,?_⟩;rw[PV.lst.injEq,<-g];simp[d]
   obtain⟨r,S,T⟩:=M;refine⟨?_,r,S,T⟩;by_cases e:p=B
   ·subst e;exact⟨aC,kB _,by simp[Is.inj' (n+1) _ _ _ _ _ hc ha hb]⟩
   ·exact⟨r,lD e S.1,T⟩
end
noncomputable def Zad(K:aD)(neg:Bool):R2:=λx y H Q=>∃a b fa fb,Is K H a x fa/\Is K H b y fb/\U3 8 a b=aC/\∀r:Bool,(r=aC↔a=b)->Q (.bl (if neg then !r else r)) H
section
variable {X:Cx}
theorem FC(n:X.A.units+64<gk):TC X (gA .Eq) (Zad X.K aB):=by intro m s l H x y v u Q I i c h;obtain⟨a,b,g,fb,d,j,k,q⟩:=h;obtain⟨_,r,e,f⟩:=QL I 8 X.A a b x y g fb v u (by omega) k d j i c;exact e.1 X.prog X.w X.xe _ ⟨.bl r,H,I,rfl,q r f⟩
theorem FD(n:X.A.units+64<gk):TC X (gA .NotEq) (Zad X.K aC):=by intro m s l H x y v u Q I i c h;obtain⟨a,b,g,fb,d,j,k,q⟩:=h;obtain⟨_,r,e,f⟩:=QL I 8 X.A a b x y g fb v u (by omega) k d j i c;exact e.2 X.prog X.w X.xe _ ⟨.bl !r,H,I,rfl,q r f⟩
end
noncomputable def XZ(neg:Bool):PV->PV->Option PV:=λa b=>if U3 8 a b=aC then aA (.bl (if neg then !decide (a=b) else decide (a=b))) else none
theorem ND(neg:Bool):RB K (Zad K neg) (XZ neg):=λH x y a b l f fb d g e Q k=>by
 unfold XZ at e;split at e
 ·cases e;refine⟨a,b,f,fb,d,g,by assumption,λr c=>?_⟩
  have:r=decide (a=b):=by
   cases r with
   | true=>exact(decide_eq_true (c.mp rfl)).symm
   | false=>exact(decide_eq_false λz=>bT (c.mpr z)).symm
  subst this;exact k _ H [] (Same.refl H) (Is.bl _) λp h=>by simp at h
 ·cases e
noncomputable def Zae(K:aD)(neg:Bool):R2:=λx y H Q=>∃a b m fa fb,Is K H a x fa/\Is K H b y fb/\SI b=aA m/\(m.all λz=>U3 8 z a)=aC/\∀r:Bool,(r=aC↔a∈m)->Q (.bl (if neg then !r else r)) H
section
variable {X:Cx} {n5:List (aH×cy)} {σ:Sq} {H:Hp} {s:aI}
theorem R4{a:PV}{x:V}{B:List aH}{u:aE}{A:bQ}(I:Inv X n5 σ H s)(Z:A.units+18<gk)(G:Is K H a x B)(O:RelV x u):∀{m:List PV}{i:List V}{fb:List aH}{k:List aE},(m.all λz=>U3 8 z a)=aC->Iss K H m i fb->Vals i k->
  ∃e:aE->Bool,(∀y∈k,jr A s y u (e y))/\(k.any e=aC↔a∈m):=λ{m i fb k} T h r=>by
 -- c one's answer
 have c:∀y∈k,∃t:Bool,jr A s y u t/\(t=aC↔∃b,b∈m/\b=a/\∃z f,Is K H b z f/\RelV z y):=λy d=>by obtain⟨j,o,e⟩:=gK.mp d;have W:=r.length;have n:i[j]?=aA i[j]:=aL (by omega);obtain⟨b,f,q,p,_⟩:=h.get' n;obtain⟨w,D,ZV⟩:=r.get n;rw[aL o] at D;cases D;rw[e] at ZV;have l:=c9 q;have v:=bA.mp T b l;obtain⟨⟨t,P,M⟩,_⟩:=QL I 8 A b a i[j] x f B y u (by omega) v p G ZV O;refine⟨t,P,M.trans ⟨λz=>⟨b,l,z,i[j],f,p,ZV⟩,λ⟨F,S,U,z,Y,J,L⟩=>?_⟩⟩;have R:=L.inj ZV;subst R;subst U;exact Is.inj' 8 b F _ _ _ v p J
 classical
 refine⟨λy=>if d:y∈k then(c y d).choose else aB,λy d=>?_,?_⟩
 ·simp only[dif_pos d];exact(c y d).choose_spec.1
 ·rw[fX];constructor
  ·rintro⟨y,d,e⟩;rw[dif_pos d] at e;obtain⟨b,q,rfl,_⟩:=(c y d).choose_spec.2.mp e;exact q
  ·intro C;obtain⟨j,o,e⟩:=gK.mp C;obtain⟨z,f,Q,N,_⟩:=h.get (aL o);obtain⟨y,d,E⟩:=r.get Q;have g:=c9 d;refine⟨y,g,?_⟩;rw[dif_pos g];exact(c y g).choose_spec.2.mpr ⟨a,C,rfl,z,f,e▸N,E⟩
end
section
variable {X:Cx}
theorem Zaf(G:X.A.units+64<gk):TC X (gA .In) (Zae X.K aB):=by
 intro E s C H x y v u Q I n r h;obtain⟨a,b,m,D,fb,k,B,z,o,q⟩:=h;obtain⟨p,F,J,rfl,c,l,_⟩:=WT B z;cases r;rcases c with c | c
 ·obtain⟨d,i,t,_⟩:=I.list c;obtain⟨e,f,g⟩:=R4 (A:=X.A.in1) I (by show X.A.units+1+18<gk;omega) k n o l i;refine SeqAt.in_listAt e t.isList (λw j=>f w (by simpa using j)) ⟨.bl _,H,I,rfl,?_⟩;rw[show d.toArray.any e=d.any e by simp];exact q _ g
 ·obtain⟨d,i,t,_⟩:=I.tuple c;obtain⟨e,f,g⟩:=R4 (A:=X.A.in1) I (by show X.A.units+1+18<gk;omega) k n o l i;refine SeqAt.in_tupleAt e t (λw j=>f w (by simpa using j)) ⟨.bl _,H,I,rfl,?_⟩;rw[show d.toArray.any e=d.any e by simp];exact q _ g
theorem HB(G:X.A.units+64<gk):TC X (gA .NotIn) (Zae X.K aC):=by
 intro E s C H x y v u Q I n r h;obtain⟨a,b,m,D,fb,k,B,z,o,q⟩:=h;obtain⟨p,F,J,rfl,c,l,_⟩:=WT B z;cases r;rcases c with c | c
 ·obtain⟨d,i,t,_⟩:=I.list c;obtain⟨e,f,g⟩:=R4 (A:=X.A.in1) I (by show X.A.units+1+18<gk;omega) k n o l i;refine SeqAt.notIn_listAt e t.isList (λw j=>f w (by simpa using j)) ⟨.bl _,H,I,rfl,?_⟩;rw[show d.toArray.any e=d.any e by simp];exact q _ g
 ·obtain⟨d,i,t,_⟩:=I.tuple c;obtain⟨e,f,g⟩:=R4 (A:=X.A.in1) I (by show X.A.units+1+18<gk;omega) k n o l i;refine SeqAt.notIn_tupleAt e t (λw j=>f w (by simpa using j)) ⟨.bl _,H,I,rfl,?_⟩;rw[show d.toArray.any e=d.any e by simp];exact q _ g
end
noncomputable def HC(neg:Bool):PV->PV->Option PV:=λa b=>(SI b).bind λm=>if(m.all λz=>U3 8 z a)=aC then aA (.bl (if neg then !decide (a∈m) else decide (a∈m))) else none
theorem FE(neg:Bool):RB K (Zae K neg) (HC neg):=λH x y a b l f fb d h e Q k=>by
 obtain⟨m,g,e⟩:=Zf e;split at e
 ·cases e;refine⟨a,b,m,f,fb,d,h,g,by assumption,λr c=>?_⟩
  have:r=decide (a∈m):=by
   cases r with
   | true=>exact(decide_eq_true (c.mp rfl)).symm
   | false=>exact(decide_eq_false λz=>bT (c.mpr z)).symm
  subst this;exact k _ H [] (Same.refl H) (Is.bl _) λp i=>by simp at i
 ·cases e
end VL
namespace VL
open PySem PySem.Spec PyProof.Rows L2
variable {K:aD}
mutual
theorem Is.dom{H:Hp}:∀(l:PV)(v:V)(fp:List aH),Is K H l v fp->∀p∈fp,H p≠none
 | .non,_,_,h=>by simp only[Is] at h;rw[h.2];simp
 | .bl _,_,_,h=>by simp only[Is] at h;rw[h.2];simp
 | .int _,_,_,h=>by simp only[Is] at h;rw[h.2];simp
 | .str _,_,_,h=>by simp only[Is] at h;rw[h.2];simp
 | .ty _,_,_,h=>by simp only[Is] at h;rw[h.2];simp
 | .exc _,_,_,h=>by simp only[Is] at h;rw[h.2];simp
 | .exf _ _,_,_,h=>by simp only[Is] at h;rw[h.2];simp
 | .clo L l,v,fp,h=>by simp only[Is] at h;obtain⟨u,x,_,_,a⟩:=h;exact Is.dom l x fp a
 | .tup l,v,fp,h=>by obtain⟨p,f,_,_,a⟩:=h.tup_inv;exact Iss.dom l f fp a
 | .lst l,v,fp,h=>by
  obtain⟨p,f,c,_,d,a,rfl⟩:=h.lst_inv;intro q b;rcases aa.mp b with rfl | b
  ·rw[d];simp
  ·exact Iss.dom l f c a q b
 | .cst l,v,fp,h=>by obtain⟨p,f,_,_,a⟩:=h.cst_inv;exact Iss.dom l f fp a
 | .dK ks l,v,fp,h=>by
  obtain⟨p,g,c,_,d,_,a,rfl⟩:=h.dK_inv;intro q b;rcases aa.mp b with rfl | b
  ·rcases d with e | ⟨o,e⟩<;>rw[e]<;>simp
  ·exact Iss.dom l _ c a q b
 | .dT ks l,v,fp,h=>by
  obtain⟨p,g,c,_,d,_,a,rfl⟩:=h.dT_inv;intro q b;rcases aa.mp b with rfl | b
  ·rcases d with e | ⟨o,e⟩<;>rw[e]<;>simp
  ·exact Iss.dom l _ c a q b
theorem Iss.dom{H:Hp}:∀(l:List PV)(xs:List V)(fp:List aH),Iss K H l xs fp->∀p∈fp,H p≠none
 | [],_,_,h=>by simp only[Iss] at h;rw[h.2];simp
 | l::ls,xs,fp,h=>by
  obtain⟨x,r,f1,c,_,d,b,rfl⟩:=h.inv;intro q a;rcases cB.mp a with a | a
  ·exact Is.dom l x f1 d q a
  ·exact Iss.dom ls r c b q a
end
noncomputable def Ab(Rm:aH->Prop)(H H':Hp):Prop:=∀b o,H b=aA o->¬Rm b->H' b=aA o
theorem Same.ab{c:aH->Prop}{H a:Hp}(s:Same H a):Ab c H a:=λb o h _=>s b o h
theorem Ab.tk{d:aH->Prop}{H e:Hp}(a:Ab d H e)(c:∀p,d p->U2 (H p)):D7 H e:=⟨λb f h=>a b _ h λz=>by
 have:=c b z
 rw[h] at this;exact this,λb o f h=>a b _ h λz=>by
 have:=c b z
 rw[h] at this;exact this,λb o x h=>a b _ h λz=>by
 have:=c b z;rw[h] at this;exact this⟩
theorem Is.ab{c:aH->Prop}{H d:Hp}(a:Ab c H d)(e:∀p,c p->U2 (H p)){l:PV}{v:V}{b:List aH}(n:∀p∈b,¬c p)(h:Is K H l v b):Is K d l v b:=
 Is.tr (a.tk e) l v b (λp f=>RdK.of λo q=>a p o q (n p f)) h
structure JIs(K:aD)(Rm:aH->Prop)(H1:Hp)(J:It)(ls:List PV):Prop where
 stop:∀H',Ab Rm H1 H'->J.stop ls.length H'
 go:∀H' (i:Nat) l,Ab Rm H1 H'->ls[i]?=aA l->J.go i H'
 yld:∀H' (i:Nat) l x H'',Ab Rm H1 H'->ls[i]?=aA l->J.yld i H' x H''->Same H' H''/\∃fp,Is K H'' l x fp/\∀p∈fp,H1 p≠none/\¬Rm p
abbrev XL:=ZE->Option (List PV)
noncomputable def iF(K:aD)(f:XL):TI:=λσ H R=>∃(Rm:aH->Prop) (s:ZE) (ls:List PV),(∀p,Rm p->U2 (H p))/\EnvIs K Rm H s σ/\f s=aA ls/\∀J H1,Same H H1->JIs K Rm H1 J ls->R J H1
noncomputable def VI(X:Cx)(tg e:aq)(f:XL):Prop:=PI X tg e (iF X.K f)
section
variable {X:Cx} {tg e:aq} {es:List aq}
theorem PI.imp{t t':TI}(h:PI X tg e t)(i:∀a H R,t' a H R->t a H R):PI X tg e t':=λb s a H R I q=>h b s a H R I (i a H R q)
noncomputable def asS:PV->Option (List PV)
 | .lst m=>aA m
 | .cst m=>aA m
 | _=>none
noncomputable def Vy(f:XE):XL:=λs=>(f s).bind asS
noncomputable def TV(f:XE):XL:=λs=>match f s with | some (.tup m)=>aA m | _=>none
theorem FF{a:PV}{m:List PV}(h:asS a=aA m):a = .lst m\/a = .cst m:=by
 unfold asS at h;split at h
 ·cases h;exact .inl rfl
 ·cases h;exact .inr rfl
 ·cases h
theorem HD{f:XE}{s:ZE}{m:List PV}(h:TV f s=aA m):f s=aA (.tup m):=by
 unfold TV at h;split at h
 ·cases h;assumption
 ·cases h
theorem Xi{f:XE}(h:VE X e f):VI X tg e (Vy f):=PI.imp (DG h) λJ H R ⟨A,s,ls,D,env,e,k⟩=>by
 obtain⟨l,I,F⟩:=Zf e;refine⟨A,s,l,D,env,I,λv o B s1 E C=>?_⟩;have r:=λp d=>Same.mut s1 (D p d)
 have j:∀a b t,v = .ref a->SqL X.K o a b->(∀g,Ab A o g->SqL X.K g a b)->Iss X.K o ls b t->(∀p∈t,p∈B)->∃a,v = .ref a/\(∃b,SqL X.K o a b)/\R (Itl X.K a) o:=by
  rintro a b t rfl m c n sub;refine⟨a,rfl,⟨b,m⟩,k _ o s1 ⟨λg ab=>⟨b,c g ab,by rw[n.len];exact aN _⟩,λg i l ab w=>?_,λg i l x G ab w y=>?_⟩⟩
  ·obtain⟨x,f1,z,_,_⟩:=n.get w;exact⟨b,x,c g ab,z⟩
  ·obtain⟨rfl,y⟩:=y;obtain⟨L,f1,z,ix,q⟩:=n.get w;have:=y b (c _ ab);rw[z] at this;cases this;have u:=λp d=>C p (sub p (q p d));exact⟨Same.refl _,f1,ix.ab ab r u,λp d=>⟨Is.dom _ _ _ ix p d,u p d⟩⟩
 rcases FF F with rfl | rfl
 ·obtain⟨a,b,t,rfl,m,n,rfl⟩:=E.lst_inv;exact j a b t rfl (SqL.of m) (λg ab=>SqL.of (ab a _ m (C a af))) n λp d=>aW _ d
 ·obtain⟨a,b,rfl,m,n⟩:=E.cst_inv;exact j a b B rfl m.sq (λg ab=>(m.tr (ab.tk r)).sq) n λp d=>d
theorem SJ{f:XE}(h:VE X e f):VI X tg e (TV f):=PI.imp (AD h) λD H R ⟨r,s,ls,u,env,e,k⟩=>by
 refine⟨r,s,.tup ls,u,env,HD e,λv w C s1 B z=>?_⟩;obtain⟨a,g,rfl,t,o⟩:=B.tup_inv;have j:=λp d=>Same.mut s1 (u p d);have b:∀c,Ab r w c->SqT X.K c a g:=λc ab=>SqT.of ((ab.tk j).tup a g t);refine⟨a,rfl,⟨g,SqT.of t⟩,k _ w s1 ⟨λc ab=>⟨g,b c ab,by rw[o.len];exact aN _⟩,λc i l ab n=>?_,λc i l x A ab n y=>?_⟩⟩
 ·obtain⟨x,f1,q,_,_⟩:=o.get n;exact⟨g,x,b c ab,q⟩
 ·obtain⟨rfl,y⟩:=y;obtain⟨E,f1,q,ix,sub⟩:=o.get n;have:=y g (b _ ab);rw[q] at this;cases this;have m:=λp d=>z p (sub p d);exact⟨Same.refl _,f1,ix.ab ab j m,λp d=>⟨Is.dom _ _ _ ix p d,m p d⟩⟩
noncomputable def TX(n:Nat):List PV:=(aM n).map λ(i:Nat)=>PV.int (i:Int)
noncomputable def Tg(lo:Int)(n:Nat):List PV:=(aM n).map λ(i:Nat)=>PV.int (lo+(i:Int))
noncomputable def ZX(fs:List XE):XL:=λs=>match RU fs s with | some [.int j]=>if -1000000<=j/\j<=1000000 then aA (TX j.toNat) else none | _=>none
noncomputable def Vh(fs:List XE):XL:=λs=>match RU fs s with | some [.int i,.int j]=>if -1000000<=i/\i<=1000000/\-1000000<=j/\j<=1000000 then aA (Tg i (j-i).toNat) else none | _=>none
theorem J9{d:aH->Prop}{e:Hp}(lo:Int)(n:Nat):JIs K d e (Itr lo n) (Tg lo n):=by
 refine⟨λc _=>by unfold Tg;rw[aP,cL];exact aN n,λc i l _ a=>?_,λc i l x f _ a y=>?_⟩
 ·have:=(aS.mp a).1;unfold Tg at this;rw[aP,cL] at this;exact this
 ·obtain⟨rfl,rfl⟩:=y;have b:=(aS.mp a).1;unfold Tg at b a;rw[aP,cL] at b;rw[aZ,bO b] at a;cases a;exact⟨Same.refl _,[],Is.int _,λp g=>by simp at g⟩
theorem Ci(n:Nat):TX n=Tg 0 n:=by apply av;intro i _;rw[Int.zero_add]
theorem HE{a:aq}{fs:List XE}{p pos:fD}(d:Gl X "range")(h:X.mg "range" = none)(f:VA X [a] fs)(hs:aO [a] X.env=[(aB,eval a X.env)]:=by rfl):VI X tg (.Call (.Name "range" p) [a] [] pos) (ZX fs):=
 PI.imp (Hm d h f hs) λo H R ⟨b,s,ls,g,env,e,k⟩=>by
 unfold ZX at e;split at e
 ·split at e
  ·cases e;rename_i j c q;refine⟨b,s,_,g,env,c,λvs l n s1 m _=>?_⟩;obtain⟨v,rfl,i⟩:=m.one_inv;refine⟨j,by rw[i.int_inv.1],by omega,by omega,k _ l s1 ?_⟩;rw[Ci];exact J9 _ _
  ·cases e
 ·cases e
theorem HF{a b:aq}{fs:List XE}{p pos:fD}(h:Gl X "range")(n:X.mg "range" = none)(l:VA X [a,b] fs)(hs:aO [a,b] X.env=[(aB,eval a X.env),(aB,eval b X.env)]:=by rfl)(c:aO [b] X.env=[(aB,eval b X.env)]:=by rfl):VI X tg (.Call (.Name "range" p) [a,b] [] pos) (Vh fs):=
 PI.imp (Hn h n l hs c) λu H R ⟨d,s,ls,m,env,e,k⟩=>by
 unfold Vh at e;split at e
 ·split at e
  ·cases e;rename_i i j g x;refine⟨d,s,_,m,env,g,λvs o t s1 q _=>?_⟩;obtain⟨v,w,f1,y,rfl,f,r,_⟩:=q.two_inv;exact⟨i,j,by rw[f.int_inv.1,r.int_inv.1],⟨by omega,by omega,by omega,by omega⟩,k _ o s1 (J9 _ _)⟩
  ·cases e
 ·cases e
noncomputable def WU(m:List PV):List PV:=m.zipIdx.map λz=>.tup [.int (z.2:Nat),z.1]
noncomputable def Vi(m n:List PV):List PV:=(m.zip n).map λz=>.tup [z.1,z.2]
theorem OQ{m:List PV}{i:Nat}{l:PV}(h:(WU m)[i]?=aA l):∃a,m[i]?=aA a/\l = .tup [.int (i:Nat),a]:=by
 unfold WU at h;rw[aZ,List.getElem?_zipIdx] at h
 cases q:m[i]? with
 | none=>rw[q] at h;cases h
 | some a=>rw[q] at h;cases h;exact⟨a,rfl,by simp⟩
theorem OR(m:List PV):(WU m).length=m.length:=by unfold WU;rw[aP,List.length_zipIdx]
theorem Lf{m n:List PV}{i:Nat}{l:PV}(h:(Vi m n)[i]?=aA l):∃a b,m[i]?=aA a/\n[i]?=aA b/\l = .tup [a,b]:=by
 unfold Vi at h;rw[aZ] at h
 cases q:(m.zip n)[i]? with
 | none=>rw[q] at h;cases h
 | some z=>
  rw[q] at h;cases h;obtain⟨d,c⟩:=jJ.mp q;exact⟨z.1,z.2,d,c,rfl⟩
theorem Lg(m n:List PV):(Vi m n).length=min m.length n.length:=by unfold Vi;rw[aP,List.length_zip]
noncomputable def seqB:Bool->PV->Option (List PV)
 | true,.lst l=>aA l
 | true,.cst l=>aA l
 | false,.tup l=>aA l
 | _,_=>none
theorem NF{H:Hp}{b:Bool}{l:PV}{v:V}{d:List aH}{m:List PV}(h:Is K H l v d)(e:seqB b l=aA m):∃p a k,v = .ref p/\Iss K H m a k/\(∀q∈k,q∈d)/\∀(c:aH->Prop) i,Ab c H i->(∀p,c p->U2 (H p))->(∀p∈d,¬c p)->R3 b K i p a:=by
 cases b with
 | true=>cases l with
  | lst l=>
   cases e;obtain⟨p,a,k,rfl,g,f,rfl⟩:=h.lst_inv;exact⟨p,a,k,rfl,f,λq j=>aW _ j,λc i ab _ n=>SqL.of (ab p _ g (n p af))⟩
  | cst l=>
   cases e;obtain⟨p,a,rfl,g,f⟩:=h.cst_inv;exact⟨p,a,d,rfl,f,λq j=>j,λc i ab o _=>(g.tr (ab.tk o)).sq⟩
  | _=>cases e
 | false=>cases l with
  | tup l=>
   cases e;obtain⟨p,a,rfl,g,f⟩:=h.tup_inv;exact⟨p,a,d,rfl,f,λq j=>j,λc i ab o _=>SqT.of ((ab.tk o).tup p a g)⟩
  | _=>cases e
noncomputable def Xs(b:Bool)(fs:List XE):XL:=λs=>match RU fs s with | some [l]=>(seqB b l).map WU | _=>none
noncomputable def U4(b1 b2:Bool)(fs:List XE):XL:=λs=>match RU fs s with | some [l,r]=>(seqB b1 l).bind λm=>(seqB b2 r).map λn=>Vi m n | _=>none
theorem Vz{g:List aq}{k:Nat}{n:fD}(b:Bool){a:aq}{fs:List XE}{p pos:fD}(J:Gl X "enumerate")(M:X.mg "enumerate" = none)(L:VA X [a] fs)(hs:aO [a] X.env=[(aB,eval a X.env)]:=by rfl) :
  VI X (.Tuple g k n) (.Call (.Name "enumerate" p) [a] [] pos) (Xs b fs):=PI.imp (D3 b J M L hs) λT H R ⟨D,s,ls,F,env,e,k⟩=>by
 unfold Xs at e;split at e
 ·rename_i l I;obtain⟨m,Q,rfl⟩:=map_some e;refine⟨D,s,_,F,env,I,λvs A S s1 P E=>?_⟩;obtain⟨v,rfl,i⟩:=P.one_inv;have h:=λp d=>Same.mut s1 (F p d);obtain⟨a,r,W,rfl,w,sub,j⟩:=NF i Q;have t:=λf ab=>j D f ab h E;refine⟨a,rfl,⟨r,t A (Same.ab (Same.refl A))⟩,k _ A s1 ⟨λf ab=>⟨r,t f ab,by rw[OR,w.len]⟩,λf i l ab u=>?_,λf i l x O ab u y=>?_⟩⟩
  ·obtain⟨c,C,rfl⟩:=OQ u;obtain⟨x,f1,B,_,_⟩:=w.get C;exact⟨r,x,t f ab,B⟩
  ·obtain⟨c,C,rfl⟩:=OQ u;obtain⟨U,f1,B,ix,N⟩:=w.get C;obtain⟨q,z,G,rfl,rfl,y⟩:=y;have:=y r (t _ ab);rw[B] at this;cases this;have o:=λp d=>E p (sub p (N p d));refine⟨Same.new G _,f1,Is.tup Zs ?_,λp d=>⟨Is.dom _ _ _ ix p d,o p d⟩⟩;exact Iss.cons (Is.int _) (Iss.one ((ix.ab ab h o).mono (Same.new G _)))
 ·cases e
theorem W6{F:List aq}{k:Nat}{B:fD}(b1 b2:Bool){a b:aq}{fs:List XE}{p pos:fD}(hg:Gl X "zip")(hm:X.mg "zip" = none)(ha:VA X [a,b] fs)
  (hs:aO [a,b] X.env=[(aB,eval a X.env),(aB,eval b X.env)]:=by rfl) (O:aO [b] X.env=[(aB,eval b X.env)]:=by rfl) :
  VI X (.Tuple F k B) (.Call (.Name "zip" p) [a,b] [] pos) (U4 b1 b2 fs):=PI.imp (A3 b1 b2 hg hm ha hs O) λσ H R ⟨Q,s,ls,hd,env,e,k⟩=>by
 unfold U4 at e;split at e
 ·rename_i l r he;obtain⟨m,e1,e⟩:=Zf e;obtain⟨n,e2,rfl⟩:=map_some e;refine⟨Q,s,_,hd,env,he,λvs u fp s1 i1 n1=>?_⟩;obtain⟨v,w,g1,g2,rfl,iv,iw,rfl⟩:=i1.two_inv;have h:=λp f=>Same.mut s1 (hd p f);have G:=λp f=>n1 p (b7 _ f);have A:=λp f=>n1 p (aj _ f);obtain⟨a1,M,fq,rfl,Y,sub,I⟩:=NF iv e1;obtain⟨a2,L,fr,rfl,S,E,t⟩:=NF iw e2;have J:=λg ab=>I Q g ab h G;have j:=λg ab=>t Q g ab h A;refine⟨a1,a2,rfl,⟨M,J u (Same.ab (Same.refl u))⟩,⟨L,j u (Same.ab (Same.refl u))⟩,k _ u s1 ⟨λg ab=>⟨M,L,J g ab,j g ab,?_⟩,λg i l ab W=>?_,λg i l x H'' ab W y=>?_⟩⟩
  ·rw[Lg,Y.len,S.len];omega
  ·obtain⟨c,d,N,o,rfl⟩:=Lf W;obtain⟨x,f1,Z,_,_⟩:=Y.get N;obtain⟨y,f2,T,_,_⟩:=S.get o;exact⟨M,L,x,y,J g ab,j g ab,Z,T⟩
  ·obtain⟨c,d,N,o,rfl⟩:=Lf W;obtain⟨x',f1,Z,ix,sb⟩:=Y.get N;obtain⟨y',f2,T,iy,P⟩:=S.get o;obtain⟨q,z,z',U,rfl,rfl,y1,y2⟩:=y;have:=y1 M (J _ ab);rw[Z] at this;cases this;have:=y2 L (j _ ab);rw[T] at this;cases this;have D:=λp f=>G p (sub p (sb p f));have C:=λp f=>A p (E p (P p f));refine⟨Same.new U _,f1++f2,Is.tup Zs ?_,λp f=>?_⟩
   ·exact Iss.cons ((ix.ab ab h D).mono (Same.new U _)) (Iss.one ((iy.ab ab h C).mono (Same.new U _)))
   ·rcases cB.mp f with f | f
    ·exact⟨Is.dom _ _ _ ix p f,D p f⟩
    ·exact⟨Is.dom _ _ _ iy p f,C p f⟩
 ·cases e
end
inductive Tgt where
 | one (i:Nat) | many (is:List Nat)
noncomputable def Tgt.slots:Tgt->List Nat
 | .one i=>[i]
 | .many is=>is
noncomputable def setAll:List Nat->List PV->ZE->ZE
 | i::is,l::ls,s=>setAll is ls (s.set i (aA l))
 | _,_,s=>s
noncomputable def YT:List Nat->List V->Sq->Sq
 | i::is,l::ls,s=>YT is ls (s.set i (aA l))
 | _,_,s=>s
noncomputable def Xj:Tgt->PV->ZE->Option ZE
 | .one i,l,s=>aA (s.set i (aA l))
 | .many is,.tup ls,s=>if ls.length=is.length then aA (setAll is ls s) else none
 | _,_,_=>none
noncomputable def KI:List Nat->BK
 | []=>Zca
 | i::is=>BL (TB i) (KI is)
noncomputable def gT(K:aD):Tgt->TG
 | .one i=>TB i
 | .many is=>Zcb K is.length (KI is)
theorem QM:∀{is:List Nat}{vs:List V}{σ:Sq}{H:Hp}{Q:Sq->Hp->Prop},vs.length=is.length->Q (YT is vs σ) H->KI is vs σ H Q
 | [],[],_,_,_,_,q=>⟨rfl,q⟩
 | [],_::_,_,_,_,h,_=>by simp at h
 | _::_,[],_,_,_,h,_=>by simp at h
 | i::is,v::vs,σ,H,Q,h,q=>⟨v,vs,rfl,QM (is:=is) (vs:=vs) (by simpa using h) q⟩
theorem KJ{T:Tgt}{l:PV}{v:V}{b:List aH}{s f:ZE}{H:Hp}(h:Is K H l v b)(e:Xj T l s=aA f) :
  ∃ls vs fs,f=setAll T.slots ls s/\Iss K H ls vs fs/\ls.length=T.slots.length/\(∀p∈fs,p∈b)/\∀c (Q:Sq->Hp->Prop),Q (YT T.slots vs c) H->gT K T v c H Q:=by
 cases T with
 | one i=>
  cases e;exact⟨[l],[v],b,rfl,Iss.one h,rfl,λp a=>a,λc Q q=>q⟩
 | many is=>
  cases l with
  | tup ls=>
   have e:(if ls.length=is.length then aA (VL.setAll is ls s) else none)=aA f:=e;split at e
   ·cases e;obtain⟨p,g,rfl,a,d⟩:=h.tup_inv;exact⟨ls,g,b,rfl,d,by assumption,λp a=>a,λc Q q=>⟨p,g,rfl,SqT.of a,by rw[d.len];assumption,QM (by rw[d.len];assumption) q⟩⟩
   ·cases e
  | _=>cases e
theorem VB:∀{is:List Nat}{vs:List V}{σ:Sq}{n:Nat},(∀i∈is,i<n)->(YT is vs σ).drop n=σ.drop n
 | [],_,_,_,_=>rfl
 | _::_,[],_,_,_=>rfl
 | i::is,v::vs,σ,n,h=>by show(YT is vs (σ.set i (aA v))).drop n=_;rw[VB (λj a=>h j (aW _ a))];have:=h i af;rw[List.drop_set,nZ this]
theorem EnvIs.set{b:aH->Prop}{H:Hp}{s:ZE}{d:Sq}{i:Nat}{l:PV}{v:V}{c:List aH}(h:EnvIs K b H s d)(r:s.length=d.length)(o:Is K H l v c)(n:∀p∈c,¬b p):EnvIs K b H (s.set i (aA l)) (d.set i (aA v)):=⟨λj a e=>by
 rw[bG] at e;by_cases g:i=j
 ·subst g;rw[nZ rfl] at e;split at e
  ·cases e;exact⟨v,c,by rw[bG,nZ rfl,nZ (by omega)],o,n⟩
  ·cases e
 ·rw[ng g] at e;obtain⟨w,f,q,m,k⟩:=h.is j a e;exact⟨w,f,by rw[bG,ng g];exact q,m,k⟩⟩
theorem EnvIs.setAll{a:aH->Prop}{H:Hp}:∀{is:List Nat}{ls:List PV}{vs:List V}{fs:List aH}{s:ZE}{σ:Sq},EnvIs K a H s σ->s.length=σ.length->Iss K H ls vs fs->(∀p∈fs,¬a p)->EnvIs K a H (VL.setAll is ls s) (YT is vs σ)
 | [],_,_,_,_,_,h,_,_,_=>by unfold VL.setAll YT;exact h
 | i::is,[],vs,fs,s,σ,h,_,hi,_=>by simp only[Iss] at hi;rw[hi.1];exact h
 | i::is,l::ls,vs,fs,s,σ,h,hl,hi,n=>by obtain⟨x,r,f1,e,rfl,d,c,rfl⟩:=hi.inv;show EnvIs K a H (VL.setAll is ls (s.set i (aA l))) (YT is r (σ.set i (aA x)));exact EnvIs.setAll (h.set hl d λp b=>n p (b7 _ b)) (by rw[cj,cj];exact hl) c λp b=>n p (aj _ b)
noncomputable def ZQ(n:Nat)(ix:List Nat)(s:ZE):ZE:=aY n none++ix.map (λi=>(s[i]?).join)
noncomputable def WV(T:Tgt)(ft:XT)(fe:XE)(s0:ZE):List PV->Option (List PV)
 | []=>aA []
 | l::r=>(Xj T l s0).bind λs1=>(ft s1).bind λc=>if c=aC then(fe s1).bind λy=>(WV T ft fe s0 r).map (y::·) else WV T ft fe s0 r
noncomputable def Zu(n:Nat)(ix:List Nat)(fi:XL)(T:Tgt)(ft:XT)(fe:XE):XE:=λs=>(fi s).bind λls=>if ls.length<=10000 then(WV T ft fe (ZQ n ix s) ls).map .lst else none
noncomputable def Zy:XT:=λ_=>aA aC
theorem HG{d:Type}{o:Option (Option d)}{a:d}(h:o.join=aA a):o=aA (aA a):=by
 cases o with
 | none=>cases h
 | some b=>cases b with
  | none=>cases h
  | some c=>cases h;rfl
theorem EnvIs.comp{g:aH->Prop}{H:Hp}{s:ZE}{f:Sq}{n:Nat}{ix:List Nat}(h:EnvIs K g H s f):EnvIs K g H (ZQ n ix s) (ZW n ix f):=⟨λi l e=>by
 unfold ZQ at e;unfold ZW;by_cases d:i<n
 ·rw[ao (by simpa using d),bu,nZ d] at e;cases e
 ·rw[bU (by simpa using d),dY,aZ] at e;rw[bU (by simpa using d),dY,aZ]
  cases q:ix[i-n]? with
  | none=>rw[q] at e;cases e
  | some j=>
   rw[q] at e;have e:=HG (ay e);obtain⟨v,k,a,b,c⟩:=h.is j l e;exact⟨v,k,by show aA ((f[j]?).join)=_;rw[a];rfl,b,c⟩⟩
theorem Lh(n:Nat)(ix:List Nat)(s:ZE)(a:Sq):(ZQ n ix s).length=(ZW n ix a).length:=by unfold ZQ ZW;simp
theorem QN{T:Tgt}{b:XT}{d:XE}{a:ZE}{l:PV}{r f:List PV}(h:WV T b d a (l::r)=aA f):∃s1 c,Xj T l a=aA s1/\b s1=aA c/\((c=aC/\∃y e,d s1=aA y/\WV T b d a r=aA e/\f=y::e)\/(c=aB/\WV T b d a r=aA f)):=by
 obtain⟨s1,j,h⟩:=Zf h;obtain⟨c,g,h⟩:=Zf h;refine⟨s1,c,j,g,?_⟩
 cases c with
 | true=>
  obtain⟨y,k,h⟩:=Zf h;obtain⟨e,i,rfl⟩:=map_some h;exact .inl ⟨rfl,y,e,k,i,rfl⟩
 | false=>
  exact .inr ⟨rfl,h⟩
theorem QO{b:Type}{l:List b}{i:Nat}{a:b}{r:List b}(h:l.drop i=a::r):l[i]?=aA a/\l.drop (i+1)=r:=by
 constructor
 ·have:=congrArg (λz=>z[0]?) h;simpa [eZ] using this
 ·rw[<-List.drop_drop,h];rfl
section
variable {n:Nat} {ix:List Nat} {fi:XL} {T:Tgt} {ft:XT} {fe:XE}
theorem Cj(hT:∀i∈T.slots,i<n):∀B H Q,tF K (Zu n ix fi T ft fe) B H Q->Qx n ix (iF K fi) (gT K T) (M9 K ft) (tF K fe) B H Q:=λB H Q ⟨o,s,L,P,env,e,k⟩=>by
 obtain⟨ls,e1,e⟩:=Zf e;split at e
 case isFalse=>cases e
 rename_i hlen;obtain⟨ys,e2,rfl⟩:=map_some e;refine⟨o,s,ls,P,env,e1,λJ R s1 g=>?_⟩;have hd1:=λp b=>Same.mut s1 (P p b)
 refine⟨λi m vs u=>m=ls.length-i/\i<=ls.length/\Same R u/\∃j n8 w,ys=j++n8/\j.length<=i/\WV T ft fe (ZQ n ix s) (ls.drop i)=aA n8/\Iss K u j vs w/\∀p∈w,¬o p,
  ⟨ls.length,by simp,dj _,Same.refl R,[],ys,[],rfl,aN _,e2,Iss.nil,λp b=>by simp at b⟩,?_⟩
 rintro i m vs u ⟨rfl,hi,d,j,n8,w,rfl,G,M,N,W⟩;refine⟨by rw[N.len];exact dA (lt_size (by omega)),?_⟩
 cases q:ls.drop i with
 | nil=>
  have O:i=ls.length:=by have:=congrArg iT q;simp at this;omega
  subst O;rw[q] at M;cases M;refine .inl ⟨g.stop u (Same.ab d),λp b=>k _ _ (p::w) (s1.trans (d.trans (Same.new b _))) ?_ λa Z z=>?_⟩
  ·rw[cS];exact Is.lst Zs (N.mono (Same.new b _))
  ·rcases aa.mp Z with rfl | Z
   ·exact Xf (Same.mut (s1.trans d) (P a z)) b
   ·exact W a Z z
 | cons l r=>
  obtain⟨U,hr⟩:=QO q;have C:=(aS.mp U).1;rw[q] at M;obtain⟨sb,c,eb,et,X⟩:=QN M
  refine .inr ⟨g.go u i l (Same.ab d) U,λD H'=>Same R H'/\∃dn' rest' fp',j++n8=dn'++rest'/\dn'.length<=i+1/\WV T ft fe (ZQ n ix s) (ls.drop (i+1))=aA rest'/\Iss K H' dn' D fp'/\∀p∈fp',¬o p,
   λD H' h'=>⟨ls.length-(i+1),by omega,rfl,C,h'.1,h'.2⟩,λx H2 y=>?_⟩
  obtain⟨s2,fx,S,nx⟩:=g.yld u i l x H2 (Same.ab d) U y;have F:=λp b=>Same.mut (d.trans s2) (hd1 p b);obtain⟨bl,bv,bf,rfl,bi,_,E,A⟩:=KJ S eb;have I:EnvIs K o H2 (ZQ n ix s) (ZW n ix B):=(env.mono (s1.trans (d.trans s2))).comp;have f:=I.setAll (is:=T.slots) (Lh n ix s B) bi λp b=>(nx p (E p b)).2;refine A _ _ ⟨VB hT,o,_,c,F,f,et,λH3 t=>?_⟩;have Y:=λp b=>Same.mut t (F p b);rcases X with⟨rfl,y',zs,ey,ez,rfl⟩ | ⟨rfl,ez⟩
  ·refine Zct ?_;refine⟨o,_,y',Y,f.mono t,ey,λv H4 f4 s4 i4 n4=>?_⟩;refine⟨d.trans (s2.trans (t.trans s4)),j++[y'],zs,w++f4,by rw[hU];rfl,by rw[bJ];simp;exact G,by rw[hr];exact ez,(N.mono (s2.trans (t.trans s4))).append (Iss.one i4),λp b=>?_⟩;rcases cB.mp b with h | h
   ·exact W p h
   ·exact n4 p h
  ·refine Zcs ?_;exact⟨d.trans (s2.trans t),j,n8,w,rfl,iC G,by rw[hr];exact ez,N.mono (s2.trans t),W⟩
theorem NG(hT:∀i∈T.slots,i<n):∀D H Q,tM K (Zu n ix fi T ft fe) D H Q->Qx n ix (iF K fi) (gT K T) (M9 K ft) (tM K fe) D H Q:=λD H Q ⟨s,L,env,e,k⟩=>by
 obtain⟨ls,e1,e⟩:=Zf e;split at e
 case isFalse=>cases e
 rename_i hlen;obtain⟨ys,e2,rfl⟩:=map_some e;have hd:∀(H:Hp) p,(λ_=>False:aH->Prop) p->U2 (H p):=λ_ _ z=>z.elim;refine⟨λ_=>False,s,ls,hd H,env,e1,λJ E s1 t=>?_⟩
 refine⟨λi m vs w=>m=ls.length-i/\i<=ls.length/\Same E w/\∃u n8 A,ys=u++n8/\u.length<=i/\WV T ft fe (ZQ n ix s) (ls.drop i)=aA n8/\Iss K w u vs A/\A.Nodup/\∀p∈A,E p=none/\U2 (w p),
  ⟨ls.length,by simp,dj _,Same.refl E,[],ys,[],rfl,aN _,e2,Iss.nil,cg,λp d=>by simp at d⟩,?_⟩
 rintro i m vs w ⟨rfl,hi,f,u,n8,A,rfl,M,O,P,S,j⟩;refine⟨by rw[P.len];exact dA (lt_size (by omega)),?_⟩
 cases q:ls.drop i with
 | nil=>
  have U:i=ls.length:=by have:=congrArg iT q;simp at this;omega
  subst U;rw[q] at O;cases O;refine .inl ⟨t.stop w (Same.ab f),λp d=>k _ _ (p::A) (s1.trans (f.trans (Same.new d _))) ?_ (bY.mpr ⟨λz=>Xf (j p z).2 d,S⟩) λa B=>?_⟩
  ·rw[cS];exact Is.lst Zs (P.mono (Same.new d _))
  ·rcases aa.mp B with rfl | B
   ·exact⟨Same.off (s1.trans f) d,by rw[Zs];exact dZ⟩
   ·exact⟨Same.off s1 (j a B).1,Same.mut (Same.new d _) (j a B).2⟩
 | cons l r=>
  obtain⟨Z,hr⟩:=QO q;have F:=(aS.mp Z).1;rw[q] at O;obtain⟨sb,c,eb,et,alt⟩:=QN O
  refine .inr ⟨t.go w i l (Same.ab f) Z,λG R=>Same E R/\∃dn' rest' fp',u++n8=dn'++rest'/\dn'.length<=i+1/\WV T ft fe (ZQ n ix s) (ls.drop (i+1))=aA rest'/\Iss K R dn' G fp'/\fp'.Nodup/\∀p∈fp',E p=none/\U2 (R p),
   λG R h'=>⟨ls.length-(i+1),by omega,rfl,F,h'.1,h'.2⟩,λx W y=>?_⟩
  obtain⟨s2,fx,Y,nx⟩:=t.yld w i l x W (Same.ab f) Z y;obtain⟨bl,bv,bf,rfl,bi,_,I,C⟩:=KJ Y eb;have N:EnvIs K (λ_=>False) W (ZQ n ix s) (ZW n ix D):=(env.mono (s1.trans (f.trans s2))).comp;have o:=N.setAll (is:=T.slots) (Lh n ix s D) bi λp d=>(nx p (I p d)).2;refine C _ _ ⟨VB hT,λ_=>False,_,c,hd W,o,et,λH3 g=>?_⟩;rcases alt with⟨rfl,y',zs,ey,ez,rfl⟩ | ⟨rfl,ez⟩
  ·refine Zct ?_;refine⟨_,y',o.mono g,ey,λv H4 f4 s4 i4 d4 X=>?_⟩;refine⟨f.trans (s2.trans (g.trans s4)),u++[y'],zs,A++f4,by rw[hU];rfl,by rw[bJ];simp;exact M,by rw[hr];exact ez,(P.mono (s2.trans (g.trans s4))).append (Iss.one i4),gG.mpr ⟨S,d4,λa B b hb z=>?_⟩,λp d=>?_⟩
   ·subst z;exact Xf (Same.mut (s2.trans g) (j a B).2) (X a hb).1
   ·rcases cB.mp d with h | h
    ·exact⟨(j p h).1,Same.mut (s2.trans (g.trans s4)) (j p h).2⟩
    ·exact⟨Same.off (f.trans (s2.trans g)) (X p h).1,(X p h).2⟩
  ·refine Zcs ?_;exact⟨f.trans (s2.trans g),u,n8,A,rfl,iC M,by rw[hr];exact ez,P.mono (s2.trans g),S,λp d=>⟨(j p d).1,Same.mut (s2.trans g) (j p d).2⟩⟩
end
noncomputable def VTs(X:Cx)(nV:List aq)(f:XT):Prop:=Kv X nV (M9 X.K f)
section
variable {X:Cx} {tg nX iter c:aq} {nV:List aq} {scope:du} {pos:fD} {fi:XL} {T:Tgt} {ft:XT} {fe:XE}
theorem Z2:VTs X [] Zy:=λb s a H Q I ⟨d,g,c,f,env,e,k⟩=>by cases e;exact DV b s a H Q I (k H (Same.refl H))
theorem NH(h:VT X c ft):VTs X [c] ft:=DW h
theorem Y2(own fr:List a0)(ix:List Nat)(b:X.calm=aC)(f:VI X tg iter fi)(S:Ue X.N X.env.scope scope own fr ix=aC)
  (d:∀cl C s H a,PG (ZH X (own++fr) scope cl C s H a) tg (gT X.K T)) (e:∀cl C s H a,VTs (ZH X (own++fr) scope cl C s H a) nV ft) (c:∀cl C s H a,VE (ZH X (own++fr) scope cl C s H a) nX fe)
  (g:∀i∈T.slots,i<own.length:=by decide) (hs:∀x,bq iter X.env x=pure x:=by intro _;rfl):VE X (.ListComp nX [⟨tg,iter,nV,0⟩] scope pos) (Zu own.length ix fi T ft fe):=
 PE.imp (M4 own fr ix b f S d (λcl C s H a=>(show Kv (ZH X (own++fr) scope cl C s H a) nV (M9 X.K ft) from e cl C s H a)) (λcl C s H a=>(show PE (ZH X (own++fr) scope cl C s H a) nX (tF X.K fe) from c cl C s H a)) hs) (Cj g)
theorem WW(own fr:List a0)(ix:List Nat)(b:X.calm=aC)(f:VI X tg iter fi)(S:Ue X.N X.env.scope scope own fr ix=aC)
  (d:∀cl C s H a,PG (ZH X (own++fr) scope cl C s H a) tg (gT X.K T)) (e:∀cl C s H a,VTs (ZH X (own++fr) scope cl C s H a) nV ft) (c:∀cl C s H a,VM (ZH X (own++fr) scope cl C s H a) nX fe)
  (g:∀i∈T.slots,i<own.length:=by decide) (hs:∀x,bq iter X.env x=pure x:=by intro _;rfl):VM X (.ListComp nX [⟨tg,iter,nV,0⟩] scope pos) (Zu own.length ix fi T ft fe):=
 PE.imp (M4 own fr ix b f S d (λcl C s H a=>(show Kv (ZH X (own++fr) scope cl C s H a) nV (M9 X.K ft) from e cl C s H a)) (λcl C s H a=>(show PE (ZH X (own++fr) scope cl C s H a) nX (tM X.K fe) from c cl C s H a)) hs) (NG g)
end
noncomputable def W7(xs:List PV)(lo hi:Option Int):List PV:=(xs.drop (HT.sIx xs.length 0 lo)).take (HT.sIx xs.length xs.length hi-HT.sIx xs.length 0 lo)
theorem Iss.cut{H:Hp}{l:List PV}{g:List V}{f:List aH}(lo e:Option Int)(h:Iss K H l g f):∃f1,Iss K H (W7 l lo e) (Hu g lo e) f1/\∀p∈f1,p∈f:=by unfold W7 Hu;rw[h.len];obtain⟨f1,a,b⟩:=h.drop (HT.sIx l.length 0 lo);obtain⟨i,c,d⟩:=a.take (HT.sIx l.length l.length e-HT.sIx l.length 0 lo);exact⟨i,c,λp j=>b p (d p j)⟩
abbrev XO:=ZE->Option (Option Int)
noncomputable def tFO(K:aD)(f:XO):TO:=λσ H Q=>∃(Rm:aH->Prop) (s:ZE) (i:Option Int),(∀p,Rm p->U2 (H p))/\EnvIs K Rm H s σ/\f s=aA i/\∀H',Same H H'->Q i H'
noncomputable def VO(X:Cx)(e:Option aq)(f:XO):Prop:=PO X e (tFO X.K f)
noncomputable def Li:XO:=λ_=>aA none
noncomputable def Tw(f:XE):XO:=λs=>match f s with | some (.int i)=>aA (aA i) | _=>none
noncomputable def TY(x:PV)(lo hi:Option Int):Option PV:=match x with | .lst l=>aA (.lst (W7 l lo hi)) | .cst l=>aA (.lst (W7 l lo hi)) | _=>none
noncomputable def SK(x:PV)(lo hi:Option Int):Option PV:=match x with | .tup l=>if HT.sIx l.length 0 lo=0/\HT.sIx l.length l.length hi=l.length then none else aA (.tup (W7 l lo hi)) | _=>none
noncomputable def QP(g:PV->Option Int->Option Int->Option PV)(a:XE)(lo hi:XO):XE:=λs=>(a s).bind λx=>(lo s).bind λl=>(hi s).bind λu=>g x l u
section
variable {X:Cx} {e:aq} {lo hi:Option aq} {p2 pos:fD} {fa:XE} {fl fh:XO}
theorem Wn:VO X none Li:=λb s a H Q I ⟨c,f,i,d,env,e,k⟩=>by cases e;exact DQ b s a H Q I (k H (Same.refl H))
theorem Xk{e:aq}(h:VE X e fa):VO X (aA e) (Tw fa):=λd s c H Q I ⟨a,f,i,b,env,e,k⟩=>by
 unfold Tw at e;split at e
 ·cases e;rename_i j g;exact DR h d s c H Q I ⟨a,f,.int j,b,env,g,λv l o m i n=>⟨j,i.int_inv.1,k l m⟩⟩
 ·cases e
theorem Wu(w:VE X e fa)(y:VO X lo fl)(B:VO X m fh):VE X (.Subscript e (.Slice lo m none p2) pos) (QP TY fa fl fh):=PE.imp (MX DT w y B) λF H Q ⟨n,s,l,j,env,e,k⟩=>by
 obtain⟨x,D,e⟩:=Zf e;obtain⟨a,A,e⟩:=Zf e;obtain⟨b,C,e⟩:=Zf e;refine⟨n,s,x,j,env,D,λv G E s1 u t=>⟨n,s,a,λp g=>Same.mut s1 (j p g),env.mono s1,A,λJ s2=>⟨n,s,b,λp g=>Same.mut (s1.trans s2) (j p g),env.mono (s1.trans s2),C,λI i=>?_⟩⟩⟩
 cases x with
 | lst l=>
  cases e;obtain⟨p,o,L,rfl,g,m,rfl⟩:=(u.mono (s2.trans i)).lst_inv;obtain⟨f1,c,d⟩:=m.cut a b;refine⟨p,o,rfl,SqL.of g,λq h=>k _ _ (q::f1) (s1.trans (s2.trans (i.trans (Same.new h _)))) (Is.lst Zs (c.mono (Same.new h _))) λr f z=>?_⟩;rcases aa.mp f with rfl | f
  ·exact Xf (Same.mut (s1.trans (s2.trans i)) (j r z)) h
  ·exact t r (aW _ (d r f)) z
 | cst l=>
  cases e;obtain⟨p,o,rfl,g,m⟩:=(u.mono (s2.trans i)).cst_inv;obtain⟨f1,c,d⟩:=m.cut a b;refine⟨p,o,rfl,g.sq,λq h=>k _ _ (q::f1) (s1.trans (s2.trans (i.trans (Same.new h _)))) (Is.lst Zs (c.mono (Same.new h _))) λr f z=>?_⟩;rcases aa.mp f with rfl | f
  ·exact Xf (Same.mut (s1.trans (s2.trans i)) (j r z)) h
  ·exact t r (d r f) z
 | _=>cases e
theorem UR(t:VE X e fa)(u:VO X lo fl)(z:VO X g fh):VE X (.Subscript e (.Slice lo g none p2) pos) (QP SK fa fl fh):=PE.imp (MX AO t u z) λF H Q ⟨h,s,l,i,env,e,k⟩=>by
 obtain⟨x,D,e⟩:=Zf e;obtain⟨a,w,e⟩:=Zf e;obtain⟨b,A,e⟩:=Zf e;refine⟨h,s,x,i,env,D,λv G E s1 B o=>⟨h,s,a,λp f=>Same.mut s1 (i p f),env.mono s1,w,λJ s2=>⟨h,s,b,λp f=>Same.mut (s1.trans s2) (i p f),env.mono (s1.trans s2),A,λI m=>?_⟩⟩⟩
 cases x with
 | tup l=>
  unfold SK at e;simp only at e;split at e
  ·cases e
  ·rename_i j;cases e;obtain⟨p,C,rfl,f,g⟩:=(B.mono (s2.trans m)).tup_inv;obtain⟨f1,c,d⟩:=g.cut a b;refine⟨p,C,rfl,SqT.of f,by rw[g.len];exact j,λq n=>k _ _ f1 (s1.trans (s2.trans (m.trans (Same.new n _)))) (Is.tup Zs (c.mono (Same.new n _))) λr y=>o r (d r y)⟩
 | _=>cases e
end
end VL
namespace VL
open PySem PySem.Spec PyProof.Rows L2
variable {K:aD}
structure Rel(K:aD)(O:List Nat)(H0:Hp)(fps:Nat->List aH)(s:ZE)(σ:Sq)(H:Hp):Prop where
 same:Same H0 H
 len:s.length=σ.length
 is:∀(i:Nat) l,s[i]?=aA (aA l)->∃v,σ[i]?=aA (aA v)/\Is K H l v (fps i)
 emp:∀(i:Nat),(∀l,s[i]?≠aA (aA l))->fps i=[]
 nd:∀i∈O,(fps i).Nodup
 own:∀i∈O,∀p∈fps i,H0 p=none/\U2 (H p)
 dis:∀i∈O,∀j,j≠i->∀p∈fps i,p∉fps j
noncomputable def Ow(O:List Nat)(fps:Nat->List aH)(p:aH):Prop:=∃i∈O,p∈fps i
noncomputable def Ym(O:List Nat)(s:ZE):ZE:=O.foldl (λs i=>s.set i none) s
theorem QQ:∀{O:List Nat}{s:ZE}{i:Nat}{l:PV},(Ym O s)[i]?=aA (aA l)->i∉O/\s[i]?=aA (aA l)
 | [],s,i,l,h=>⟨by simp,h⟩
 | o::O,s,i,l,h=>by
  obtain⟨b,a⟩:=QQ (O:=O) (s:=s.set o none) h;rw[bG] at a;by_cases e:o=i
  ·rw[nZ e] at a;split at a<;>cases a
  ·rw[ng e] at a;exact⟨by simp only[aa,not_or];exact⟨λz=>e z.symm,b⟩,a⟩
section
variable {O:List Nat} {H0 H H':Hp} {fps:Nat->List aH} {s:ZE} {σ:Sq}
theorem Rel.at(r:Rel K O H0 fps s σ H)(i:Nat){p:aH}(c:p∈fps i):∃l v,s[i]?=aA (aA l)/\σ[i]?=aA (aA v)/\Is K H l v (fps i):=by
 cases q:s[i]? with
 | none=>rw[r.emp i (λl z=>by rw[q] at z;cases z)] at c;simp at c
 | some o=>cases o with
  | none=>rw[r.emp i (λl z=>by rw[q] at z;cases z)] at c;simp at c
  | some l=>
   obtain⟨v,a,b⟩:=r.is i l q;exact⟨l,v,rfl,a,b⟩
theorem Rel.dom(r:Rel K O H0 fps s σ H)(i:Nat):∀p∈fps i,H p≠none:=λp a=>by obtain⟨l,v,_,_,b⟩:=r.at i a;exact Is.dom _ _ _ b p a
theorem Rel.env(r:Rel K O H0 fps s σ H):EnvIs K (λ_=>False) H s σ:=⟨λi l e=>by
 obtain⟨v,a,b⟩:=r.is i l e;exact⟨v,_,a,b,λ_ _ z=>z⟩⟩
theorem Rel.envO(r:Rel K O H0 fps s σ H):EnvIs K (Ow O fps) H (Ym O s) σ:=⟨λi l e=>by
 obtain⟨n,e⟩:=QQ e;obtain⟨v,a,b⟩:=r.is i l e;exact⟨v,_,a,b,λp f ⟨j,d,c⟩=>r.dis j d i (λz=>n (z▸d)) p c f⟩⟩
theorem Rel.owMut(r:Rel K O H0 fps s σ H):∀p,Ow O fps p->U2 (H p):=λp ⟨i,b,a⟩=>(r.own i b p a).2
theorem Rel.grow(r:Rel K O H0 fps s σ H)(e:Same H H'):Rel K O H0 fps s σ H':=
 ⟨r.same.trans e,r.len,λi l q=>by obtain⟨v,a,b⟩:=r.is i l q;exact⟨v,a,b.mono e⟩,r.emp,r.nd,λi c p d=>⟨(r.own i c p d).1,Same.mut e (r.own i c p d).2⟩,r.dis⟩
theorem Rel.less{F:Hp}(r:Rel K O F fps s σ H)(e:Same H0 F):Rel K O H0 fps s σ H:=
 ⟨e.trans r.same,r.len,r.is,r.emp,r.nd,λi b p a=>⟨Same.off e (r.own i b p a).1,(r.own i b p a).2⟩,r.dis⟩
open Classical in
noncomputable def V8(H:Hp)(Rm:aH->Prop):Hp:=λb=>if Rm b then none else H b
theorem OS{a:aH->Prop}:Same (V8 H a) H:=λb o h=>by
 unfold V8 at h;split at h
 ·cases h
 ·exact h
theorem Rel.frame(r:Rel K O H0 fps s σ H):Rel K O (V8 H (Ow O fps)) fps s σ H:=
 ⟨OS,r.len,r.is,r.emp,r.nd,λi b p a=>⟨by unfold V8;rw[nZ ⟨i,b,a⟩],(r.own i b p a).2⟩,r.dis⟩
theorem Rel.under(r:Rel K O H0 fps s σ H):Same H0 (V8 H (Ow O fps)):=λb o h=>by unfold V8;rw[ng (λ⟨i,c,a⟩=>by rw[(r.own i c b a).1] at h;cases h)];exact r.same b o h
open Classical in
noncomputable def Th(fps:Nat->List aH)(n:Nat)(i:Nat)(fp:List aH):Nat->List aH:=λj=>if j=i/\i<n then fp else fps j
theorem ZR{n i j:Nat}{a:List aH}(h:j≠i):Th fps n i a j=fps j:=by unfold Th;rw[ng (λz=>h z.1)]
theorem NI{n i:Nat}{a:List aH}(h:i<n):Th fps n i a i=a:=by unfold Th;rw[nZ ⟨rfl,h⟩]
theorem Rel.set(r:Rel K O H0 fps s σ H){i:Nat}{l:PV}{v:V}{f:List aH}(u:Is K H l v f)(q:i∈O->f.Nodup/\∀p∈f,H0 p=none/\U2 (H p))
  (o:∀j,j≠i->(j∈O\/i∈O)->∀p∈f,p∉fps j):Rel K O H0 (Th fps s.length i f) (s.set i (aA l)) (σ.set i (aA v)) H:=by
 by_cases c:i<s.length
 ·have g:Th fps s.length i f i=f:=NI c;refine⟨r.same,by rw[cj,cj];exact r.len,λj a e=>?_,λj h=>?_,λj b=>?_,λj b p d=>?_,λj b k n p d=>?_⟩
  ·rw[bG] at e;by_cases b:i=j
   ·subst b;rw[nZ rfl,nZ c] at e;cases e;rw[g];exact⟨v,by rw[bG,nZ rfl,nZ (by rw[<-r.len];exact c)],u⟩
   ·rw[ng b] at e;obtain⟨w,y,t⟩:=r.is j a e;rw[ZR (bB b)];exact⟨w,by rw[bG,ng b];exact y,t⟩
  ·by_cases b:i=j
   ·subst b;exact absurd (by rw[bG,nZ rfl,nZ c]) (h l)
   ·rw[ZR (bB b)];exact r.emp j λa z=>h a (by rw[bG,ng b];exact z)
  ·by_cases e:j=i
   ·subst e;rw[g];exact(q b).1
   ·rw[ZR e];exact r.nd j b
  ·by_cases e:j=i
   ·subst e;rw[g] at d;exact(q b).2 p d
   ·rw[ZR e] at d;exact r.own j b p d
  ·by_cases e:j=i
   ·subst e;rw[g] at d;rw[ZR n];exact o k n (.inr b) p d
   ·rw[ZR e] at d;by_cases m:k=i
    ·subst m;rw[g];exact λz=>o j e (.inl b) p z d
    ·rw[ZR m];exact r.dis j b k n p d
 ·have g:s.set i (aA l)=s:=jX (by omega);have m:σ.set i (aA v)=σ:=jX (by rw[<-r.len];omega);have x:Th fps s.length i f=fps:=by funext j;unfold Th;rw[ng (λz=>c z.2)]
  rw[g,m,x];exact r
theorem Rel.mutate(r:Rel K O H0 fps s σ H){i:Nat}(t:i∈O){p:aH}(m:p∈fps i){o:HO}{l':PV}{v:V}{fp':List aH}(B:σ[i]?=aA (aA v))(f:i<s.length)
  (h':Is K (upd H p o) l' v fp') (J:fp'.Nodup) (G:∀q∈fp',H0 q=none/\U2 (upd H p o q)) (A:∀j,j≠i->∀q∈fp',q∉fps j) (D:U2 (aA o)):Rel K O H0 (Th fps s.length i fp') (s.set i (aA l')) σ (upd H p o):=by
 have g:=(r.own i t p m).2;have F:=(r.own i t p m).1;have l:Th fps s.length i fp' i=fp':=NI f
 have tk:D7 H (upd H p o):=⟨λb I h=>by
  rw[upd_ne (λz=>by rw[z] at h;rw[h] at g;exact g)];exact h,λb o I h=>by
  rw[upd_ne (λz=>by rw[z] at h;rw[h] at g;exact g)];exact h,λb o x h=>by
  rw[upd_ne (λz=>by rw[z] at h;rw[h] at g;exact g)];exact h⟩
 refine⟨λb u h=>by rw[upd_ne (Zt h F)];exact r.same b u h,by rw[cj];exact r.len,λj a e=>?_,λj h=>?_,λj c=>?_,λj c q d=>?_,λj c k n q d=>?_⟩
 ·rw[bG] at e;by_cases c:i=j
  ·subst c;rw[nZ rfl,nZ f] at e;cases e;rw[l];exact⟨v,B,h'⟩
  ·rw[ng c] at e;obtain⟨w,E,C⟩:=r.is j a e;rw[ZR (bB c)];refine⟨w,E,Is.tr tk _ _ _ (λq d=>RdK.of λu L=>?_) C⟩;have ne:q≠p:=λz=>r.dis i t j (bB c) p m (z▸d);rw[upd_ne ne];exact L
 ·by_cases c:i=j
  ·subst c;exact absurd (by rw[bG,nZ rfl,nZ f]) (h l')
  ·rw[ZR (bB c)];exact r.emp j λa z=>h a (by rw[bG,ng c];exact z)
 ·by_cases e:j=i
  ·subst e;rw[l];exact J
  ·rw[ZR e];exact r.nd j c
 ·by_cases e:j=i
  ·subst e;rw[l] at d;exact G q d
  ·rw[ZR e] at d;refine⟨(r.own j c q d).1,?_⟩;have ne:q≠p:=λz=>r.dis j c i (bB e) q d (z▸m);rw[upd_ne ne];exact(r.own j c q d).2
 ·by_cases e:j=i
  ·subst e;rw[l] at d;rw[ZR n];exact A k n q d
  ·rw[ZR e] at d;by_cases y:k=i
   ·subst y;rw[l];exact λz=>A j e q z d
   ·rw[ZR y];exact r.dis j c k n q d
end
noncomputable def Kep(a b:List aH):Prop:=a=b\/a=[]
theorem Kep.refl(a:List aH):Kep a a:=.inl rfl
theorem Kep.trans{a b c:List aH}(h:Kep a b)(k:Kep b c):Kep a c:=by
 rcases h with rfl | h
 ·exact k
 ·exact .inr h
inductive MP where
 | nx (s:ZE) | rt (l:PV) | bk (s:ZE) | ct (s:ZE)
abbrev XS:=ZE->Option MP
noncomputable def OutOk(K:aD)(O W:List Nat)(H0:Hp)(fps:Nat->List aH)(σ:Sq)(D:YH):MP->Prop
 | .nx s'=>∀nU σ' H',Rel K O H0 nU s' σ' H'->(∀j,j∉W->σ'[j]?=σ[j]?/\Kep (nU j) (fps j))->D.nx σ' H'
 | .bk s'=>∀nU σ' H',Rel K O H0 nU s' σ' H'->(∀j,j∉W->σ'[j]?=σ[j]?/\Kep (nU j) (fps j))->D.bk σ' H'
 | .ct s'=>∀nU σ' H',Rel K O H0 nU s' σ' H'->(∀j,j∉W->σ'[j]?=σ[j]?/\Kep (nU j) (fps j))->D.ct σ' H'
 | .rt l=>∀v fp H',Same H0 H'->Is K H' l v fp->fp.Nodup->(∀p∈fp,H0 p=none/\U2 (H' p))->D.rt v H'
noncomputable def tFS(K:aD)(O W:List Nat)(f:XS):TS:=λD σ H=>∃H0 fps s out,Rel K O H0 fps s σ H/\f s=aA out/\OutOk K O W H0 fps σ D out
noncomputable def VS(X:Cx)(O W:List Nat)(st:bS)(f:XS):Prop:=PS X st (tFS X.K O W f)
noncomputable def Lj(X:Cx)(O W:List Nat)(st:List bS)(f:XS):Prop:=PSs X st (tFS X.K O W f)
theorem OutOk.same{O W i:List Nat}{m:Hp}{fps c:Nat->List aH}{n e:Sq}{D:YH}{d:MP}(h:OutOk K O i m fps n D d)(k:∀j,j∉i->e[j]?=n[j]?/\Kep (c j) (fps j))(hs:∀j,j∉i->j∉W):OutOk K O W m c e D d:=by
 cases d with
 | nx s'=>exact λg b f r q=>h g b f r λj a=>⟨(q j (hs j a)).1.trans (k j a).1,(q j (hs j a)).2.trans (k j a).2⟩
 | bk s'=>exact λg b f r q=>h g b f r λj a=>⟨(q j (hs j a)).1.trans (k j a).1,(q j (hs j a)).2.trans (k j a).2⟩
 | ct s'=>exact λg b f r q=>h g b f r λj a=>⟨(q j (hs j a)).1.trans (k j a).1,(q j (hs j a)).2.trans (k j a).2⟩
 | rt l=>exact h
theorem OutOk.less{O W:List Nat}{g F:Hp}{fps:Nat->List aH}{j:Sq}{D:YH}{b:MP}(h:OutOk K O W g fps j D b)(e:Same g F):OutOk K O W F fps j D b:=by
 cases b with
 | nx s'=>exact λf a c r q=>h f a c (r.less e) q
 | bk s'=>exact λf a c r q=>h f a c (r.less e) q
 | ct s'=>exact λf a c r q=>h f a c (r.less e) q
 | rt l=>exact λv m c o i d n=>h v m c (e.trans o) i d λp k=>⟨Same.off e (n p k).1,(n p k).2⟩
noncomputable def Yr:XS:=λs=>aA (.nx s)
noncomputable def Zm(f g:XS):XS:=λs=>(f s).bind λo=>match o with | .nx s'=>g s' | r=>aA r
noncomputable def SM(c:XT)(f g:XS):XS:=λs=>(c s).bind λk=>if k=aC then f s else g s
noncomputable def ZM(f:XE):XS:=λs=>(f s).map .rt
noncomputable def Zq(i:Nat)(f:XE):XS:=λs=>(f s).map λl=>.nx (s.set i (aA l))
section
variable {X:Cx} {O W W1 W2:List Nat} {st:bS} {n8:List bS} {f g:XS} {pos:fD}
theorem PS.imp{t t':TS}(h:PS X st t)(i:∀D a H,t' D a H->t D a H):PS X st t':=λb s a H D I q=>h b s a H D I (i D a H q)
theorem PSs.imp{t t':TS}(h:PSs X n8 t)(i:∀D a H,t' D a H->t D a H):PSs X n8 t':=λb s a H D I q=>h b s a H D I (i D a H q)
theorem FG:∀D a H,tFS K O W Yr D a H->BH D a H:=λD a H ⟨c,fps,s,b,r,e,k⟩=>by cases e;exact k fps a H r λj _=>⟨rfl,Kep.refl _⟩
theorem Yo:Lj X O [] [] Yr:=PSs.imp DF FG
theorem Zh(h:VS X O W st f):Lj X O W [st] f:=R0 h
theorem Zd(A:VS X O W1 st f)(v:Lj X O W2 n8 g):Lj X O (W1++W2) (st::n8) (Zm f g):=PSs.imp (Tz A v) λD B H ⟨q,fps,s,m,r,e,k⟩=>by
 obtain⟨t,w,e⟩:=Zf e;have a:∀j,j∉W1++W2->j∉W1:=λj b z=>b (b7 _ z);have h:∀j,j∉W1++W2->j∉W2:=λj b z=>b (aj _ z);refine⟨q,fps,s,t,r,w,?_⟩
 cases t with
 | nx s1=>
  intro d u C x y;exact⟨q,d,s1,m,x,e,k.same (λj b=>y j (a j b)) h⟩
 | bk s1=>cases e;exact λp c n i o=>k p c n i λj b=>o j (a j b)
 | ct s1=>cases e;exact λp c n i o=>k p c n i λj b=>o j (a j b)
 | rt l=>cases e;exact k
theorem Wh{c:aq}{a b:List bS}{n:XT}(t:VT X c n)(o:Lj X O W1 a f)(p:Lj X O W2 b g):VS X O (W1++W2) (.If c a b pos) (SM n f g):=PS.imp (BJ t o p) λD u H ⟨m,fps,s,h,r,e,k⟩=>by
 obtain⟨c,q,e⟩:=Zf e;have i:∀j,j∉W1++W2->j∉W1:=λj l z=>l (b7 _ z);have d:∀j,j∉W1++W2->j∉W2:=λj l z=>l (aj _ z);refine⟨λ_=>False,s,c,λ_ z=>z.elim,r.env,q,λv s1=>?_⟩
 cases c with
 | true=>
  exact⟨m,fps,s,h,r.grow s1,e,k.same (λj _=>⟨rfl,Kep.refl _⟩) i⟩
 | false=>
  exact⟨m,fps,s,h,r.grow s1,e,k.same (λj _=>⟨rfl,Kep.refl _⟩) d⟩
theorem Zv{e:aq}{b:XE}(c:VM X e b):VS X O [] (.Return (aA e) pos) (ZM b):=PS.imp (Kj c) λD q H ⟨o,fps,s,g,r,e,k⟩=>by obtain⟨l,j,rfl⟩:=map_some e;exact⟨s,l,r.env,j,λv h f m i d n=>k v f h (r.same.trans m) i d λp a=>⟨Same.off r.same (n p a).1,(n p a).2⟩⟩
theorem R5{e:aq}{i:Nat}(f:PE X e (Tx i))(c:i∈O:=by decide):VS X O [] (.Return (aA e) pos) (ZM (Za i)):=PS.imp (Kj f) λD j H ⟨h,fps,s,d,r,e,k⟩=>by obtain⟨l,g,rfl⟩:=map_some e;obtain⟨v,a,b⟩:=r.is i l (OO g);exact⟨v,a,k v _ H r.same b (r.nd i c) (r.own i c)⟩
theorem Ia{t:TE}{i:Nat}{c:XE}(h:∀a H Q,tM K c a H Q->t a H Q):∀D a H,tFS K O [i] (Zq i c) D a H->Kk t (TB i) D a H:=λD a H ⟨w,fps,s,g,r,e,k⟩=>by
 obtain⟨l,o,rfl⟩:=map_some e;refine h a H _ ⟨s,l,r.env,o,λv m u q is d n=>?_⟩;refine k _ _ m ((r.grow q).set is (λ_=>⟨d,λp b=>⟨Same.off r.same (n p b).1,(n p b).2⟩⟩) λj _ _ p b z=>r.dom j p z (n p b).1) λj f=>?_;have:j≠i:=by simpa using f
 exact⟨by rw[bG,ng (bB this)],.inl (ZR this)⟩
theorem Zag{i:Nat}{x:a0}{e:aq}{b:XE}{a:fD}(d:X.N.Nodup)(g:X.N[i]?=aA x)(f:DB X.env.scope x)(c:VM X e b)(hs:fT e (aA (.Name x a)) pos.line X.env=pure aB:=by rfl)(j:X.fn x=aC\/X.env.scope.names.lookup x=aA .local:=by first | exact .inl rfl | exact .inr rfl | assumption) :
  VS X O [i] (.Assign [.Name x a] e pos) (Zq i b):=PS.imp (AA d g f c hs j) (Ia λ_ _ _ h=>h)
end
noncomputable def V9(T:Tgt)(fb:XS):List PV->ZE->Option MP
 | [],s=>aA (.nx s)
 | l::r,s=>(Xj T l s).bind λs1=>(fb s1).bind λo=>match o with | .nx s2=>V9 T fb r s2 | .ct s2=>V9 T fb r s2 | .bk s2=>aA (.nx s2) | .rt v=>aA (.rt v)
noncomputable def Y6(O:List Nat)(fi:XL)(T:Tgt)(fb:XS):XS:=λs=>(fi (Ym O s)).bind λls=>V9 T fb ls s
theorem Rel.setAll{O:List Nat}{m H:Hp}:∀{is:List Nat}{ls:List PV}{vs:List V}{fs:List aH}{fps:Nat->List aH}{s:ZE}{σ:Sq},Rel K O m fps s σ H->Iss K H ls vs fs->ls.length=is.length->(∀i∈is,i∉O)->(∀i∈O,∀p∈fps i,p∉fs)->
  ∃k,Rel K O m k (VL.setAll is ls s) (YT is vs σ) H/\∀j,j∉is->(YT is vs σ)[j]?=σ[j]?/\Kep (k j) (fps j)
 | [],ls,vs,fs,fps,s,σ,r,_,_,_,_=>⟨fps,by unfold VL.setAll YT;exact r,λj _=>⟨by unfold YT;rfl,Kep.refl _⟩⟩
 | i::is,[],vs,fs,fps,s,σ,r,_,hl,_,_=>by simp at hl
 | i::is,l::ls,vs,fs,fps,s,σ,r,hi,hl,hO,hd=>by
  obtain⟨x,v,f1,w,rfl,u,o,rfl⟩:=hi.inv;have g:=hO i af
  have t:=r.set (i:=i) u (λz=>absurd z g) λj f c p h z=>by
   rcases c with c | c
   ·exact hd j c p z (b7 _ h)
   ·exact absurd c g
  obtain⟨k,q,n⟩:=Rel.setAll (is:=is) t o (by simpa using hl) (λj f=>hO j (aW _ f)) λj f p h z=>by have d:j≠i:=λe=>g (by rw[<-e];exact f);rw[ZR d] at h;exact hd j f p h (aj _ z)
  refine⟨k,q,λj f=>?_⟩;have d:j≠i:=λe=>f (e▸af);obtain⟨a,b⟩:=n j (λz=>f (aW _ z));exact⟨a.trans (by rw[bG,ng (bB d)]),b.trans (.inl (ZR d))⟩
section
variable {O W:List Nat} {T:Tgt} {fb:XS}
theorem FH{E:Hp}{fps:Nat->List aH}{s:ZE}{H:Sq}{D:YH}{J:It}{ls:List PV}{u:MP}(r:Rel K O (V8 E (Ow O fps)) fps s H E)(C:JIs K (Ow O fps) E J ls)(e:V9 T fb ls s=aA u)(hT:∀i∈T.slots,i∉O)
  (k:OutOk K O (T.slots++W) (V8 E (Ow O fps)) fps H D u):Ze6 (gT K T) (tFS K O W fb) D H J E:=by
 have A:∀j,j∉T.slots++W->j∉T.slots:=λj a z=>a (b7 _ z);have d:∀j,j∉T.slots++W->j∉W:=λj a z=>a (aj _ z)
 refine⟨λi m g I=>m=ls.length-i/\i<=ls.length/\∃U s',Rel K O (V8 E (Ow O fps)) U s' g I/\V9 T fb (ls.drop i) s'=aA u/\∀j,j∉T.slots++W->g[j]?=H[j]?/\Kep (U j) (fps j),
  ⟨ls.length,by simp,dj _,fps,s,r,e,λj _=>⟨rfl,Kep.refl _⟩⟩,?_⟩
 rintro i m g I ⟨rfl,hi,U,s',R,t,q'⟩;have ab:=λb o h n=>R.same b o (by unfold V8;rw[ng n];exact h)
 cases q:ls.drop i with
 | nil=>
  have Y:i=ls.length:=by have:=congrArg iT q;simp at this;omega
  subst Y;rw[q] at t;cases t;exact .inl ⟨C.stop I ab,k U g I R q'⟩
 | cons l rr=>
  obtain⟨Z,hr⟩:=QO q;have Q:=(aS.mp Z).1;rw[q] at t;obtain⟨sb,eb,t⟩:=Zf t;obtain⟨o,eo,t⟩:=Zf t
  refine .inr ⟨C.go I i l ab Z,λF S=>∃fps2 s2,Rel K O (V8 E (Ow O fps)) fps2 s2 F S/\V9 T fb (ls.drop (i+1)) s2=aA u/\∀j,j∉T.slots++W->F[j]?=H[j]?/\Kep (fps2 j) (fps j),
   λF S h2=>⟨ls.length-(i+1),by omega,rfl,Q,h2⟩,λx S y=>?_⟩
  obtain⟨s2,fx,ix,nx⟩:=C.yld I i l x S ab Z y;obtain⟨bl,bv,bf,rfl,bi,P,N,M⟩:=KJ ix eb;obtain⟨B,r3,q3⟩:=Rel.setAll (R.grow s2) bi P hT λj a p hp z=>by obtain⟨n1,n2⟩:=nx p (N p z);have:=(R.own j a p hp).1;unfold V8 at this;rw[ng n2] at this;exact n1 this
  refine M _ _ ⟨_,B,_,o,r3,eo,?_⟩;have c:∀j,j∉T.slots++W->(YT T.slots bv g)[j]?=H[j]?/\Kep (B j) (fps j):=λj a=>⟨(q3 j (A j a)).1.trans (q' j a).1,(q3 j (A j a)).2.trans (q' j a).2⟩
  cases o with
  | nx s4=>exact λf G X L w=>⟨f,s4,L,by rw[hr];exact t,λj a=>⟨(w j (d j a)).1.trans (c j a).1,(w j (d j a)).2.trans (c j a).2⟩⟩
  | ct s4=>exact λf G X L w=>⟨f,s4,L,by rw[hr];exact t,λj a=>⟨(w j (d j a)).1.trans (c j a).1,(w j (d j a)).2.trans (c j a).2⟩⟩
  | bk s4=>
   cases t;exact λf G X L w=>k f G X L λj a=>⟨(w j (d j a)).1.trans (c j a).1,(w j (d j a)).2.trans (c j a).2⟩
  | rt v=>
   cases t;exact k
end
section
variable {X:Cx} {O W:List Nat} {tg iter:aq} {body:List bS} {fi:XL} {T:Tgt} {fb:XS} {pos:fD}
theorem Zah(h:k8 (model X.prog X.w) X.A X.env X.xe)(l:X.calm=aC)(d:VI X tg iter fi)(b:PG X tg (gT X.K T))(g:Lj X O W body fb)(c:∀i∈T.slots,i∉O:=by decide)
  (hs:∀x,bq iter X.env x=pure x:=by intro _;rfl):VS X O (T.slots++W) (.For tg iter body [] pos) (Y6 O fi T fb):=PS.imp (AE h l d b g hs) λD n H ⟨m,fps,s,f,r,e,k⟩=>by
 obtain⟨ls,j,e⟩:=Zf e;refine⟨Ow O fps,Ym O s,ls,r.owMut,r.envO,j,λJ o s1 a=>?_⟩;exact FH (r.grow s1).frame a e c (k.less (r.grow s1).under)
end
noncomputable def Yt(c:XT)(fb:XS):Nat->ZE->Option MP
 | 0,_=>none
 | n+1,s=>(c s).bind λk=>if k=aC then(fb s).bind λo=>match o with | .nx s2=>Yt c fb n s2 | .ct s2=>Yt c fb n s2 | .bk s2=>aA (.nx s2) | .rt v=>aA (.rt v) else aA (.nx s)
theorem Ui{c:XT}{fb:XS}:∀{n:Nat}{s:ZE}{o:MP},Yt c fb n s=aA o->Yt c fb (n+1) s=aA o
 | 0,_,_,h=>by cases h
 | n+1,s,o,h=>by
  unfold Yt at h ⊢;obtain⟨k,b,h⟩:=Zf h;rw[b]
  cases k with
  | false=>exact h
  | true=>
   rw[nZ rfl] at h;obtain⟨d,a,h⟩:=Zf h;simp only[aT,if_true,a]
   cases d with
   | nx s2=>exact Ui h
   | ct s2=>exact Ui h
   | bk s2=>exact h
   | rt v=>exact h
theorem OT{c:XT}{fb:XS}{n m:Nat}{s:ZE}{o:MP}(h:Yt c fb n s=aA o)(a:n<=m):Yt c fb m s=aA o:=by
 induction m with
 | zero=>
  have:n=0:=by omega
  subst this;exact h
 | succ m ih=>
  by_cases e:n=m+1
  ·subst e;exact h
  ·exact Ui (ih (by omega))
open Classical in
noncomputable def Xl(c:XT)(fb:XS):XS:=λs=>if h:∃n,(Yt c fb n s).isSome=aC then Yt c fb h.choose s else none
theorem OU{c:XT}{fb:XS}{n:Nat}{s:ZE}{o:MP}(h:Yt c fb n s=aA o):Xl c fb s=aA o:=by
 have a:∃n,(Yt c fb n s).isSome=aC:=⟨n,by rw[h];rfl⟩;unfold Xl;rw[dif_pos a];obtain⟨d,e⟩:=cE.mp a.choose_spec;rw[e];rcases Nat.le_total n a.choose with b | b
 ·rw[OT h b] at e;exact e.symm
 ·rw[OT e b] at h;exact h
section
variable {X:Cx} {O W:List Nat} {c:aq} {body:List bS} {fc:XT} {fb:XS} {pos:fD}
theorem Vj(L:k8 (model X.prog X.w) X.A X.env X.xe)(N:VT X c fc)(J:Lj X O W body fb):VS X O W (.While c body [] pos) (Xl fc fb):=PS.imp (G8 L N J) λD C H ⟨A,fps,s,u,r,e,k⟩=>by
 unfold Xl at e;split at e
 case isFalse=>cases e
 rename_i G;generalize G.choose=n at e;refine⟨λm g E=>∃w t,Rel X.K O A w t g E/\Yt fc fb m t=aA u/\∀j,j∉W->g[j]?=C[j]?/\Kep (w j) (fps j),⟨n,fps,s,r,e,λj _=>⟨rfl,Kep.refl _⟩⟩,?_⟩;rintro m g E ⟨w,t,B,f,i⟩
 cases m with
 | zero=>cases f
 | succ m=>
  obtain⟨b,M,f⟩:=Zf f;refine⟨λ_=>False,t,b,λ_ z=>z.elim,B.env,M,λx s2=>?_⟩
  cases b with
  | false=>
   cases f;exact k w g x (B.grow s2) i
  | true=>
   obtain⟨o,F,f⟩:=Zf f;refine⟨λl x=>∃fps2 s2,Rel X.K O A fps2 s2 l x/\Yt fc fb m s2=aA u/\∀j,j∉W->l[j]?=C[j]?/\Kep (fps2 j) (fps j),λl x I=>⟨m,iP m,I⟩,A,w,t,o,B.grow s2,F,?_⟩
   cases o with
   | nx s4=>exact λa p y q h=>⟨a,s4,q,f,λj d=>⟨(h j d).1.trans (i j d).1,(h j d).2.trans (i j d).2⟩⟩
   | ct s4=>exact λa p y q h=>⟨a,s4,q,f,λj d=>⟨(h j d).1.trans (i j d).1,(h j d).2.trans (i j d).2⟩⟩
   | bk s4=>
    cases f;exact λa p y q h=>k a p y q λj d=>⟨(h j d).1.trans (i j d).1,(h j d).2.trans (i j d).2⟩
   | rt v=>cases f;exact k
end
end VL
namespace VL
open PySem PySem.Spec PyProof.Rows L2
variable {K:aD}
section
variable {O:List Nat} {H0 H H':Hp} {fps:Nat->List aH} {s:ZE} {σ:Sq}
theorem Rel.lst_at(r:Rel K O H0 fps s σ H){i:Nat}(j:i∈O){m:List PV}(e:s[i]?=aA (aA (.lst m))):∃p d c,σ[i]?=aA (aA (.ref p))/\H p=aA (.lst d)/\Iss K H m d c/\fps i=p::c:=by obtain⟨v,a,b⟩:=r.is i _ e;obtain⟨p,d,c,rfl,h,f,g⟩:=b.lst_inv;exact⟨p,d,c,a,h,f,g⟩
theorem SN{b:Type}{l:List b}{i:Nat}{a:b}(h:l[i]?=aA a):i<l.length:=(aS.mp h).1
theorem TK.upd'{p:aH}{o:HO}(a:U2 (H p)):D7 H (L2.upd H p o):=⟨λb c h=>by
 rw[upd_ne (λz=>by rw[z] at h;rw[h] at a;exact a)];exact h,λb o c h=>by
 rw[upd_ne (λz=>by rw[z] at h;rw[h] at a;exact a)];exact h,λb o x h=>by
 rw[upd_ne (λz=>by rw[z] at h;rw[h] at a;exact a)];exact h⟩
theorem RdK.upd_ne{p q:aH}{o:HO}(ne:q≠p):RdK H (L2.upd H p o) q:=RdK.of λu a=>by rw[L2.upd_ne ne];exact a
theorem Rel.relist(r:Rel K O H0 fps s σ H){i:Nat}(c:i∈O){m k:List PV}(e:s[i]?=aA (aA (.lst m))){p:aH}{t b:List aH}{d:List V}(g:fps i=p::t)(v:σ[i]?=aA (aA (.ref p)))
  (h':Iss K H k d b) (u:(p::b).Nodup) (l:∀q∈b,q∈t\/((H0 q=none/\U2 (H q))/\∀j,q∉fps j)):Rel K O H0 (Th fps s.length i (p::b)) (s.set i (aA (.lst k))) σ (L2.upd H p (.lst d)):=by
 have f:p∈fps i:=by rw[g];exact af
 have w:=(r.own i c p f).2;have o:=(bY.mp u).1;refine r.mutate c f v (SN e) (Is.lst Zs (Iss.tr (TK.upd' w) _ _ _ (λq a=>RdK.upd_ne λz=>o (z▸a)) h')) u (λq a=>?_) (λj n q a z=>?_) dZ
 ·rcases aa.mp a with rfl | a
  ·exact⟨(r.own i c q f).1,by rw[Zs];exact dZ⟩
  ·have ne:q≠p:=λz=>o (z▸a);rw[L2.upd_ne ne];rcases l q a with h | h
   ·exact r.own i c q (by rw[g];exact aW _ h)
   ·exact h.1
 ·rcases aa.mp a with rfl | a
  ·exact r.dis i c j n q f z
  ·rcases l q a with h | h
   ·exact r.dis i c j n q (by rw[g];exact aW _ h) z
   ·exact h.2 j z
end
noncomputable def Ib(s:ZE)(i:Nat):Option (List PV):=match s[i]? with | some (aA (.lst m))=>aA m | _=>none
noncomputable def GX:PV->Option Int
 | .int k=>aA k
 | _=>none
noncomputable def asL:PV->Option (List PV)
 | .lst k=>aA k
 | _=>none
theorem TZ{s:ZE}{i:Nat}{m:List PV}(h:Ib s i=aA m):s[i]?=aA (aA (.lst m)):=by
 unfold Ib at h;split at h
 ·cases h;assumption
 ·cases h
theorem T1{a:PV}{k:Int}(h:GX a=aA k):a = .int k:=by
 unfold GX at h;split at h
 ·cases h;rfl
 ·cases h
theorem FI{a:PV}{k:List PV}(h:asL a=aA k):a = .lst k:=by
 unfold asL at h;split at h
 ·cases h;rfl
 ·cases h
noncomputable def gd(c:Bool):Option Unit:=if c=aC then aA () else none
theorem R6{c:Bool}{u:Unit}(h:gd c=aA u):c=aC:=by
 unfold gd at h;split at h
 ·assumption
 ·cases h
noncomputable def XI(i:Nat)(f:XE):XS:=λs=>(f s).bind λl=>(Ib s i).bind λm=>(gd (decide (m.length<=10000))).bind λ_=>aA (.nx (s.set i (aA (.lst (m++[l])))))
noncomputable def VC(i:Nat)(fk:XE)(f:XE):XS:=λs=>(fk s).bind λk=>(f s).bind λl=>(GX k).bind λk=>(Ib s i).bind λm=>(gd (ZK m&&Z5 l&&decide (0<=k/\k<=1000000/\m.length<=10000))).bind λ_=>aA (.nx (s.set i (aA (.lst (m.take k.toNat++l::m.drop k.toNat)))))
noncomputable def X1(i:Nat)(fk:XE)(f:XE):XS:=λs=>(f s).bind λl=>(fk s).bind λk=>(GX k).bind λk=>(Ib s i).bind λm=>(gd (ZK m&&Z5 l)).bind λ_=>(Nj m.length k).map λj=>.nx (s.set i (aA (.lst (m.set j l))))
section
variable {X:Cx} {O:List Nat} {i:Nat} {st:bS} {f fk:XE}
theorem tyL{H:Hp}{p:aH}{a:List V}(h:H p=aA (.lst a)):tyV K "list" (.ref p) H:=.inl ⟨rfl,_,SqL.of h⟩
theorem Ic{s:ZE}{a:Sq}{fps:Nat->List aH}{c:List aH}:∀j,j∉[i]->a[j]?=a[j]?/\Kep (Th fps s.length i c j) (fps j):=λj b=>⟨rfl,.inl (ZR (by simpa using b))⟩
theorem SO(h:PS X st (MT (tBM X.K "list" J0 (Tx i) (U6 (tM X.K f) Ht))))(g:i∈O:=by decide):VS X O [i] st (XI i f):=PS.imp h λD N H ⟨M,fps,s,E,r,e,k⟩=>by
 obtain⟨l,J,e⟩:=Zf e;obtain⟨m,c,e⟩:=Zf e;obtain⟨_,L,e⟩:=Zf e;have c:=TZ c;have t:=of_decide_eq_true (R6 L);cases e;obtain⟨p,G,R,u,w,v,d⟩:=r.lst_at g c;refine⟨.ref p,u,tyL w,s,l,r.env,J,λy Q P s2 C I n=>?_⟩;refine⟨p,G,y,rfl,rfl,s2 _ _ w,by rw[v.len];exact lt_size (by omega),?_⟩;have B:=r.grow s2;have fr:=λq o j z=>r.dom j q z (n q o).1;refine k _ _ _ (B.relist g c d u ((v.mono s2).append (Iss.one C)) ?_ λq o=>?_) Ic
 ·have x:=r.nd i g;rw[d] at x;exact gG.mpr ⟨x,I,λa A b F z=>fr b F i (by rw[d,<-z];exact A)⟩
 ·rcases cB.mp o with h | h
  ·exact .inl h
  ·exact .inr ⟨⟨Same.off r.same (n q h).1,(n q h).2⟩,fr q h⟩
theorem Iss.pureEq{H:Hp}{l:List PV}{a:List V}{b:List aH}(h:Iss K H l a b)(c:ZK l=aC):Iss K H l a []:=by have:=Iss.pure _ _ _ c h;subst this;exact h
theorem KN{l:List PV}(n:Nat)(h:ZK l=aC):ZK (l.take n)=aC:=by rw[Xx,bA] at *;exact λx a=>h x (iX a)
theorem KO{l:List PV}(n:Nat)(h:ZK l=aC):ZK (l.drop n)=aC:=by rw[Xx,bA] at *;exact λx a=>h x (List.mem_of_mem_drop a)
theorem OV(h:PS X st (MT (tBM X.K "list" J1 (Tx i) (U6 (tF X.K fk) (U6 (tF X.K f) Ht)))))(v:i∈O:=by decide):VS X O [i] st (VC i fk f):=PS.imp h λD Q H ⟨P,fps,s,F,r,e,k⟩=>by obtain⟨kk,u,e⟩:=Zf e;obtain⟨l,J,e⟩:=Zf e;obtain⟨g,E,e⟩:=Zf e;obtain⟨m,c,e⟩:=Zf e;obtain⟨_,L,e⟩:=Zf e;rw[T1 E] at u;have c:=TZ c;have B:=R6 L;simp only[bX,decide_eq_true_eq] at B;obtain⟨⟨d,pl⟩,k0,k1,o⟩:=B;cases e;obtain⟨p,I,W,t,A,x,C⟩:=r.lst_at v c;refine⟨.ref p,t,tyL A,λ_=>False,s,_,λ_ z=>z.elim,r.env,u,λz R N s1 G _=>⟨λ_=>False,s,l,λ_ z=>z.elim,r.env.mono s1,J,λy T S s2 w _=>?_⟩⟩;have a:=s1.trans s2;obtain⟨rfl,_⟩:=G.int_inv;have:=Is.pure _ _ _ pl w;subst this;refine⟨p,I,g,y,rfl,rfl,a _ _ A,k0,by omega,by rw[x.len];exact lt_size (by omega),?_⟩;have b:=(x.mono a).pureEq d;obtain⟨f1,j,_⟩:=b.take g.toNat;obtain⟨U,n,_⟩:=b.drop g.toNat;have j:=j.pureEq (KN _ d);have n:=n.pureEq (KO _ d);exact k _ _ _ ((r.grow a).relist v c C t (j.append (Iss.cons w n)) (by simp) λq M=>by simp at M) Ic
theorem Vk(h:PS X st (Kk (tF X.K f) (Az (Tx i) (tF X.K fk) Fh)))(g:i∈O:=by decide):VS X O [i] st (X1 i fk f):=PS.imp h λD N H ⟨M,fps,s,C,r,e,k⟩=>by obtain⟨l,w,e⟩:=Zf e;obtain⟨kk,t,e⟩:=Zf e;obtain⟨A,x,e⟩:=Zf e;obtain⟨m,b,e⟩:=Zf e;obtain⟨_,I,e⟩:=Zf e;rw[T1 x] at t;have b:=TZ b;have u:=R6 I;simp only[bX] at u;obtain⟨d,pl⟩:=u;obtain⟨j,E,rfl⟩:=map_some e;obtain⟨p,G,S,c,F,n,v⟩:=r.lst_at g b;refine⟨λ_=>False,s,l,λ_ z=>z.elim,r.env,w,λy P R s1 o _=>?_⟩;refine⟨.ref p,c,λ_=>False,s,_,λ_ z=>z.elim,r.env.mono s1,t,λz Q L s2 B _=>?_⟩;have a:=s1.trans s2;obtain⟨rfl,_⟩:=B.int_inv;have:=Is.pure _ _ _ pl o;subst this;refine⟨p,G,A,j,rfl,rfl,a _ _ F,by rw[n.len];exact E,?_⟩;exact k _ _ _ ((r.grow a).relist g b v c (Iss.setP j d pl ((n.mono a).pureEq d) (o.mono s2)) (by simp) λq J=>by simp at J) Ic
end
theorem Iss.setRow{H:Hp}{o:List V}:∀{m:List PV}{xs:List V}{fq:List aH}{j:Nat}{n n':List PV}{q:aH},Iss K H m xs fq->m[j]?=aA (.lst n)->xs[j]?=aA (.ref q)->fq.Nodup->U2 (H q)->ZK n=aC->Iss K (L2.upd H q (.lst o)) n' o []->
  Iss K (L2.upd H q (.lst o)) (m.set j (.lst n')) xs fq
 | [],_,_,_,_,_,_,_,e,_,_,_,_,_=>by simp at e
 | a::m,xs,fq,0,n,n',q,h,e,ex,nd,mu,pn,h'=>by obtain⟨x,r,f1,l,rfl,k,d,rfl⟩:=h.inv;simp at e ex;subst e ex;obtain⟨s,v,t,e,B,b,rfl⟩:=k.lst_inv;cases e;have:=Iss.pure _ _ _ pn b;subst this;have f:q∉l:=(bY.mp nd).1;exact Iss.cons (Is.lst Zs h') (Iss.tr (TK.upd' mu) _ _ _ (λz b=>RdK.upd_ne λe=>f (e▸b)) d)
 | a::m,xs,fq,j+1,n,n',q,h,e,ex,nd,mu,pn,h'=>by obtain⟨x,r,f1,l,rfl,k,d,rfl⟩:=h.inv;simp at e ex;obtain⟨A,i,g⟩:=gG.mp nd;obtain⟨y,C,p,u,c⟩:=d.get e;rw[ex] at p;cases p;obtain⟨s,v,t,w,_,_,rfl⟩:=u.lst_inv;cases w;have f:q∉f1:=λz=>g q z q (c q af) rfl;exact Iss.cons (Is.tr (TK.upd' mu) _ _ _ (λz b=>RdK.upd_ne λe=>f (e▸b)) k) (Iss.setRow d e ex i mu pn h')
noncomputable def VD(i:Nat)(fa fb:XE)(f:XE):XS:=λs=>(f s).bind λl=>(fa s).bind λa=>(fb s).bind λb=>(GX a).bind λa=>(GX b).bind λb=>(Ib s i).bind λm=>(Nj m.length a).bind λj=>(m[j]?).bind λr=>(asL r).bind λn=>
 (gd (ZK n&&Z5 l)).bind λ_=>(Nj n.length b).map λc=>.nx (s.set i (aA (.lst (m.set j (.lst (n.set c l))))))
end VL
namespace VL
open PySem PySem.Spec PyProof.Rows L2
variable {K:aD}
section
variable {X:Cx} {a b c d:aq} {fa fb fc fd:XE} {pos:fD}
theorem BU(d:X.A.units+64<gk)(e:VE X a fa)(c:VE X b fb):VE X (.Compare a [.Eq] [b] pos) (Zi (XZ aB) fa fb):=Fq (FC d) (ND aB) e c (Ss _)
theorem Zc5(d:X.A.units+64<gk)(e:VE X a fa)(c:VE X b fb):VE X (.Compare a [.NotEq] [b] pos) (Zi (XZ aC) fa fb):=Fq (FD d) (ND aC) e c (Ss _)
theorem QR(d:X.A.units+64<gk)(e:VE X a fa)(c:VE X b fb):VT X (.Compare a [.Eq] [b] pos) (xB (Zi (XZ aB) fa fb)):=SA (FC d) (ND aB) e c (Ss _)
theorem T3(d:X.A.units+64<gk)(e:VE X a fa)(c:VE X b fb):VT X (.Compare a [.NotEq] [b] pos) (xB (Zi (XZ aC) fa fb)):=SA (FD d) (ND aC) e c (Ss _)
theorem Zc6(d:X.A.units+64<gk)(e:VE X a fa)(c:VE X b fb)(f:dJ .In b=aB:=by with_unfolding_all rfl):VT X (.Compare a [.In] [b] pos) (xB (Zi (HC aB) fa fb)):=SA (Zaf d) (FE aB) e c f
theorem FJ(d:X.A.units+64<gk)(e:VE X a fa)(c:VE X b fb)(f:dJ .NotIn b=aB:=by with_unfolding_all rfl):VT X (.Compare a [.NotIn] [b] pos) (xB (Zi (HC aC) fa fb)):=SA (HB d) (FE aC) e c f
noncomputable def blO:PV->Option Bool
 | .bl c=>aA c
 | _=>none
end
section
variable {X:Cx} {a b:aq} {fa fb:XE} {pos:fD}
noncomputable def gCat:PV->PV->Option PV
 | .lst m,.lst n=>if m.length+n.length<=10000 then aA (.lst (m++n)) else none
 | _,_=>none
noncomputable def QS:PV->PV->Option PV
 | .lst m,.lst n=>if m.length+n.length<=10000/\ZK m=aC/\ZK n=aC then aA (.lst (m++n)) else none
 | _,_=>none
theorem NJ(u:VE X a fa)(C:VE X b fb):VM X (.BinOp a .Add b pos) (Zi QS fa fb):=PE.imp (Fb AW u C) λI H Q ⟨s,l,env,e,k⟩=>by
 obtain⟨i,j,G,v,e⟩:=QB e;refine⟨λ_=>False,s,i,λ_ z=>z.elim,env,G,λx J f1 s1 E _=>⟨λ_=>False,s,j,λ_ z=>z.elim,env.mono s1,v,λy L M s2 A _=>?_⟩⟩
 cases i with
 | lst m=>cases j with
  | lst n=>
   have e:(if m.length+n.length<=10000/\ZK m=aC/\ZK n=aC then aA (PV.lst (m++n)) else none)=aA l:=e;split at e
   case isFalse=>cases e
   rename_i d;cases e;obtain⟨p,F,N,rfl,D,h,rfl⟩:=E.lst_inv;obtain⟨t,B,o,rfl,f,c,rfl⟩:=A.lst_inv;refine⟨p,t,F,B,rfl,rfl,s2 _ _ D,f,by rw[h.len,c.len];exact dA (lt_size d.1),λq g=>?_⟩;refine k _ _ [q] (s1.trans (s2.trans (Same.new g _))) (Is.lst Zs ((((h.mono s2).pureEq d.2.1).append (c.pureEq d.2.2)).mono (Same.new g _))) (by simp) λr w=>?_;rw[ah.mp w];exact⟨Same.off (s1.trans s2) g,by rw[Zs];exact dZ⟩
  | _=>cases e
 | _=>cases e
noncomputable def Lk:PV->PV->Option PV
 | .lst m,.int k=>if ZK m=aC/\-1000000<=k/\k<=1000000/\m.length*k.toNat<=10000 then aA (.lst (aY k.toNat m).flatten) else none
 | _,_=>none
theorem Iss.rep{H:Hp}{m:List PV}{a:List V}(h:Iss K H m a []):∀k:Nat,Iss K H (aY k m).flatten (aY k a).flatten []
 | 0=>Iss.nil
 | k+1=>by rw[eK,eK,gE,gE];exact h.append (Iss.rep h k)
theorem FK(i:VE X a fa)(u:VE X b fb):VM X (.BinOp a .Mult b pos) (Zi Lk fa fb):=PE.imp (Fb AX i u) λC H Q ⟨s,l,env,e,k⟩=>by
 obtain⟨g,h,B,j,e⟩:=QB e;refine⟨λ_=>False,s,g,λ_ z=>z.elim,env,B,λx D f1 s1 w _=>⟨λ_=>False,s,h,λ_ z=>z.elim,env.mono s1,j,λy E F s2 t _=>?_⟩⟩
 cases g with
 | lst m=>cases h with
  | int n=>
   have e:(if ZK m=aC/\-1000000<=n/\n<=1000000/\m.length*n.toNat<=10000 then aA (PV.lst (aY n.toNat m).flatten) else none)=aA l:=e;split at e
   case isFalse=>cases e
   rename_i d;cases e;obtain⟨p,A,G,rfl,v,f,rfl⟩:=w.lst_inv;refine⟨p,n,A,rfl,t.int_inv.1,s2 _ _ v,by omega,by omega,by rw[f.len];exact dA (lt_size d.2.2.2),λq c=>?_⟩;refine k _ _ [q] (s1.trans (s2.trans (Same.new c _))) (Is.lst Zs ((Iss.rep ((f.mono s2).pureEq d.1) n.toNat).mono (Same.new c _))) (by simp) λr o=>?_;rw[ah.mp o];exact⟨Same.off (s1.trans s2) c,by rw[Zs];exact dZ⟩
  | _=>cases e
 | _=>cases e
end
theorem Iss.fps{H:Hp}:∀{ls:List PV}{vs:List V}{fp:List aH},Iss K H ls vs fp->∃fps:Nat->List aH,(∀(i:Nat) l,ls[i]?=aA l->∃v,vs[i]?=aA v/\Is K H l v (fps i))/\∀i,ls.length<=i->fps i=[]
 | [],vs,fp,h=>⟨λ_=>[],λi l e=>by simp at e,λ_ _=>rfl⟩
 | a::ls,vs,fp,h=>by
  obtain⟨x,r,f1,j,rfl,g,d,rfl⟩:=h.inv;obtain⟨fps,f,p2⟩:=d.fps;refine⟨λi=>match i with | 0=>f1 | k+1=>fps k,λi l e=>?_,λi c=>?_⟩
  ·cases i with
   | zero=>simp at e;subst e;exact⟨x,rfl,g⟩
   | succ k=>
    obtain⟨v,a,b⟩:=f k l (by simpa using e);exact⟨v,by simpa using a,b⟩
  ·cases i with
   | zero=>simp at c
   | succ k=>exact p2 k (by simpa using c)
noncomputable def ZC(m:Nat)(ls:List PV):ZE:=ls.map aA++aY (m-ls.length) none
noncomputable def Uj:MP->Option PV
 | .rt v=>aA v
 | .nx _=>aA .non
 | _=>none
noncomputable def Yy(m:Nat)(f:XS):List PV->Option PV:=λls=>(f (ZC m ls)).bind Uj
theorem R7{N:List a0}{n:Nat}{O W:List Nat}{f:XS}{vs:List V}{H:Hp}{Q:VK}{E:XK}(u:∀i∈O,n<=i)(h:YS K (Yy N.length f) n vs H Q E):tFS K O W f { nx:=λ_ s=>Q .non s,rt:=Q } (L2.start N vs) H:=by
 obtain⟨I,ls,x,l,g,e,q⟩:=h;obtain⟨r,F,t⟩:=Zf e;obtain⟨fps,B,p2⟩:=g.fps;have k:=g.len
 have o:∀i:Nat,ls.length<=i->∀l,(ZC N.length ls)[i]?≠aA (aA l):=λi g l z=>by
  unfold ZC at z;rw[bU (by simpa using g),bu] at z;split at z<;>cases z
 have rel:Rel K O H fps (ZC N.length ls) (L2.start N vs) H:=by
  refine⟨Same.refl H,?_,λi a z=>?_,λi w=>?_,λi g=>?_,λi g p m=>?_,λi g j J p m=>?_⟩
  ·unfold ZC L2.start;simp[k]
  ·by_cases c:i<ls.length
   ·unfold ZC at z;rw[ao (by simpa using c),aZ] at z
    cases q:ls[i]? with
    | none=>rw[q] at z;cases z
    | some b=>
     rw[q] at z;cases z;obtain⟨v,C,A⟩:=B i a q;refine⟨v,?_,A⟩;unfold L2.start;rw[ao (by simpa [k] using c),aZ,C];rfl
   ·exact absurd z (o i (by omega) a)
  ·by_cases c:i<ls.length
   ·exact absurd (by unfold ZC;rw[ao (by simpa using c),aZ,aL c];rfl) (w ls[i])
   ·exact p2 i (by omega)
  ·rw[p2 i (by have:=u i g;omega)];exact cg
  ·rw[p2 i (by have:=u i g;omega)] at m;simp at m
  ·rw[p2 i (by have:=u i g;omega)] at m;simp at m
 refine⟨H,fps,ZC N.length ls,r,rel,F,?_⟩
 cases r with
 | nx s'=>
  cases t;exact λL D s y _=>q .non s [] y.same Is.non cg λp m=>by simp at m
 | rt v=>
  cases t;exact λv x s G i d n=>q v s x G i d n
 | bk s'=>cases t
 | ct s'=>cases t
section
variable {P:au} {w:bc} {mg:a0->Option aE} {base:bH}
theorem NK{x:a0}{st:bS}{N d:List a0}{k n:Nat}{O W:List Nat}(m:Nat)(f:XS)(D:Def K mg x st)(S:Zk N d (Ze st))
  (l:∀(kV doc pm:aE)(an:Option aH)(b ct:aE)(us:List aE),us.length=d.length->gv (cC x x (YE st) (ZY st) (Ze st) .none kV doc pm an b ct) ⟨us,[]⟩=pure (d.zip us))
  (p:d.length=n) (j:N.length=m) (o:∀i∈O,n<=i)
  (c:∀(e:aH)(b:aE)(A:bQ)(a:List jN)(s:aI)(H:Hp)(E:XK),Room k (A.deeper (gi x (Ze st) s.heap.objs.size e b))->Lj (Tf OI P w K mg base N x (Ze st) e b A a s H E).nox O W (ZY st) f) :
  Xd P w K mg base x d (YS K (Yy m f) n) (k+1):=by
 subst j;refine D.cal S l (λvs H Q E h=>by rw[p];exact h.1) λe b A a s H vs Q E g h=>⟨_,c e b A a s H E g,R7 o h⟩
end
end VL
namespace VL
open PySem PySem.Spec PyProof.Rows L2
variable {K:aD}
section
variable {X:Cx} {O:List Nat} {tg nX iter:aq} {nV:List aq} {scope:du} {pos:fD} {fi:XL} {T:Tgt} {ft:XT} {fe:XE}
theorem R8(own fr:List a0)(ix:List Nat){i:Nat}{y:a0}{f b:fD}(m:X.N.Nodup)(n:X.N[i]?=aA y)(d:X.env.scope.names.lookup y=aA .local)(c:X.calm=aC)(k:VI X tg iter fi)(S:Ue X.N X.env.scope scope own fr ix=aC)
  (h:∀cl C s H a,PG (ZH X (own++fr) scope cl C s H a) tg (gT X.K T)) (l:∀cl C s H a,VTs (ZH X (own++fr) scope cl C s H a) nV ft) (g:∀cl C s H a,VM (ZH X (own++fr) scope cl C s H a) nX fe)
  (j:∀i∈T.slots,i<own.length:=by decide)
  (e:fT (.ListComp nX [⟨tg,iter,nV,0⟩] scope pos) (aA (.Name y f)) b.line X.env=pure aC:=by rfl)
  (hs:∀x,bq iter X.env x=pure x:=by intro _;rfl):VS X O [i] (.Assign [.Name y f] (.ListComp nX [⟨tg,iter,nV,0⟩] scope pos) b) (Zq i (Zu own.length ix fi T ft fe)):=
 PS.imp (Fp own fr ix m n d c k S h (λcl C s H a=>(show Kv (ZH X (own++fr) scope cl C s H a) nV (M9 X.K ft) from l cl C s H a)) (λcl C s H a=>(show PE (ZH X (own++fr) scope cl C s H a) nX (tM X.K fe) from g cl C s H a)) e hs) (Ia (NG j))
end
section
variable {P:au} {w:bc} {mg:a0->Option aE} {base:bH}
theorem Zai{x:a0}{st:bS}{N e:List a0}{k n:Nat}{O W:List Nat}{d:aH}{g:eU}(m:Nat)(f:XS)(F:Fun K x x st d g)(S:Zk N e (Ze st))
  (p:e.length=n) (l:N.length=m) (o:∀i∈O,n<=i)
  (c:∀(d:aH)(b:aE)(A:bQ)(a:List jN)(s:aI)(H:Hp)(E:XK),Room k (A.deeper (gi x (Ze st) s.heap.objs.size d b))->Lj (Tf OI P w K mg base N x (Ze st) d b A a s H E).nox O W (ZY st) f) :
  Te P w K mg base OI (k+1) d g e (YS K (Yy m f) n):=by
 subst l;refine F.ok S (λvs H Q E h=>by rw[p];exact h.1) λb A a s H vs Q E j h=>⟨_,c d b A a s H E j,?_⟩;exact R7 o h
theorem FL{st:bS}{x:a0}{D:List PV->Option PV}{k:Nat}{i:aH}(m:Def K mg "law" st)(d:mg "law" = aA (.ref i))
  (p:∀(kV c h:aE)(g:Option aH)(b ct u:aE),gv (cC "law" "law" (YE st) (ZY st) (Ze st) .none kV c h g b ct) ⟨[u],[]⟩=pure [(x,u)])
  (H:∀(base:bH)(f:aH)(a:eU),K.In base->base.Ns az mg->Fun K "law" "law" st f a->Te P w K mg base OI k f a [x] (YS K D 1)) :
  ∃a:eU,(∀(s:aI)(u:aE),k9 s a ⟨[u],[]⟩ [(x,u)])/\∀base:bH,K.In base->base.Ns az mg->Te P w K mg base OI k i a [x] (YS K D 1):=by
 obtain⟨f,a,o,F⟩:=m.ex;have e:=d.symm.trans o;cases e;refine⟨a,?_,λbase q l=>H base i a q l F⟩;obtain⟨r,t,kV,c,h,g,b,ct,j,rfl,v,n⟩:=F.ex;exact λs u=>.of_eq (p kV c h g b ct u)
end
theorem Zaj{H:Hp}{a:aH}{b:List Int}{D:List PV->Option PV}{E:XK}(e:D [.cst (iL b)]=aA (.bl aC))(d:AY H)(c:SqL K H a (b.map V.int)):YS K D 1 [.ref a] H (λv _=>v = .bl aC) E:=by
 have cs:CsK K H a (b.map V.int):=by
  rcases c with h | h
  ·rcases h with h | ⟨o,h⟩
   ·rcases d a with z | ⟨o,j,z⟩
    ·rw[h] at z;cases z
    ·rw[h] at z;cases z
   ·exact .inl ⟨o,h⟩
  ·exact .inr h
 exact⟨rfl,[.cst (iL b)],[],.bl aC,Iss.one (Is.cst cs (Iss.ofInts b)),e,λv g f _ i _ _=>i.bl_inv.1⟩
end VL
namespace VL
open PySem L2
noncomputable def Zak(K:aD):Bool:=K.all λp=>match p.2.data with
 | .fields vs=>(match vs.toList with
  | _::.str n _::_=>!(Hi n)
  | _=>aC)
 | _=>aC
theorem noLam{K:aD}(g:Zak K=aC):∀(q:a0)(c:aH),Hi q=aC->cZ K (.ref c) q=aC->False:=λq c f a=>by
 have a:(match K.lookup c with
   | some ⟨_,_,.fields vs,_⟩=>(match vs.toList with | _::.str n _::_=>n==q | _=>aB)
   | _=>aB)=aC:=a
 split at a
 ·rename_i k i vs j d;split at a
  ·rename_i y n t r b;have h:n=q:=beq_iff_eq.mp a;subst h;have e:=bA.mp g (c,_) (PySem.W.mem_of_lookupK d);simp only[b,f,Bool.not_true] at e;cases e
  ·cases a
 ·cases a
@[simp] theorem eVar_def(i:Nat)(s:ZE):Za i s=(s[i]?).join:=rfl
@[simp] theorem eC_def(l:PV)(s:ZE):eC l s=aA l:=rfl
@[simp] theorem T4(g:PV->PV->Option PV)(a b:XE)(s:ZE):Zi g a b s=(a s).bind λx=>(b s).bind λy=>g x y:=rfl
@[simp] theorem eUn_def(g:PV->Option PV)(a:XE)(s:ZE):GW g a s=(a s).bind g:=rfl
@[simp] theorem NL(f:XE)(s:ZE):eP f s=(f s).bind λl=>if Z5 l=aC then aA l else none:=rfl
@[simp] theorem Ie(s:ZE):RU [] s=aA []:=rfl
@[simp] theorem ZA(f:XE)(fs:List XE)(s:ZE):RU (f::fs) s=(f s).bind λx=>(RU fs s).map (x::·):=rfl
@[simp] theorem YB(D:List PV->Option PV)(fs:List XE)(s:ZE):Zc D fs s=(RU fs s).bind D:=rfl
@[simp] theorem Ll(fs:List XE)(s:ZE):QJ fs s=(RU fs s).map .tup:=rfl
@[simp] theorem eLst_def(fs:List XE)(s:ZE):TQ fs s=(RU fs s).map .lst:=rfl
@[simp] theorem Wo(g:PV->Option Int->Option Int->Option PV)(a:XE)(lo hi:XO)(s:ZE):QP g a lo hi s=(a s).bind λx=>(lo s).bind λl=>(hi s).bind λu=>g x l u:=rfl
@[simp] theorem R9(s:ZE):Li s=aA none:=rfl
@[simp] theorem gI_ii(g:Int->Int->Int)(i j:Int):gI g (.int i) (.int j)=aA (.int (g i j)):=rfl
@[simp] theorem gB_ii(g:Int->Int->Bool)(i j:Int):gB g (.int i) (.int j)=aA (.bl (g i j)):=rfl
@[simp] theorem Zal(C:Int->Int->Prop)[∀i j,Decidable (C i j)](g:Int->Int->Int)(i j:Int):GV C g (.int i) (.int j)=if C i j then aA (.int (g i j)) else none:=rfl
@[simp] theorem gIx_ti(l:List PV)(i:Int):ZJ (.tup l) (.int i)=So l i:=rfl
@[simp] theorem gIx_li(l:List PV)(i:Int):ZJ (.lst l) (.int i)=So l i:=rfl
@[simp] theorem gIx_ci(l:List PV)(i:Int):ZJ (.cst l) (.int i)=So l i:=rfl
@[simp] theorem NM(f:XE)(s:ZE):xB f s=(f s).bind blO:=by
 unfold xB
 cases f s with
 | none=>rfl
 | some a=>cases a<;>rfl
@[simp] theorem blO_bl(b:Bool):blO (.bl b)=aA b:=rfl
@[simp] theorem xAnd_def(a b:XT)(s:ZE):QE a b s=(a s).bind λc=>if c=aC then b s else aA aB:=rfl
@[simp] theorem Ck(a b:XT)(s:ZE):Dw a b s=(a s).bind λc=>if c=aC then aA aC else b s:=rfl
@[simp] theorem FN(a:XT)(s:ZE):Fu a s=(a s).map not:=rfl
@[simp] theorem FP(a b:XE)(s:ZE):RS a b s=(xB a s).bind λc=>if c=aC then b s else aA (.bl aB):=rfl
@[simp] theorem eOr_def(a b:XE)(s:ZE):eOr a b s=(xB a s).bind λc=>if c=aC then aA (.bl aC) else b s:=rfl
@[simp] theorem eNot_def(a:XE)(s:ZE):HA a s=(xB a s).map λc=>.bl !c:=rfl
@[simp] theorem NN(c:XT)(a b:XE)(s:ZE):Fv c a b s=(c s).bind λk=>if k=aC then a s else b s:=rfl
@[simp] theorem eIsN_def(neg:Bool)(a:XE)(s:ZE):SE neg a s=(a s).bind (Fx neg):=rfl
@[simp] theorem sNext_def(s:ZE):Yr s=aA (.nx s):=rfl
@[simp] theorem Lm(f g:XS)(s:ZE):Zm f g s=(f s).bind λo=>match o with | .nx s'=>g s' | r=>aA r:=rfl
@[simp] theorem Xm(c:XT)(f g:XS)(s:ZE):SM c f g s=(c s).bind λk=>if k=aC then f s else g s:=rfl
@[simp] theorem FQ(f:XE)(s:ZE):ZM f s=(f s).map .rt:=rfl
@[simp] theorem Yk(i:Nat)(f:XE)(s:ZE):Zq i f s=(f s).map λl=>.nx (s.set i (aA l)):=rfl
@[simp] theorem retO_rt(v:PV):Uj (.rt v)=aA v:=rfl
@[simp] theorem pureV_int(i:Int):Z5 (.int i)=aC:=rfl
@[simp] theorem pureV_bl(i:Bool):Z5 (.bl i)=aC:=rfl
@[simp] theorem pureV_str(i:a0):Z5 (.str i)=aC:=rfl
@[simp] theorem pureV_non:Z5 .non=aC:=rfl
@[simp] theorem US(l:List PV):Z5 (.tup l)=ZK l:=by rw[Z5]
@[simp] theorem pureL_nil:ZK []=aC:=rfl
@[simp] theorem pureL_cons(a:PV)(l:List PV):ZK (a::l)=(Z5 a&&ZK l):=rfl
theorem HH{b:Type}{l:List b}{f:b->PV}(h:∀a∈l,Z5 (f a)=aC):ZK (l.map f)=aC:=by rw[Xx,ll,bA];exact h
@[simp] theorem pureL_iL(l:List Int):ZK (l.map PV.int)=aC:=Yg l
abbrev pP(l:List Int):PV:=.tup (iL l)
abbrev wP(W:List (List Int)):PV:=.tup (W.map pP)
@[simp] theorem Uk(W:List (List Int)):ZK (W.map pP)=aC:=HH λa _=>by simp
theorem QT{l:List Int}{k:Nat}(h:k<l.length):(iL l)[k]?=aA (.int (Zp l k)):=by simp[Zp,aL h]
theorem Xy{l:List Int}{k:Nat}(h:k<l.length):So (iL l) (k:Int)=aA (.int (Zp l k)):=Vt (QT h)
theorem UT{W:List (List Int)}{k:Nat}(h:k<W.length):So (W.map pP) (k:Int)=aA (pP (ZT W k)):=by refine Vt ?_;rw[aZ,M5 h];rfl
@[simp] theorem Zam(l:List Int):Vw [.tup (l.map PV.int)]=aA (.int l.sum):=by simp[Vw,SI,Y8 l]
@[simp] theorem SQ(l:List Int):Vw [.lst (l.map PV.int)]=aA (.int l.sum):=by simp[Vw,SI,Y8 l]
@[simp] theorem Zan(l:List Bool):FA [.lst (l.map PV.bl)]=aA (.bl (l.any id)):=by simp[FA,SI,U8 l]
@[simp] theorem Zao(l:List PV):YG [.tup l]=aA (.int l.length):=rfl
@[simp] theorem KP(l:List PV):YG [.lst l]=aA (.int l.length):=rfl
@[simp] theorem gLen_c(l:List PV):YG [.cst l]=aA (.int l.length):=rfl
@[simp] theorem Y0(l:List PV):ZN [.lst l]=aA (.tup l):=rfl
@[simp] theorem gTuple_t(l:List PV):ZN [.tup l]=aA (.tup l):=rfl
@[simp] theorem Ln(l:List PV):Uh [.tup l]=if ZK l=aC then aA (.lst l) else none:=rfl
@[simp] theorem QU(l:List PV):Uh [.lst l]=if ZK l=aC then aA (.lst l) else none:=rfl
@[simp] theorem gMin2_ii(i j:Int):Lc [.int i,.int j]=aA (.int (if j<i then j else i)):=rfl
@[simp] theorem gMax2_ii(i j:Int):Zc4 [.int i,.int j]=aA (.int (if j>i then j else i)):=rfl
@[simp] theorem gInt1_b(c:Bool):BQ [.bl c]=aA (.int (if c then 1 else 0)):=rfl
@[simp] theorem gInt1_i(c:Int):BQ [.int c]=aA (.int c):=rfl
@[simp] theorem gInst_ii(i:Int):RL [.int i,.ty "int"]=aA (.bl aC):=rfl
@[simp] theorem gInst_ib(i:Int):RL [.int i,.ty "bool"]=aA (.bl aB):=rfl
@[simp] theorem gInst_tt(l:List PV):RL [.tup l,.ty "tuple"]=aA (.bl aC):=rfl
@[simp] theorem gInst_ll(l:List PV):RL [.lst l,.ty "list"]=aA (.bl aC):=rfl
theorem Ig(n:Nat)(i j:Int):U3 (n+1) (.int i) (.int j)=aC:=rfl
theorem RM{d c:Type}{f:d->PV}{g:c->PV}{p:PV->PV->Bool}(h:∀a b,p (f a) (g b)=aC):∀(l:List d)(m:List c),((l.map f).zip (m.map g)).all (λz=>p z.1 z.2)=aC
 | [],_=>by simp
 | _::_,[]=>by simp
 | a::l,b::m=>by rw[cM,cM,lC,jW,RM h l m,h a b];rfl
theorem Cm(n:Nat)(l m:List Int):U3 (n+2) (pP l) (pP m)=aC:=RM (λa b=>Ig n a b) l m
theorem Zap{l m:List Int}:iL l=iL m↔l=m:=by
 constructor
 ·intro h;exact(List.map_inj_right (λa b e=>PV.int.inj e)).mp h
 ·intro h;rw[h]
theorem Zaq{l m:List Int}:pP l=pP m↔l=m:=by rw[PV.tup.injEq];exact Zap
@[simp] theorem Ul(neg:Bool)(i j:Int):XZ neg (.int i) (.int j)=aA (.bl (if neg then !decide (i=j) else decide (i=j))):=by
 unfold XZ;rw[nZ (Ig 7 i j)];congr 2;cases neg<;>simp
@[simp] theorem FR(neg:Bool)(l m:List Int):XZ neg (.tup (l.map PV.int)) (.tup (m.map PV.int))=aA (.bl (if neg then !decide (l=m) else decide (l=m))):=by unfold XZ;rw[nZ (Cm 6 l m)];have:decide ((PV.tup (l.map PV.int)) = .tup (m.map PV.int))=decide (l=m):=decide_eq_decide.mpr Zaq;rw[this]
theorem OW{f:Type}{T:Tgt}{d:XT}{e:XE}{c:ZE}{q g:f->PV}:∀{ls:List f},(∀a∈ls,∃s1,Xj T (q a) c=aA s1/\d s1=aA aC/\e s1=aA (g a))->WV T d e c (ls.map q)=aA (ls.map g)
 | [],_=>rfl
 | a::r,h=>by obtain⟨s1,m,i,k⟩:=h a af;have j:=OW (ls:=r) λb l=>h b (aW _ l);rw[cM,cM];unfold WV;rw[m];simp only[aT,i,if_true,k,j,eD]
theorem T5{d:Type}{T:Tgt}{i:XT}{j:XE}{f:ZE}{q g:d->PV}{c:d->Bool}:∀{ls:List d},(∀a∈ls,∃s1,Xj T (q a) f=aA s1/\i s1=aA (c a)/\(c a=aC->j s1=aA (g a)))->WV T i j f (ls.map q)=aA ((ls.filter c).map g)
 | [],_=>rfl
 | a::r,h=>by
  obtain⟨s1,n,k,l⟩:=h a af;have e:=T5 (ls:=r) λb m=>h b (aW _ m);rw[cM];unfold WV;rw[n];simp only[aT,k]
  cases hc:c a with
  | true=>simp[l hc,e,hc]
  | false=>simp[e,hc]
theorem ZZ{f:Type}{n:Nat}{ix:List Nat}{c:XL}{T:Tgt}{d:XT}{e:XE}{s:ZE}(ls:List f)(q g:f->PV)(b:c s=aA (ls.map q))(i:ls.length<=10000)
  (h:∀a∈ls,∃s1,Xj T (q a) (ZQ n ix s)=aA s1/\d s1=aA aC/\e s1=aA (g a)):Zu n ix c T d e s=aA (.lst (ls.map g)):=by
 unfold Zu;rw[b];simp only[aT,aP,nZ i,OW h,eD]
theorem VF{d:Type}{n:Nat}{ix:List Nat}{e:XL}{T:Tgt}{f:XT}{i:XE}{s:ZE}(ls:List d)(q g:d->PV)(c:d->Bool)(b:e s=aA (ls.map q))(j:ls.length<=10000)
  (h:∀a∈ls,∃s1,Xj T (q a) (ZQ n ix s)=aA s1/\f s1=aA (c a)/\(c a=aC->i s1=aA (g a))):Zu n ix e T f i s=aA (.lst ((ls.filter c).map g)):=by
 unfold Zu;rw[b];simp only[aT,aP,nZ j,T5 h,eD]
theorem WB{T:Tgt}{fb:XS}:∀{ls:List PV}{s:ZE}(Jv:Nat->ZE->Prop),Jv 0 s->(∀(i:Nat) l st,ls[i]?=aA l->Jv i st->∃s1 s2,Xj T l st=aA s1/\fb s1=aA (.nx s2)/\Jv (i+1) s2)->
  ∃f,V9 T fb ls s=aA (.nx f)/\Jv ls.length f
 | [],s,Jv,h0,_=>⟨s,rfl,h0⟩
 | l::r,s,Jv,h0,h=>by obtain⟨s1,s2,a,b,c⟩:=h 0 l s rfl h0;obtain⟨f,d,e⟩:=WB (ls:=r) (s:=s2) (λi=>Jv (i+1)) c λi l' st j g=>h (i+1) l' st (by simpa using j) g;refine⟨f,?_,e⟩;unfold V9;rw[a];simp only[aT,b];exact d
theorem Um{n i:Nat}{l:PV}(h:(TX n)[i]?=aA l):i<n/\l = .int (i:Int):=by have a:=(aS.mp h).1;unfold TX at a h;rw[aP,cL] at a;rw[aZ,bO a] at h;exact⟨a,(ay h).symm⟩
theorem Lo{lo:Int}{n i:Nat}{l:PV}(h:(Tg lo n)[i]?=aA l):i<n/\l = .int (lo+(i:Int)):=by have a:=(aS.mp h).1;unfold Tg at a h;rw[aP,cL] at a;rw[aZ,bO a] at h;exact⟨a,(ay h).symm⟩
@[simp] theorem QV(n:Nat):(TX n).length=n:=by unfold TX;simp
@[simp] theorem Lp(lo:Int)(n:Nat):(Tg lo n).length=n:=by unfold Tg;simp
@[simp] theorem bindT_one(i:Nat)(l:PV)(s:ZE):Xj (.one i) l s=aA (s.set i (aA l)):=rfl
theorem HI(i j:Nat)(a b:PV)(s:ZE):Xj (.many [i,j]) (.tup [a,b]) s=aA ((s.set i (aA a)).set j (aA b)):=rfl
theorem WX(m:List PV):WU m=(aM m.length).map λ(i:Nat)=>.tup [.int (i:Int),m.getD i .non]:=by
 apply dR;intro i;rw[aZ];by_cases h:i<m.length
 ·have:(WU m)[i]?=aA (.tup [.int (i:Int),m[i]]):=by unfold WU;simp
  rw[this,bO h];simp[aL h]
 ·rw[bb (by rw[OR];omega),bb (by simpa using h)];rfl
theorem YL(m n:List PV)(h:n.length=m.length):Vi m n=(aM m.length).map λ(i:Nat)=>.tup [m.getD i .non,n.getD i .non]:=by
 apply dR;intro i;rw[aZ];by_cases a:i<m.length
 ·have:(Vi m n)[i]?=aA (.tup [m[i],n[i]]):=by unfold Vi;rw[aZ,jJ (z:=(m[i],n[i])) |>.mpr ⟨aL a,aL (by omega)⟩];rfl
  rw[this,bO a];simp[aL a,aL (show i<n.length by omega)]
 ·rw[bb (by rw[Lg];omega),bb (by simpa using a)];rfl
theorem Yu(l:List Int)(i:Nat)(h:i<l.length):(iL l).getD i .non = .int (Zp l i):=by rw[aJ,QT h];rfl
@[simp] theorem Cn(f:XE)(s:ZE):ZX [f] s=(f s).bind λa=>(GX a).bind λj=>if -1000000<=j/\j<=1000000 then aA (TX j.toNat) else none:=by
 unfold ZX
 cases h:f s with
 | none=>simp[h]
 | some a=>cases a<;>simp[h,GX]
@[simp] theorem Co(f g:XE)(s:ZE):Vh [f,g] s=(f s).bind λa=>(g s).bind λb=>(GX a).bind λi=>(GX b).bind λj=>if -1000000<=i/\i<=1000000/\-1000000<=j/\j<=1000000 then aA (Tg i (j-i).toNat) else none:=by
 unfold Vh
 cases h:f s with
 | none=>simp[h]
 | some a=>cases h2:g s with
  | none=>simp[h,h2]
  | some b=>cases a<;>cases b<;>simp[h,h2,GX]
@[simp] theorem T6(i:Int):GX (.int i)=aA i:=rfl
@[simp] theorem Cp(i:List PV):asL (.lst i)=aA i:=rfl
@[simp] theorem xEnum_def(b:Bool)(f:XE)(s:ZE):Xs b [f] s=(f s).bind λl=>(seqB b l).map WU:=by
 unfold Xs;cases h:f s<;>simp[h]
@[simp] theorem QX(b1 b2:Bool)(f g:XE)(s:ZE):U4 b1 b2 [f,g] s=(f s).bind λl=>(g s).bind λr=>(seqB b1 l).bind λm=>(seqB b2 r).map λn=>Vi m n:=by
 unfold U4;cases h:f s<;>cases h2:g s<;>simp[h,h2]
@[simp] theorem seqB_f(l:List PV):seqB aB (.tup l)=aA l:=rfl
@[simp] theorem seqB_t(l:List PV):seqB aC (.lst l)=aA l:=rfl
@[simp] theorem seqB_c(l:List PV):seqB aC (.cst l)=aA l:=rfl
@[simp] theorem xLst_def(f:XE)(s:ZE):Vy f s=(f s).bind asS:=rfl
@[simp] theorem asS_l(l:List PV):asS (.lst l)=aA l:=rfl
@[simp] theorem asS_c(l:List PV):asS (.cst l)=aA l:=rfl
theorem QY{f:XE}{s:ZE}{l:List PV}(h:f s=aA (.tup l)):TV f s=aA l:=by unfold TV;rw[h]
@[simp] theorem sFor_def(O:List Nat)(fi:XL)(T:Tgt)(fb:XS)(s:ZE):Y6 O fi T fb s=(fi (Ym O s)).bind λls=>V9 T fb ls s:=rfl
@[simp] theorem xTrue_def(s:ZE):Zy s=aA aC:=rfl
theorem Z6{f:XE}{s:ZE}{n:Nat}(h:f s=aA (.int (n:Int)))(a:n<=10000):ZX [f] s=aA (TX n):=by rw[Cn,h];simp only[aT,T6];rw[nZ ⟨by omega,by omega⟩,gF]
theorem UU{f g:XE}{s:ZE}{i j:Int}(h:f s=aA (.int i))(h':g s=aA (.int j))(b : -10000<=i/\i<=10000)(a : -10000<=j/\j<=10000):Vh [f,g] s=aA (Tg i (j-i).toNat):=by rw[Co,h,h'];simp only[aT,T6];rw[nZ ⟨by omega,by omega,by omega,by omega⟩]
theorem KQ{i j:Int}(a : -10000<=i)(h:i<=10000):CMul i j:=by
 refine .inl ?_;have e:(2^64:Int)=18446744073709551616:=by decide
 rw[e];omega
theorem Qa{c:Bool}(h:c=aC):gd c=aA ():=by unfold gd;rw[nZ h]
theorem Ti{i:Nat}{f:XE}{s:ZE}{m:List PV}{l:PV}(h:f s=aA l)(a:Ib s i=aA m)(b:m.length<=10000):XI i f s=aA (.nx (s.set i (aA (.lst (m++[l]))))):=by unfold XI;rw[h];simp only[aT,a,Qa (decide_eq_true b)]
theorem QZ{i:Nat}{a f:XE}{s:ZE}{m:List PV}{l:PV}{k:Int}(e:a s=aA (.int k))(h:f s=aA l)(b:Ib s i=aA m)(g:ZK m=aC)(o:Z5 l=aC)(n:0<=k)(d:k<=1000000)(j:m.length<=10000) :
  VC i a f s=aA (.nx (s.set i (aA (.lst (m.take k.toNat++l::m.drop k.toNat))))):=by
 unfold VC;rw[e,h];have c:(ZK m&&Z5 l&&decide (0<=k/\k<=1000000/\m.length<=10000))=aC:=by rw[g,o,decide_eq_true ⟨n,d,j⟩];rfl
 simp only[aT,T6,b,Qa c]
theorem OX{i:Nat}{a f:XE}{s:ZE}{m:List PV}{l:PV}{k:Int}{j:Nat}(h:f s=aA l)(e:a s=aA (.int k))(d:Ib s i=aA m)(g:ZK m=aC)(n:Z5 l=aC)(b:Nj m.length k=aA j) :
  X1 i a f s=aA (.nx (s.set i (aA (.lst (m.set j l))))):=by
 unfold X1;rw[e,h];have c:(ZK m&&Z5 l)=aC:=by rw[g,n];rfl
 simp only[aT,T6,d,Qa c,b,eD]
theorem Q0{i:Nat}{d fb f:XE}{s:ZE}{m n:List PV}{l:PV}{a b:Int}{j c:Nat}(h:f s=aA l)(e:d s=aA (.int a))(p:fb s=aA (.int b))(k:Ib s i=aA m)(g:Nj m.length a=aA j)(t:m[j]?=aA (.lst n))(o:ZK n=aC)(u:Z5 l=aC)(r:Nj n.length b=aA c) :
  VD i d fb f s=aA (.nx (s.set i (aA (.lst (m.set j (.lst (n.set c l))))))):=by
 unfold VD;rw[h,e,p];have q:(ZK n&&Z5 l)=aC:=by rw[o,u];rfl
 simp only[aT,T6,Cp,k,g,t,Qa q,r,eD]
theorem UW{n k:Nat}(h:k<n):Nj n (k:Int)=aA k:=by unfold Nj;rw[nZ (by omega),nZ (by omega)];rfl
@[simp] theorem FT{i j:Int}(h : -(2^64)<i/\i<2^64):CMul i j:=.inl h
end VL
namespace VL
open PySem PySem.Spec PyProof.Rows L2
variable {K:aD}
noncomputable def BV(K:aD):R2:=λx y H Q=>∃a b xs ys,x = .ref a/\y = .ref b/\SqT K H a xs/\SqT K H b ys/\xs.length+ys.length<=sizeLine/\
 (xs=[]->Q (.ref b) H)/\(ys=[]->Q (.ref a) H)/\∀p,H p=none->Q (.ref p) (upd H p (.tup (xs++ys)))
theorem Qb{X:Cx}:TC X (eJ .Add) (BV X.K):=by
 intro R s P H x y v u Q I p l h;obtain⟨a,b,r,B,rfl,rfl,m,q,E,F,N,w⟩:=h;by_cases i:r=[]
 ·cases p;cases l;obtain⟨A,M,D,_⟩:=I.tuple m;obtain⟨c,O,p2,_⟩:=I.tuple q;obtain⟨⟨J,dd,o,G⟩,t,L,n,z⟩:=id D;obtain⟨⟨k,j,data2,g⟩,d,f,C,e⟩:=id p2;subst L z f e
  exact l9 ⟨_,t,rfl⟩ ⟨_,d,rfl⟩ jb kh gz gm (gW _ _)
   (tuple_addW0 a b A.toArray c.toArray n C dd j G g (by simp[M.nil_iff.mpr i])) ⟨t,d,.ref b,H,I,rfl,F i⟩
 ·exact DS _ _ _ _ _ _ _ _ _ I p l ⟨a,b,r,B,rfl,rfl,m,q,i,E,N,λ_=>w⟩
noncomputable def Q1:PV->PV->Option PV
 | .tup m,.tup n=>if m.length+n.length<=10000 then aA (.tup (m++n)) else none
 | _,_=>none
theorem Qc:RB K (BV K) Q1:=λH x y a b l i fb h j e Q k=>by
 cases a with
 | tup m=>cases b with
  | tup n=>
   have e:(if m.length+n.length<=10000 then aA (PV.tup (m++n)) else none)=aA l:=e;split at e
   case isFalse=>cases e
   rename_i t;cases e;obtain⟨p,w,rfl,v,f⟩:=h.tup_inv;obtain⟨s,u,rfl,g,c⟩:=j.tup_inv;refine⟨p,s,w,u,rfl,rfl,SqT.of v,SqT.of g,by rw[f.len,c.len];exact dA (lt_size t),λz=>?_,λz=>?_,λq o=>?_⟩
   ·have:=gp.mp (by rw[<-f.len,z];rfl);subst this;exact k _ _ fb (Same.refl _) j λr d=>.inr (.inl d)
   ·have:=gp.mp (by rw[<-c.len,z];rfl);subst this;rw[cS] at k;exact k _ _ i (Same.refl _) h λr d=>.inl d
   ·exact k _ _ (i++fb) (Same.new o _) (Is.tup Zs ((f.append c).mono (Same.new o _))) λr d=>(cB.mp d).elim .inl λz=>.inr (.inl z)
  | _=>cases e
 | _=>cases e
end VL
namespace VL
open PySem
open PySem.Sem (wp)
open PySem.Builtin
theorem SR:fillsNumberSlot (.type "tuple") "mul" = pure aB:=rfl
theorem NO:seqRepeat? (.type "tuple")=pure (aA (.builtin "tuple.__mul__")):=rfl
theorem Q2(a:Int)(t:Tok)(l:aH)(b:Array aE)(n:Nat)(dd:Option aH)(c:Array (Option aE)) :
  Meets (jq.«int.__rmul__» ⟨[.int a t,.ref l],[]⟩) (λ_ R s=>s.heap.get? l=aA { cls:=.type "tuple",dict:=dd,data:=.seq b n,slots:=c }/\R (.ok (.ret aE.notImplemented)) s):=
 .of_wp λprog w A R s h=>by obtain⟨f,g,d,tk,os⟩:=s;obtain⟨e,h⟩:=h;wp_walk;exact⟨_,rfl,h⟩
theorem Q4(l:aH)(a:Array aE)(n:Nat)(dd:Option aH)(o:Array (Option aE))(x:Int)(u:Tok)(v:1<x)(q:x<2^63)(c:a.isEmpty=aB)(m:a.size*x.toNat<=sizeLine)
  (b:Array aE) (f:kz (λk i=>k++i) #[] (aY x.toNat a)=b) (t:b.size<=sizeLine) :
  Meets (jq.«tuple.__mul__» ⟨[.ref l,.int x u],[]⟩) (λ_ R s=>s.heap.get? l=aA { cls:=.type "tuple",dict:=dd,data:=.seq a n,slots:=o }/\R (.ok (.ret (cJ s.heap.objs.size))) { s with heap:=s.heap.push { cls:=ji "tuple",data:=Data.seq b },toks:=s.toks }):=
 .of_wp λprog w A R s h=>by
  obtain⟨r,g,d,tk,os⟩:=s;obtain⟨p,h⟩:=h;have e:a.size*x.toNat<=2^40:=by rw[jP] at m;omega
  have j:(a.size:Int)*x=((a.size*x.toNat:Nat):Int):=by rw[kC,Int.toNat_of_nonneg (by omega)]
  wp_walk
  refine gg (by simp;omega) ?_
  wp_walk
  refine gg (by simp[c];omega) ?_
  wp_walk
  refine gg (by simp[c];omega) ?_
  wp_walk
  refine gg (decide_eq_false (by omega)) ?_
  wp_walk
  refine gg (decide_eq_false (by rw[j];unfold Tuple.tupleTooMany;simp only[decide_eq_true_eq];omega)) ?_
  wp_walk
  rw[f];exact⟨_,rfl,h⟩
theorem Oj(l:aH)(a:Array aE)(n:Nat)(dd:Option aH)(b:Array (Option aE))(u:Tok) :
  Meets (jq.«tuple.__mul__» ⟨[.ref l,.int 1 u],[]⟩) (λ_ R s=>s.heap.get? l=aA { cls:=.type "tuple",dict:=dd,data:=.seq a n,slots:=b }/\R (.ok (.ret (cJ l))) s):=
 .of_wp λprog w A R s h=>by
  obtain⟨e,g,d,tk,os⟩:=s;obtain⟨c,h⟩:=h
  wp_walk
  exact⟨_,rfl,h⟩
end VL
namespace VL
open PySem PySem.Spec PyProof.Rows L2
noncomputable def BW(K:aD):R2:=λx y H Q=>∃a k xs,x = .ref a/\y = .int k/\SqT K H a xs/\xs≠[]/\1<=k/\k<2^62/\xs.length*k.toNat<=sizeLine/\
 (k=1->Q (.ref a) H)/\∀p,H p=none->Q (.ref p) (upd H p (.tup (aY k.toNat xs).flatten))
theorem Ih{X:Cx}:TC X (eJ .Mult) (BW X.K):=by
 intro T s S H x y v u Q I G p h;obtain⟨a,k,U,rfl,rfl,r,E,Y,R,f,P,w⟩:=h;cases G;obtain⟨t,rfl⟩:=p;obtain⟨c,j,L,_⟩:=I.tuple r;obtain⟨⟨M,dd,m,g⟩,d,N,n,z⟩:=id L;subst N z;have l:=j.length
 refine jH rfl ⟨_,d,rfl⟩ (λC=>jn C k t) SR F.fills_int_mul F.slot_int_rmul NO F.slot_int_index.lookup
  (gj F.slot_int_rmul (jn s k t) F.entry_int_rmul (F.args_int_rmul_2 _ _) (Q2 k t a c.toArray n dd g) ⟨d,rfl,⟨_,d,rfl⟩,?_⟩)
 by_cases A:k=1
 ·subst A;exact gj F.slot_tuple_mul ⟨_,d,rfl⟩ F.entry_tuple_mul (F.args_tuple_mul_2 _ _) (Oj a c.toArray n dd g t) ⟨d,.ref a,H,I,rfl,P rfl⟩
 ·have i:c.toArray.isEmpty=aB:=by
   cases c with
   | nil=>exact absurd (j.nil_iff.mp rfl) E
   | cons _ _=>rfl
  have B:kz (λJ D=>J++D) #[] (aY k.toNat c.toArray)=(aY k.toNat c).flatten.toArray:=by have:=Sv c k.toNat [];exact this
  have O:(aY k.toNat c).flatten.length<=sizeLine:=by rw[Nn,fL,<-l];exact f
  refine gj F.slot_tuple_mul ⟨_,d,rfl⟩ F.entry_tuple_mul (F.args_tuple_mul_2 _ _) (Q4 a c.toArray n dd g k t (by omega) (by omega) i (by rw[aR,<-l];exact f) _ B (by rw[aR];exact O)) ⟨d,?_⟩;refine⟨.ref s.heap.objs.size,_,I.laid (λb W q=>aG _ q) (aN _) ?_,rfl,w _ (I.hok.fresh (aN _))⟩;exact⟨⟨by rw[Nn,fL];exact f,λo e=>Qq e⟩,_,j.rep k.toNat,mJ _ _⟩
noncomputable def OY:PV->PV->Option PV
 | .tup m,.int k=>if ZK m=aC/\m≠[]/\1<=k/\k<=1000000/\m.length*k.toNat<=10000 then aA (.tup (aY k.toNat m).flatten) else none
 | _,_=>none
theorem Ii{K:aD}:RB K (BW K) OY:=λH x y a b l i fb g o e Q k=>by
 cases a with
 | tup m=>cases b with
  | int n=>
   unfold OY at e;simp only at e;split at e
   case isFalse=>cases e
   rename_i c;cases e;obtain⟨p,s,rfl,j,f⟩:=g.tup_inv;refine⟨p,n,s,rfl,o.int_inv.1,SqT.of j,λz=>c.2.1 (gp.mp (by rw[<-f.len,z];rfl)),c.2.2.1,by omega,by rw[f.len];exact dA (lt_size c.2.2.2.2),λz=>?_,λq h=>?_⟩
   ·subst z;have t:(aY (Int.toNat 1) m).flatten=m:=by simp
    rw[t] at k;exact k _ _ i (Same.refl _) g λr d=>.inl d
   ·exact k _ _ [] (Same.new h _) (Is.tup Zs ((Iss.rep (f.pureEq c.1) n.toNat).mono (Same.new h _))) λr d=>by simp at d
  | _=>cases e
 | _=>cases e
end VL
namespace PW
open PySem L2 VL
noncomputable def OZ:XS:=(ZM (eP (Zc Vw [Zi ZJ (Za 0) (Za 1)])))
noncomputable def UX:List PV->Option PV:=Yy 2 OZ
noncomputable def Ij:XS:=(ZM (eP (Zc Vw [Za 0])))
noncomputable def YF:List PV->Option PV:=Yy 1 Ij
noncomputable def FU:XS:=(ZM (eP (Zc Vw [Zu 2 [1,2] (Xs aB [Zi ZJ (Za 0) (Za 2)]) (.many [0,1]) Zy (Zi WA (Za 1) (Zi Y5 (Zi ZJ (Za 2) (Za 0)) (Zi ZJ (Za 2) (Za 3))))])))
noncomputable def Q5:List PV->Option PV:=Yy 3 FU
noncomputable def BX:XS:=(ZM (eP (Zc ZN [Zu 2 [0,2] (Xs aB [Za 1]) (.many [0,1]) Zy (Zi Yb (Za 1) (Zc Q5 [Za 2,Za 3,Za 0]))])))
noncomputable def U9:List PV->Option PV:=Yy 3 BX
noncomputable def FV:XS:=(ZM (eP (Zc ZN [Zu 2 [] (U4 aB aB [Za 0,Za 1]) (.many [0,1]) Zy (Zi Yb (Za 0) (Za 1))])))
noncomputable def Tj:List PV->Option PV:=Yy 2 FV
noncomputable def Ik:XS:=(ZM (eP (Zc ZN [Zu 2 [] (U4 aB aB [Za 0,Za 1]) (.many [0,1]) Zy (Zi Y5 (Za 0) (Za 1))])))
noncomputable def UY:List PV->Option PV:=Yy 2 Ik
noncomputable def O0:XS:=(ZM (eP (RS (Zc RL [Za 0,eC (.ty "int")]) (HA (Zc RL [Za 0,eC (.ty "bool")])))))
noncomputable def Vl:List PV->Option PV:=Yy 1 O0
end PW
set_option maxHeartbeats 1000000
namespace VL
open PySem PySem.Spec PyProof.Rows L2
noncomputable def xSq(f:XE):XL:=λs=>match Vy f s with
 | some m=>aA m
 | none=>TV f s
theorem Zc7{f:XE}{s:ZE}{l:List PV}(q:f s=aA (.lst l)):xSq f s=aA l:=by unfold xSq Vy;rw[q];rfl
noncomputable def X2:List Int->Int
 | []=>0
 | [x]=>x
 | x::y::r=>if X2 (y::r)<x then X2 (y::r) else x
theorem SS:∀{l:List Int},l≠[]->X2 l∈l/\∀x∈l,X2 l<=x
 | [],h=>absurd rfl h
 | [x],_=>by simp[X2]
 | x::y::r,_=>by
  obtain⟨a,b⟩:=SS (l:=y::r) (by simp);unfold X2;split
  ·rename_i h;refine⟨aW _ a,λz c=>?_⟩;rcases aa.mp c with rfl | c
   ·omega
   ·exact b z c
  ·rename_i h;refine⟨by simp,λz c=>?_⟩;rcases aa.mp c with rfl | c
   ·omega
   ·have:=b z c;omega
theorem Il{l:List Int}{m:Int}(h:m∈l)(g:∀x∈l,m<=x):X2 l=m:=by obtain⟨a,b⟩:=SS (l:=l) (by intro z;subst z;simp at h);have:=b m h;have:=g _ a;omega
theorem Q6(c:Nat->Int):∀k,argBest (λi j=>decide (c i<c j)) k<=k/\∀j,j<=k->c (argBest (λi j=>decide (c i<c j)) k)<=c j
 | 0=>⟨aN _,λj d=>by rw[Nat.le_zero.mp d];exact fY _⟩
 | k+1=>by
  obtain⟨a,b⟩:=Q6 c k;unfold argBest;split
  ·rename_i h;have h:=of_decide_eq_true h;refine⟨aN _,λj d=>?_⟩;by_cases e:j=k+1
   ·subst e;exact fY _
   ·have:=b j (by omega);omega
  ·rename_i h;have h:¬_:=λz=>h (decide_eq_true z);refine⟨by omega,λj d=>?_⟩;by_cases e:j=k+1
   ·subst e;omega
   ·exact b j (by omega)
noncomputable def FX(f:List Int->Int)(K:aD):List V->Hp->VK->Prop:=λxs H Q=>∃(b:Bool) (p:aH) (ns:List Int),xs=[.ref p]/\ns≠[]/\R3 b K H p (ns.map V.int)/\Q (.int (f ns)) H
section
variable {X:Cx}
theorem HJ(R:X.calm=aC):Xr X (.builtin "min") (FX X2 X.K):=by
 intro U s T H Y Z Q I r h;obtain⟨b,p,a,rfl,y,S,q⟩:=h;obtain⟨u,rfl,O⟩:=TF r;cases O;obtain⟨n,B,d,W⟩:=I.seqB S;have z:=let⟨_,e⟩:=d.has;aQ e;have m:=B.length;rw[aP] at m;have w:=fS.mpr y
 have f:∀(i:Nat)(v:aE),n.toArray[i]?=aA v->∃t,v=k7 (a.getD i 0) t:=λi v l=>by
  have l:n[i]?=aA v:=by simpa using l
  have G:i<a.length:=by rw[m];exact(aS.mp l).1
  obtain⟨u,C,J⟩:=B.get (i:=i) (x:=.int a[i]) (by simp);rw[l] at C;cases C;obtain⟨t,rfl⟩:=J;refine⟨t,?_⟩;rw[aJ,aL G];rfl
 refine call_min_walk (Yj d ?_);refine⟨_,_,_,_,_,_,λi j=>decide (a.getD i 0<a.getD j 0),rfl,Walks.seqB (A:=X.A.in1) b (I.ok.hd R) s.heap.objs.size p (ar z) n.toArray,⟨IterB.new (ag _ rfl),d.at λo e=>aG _ e⟩,λc k=>?_,by rw[aR,<-m];exact w,CmpOf.ints_lt (λi=>a.getD i 0) f,λv h' tk l F=>?_⟩
 ·show c<(s.heap.push _).objs.size;rw[cT];rcases aa.mp k with rfl | k
  ·exact iP _
  ·rw[ah.mp k];exact lj z
 ·obtain⟨t,rfl⟩:=f _ _ l;obtain⟨E,D⟩:=Q6 (λi=>a.getD i 0) (n.toArray.size-1);rw[aR,<-m] at E D
  have e:X2 a=a.getD (argBest (λi j=>decide (a.getD i 0<a.getD j 0)) (n.toArray.size-1)) 0:=by
   rw[aR,<-m];refine Il ?_ λx N=>?_
   ·rw[aJ,aL (by omega)];exact eT _
   ·obtain⟨j,L,P⟩:=gS N;have:=D j (by omega);rw[aJ (i:=j),aL L,P] at this;exact this
  refine⟨.int (X2 a),H,I.kept (λc o g=>F c o ?_ (aG _ g)),⟨t,by rw[e]⟩,q⟩;intro M;rw[ah.mp M] at g;exact absurd (aQ g) (cK _)
end
noncomputable def Im(f:List Int->Int):List PV->Option PV
 | [l]=>(SI l).bind λm=>(Xh m).bind λns=>if ns=[] then none else aA (.int (f ns))
 | _=>none
abbrev BY:List PV->Option PV:=Im X2
theorem Cq{K:aD}(f:List Int->Int):RC K (FX f K) (Im f):=λH vs ls l t h e Q k=>by
 unfold Im at e;split at e
 ·obtain⟨m,s,j⟩:=Zf e;obtain⟨g,o,c⟩:=Zf j;split at c
  ·cases c
  ·rename_i d;cases c;obtain⟨v,rfl,i⟩:=h.one_inv;obtain⟨p,u,w,rfl,a,n,hs⟩:=WT i s;have r:=Y9 o;subst r;obtain⟨rfl,rfl⟩:=n.iL;obtain⟨b,q⟩:=NC a;exact⟨b,p,g,rfl,d,q,k _ H [] (Same.refl H) (Is.int _) λp a=>by simp at a⟩
 ·cases e
theorem Cs{K:aD}:RC K (FX X2 K) BY:=Cq X2
theorem Ct(f:List Int->Int){l:List Int}(h:l≠[]):Im f [pP l]=aA (.int (f l)):=by show(Xh (iL l)).bind _=_;rw[Y8];simp only[aT];rw[ng h]
noncomputable def Q7:XS:=λ_=>none
theorem Lq{X:Cx}{O W:List Nat}{st:bS}:VS X O W st Q7:=by intro b s a H D I h;obtain⟨_,_,_,_,_,q,_⟩:=h;cases q
variable {K:aD}
noncomputable def spC(K:aD)(D:List PV->Option PV)(n:Nat):Sp:=λvs H Q _=>vs.length=n/\∃v0 vr l0 ls fp0 l',vs=v0::vr/\Is K H l0 v0 fp0/\fp0.Nodup/\(∀p∈fp0,U2 (H p))/\Iss K H ls vr []/\D (l0::ls)=aA l'/\
 ∀H' fq,Same (V8 H (·∈fp0)) H'->Is K H' l' v0 fq->fq.Nodup->(∀p∈fq,V8 H (·∈fp0) p=none/\U2 (H' p))->Q .non H'
noncomputable def Zas(K:aD)(O W:List Nat)(H0:Hp)(fps:Nat->List aH)(σ:Sq)(D:YH):MP->Prop
 | .nx s'=>∀nU σ' H',Rel K O H0 nU s' σ' H'->σ'[0]?=σ[0]?->D.nx σ' H'
 | _=>True
noncomputable def Zat(K:aD)(O W:List Nat)(f:XS):TS:=λD σ H=>∃H0 fps s s',Rel K O H0 fps s σ H/\f s=aA (.nx s')/\Zas K O W H0 fps σ D (.nx s')
noncomputable def VS0(X:Cx)(O W:List Nat)(st:bS)(f:XS):Prop:=PS X st (Zat X.K O W f)
noncomputable def Cu(X:Cx)(O W:List Nat)(st:List bS)(f:XS):Prop:=PSs X st (Zat X.K O W f)
section
variable {X:Cx} {O W W1 W2:List Nat} {st:bS} {n8:List bS} {f g:XS} {pos:fD}
theorem VS.vs0(h:VS X O W st f)(i:0∉W:=by decide):VS0 X O W st f:=PS.imp h λD l H ⟨d,fps,s,j,r,e,k⟩=>⟨d,fps,s,.nx j,r,e,λb a c g q=>k b a c g (q 0 i).1⟩
theorem FY(h:VS0 X O W st f):Cu X O W [st] f:=R0 h
theorem O1(v:VS0 X O W1 st f)(h:Cu X O W2 n8 g):Cu X O (W1++W2) (st::n8) (Zm f g):=PSs.imp (Tz v h) λD w H ⟨c,fps,s,j,r,e,k⟩=>by
 obtain⟨m,q,e⟩:=Zf e
 cases m with
 | nx s1=>exact⟨c,fps,s,s1,r,q,λa d x t u=>⟨c,a,s1,j,t,e,λp b n i o=>k p b n i (o.trans u)⟩⟩
 | bk s1=>cases e
 | ct s1=>cases e
 | rt l=>cases e
theorem Q8{fe T fb:XE}(h:PS X st (Kk (tF X.K fe) (Az (tOp (AQ X.K) (Tx 0) (tF X.K T)) (tF X.K fb) Fh)))(v:0∈O:=by decide):VS0 X O [0] st (VD 0 T fb fe):=PS.imp h λD σ H ⟨H0,fps,s,s',r,e,k⟩=>by
 obtain⟨l,e0,e⟩:=Zf e;obtain⟨a,Y,e⟩:=Zf e;obtain⟨b,Z,e⟩:=Zf e;obtain⟨ai,ea,e⟩:=Zf e;obtain⟨bi,eb,e⟩:=Zf e;obtain⟨m,F,e⟩:=Zf e;obtain⟨j,ej,e⟩:=Zf e;obtain⟨ZV,Q,e⟩:=Zf e;obtain⟨n,er,e⟩:=Zf e;obtain⟨_,eg,e⟩:=Zf e;rw[T1 ea] at Y;rw[T1 eb] at Z;rw[FI er] at Q;have F:=TZ F;have S:=R6 eg;simp only[bX] at S;obtain⟨M,pl⟩:=S;obtain⟨c,ec,e⟩:=map_some e;cases e;obtain⟨p,xs,fq,R,hp,N,A⟩:=r.lst_at v F;refine⟨λ_=>False,s,l,λ_ z=>z.elim,r.env,e0,λy H1 fy s1 i1 _=>?_⟩;refine⟨.ref p,R,λ_=>False,s,_,λ_ z=>z.elim,r.env.mono s1,Y,λz H2 fz s2 i2 _=>?_⟩;obtain⟨rfl,_⟩:=i2.int_inv;have g:=s1.trans s2;obtain⟨q,f1,i,iq,u⟩:=(N.mono g).get Q;obtain⟨f,B,fz',rfl,L,W,rfl⟩:=id iq.lst_inv;refine⟨p,xs,ai,.ref f,rfl,rfl,SqL.of (g _ _ hp),?_,λ_=>False,s,_,λ_ z=>z.elim,r.env.mono g,Z,λw H3 fw G i3 _=>?_⟩
 ·unfold So;rw[N.len,ej];exact i
 obtain⟨rfl,_⟩:=i3.int_inv;have d:=g.trans G;have J:=r.grow d;have C:f∈fps 0:=by rw[A];exact aW _ (u f af)
 have U:=(J.own 0 v f C).2;have E:H3 f=aA (.lst B):=G _ _ L;have:=Is.pure _ _ _ pl i1;subst this;refine⟨f,B,bi,c,rfl,rfl,E,by rw[W.len];exact ec,?_⟩;have I:=r.nd 0 v;rw[A] at I;have P:f≠p:=λz=>(bY.mp I).1 (z▸u f af);have t:Iss X.K (L2.upd H3 f (.lst (B.set c y))) (n.set c l) (B.set c y) []:=Iss.tr (TK.upd' U) _ _ _ (λq i=>by simp at i) (Iss.setP c M pl ((W.mono G).pureEq M) (i1.mono (s2.trans G)));have x:=Iss.setRow (N.mono d) Q i (bY.mp I).2 U M t;refine k _ _ _ (J.mutate (o:=.lst (B.set c y)) (l':=.lst (m.set j (.lst (n.set c l)))) (fp':=p::fq) v C R (SN F) (Is.lst (by rw[L2.upd_ne (bB P)];exact d _ _ hp) x) I (λq i=>?_) (λj hj q i z=>r.dis 0 v j hj q (by rw[A];exact i) z) dZ) rfl;refine⟨(r.own 0 v q (by rw[A];exact i)).1,?_⟩;by_cases e:q=f
 ·subst e;rw[Zs];exact dZ
 ·rw[L2.upd_ne e];exact(J.own 0 v q (by rw[A];exact i)).2
end
noncomputable def Zc8:MP->Option PV
 | .nx s=>match s[0]? with | some (aA l)=>aA l | _=>none
 | _=>none
noncomputable def fnC(m:Nat)(f:XS):List PV->Option PV:=λls=>if ZK (ls.drop 1)=aC then(f (ZC m ls)).bind Zc8 else none
theorem FZ{N:List a0}{n:Nat}{W:List Nat}{f:XS}{vs:List V}{H:Hp}{Q:VK}{E:XK}(h:spC K (fnC N.length f) n vs H Q E):Zat K [0] W f { nx:=λ_ F=>Q .non F,rt:=Q } (L2.start N vs) H:=by
 obtain⟨X,y,A,l0,I,g,l',rfl,J,B,C,u,e,q⟩:=h;unfold fnC at e;split at e
 case isFalse=>cases e
 obtain⟨D,T,m⟩:=Zf e;have d:Iss K H (l0::I) (y::A) (g++[]):=Iss.cons J u;have k:=d.len;generalize o:l0::I=ls at *
 have t:∀i:Nat,ls.length<=i->∀l,(ZC N.length ls)[i]?≠aA (aA l):=λi d l z=>by
  unfold ZC at z;rw[bU (by simpa using d),bu] at z;split at z<;>cases z
 have rel:Rel K [0] (V8 H (·∈g)) (λi=>if i=0 then g else []) (ZC N.length ls) (L2.start N (y::A)) H:=by
  refine⟨OS,?_,λi a z=>?_,λi G=>?_,λi d=>?_,λi d p s=>?_,λi d j M p s=>?_⟩
  ·have Y:A.length+1=ls.length:=k;unfold ZC L2.start;simp;omega
  ·by_cases c:i<ls.length
   ·unfold ZC at z;rw[ao (by simpa using c),aZ] at z
    cases q:ls[i]? with
    | none=>rw[q] at z;cases z
    | some b=>
     rw[q] at z;cases z
     cases i with
     | zero=>
      rw[<-o] at q;simp at q;subst q;exact⟨y,by unfold L2.start;simp,by simpa using J⟩
     | succ i=>
      rw[<-o] at q;obtain⟨v,f1,O,L,U⟩:=u.get (i:=i) (a:=a) (by simpa using q);have:f1=[]:=by cases f1 with | nil=>rfl | cons x r=>exact absurd (U x af) (by simp)
      subst this;refine⟨v,?_,by simpa using L⟩;unfold L2.start;rw[ao (by rw[aP,k];exact c),aZ];simp[O]
   ·exact absurd z (t i (by omega) a)
  ·by_cases c:i<ls.length
   ·exact absurd (by unfold ZC;rw[ao (by simpa using c),aZ,aL c];rfl) (G ls[i])
   ·have:i≠0:=by rw[<-o] at c;simp at c;omega
    simp[this]
  ·simp at d;subst d;simpa using B
  ·simp at d;subst d;have s:p∈g:=by simpa using s
   exact⟨by unfold V8;rw[nZ s],C p s⟩
  ·simp at d;subst d;simp[M]
 cases D with
 | nx s'=>
  have m:(match s'[0]? with | some (aA l)=>aA l | _=>none)=aA l':=m;split at m
  case h_2=>cases m
  rename_i l es;cases m;refine⟨_,_,_,s',rel,T,λS P F w R=>?_⟩;obtain⟨v,a,b⟩:=w.is 0 _ es;rw[R] at a;have:v=y:=by unfold L2.start at a;simp at a;exact a.symm
  subst this;exact q F (S 0) w.same b (w.nd 0 (by simp)) λp s=>w.own 0 (by simp) p s
 | rt v=>cases m
 | bk s'=>cases m
 | ct s'=>cases m
section
variable {P:au} {w:bc} {mg:a0->Option aE} {base:bH}
theorem Cv{x:a0}{st:bS}{N d:List a0}{k n:Nat}{W:List Nat}(m:Nat)(f:XS)(D:Def K mg x st)(S:Zk N d (Ze st))
  (j:∀(kV doc pm:aE)(an:Option aH)(b ct:aE)(us:List aE),us.length=d.length->gv (cC x x (YE st) (ZY st) (Ze st) .none kV doc pm an b ct) ⟨us,[]⟩=pure (d.zip us))
  (l:d.length=n) (i:N.length=m)
  (c:∀(e:aH)(b:aE)(A:bQ)(a:List jN)(s:aI)(H:Hp)(E:XK),Room k (A.deeper (gi x (Ze st) s.heap.objs.size e b))->Cu (Tf OI P w K mg base N x (Ze st) e b A a s H E).nox [0] W (ZY st) f) :
  Xd P w K mg base x d (spC K (fnC m f) n) (k+1):=by
 subst i;refine D.cal S j (λvs H Q E h=>by rw[l];exact h.1) λe b A a s H vs Q E g h=>⟨_,c e b A a s H E g,FZ h⟩
end
noncomputable def Lr(i:Nat)(D:List PV->Option PV)(fs:List XE):XS:=λs=>match s[i]? with
 | some (aA l0)=>(RU fs s).bind λls=>if ZK ls=aC then(D (l0::ls)).map λl'=>.nx (s.set i (aA l')) else none
 | _=>none
theorem F0{X:Cx}{O:List Nat}{i:Nat}{st:bS}{D:List PV->Option PV}{n:Nat}{fs:List XE}(h:PS X st (MT (Fe (spC X.K D n) [] E0 (U6 (Tx i) (tFA X.K fs)))))(hn:fs.length+1=n:=by rfl)(t:i∈O:=by decide):VS X O [i] st (Lr i D fs):=PS.imp h λD' Y H ⟨H0,fps,s,out,r,e,k⟩=>by
 unfold Lr at e;split at e
 case h_2=>cases e
 rename_i l0 Q;obtain⟨ls,S,e⟩:=Zf e;split at e
 case isFalse=>cases e
 rename_i F;obtain⟨l',C,rfl⟩:=map_some e;obtain⟨E,P,T⟩:=r.is i _ Q;refine⟨E,P,λ_=>False,s,ls,λ_ z=>z.elim,r.env,S,λvs y fp s1 J _=>?_⟩;have:=Iss.pure _ _ _ F J;subst this;show spC X.K D n ((E::vs)++[]) y _ E0;rw[cS];have g:=r.grow s1;refine⟨by rw[bp,J.len,Wm S];exact hn,E,vs,l0,ls,fps i,l',rfl,T.mono s1,r.nd i t,λp A=>(g.own i t p A).2,J,C,λI B sm U M N=>?_⟩;have v:i<s.length:=SN Q;have c:∀b o,b∉fps i->y b=aA o->I b=aA o:=λb o l ho=>sm b o (by unfold V8;rw[ng l];exact ho);have tk:D7 y I:=⟨λb R l=>c b _ (λz=>by have:=(g.own i t b z).2;rw[l] at this;exact this) l,λb o R l=>c b _ (λz=>by have:=(g.own i t b z).2;rw[l] at this;exact this) l,λb o R l=>c b _ (λz=>by have:=(g.own i t b z).2;rw[l] at this;exact this) l⟩
 have x:∀p∈B,p∈fps i\/y p=none:=λp A=>by
  have:=(N p A).1;unfold V8 at this;split at this
  ·exact .inl (by assumption)
  ·exact .inr this
 have fr:∀j,j≠i->∀p∈B,p∉fps j:=λj d p A z=>by
  rcases x p A with h | h
  ·exact g.dis i t j d p h z
  ·exact g.dom j p z h
 have m:Th fps s.length i B i=B:=NI v;refine k (Th fps s.length i B) Y I ⟨λb u l=>c b u (λz=>by rw[(g.own i t b z).1] at l;cases l) (g.same b u l),by rw[cj];exact r.len,λj a e=>?_,λj h=>?_,λj d=>?_,λj d q f=>?_,λj d k' G q f=>?_⟩ Ic
 ·rw[bG] at e;by_cases d:i=j
  ·subst d;rw[nZ rfl,nZ v] at e;cases e;rw[m];exact⟨E,P,U⟩
  ·rw[ng d] at e;obtain⟨w,Z,W⟩:=g.is j a e;rw[ZR (bB d)];refine⟨w,Z,Is.tr tk _ _ _ (λq f=>RdK.of λu hu=>?_) W⟩;exact c q u (λz=>g.dis i t j (bB d) q z f) hu
 ·by_cases d:i=j
  ·subst d;exact absurd (by rw[bG,nZ rfl,nZ v]) (h l')
  ·rw[ZR (bB d)];exact r.emp j λa z=>h a (by rw[bG,ng d];exact z)
 ·by_cases e:j=i
  ·subst e;rw[m];exact M
  ·rw[ZR e];exact r.nd j d
 ·by_cases e:j=i
  ·subst e;rw[m] at f;refine⟨?_,(N q f).2⟩;rcases x q f with h | h
   ·exact(g.own j d q h).1
   ·exact Same.off g.same h
  ·rw[ZR e] at f;refine⟨(r.own j d q f).1,?_⟩;have mu:=(g.own j d q f).2;have L:q∉fps i:=λz=>g.dis j d i (bB e) q f z
   cases hh:y q with
   | none=>exact absurd hh (g.dom j q f)
   | some o=>rw[c q o L hh,<-hh];exact mu
 ·by_cases e:j=i
  ·subst e;rw[m] at f;rw[ZR G];exact fr k' G q f
  ·rw[ZR e] at f;by_cases C:k'=i
   ·subst C;rw[m];exact λz=>fr j e q z f
   ·rw[ZR C];exact r.dis j d k' G q f
end VL
namespace VL
open PySem PySem.Spec PyProof.Rows L2
variable {K:aD}
noncomputable def CMulW(i j:Int):Prop:=i.natAbs.log2<67108863/\j.natAbs.log2<67108863
noncomputable def WC(i j:Int):Prop:=j≠0/\j.natAbs.log2<9000
instance (i j:Int):Decidable (CMulW i j):=by unfold CMulW;infer_instance
instance (i j:Int):Decidable (WC i j):=by unfold WC;infer_instance
theorem Io(i:Int):gU i<=i.natAbs.log2+1:=by
 unfold gU;split
 ·exact dj _
 ·exact aN _
theorem CMulW.ok{i j:Int}(h:CMulW i j):IntMulOk i j:=by
 unfold IntMulOk jq.Int.intTooBig;have d:=Io i;have a:=Io j;have b:=h.1;have c:=h.2
 have:decide (((gU i:Int)+(gU j:Int))>(bitsLine:Int))=aB:=decide_eq_false (by
  have e:(bitsLine:Int)=134217728:=rfl;rw[e];omega)
 rw[this];simp
section
variable {X:Cx} {a b:aq} {fa fb:XE} {pos:fD}
theorem Cw:TC X (eJ .Mult) (rI CMulW λi j=>.int (i*j)):=AG λ_ _ _ _ _ _ _ a q=>mul_int q a.ok
theorem F1:TC X (eJ .FloorDiv) (rI WC λi j=>.int (i.fdiv j)):=AG λ_ _ _ _ _ _ _ a q=>floordiv_int a.1 q (.inl (PyProof.noPylong_of_log2 a.2))
abbrev Uo:=GV CMulW (· * ·)
abbrev Ta:=GV WC jB
theorem XJ(d:VE X a fa)(c:VE X b fb):VE X (.BinOp a .Mult b pos) (Zi Uo fa fb):=Wz Cw (QC _ _) d c
theorem XU(d:VE X a fa)(c:VE X b fb):VE X (.BinOp a .FloorDiv b pos) (Zi Ta fa fb):=Wz F1 (QC _ _) d c
end
theorem Q9:∀{ns:List Int}{n:Int},n∈ns->n.natAbs.log2<=jd (ns.map .int)
 | m::r,n,h=>by
  rw[cM];simp only[jd,PySem.W.WData.weight];rcases aa.mp h with rfl | h
  ·by_cases a:n=0
   ·subst a;have:Nat.log2 (Int.natAbs 0)=0:=by decide +kernel
    omega
   ·rw[ng (by simpa using a)];omega
  ·have:=Q9 h;omega
open PySem.W PySem.Calls in
theorem law_walkB{l:PySem.W.OpenLaw}{q:au}{j:List a0}{X:(a0->Option aE)->bH->Prop}{S:bc->bH->Prop}{d:DefRec}{KK:Params->aD}{x:a0}{D:List PV->Option PV}(k:Nat)(hn:l.most=aA 63)(N:d.params.defaults=[])
  (hr:Room k lh) (t:∀(w:bc)(q:a0)(c:aH),Hi q=aC->cZ (KK w.params) (.ref c) q=aC->False) (hD:∀b:List Int,b.length<=63->(∀n∈b,n.natAbs.log2<=1048576)->D [.cst (iL b)]=aA (.bl aC))
  (Z:∀(w:bc)(h:bH),S w h->(KK w.params).In h)
  (F:∀(w:bc)(m:a0->Option aE)(E:aH)(h:bH),(KK w.params).In h->h.Ns az m->m d.name=aA (.ref E)->
   ∃J:eU,(∀(s:aI)(u:aE),k9 s J ⟨[u],[]⟩ [(x,u)])/\∀base:bH,(KK w.params).In base->base.Ns az m->Te l.prog w (KK w.params) m base OI k E J [x] (YS (KK w.params) D 1)) :
  PySem.W.WalkO q j X S l.row.toRowW d [] (λf vs=>PySem.call f vs):=by
 intro w O Q m mb p yy E o pm cd doc W kv ho hd hcd y L B R T as C A hrd M hlo;obtain rfl:W = .none:=Dflts.none y N;obtain rfl:kv = .none:=Dflts.noKw y;obtain⟨a,vs,b,rfl,rfl,v,i,g⟩:=Att.script_of hn C M
 have hw:∀n∈b,n.natAbs.log2<=1048576:=λn h=>by
  have U:(WData.list (b.map mL)).layable=aC:=bA.mp A _ (ah.mpr rfl);unfold WData.layable at U;have I:=of_decide_eq_true (Bool.and_eq_true_iff.mp U).2;have G:WData.weightAll (b.map mL)<=1048576:=by simpa [WData.weight] using I
  exact aX (Q9 h) G
 have P:=Z w _ yy;obtain⟨J,hb,hF⟩:=F w m E _ P p.T.g L;refine enter_call (gx (L2.law_call (t w) P p.T.g p.T.b p.T.builtins p.T.nolimit B v i (aX g (by decide)) hr hF hb (λH hO Y=>Zaj (hD b g hw) hO Y) λH e s' z=>z) λr s' hq=>?_);obtain⟨rfl,I,G,h4⟩:=hq;exact⟨.inl ⟨.bool aC,.bool aC,[],rfl,λ_=>rfl,.bool aC,Att.post_true l _,λ_=>⟨List.Pairwise.nil,λ_ hm=>(nomatch hm)⟩⟩,I,G,h4⟩
end VL
namespace VL
open PySem PySem.Spec PyProof.Rows L2
noncomputable def F2(i:Nat)(f0:XE):XS:=λs=>(f0 s).bind λl0=>match s[i]? with
 | some (aA l)=>if Z5 l0=aC then aA (.rt (.tup [l0,l])) else none
 | _=>none
theorem F3{X:Cx}{O:List Nat}{e:aq}{i:Nat}{f:XE}{pos:fD}(h:PE X e (Zcm (U6 (tF X.K f) (U6 (Tx i) Ht))))(b:i∈O:=by decide):VS X O [] (.Return (aA e) pos) (F2 i f):=PS.imp (Kj h) λD A H ⟨y,fps,s,p,r,e,k⟩=>by
 obtain⟨l0,m,e⟩:=Zf e;split at e
 case h_2=>cases e
 rename_i l t;split at e
 case isFalse=>cases e
 rename_i n;cases e;obtain⟨v,j,g⟩:=r.is i _ t;refine⟨λ_=>False,s,l0,λ_ z=>z.elim,r.env,m,λw c f1 s1 d _=>?_⟩;have:=Is.pure _ _ _ n d;subst this;refine⟨v,j,(by show 2<=sizeLine;decide),λq x=>?_⟩;have sn:Same c (upd c q (.tup [w,v])):=Same.new x _;have a:=r.grow s1;refine k _ (fps i) _ (a.same.trans sn) (Is.tup Zs ?_) (r.nd i b) λz u=>?_
 ·have o:=Iss.cons (d.mono sn) (Iss.one ((g.mono s1).mono sn));simpa using o
 ·have:=a.own i b z u;exact⟨this.1,Same.mut sn this.2⟩
end VL
namespace PW
open PySem L2 VL
noncomputable def T7:XS:=(Zm (SM (xB (Zi Hz (Za 1) (Zc YG [Za 0]))) (ZM (eP (Zi ZJ (Za 0) (Za 1)))) Yr)
  (ZM (eP (Zi Xq (Zi WA (Zi Yb (Zi Yb (Zi WA (Za 1) (Za 1)) (Zi WA (eC (.int 3)) (Za 1))) (eC (.int 1))) (eC (.int 5003))) (eC (.int 1999))))))
noncomputable def Z3:List PV->Option PV:=Yy 2 T7
noncomputable def Pa:XS:=(Zm (Zq 3 (eP (Zi Kx (Za 0) (eC (.int 2)))))
  (Zm (SM (QE (xB (Zi (XZ aB) (Zi Xq (Za 0) (eC (.int 2))) (eC (.int 1)))) (xB (Zi M8 (Za 0) (Zi Oh (eC (.int 10)) (eC (.int 9)))))) (Zm (Y6 [] (ZX [Za 1]) (.one 4) (Zq 3 (eP (Zi Kx (Za 3) (eC (.int 1000))))))
  (ZM (eP (Zi Xq (Za 3) (Za 2))))) Yr)
  (Zm (Zq 3 (eP (Zi Yb (Zi Xq (Za 3) (eC (.int 999979))) (Zi WA (eC (.int 1009)) (Za 1)))))
  (Zm (Zq 3 (eP (Zi Xq (Zi Yb (Zi WA (Za 3) (Za 3)) (Zi WA (eC (.int 40503)) (Za 3))) (eC (.int 999983)))))
  (ZM (eP (Zi Xq (Zi Kx (Zi Xq (Zi Yb (Zi WA (Za 3) (Za 3)) (Zi WA (eC (.int 7)) (Za 1))) (eC (.int 999961))) (eC (.int 11))) (Za 2))))))))
noncomputable def Zz:List PV->Option PV:=Yy 5 Pa
noncomputable def Qd:XS:=(Zm (Zq 4 (eP (Zc Lc [eC (.int 9),Zi Yb (Zi ZJ (Zi ZJ (Za 0) (Za 1)) (Za 2)) (Za 3)])))
  (Zm (VD 0 (Za 1) (Za 2) (Za 4))
  (VD 0 (Za 2) (Za 1) (Za 4))))
noncomputable def VG:List PV->Option PV:=fnC 5 Qd
noncomputable def NP:XS:=(Zm (Zq 2 (Zc Z3 [Za 0,eC (.int 0)]))
  (Zm (Zq 3 (eP (Zi Yb (eC (.int 1)) (Zc Zz [Za 2,eC (.int 0),Za 1]))))
  (Zm (Zq 4 (Zu 1 [3] (ZX [Za 3]) (.one 0) Zy (Zi Lk (TQ [eC (.int 0)]) (Za 1))))
  (Zm (Zq 5 (TQ []))
  (Zm (Y6 [4,5] (ZX [Za 3]) (.one 6) (VC 5 (Zc Zz [Zc Z3 [Za 0,Zi Yb (eC (.int 6)) (Za 6)],eC (.int 10),Zi Yb (Za 6) (eC (.int 1))]) (Za 6)))
  (Zm (Y6 [4,5] (Vh [eC (.int 1),Za 3]) (.one 6) (Zm (Zq 7 (Zc Z3 [Za 0,Za 6]))
  (Lr 4 VG [Zi ZJ (Za 5) (Za 6),Zi ZJ (Za 5) (Zc Zz [Za 7,eC (.int 1),Za 6]),Zi Yb (eC (.int 1)) (Zc Zz [Za 7,eC (.int 2),eC (.int 3)])])))
  (Zm (SM (xB (Zi M8 (Za 3) (eC (.int 1)))) (Y6 [4,5] (ZX [Zc Zz [Za 2,eC (.int 3),eC (.int 6)]]) (.one 6) (Zm (Zq 7 (Zc Z3 [Za 0,Zi Yb (eC (.int 7)) (Za 6)]))
  (Zm (Zq 8 (Zc Zz [Za 7,eC (.int 4),Za 3]))
  (Zm (Zq 9 (eP (Zi Xq (Zi Yb (Zi Yb (Za 8) (eC (.int 1))) (Zc Zz [Za 7,eC (.int 5),Zi Y5 (Za 3) (eC (.int 1))])) (Za 3))))
  (Lr 4 VG [Za 8,Za 9,Zi Yb (eC (.int 1)) (Zc Zz [Za 7,eC (.int 6),eC (.int 2)])]))))) Yr)
  (ZM (eP (Zc ZN [Zu 1 [] (Vy (Za 4)) (.one 0) Zy (Zc ZN [Za 0])]))))))))))
noncomputable def NQ:List PV->Option PV:=Yy 10 NP
noncomputable def HK:XS:=(ZM (eP (Zc Vw [Zu 1 [0,1] (xSq (Za 2)) (.one 0) Zy (Zi ZJ (Zi ZJ (Za 1) (Za 2)) (Za 0))])))
noncomputable def Vm:List PV->Option PV:=Yy 3 HK
noncomputable def RV:XS:=(Zm (Y6 [] (Xs aB [Za 1]) (.many [3,4]) (SM (QE (xB (Zi (HC aC) (Za 3) (Za 2))) (xB (Zi Hz (Za 4) (Zc Vm [Za 0,Za 3,Za 2])))) (ZM (eP (Za 3))) Yr))
  (ZM (eP (eC .non))))
noncomputable def Z1:List PV->Option PV:=Yy 5 RV
noncomputable def Cy:XS:=(Zm (Zq 3 (TQ [eP (Za 2)]))
  (Zm (Zq 4 (Zc Z1 [Za 0,Za 1,Za 3]))
  (Zm (Xl (xB (SE aC (Za 4))) (Zm (XI 3 (eP (Za 4)))
  (Zq 4 (Zc Z1 [Za 0,Za 1,Za 3]))))
  (ZM (Za 3)))))
noncomputable def Qe:List PV->Option PV:=Yy 5 Cy
noncomputable def HL:XS:=(ZM (Zu 2 [1] (Xs aB [Za 0]) (.many [0,1]) (QE (xB (Zi (XZ aC) (Za 0) (Za 2))) (xB (Zi Hz (Za 1) (eC (.int 0))))) (eP (Za 0))))
noncomputable def YU:List PV->Option PV:=Yy 2 HL
noncomputable def HM:XS:=(ZM (eP (Zc ZN [Zu 2 [3,1,2,0] (U4 aB aB [Za 0,Za 1]) (.many [0,1]) Zy (Zi Ta (Zi Y5 (Zi Uo (Zi ZJ (Za 3) (Za 4)) (Za 0)) (Zi Uo (Zi ZJ (Za 5) (Za 4)) (Za 1))) (Za 2))])))
noncomputable def SU:List PV->Option PV:=Yy 4 HM
noncomputable def Ls:XS:=(Zm (Zq 1 (Zc Uh [Za 0]))
  (Zm (Zq 2 (eP (eC (.int 1))))
  (Zm (Y6 [1] (ZX [Zc YG [Za 0]]) (.one 3) (Zm (Zq 4 (eP (Zi ZJ (Za 1) (Za 3))))
  (Zm (Zq 1 (Zu 2 [3,4,2] (Xs aC [Za 1]) (.many [0,1]) Zy (eP (Fv (xB (Zi (XZ aB) (Za 0) (Za 2))) (Za 1) (Zc SU [Za 1,Za 3,Za 2,Za 4])))))
  (Zq 2 (eP (Zi ZJ (Za 4) (Za 3)))))))
  (F2 1 (Za 2)))))
noncomputable def Pb:List PV->Option PV:=Yy 5 Ls
noncomputable def Pc:XS:=(Zm (Zq 2 (Zc Pb [Zu 2 [] (U4 aB aB [Za 0,Za 1]) (.many [0,1]) Zy (Zi Q1 (Za 0) (QJ [Za 1]))]))
  (ZM (Zu 1 [2] (Vy (Zi ZJ (Za 2) (eC (.int 1)))) (.one 0) Zy (eP (Zi Ta (Zi ZJ (Za 0) (GW NA (eC (.int 1)))) (Zi ZJ (Za 1) (eC (.int 0))))))))
noncomputable def WD:List PV->Option PV:=Yy 3 Pc
noncomputable def F4:XS:=(ZM (eP (Zc ZN [Zu 1 [1,0] (Vy (Za 2)) (.one 0) Zy (Fv (xB (Zi (XZ aB) (Za 0) (Za 1))) (Zc UX [Za 2,Za 1]) (GW NA (Zi ZJ (Zi ZJ (Za 2) (Za 1)) (Za 0))))])))
noncomputable def Pd:List PV->Option PV:=Yy 3 F4
noncomputable def SV:XS:=(Zm (Zq 2 (Zu 1 [1] (ZX [Zc YG [Za 0]]) (.one 0) (xB (Zi (XZ aC) (Za 0) (Za 1))) (eP (Za 0))))
  (ZM (eP (Zc ZN [Zu 1 [0,2] (Vy (Za 2)) (.one 0) Zy (Zc Pd [Za 1,Za 0,Za 2])]))))
noncomputable def YV:List PV->Option PV:=Yy 3 SV
noncomputable def HN:XS:=(Zm (Zq 3 (eP (Zi Q1 (QP SK (Za 1) Li (Tw (Za 2))) (QP SK (Za 1) (Tw (Zi Yb (Za 2) (eC (.int 1)))) Li))))
  (Zm (Zq 4 (Zc WD [Zc YV [Za 0,Za 2],Za 3]))
  (Zm (VC 4 (Za 2) (eC (.int 0)))
  (ZM (eP (Zc ZN [Za 4]))))))
noncomputable def Wv:List PV->Option PV:=Yy 5 HN
noncomputable def Lu:XS:=(ZM (eP (Zc ZN [Zu 1 [1] (ZX [Zc YG [Za 0]]) (.one 0) Zy (Fv (xB (Zi (HC aB) (Za 0) (Za 1))) (GW NA (eC (.int 1))) (eC (.int 0)))])))
noncomputable def Xa:List PV->Option PV:=Yy 2 Lu
noncomputable def Ip:XS:=(Zm (Zq 1 (eP (Zc BY [Za 0])))
  (ZM (eP (Zc ZN [Zu 1 [1] (TV (Za 0)) (.one 0) Zy (Zi Y5 (Za 0) (Za 1))]))))
noncomputable def VH:List PV->Option PV:=Yy 2 Ip
noncomputable def F5:XS:=(Zm (Zq 3 (Zc Wv [Za 0,Za 1,Za 2]))
  (Zm (Zq 4 (Zc U9 [Za 0,Za 1,Za 3]))
  (Zm (Zq 5 (Zc YU [Za 4,Za 2]))
  (Zm (Xl (xB (Zi M8 (Zc YG [Za 5]) (eC (.int 0)))) (Zm (Zq 6 (Zc Xa [Za 0,Za 5]))
  (Zm (Zq 3 (Zc Tj [Za 3,Za 6]))
  (Zm (Zq 4 (Zc U9 [Za 0,Za 4,Za 6]))
  (Zq 5 (Zc YU [Za 4,Za 2]))))))
  (ZM (QJ [Zc VH [Za 3],eP (Za 4),Zc Qe [Za 0,Za 4,Za 2]]))))))
noncomputable def Yc:List PV->Option PV:=Yy 7 F5
noncomputable def NR:XS:=(Zm (Zq 3 (TQ []))
  (Zm (Y6 [3] (ZX [Zc YG [Za 0]]) (.one 4) (Zm (Zq 5 (eP (Zc Vw [Zu 1 [0,4,2] (ZX [Zc YG [Za 0]]) (.one 0) Zy (Zi WA (Zi ZJ (Zi ZJ (Za 1) (Za 2)) (Za 0)) (Zi Y5 (Zi ZJ (Za 3) (Za 2)) (Zi ZJ (Za 3) (Za 0))))])))
  (XI 3 (eP (Zi Y5 (Zi ZJ (Za 1) (Za 4)) (Za 5))))))
  (ZM (eP (Zc ZN [Za 3])))))
noncomputable def Qf:List PV->Option PV:=Yy 6 NR
noncomputable def T8:XS:=(Zm (Zq 3 (Zc Yc [Za 0,Za 1,eC (.int 0)]))
  (Zm (Zq 4 (Zc Yc [Za 0,Za 2,eC (.int 0)]))
  (Zm (SM (xB (Zi (XZ aC) (Zi ZJ (Za 3) (eC (.int 1))) (Zi ZJ (Za 4) (eC (.int 1))))) (ZM (eP (eC .non))) Yr)
  (ZM (Zc VH [Zc UY [Zi ZJ (Za 3) (eC (.int 0)),Zi ZJ (Za 4) (eC (.int 0))]])))))
noncomputable def Y3:List PV->Option PV:=Yy 5 T8
noncomputable def SW:XS:=(Zm (SM (xB (Zi (XZ aB) (Zi Xq (Za 0) (eC (.int 4))) (eC (.int 3)))) (ZM (eP (Zi Y5 (Zi Xq (Zi Uo (Za 0) (Za 0)) (Zi Uo (eC (.int 2)) (Zi Oh (eC (.int 10)) (eC (.int 26))))) (Zi Oh (eC (.int 10)) (eC (.int 26)))))) Yr)
  (ZM (eP (Zi Y5 (Zi Xq (Zi Ta (Za 0) (eC (.int 4))) (eC (.int 9))) (eC (.int 4))))))
noncomputable def SX:List PV->Option PV:=Yy 1 SW
end PW
namespace L2
open PySem PySem.Spec PyProof.Rows
abbrev WJ:=aH->cy->List (List Oc×V)->It
end L2
namespace VL
open PySem PySem.Spec PyProof.Rows L2
variable {K:aD}
instance (x:a0) (n:Int):Decidable (MulOk x n):=by unfold MulOk;infer_instance
end VL
set_option maxHeartbeats 3200000
namespace VX
open PySem PySem.Spec PyProof.Rows L2
structure Eff(fs ch:List aH)(h h':bH):Prop where
 keep:∀b o,h.get? b=aA o->b∉ch->b∉fs->h'.get? b=aA o
 slot:∀b o,h.get? b=aA o->b∉ch->b∈fs->∃sl,h'.get? b=aA { o with slots:=sl }
 there:∀b o,h.get? b=aA o->∃o',h'.get? b=aA o'
theorem Eff.trans{fs ch:List aH}{h i g:bH}(x:Eff fs ch h i)(y:Eff fs ch i g):Eff fs ch h g:=
 ⟨λb o e a c=>y.keep b o (x.keep b o e a c) a c,λb o e a c=>by
  obtain⟨l,d⟩:=x.slot b o e a c;obtain⟨f,j⟩:=y.slot b _ d a c
  exact⟨f,j⟩,λb o e=>by
  obtain⟨k,d⟩:=x.there b o e;exact y.there b k d⟩
theorem Eff.mono{fs ch a:List aH}{h h':bH}(x:Eff fs ch h h')(hs:∀b∈ch,b∈a):Eff fs a h h':=
 ⟨λb o e c d=>x.keep b o e (λz=>c (hs b z)) d,λb o e c d=>x.slot b o e (λz=>c (hs b z)) d,x.there⟩
theorem Eff.field{fs:List aH}{h:bH}{a:aH}{o:cy}{vs:Array aE}{f:Array aE->Array aE}(g:h.get? a=aA o)(d:o.data = .fields vs):Eff fs [a] h (h.update a (fO f)):=
  ⟨λb u e c _=>by rw[bg _ _ (λz=>c (by rw[z];exact .head _))];exact e,
   λb u e c _=>⟨u.slots,by rw[bg _ _ (λz=>c (by rw[z];exact .head _))];exact e⟩,
   λb u e=>by
    by_cases q:a=b
    · subst q;exact⟨_,cw _ g (gD (dE d f))⟩
    · exact⟨u,by rw[bg _ _ q];exact e⟩⟩
theorem Eff.funs{fs:List aH}{ch:List aH}{h h' base:bH}{l:List jN}(x:Eff fs ch h h')(d:h.FunFrames base l)(f:∀b∈ch,∀o,h.get? b=aA o->∃vs,o.data = .fields vs):h'.FunFrames base l:=
 d.of_keeps λb o e g=>by
  have c:b∉ch:=λz=>by obtain⟨vs,q⟩:=f b z o e;exact g vs q
  by_cases a:b∈fs
  ·obtain⟨i,q⟩:=x.slot b o e c a;exact⟨_,q,rfl⟩
  ·exact⟨o,x.keep b o e c a,rfl⟩
section
variable {M:mT} {A:bQ} {E:aE->aI->Prop} {s:aI}
theorem Pe{base:bH}{env:jN}{c:List jN}{L e:aH}{v:cy}{vs:Array aE}{g:aE}{i:Bool}{Q:Unit->aI->Prop}
  (p:A.frames=aA (env::c)) (x:s.heap.FunFrames base (env::c)) (B:env.frame=aA L)
  (w:s.heap.get? e=aA v) (l:v.data = .fields vs) (t:1<vs.size)
  (h:∀h' T,s.heap.objs.size<=T->h'.get? e=aA (v.mapFields (·.setIfInBounds 1 (.ref T)))->(∃oT ts,h'.get? T=aA oT/\oT.data = .fields ts/\ts[3]?=aA (gH L))->Eff ((env::c).filterMap (·.frame)) [e] s.heap h'->Q () { s with heap:=h' }) :
  ak M A (do let a <-frameOf env;let pl <-entryPlaceOf L i;let b <-EntryCells.newEntry g a .none (gH L) .none pl;setField (.ref e) 1 b) Q E s:=by
 have k:e∉(env::c).filterMap (·.frame):=λC=>by obtain⟨_,o,m,n⟩:=x.mem C;rw[w] at m;injection m with m;subst m;exact n vs l
 refine aF (wpAny_frameOf_fun p x B λh₁ d=>?_);refine aF (wpAny_entryPlaceOf λpl r=>?_);refine aF (dQ ?_ (r.sizeOk5 _ _ _ _ _));have j:=(d.2.1 e k).trans w;have f:=aG { cls:=.type "traceback",dict:=none,data:=.fields ([g,.ref L,.none,gH L,.none]++(if pl.isEmpty then aY 6 gh else pl)).toArray } j;have u:=d.1;have D:=cw (fO (·.setIfInBounds 1 (cJ h₁.objs.size))) f (gD (dE l _))
 have p2:=(bg (h₁.push { cls:=.type "traceback",dict:=none,data:=.fields ([g,.ref L,.none,gH L,.none]++(if pl.isEmpty then aY 6 gh else pl)).toArray })
  (fO (·.setIfInBounds 1 (cJ h₁.objs.size))) (ar (aQ j))).trans (ag h₁ rfl)
 have y:Eff ((env::c).filterMap (·.frame)) [e] s.heap ((h₁.push { cls:=.type "traceback",dict:=none,data:=.fields ([g,.ref L,.none,gH L,.none]++(if pl.isEmpty then aY 6 gh else pl)).toArray }).update e (fO (·.setIfInBounds 1 (cJ h₁.objs.size)))):=
  Eff.trans ⟨λb o q _ F=>(d.2.1 b F).trans q,λb o q _ _=>d.2.2 b o q,λb o q=>by obtain⟨G,z⟩:=d.2.2 b o q;exact⟨_,z⟩⟩ (Eff.trans ⟨λb o q _ _=>aG _ q,λb o q _ _=>⟨o.slots,aG _ q⟩,λb o q=>⟨o,aG _ q⟩⟩ (Eff.field f l))
 refine iA f l t (h _ h₁.objs.size (by omega) D ⟨_,_,p2,rfl,?_⟩ y);simp
noncomputable def F6(h:bH)(e:aH)(cls:aE)(dd:Option aH):Prop:=∃oe vs,h.get? e=aA oe/\oe.cls=cls/\oe.dict=dd/\oe.data = .fields vs/\vs[1]?=aA .none
noncomputable def F7(h:bH)(e:aH)(cls:aE)(dd:Option aH)(T:aH)(fl:aE):Prop:=
 ∃oe vs oT ts,h.get? e=aA oe/\oe.cls=cls/\oe.dict=dd/\oe.data = .fields vs/\vs[1]?=aA (.ref T)/\T≠e/\h.get? T=aA oT/\oT.data = .fields ts/\ts[3]?=aA fl
theorem Up(o:cy)(f:Array aE->Array aE):(o.mapFields f).dict=o.dict:=by
 unfold fO;split<;>rfl
variable {base:bH} {env:jN} {outer:List jN} {L e T:aH} {cls fl:aE} {dd:Option aH} {Q:Unit->aI->Prop}
theorem Zc9(f:A.frames=aA (env::outer))(l:s.heap.FunFrames base (env::outer))(i:env.frame=aA L)(x:F6 s.heap e cls dd)
  (h:∀h' T,s.heap.objs.size<=T->F7 h' e cls dd T (gH L)->Eff ((env::outer).filterMap (·.frame)) [e] s.heap h'->Q () { s with heap:=h' }):ak M A (ig (.ref e) env) Q E s:=by
 obtain⟨r,vs,b,q,d,c,j⟩:=x;unfold ig;simp only[i];refine aF (bx b c j ?_);have a:=(eu.mp j).1;refine Pe f l i b c a λh' T g o ⟨k,ts,p2,m,p⟩ n=>h h' T g ⟨_,_,k,ts,o,(jQ _ _).trans q,(Up _ _).trans d,dE c _,by simp[a],?_,p2,m,p⟩ n;exact fK (aV (aQ b) g)
theorem Zda(p:A.frames=aA (env::outer))(C:s.heap.FunFrames base (env::outer))(y:env.frame=aA L)(x:F7 s.heap e cls dd T .none)
  (h:∀h' i,s.heap.objs.size<=i->F7 h' e cls dd i (gH L)->Eff ((env::outer).filterMap (·.frame)) [e,T] s.heap h'->Q () { s with heap:=h' }):ak M A (ig (.ref e) env) Q E s:=by
 obtain⟨N,vs,J,ts,j,I,n,l,B,m,g,c,v⟩:=x;unfold ig;simp only[y];refine aF (bx j l B ?_);refine aF (bx g c v ?_);refine aF (iA g c (eu.mp v).1 ?_);have f:=(eu.mp B).1;have w:Eff ((env::outer).filterMap (·.frame)) [T] s.heap (s.heap.update T (fO (·.setIfInBounds 3 gh))):=Eff.field g c;have k:=w.funs C (λb d o q=>by rw[ah.mp d,g] at q;cases q;exact⟨_,c⟩);have r:=(bg s.heap (fO (·.setIfInBounds 3 gh)) m).trans j;have z:(s.heap.update T (fO (·.setIfInBounds 3 gh))).objs.size=s.heap.objs.size:=by simp
 refine Pe p k y r l f λh' i a G ⟨u,t,p2,D,H⟩ F=>h h' i (by rw[<-z];exact a) ⟨_,_,u,t,G,(jQ _ _).trans I,(Up _ _).trans n,dE l _,by simp[f],?_,p2,D,H⟩ ?_
 ·have a:=a;rw[z] at a;exact fK (aV (aQ j) a)
 ·exact(w.mono λb d=>by simp[d]).trans (F.mono λb d=>by simp at d;simp[d])
theorem NS(x:F7 s.heap e cls dd T fl){fs:List aH}(h:∀h',F7 h' e cls dd T .none->Eff fs [T] s.heap h'->h'.objs.size=s.heap.objs.size->Q () { s with heap:=h' }):ak M A (setFlight (.ref e) none) Q E s:=by obtain⟨k,vs,n,ts,g,m,f,i,j,b,d,a,l⟩:=x;have c:=(eu.mp l).1;refine aF (bx g i j ?_);refine iA d a c (h _ ⟨k,vs,_,_,(bg _ _ b).trans g,m,f,i,j,b,cw _ d (gD (dE a _)),dE a _,by simp[c]⟩ (Eff.field d a) (by simp))
theorem F8(f:A.frames=aA (env::outer))(m:s.heap.FunFrames base (env::outer))(a:env.frame=aA L)(x:F6 s.heap e cls dd)
  (h:∀h' T,s.heap.objs.size<=T->F7 h' e cls dd T .none->Eff ((env::outer).filterMap (·.frame)) [e] s.heap h'->Q () { s with heap:=h' }):ak M A (leaving env (.ref e)) Q E s:=by
 refine aF (Zc9 f m a x λw T k t g=>?_);refine NS t (fs:=(env::outer).filterMap (·.frame)) λp r c _=>h p T k r ?_;have l:∀b o,s.heap.get? b=aA o->b≠T:=λb o q z=>by subst z;exact cK _ (aV (aQ q) k)
 exact⟨λb o q i a=>c.keep b o (g.keep b o q i a) (by simpa using l b o q) a,λb o q i a=>by
  obtain⟨v,j⟩:=g.slot b o q i a;obtain⟨d,n⟩:=c.slot b _ j (by simpa using l b o q) a
  exact⟨d,n⟩,λb o q=>by
  obtain⟨u,j⟩:=g.there b o q;exact c.there b u j⟩
end
section
variable {P:au} {w:bc} {fs ch:List aH} {H:Hp} {h h':bH}
theorem Iq(x:HOk P w H h)(e:Eff fs ch h h')(g:∀b∈ch,H b=none)(j:∀b∈fs,H b=none):HOk P w H h':=λa o f=>
 (x a o f).stay (λb u i q=>by
  have c:∃d,H b=aA d:=by
   rcases i with z | z
   ·exact⟨o,by rw[z];exact f⟩
   ·exact⟨_,z⟩
  obtain⟨d,c⟩:=c;exact e.keep b u q (λz=>by rw[g b z] at c;cases c) (λz=>by rw[j b z] at c;cases c)) (λ_ q=>q) (λ_ _ q=>q) λ_ _ q=>q
end
noncomputable def Fl(H':Hp)(h0 h:bH)(e:aH)(cls:aE)(dd:Option aH):Prop:=∃T,F7 h e cls dd T .none/\H' e=none/\H' T=none/\h0.get? e=none/\h0.get? T=none
noncomputable def CX1(P:au)(w:bc):Dv:=λouter H s E v s'=>
 ∃e cls dd H',v = .ref e/\s'.os=s.os/\jO s'.gens/\Un (MN outer) [] H H' s.heap s'.heap/\HOk P w H' s'.heap/\Fl H' s.heap s'.heap e cls dd/\E cls dd H'
section
variable {X:Cx} {n5:List (aH×cy)} {σ:L2.St} {H:Hp} {s:aI} {e:aH} {cls:aE} {dd:Option aH} {E:XK}
structure F9(X:Cx)(E:XK):Prop where
 stk:X.stack=X.env::X.outer
 fr:X.env.frame=aA X.env.locals
 ex:X.ex=[]
 xe:X.xe=λv s'=>ak (model X.prog X.w) X.A (leaving X.env v) (λ_ s''=>CX1 X.prog X.w X.outer X.H₀ X.s₀ E v s'') (λv' s''=>CX1 X.prog X.w X.outer X.H₀ X.s₀ E v' s'') s'
theorem O2(D:F9 X E)(I:Inv X n5 σ H s){ch:List aH}{h':bH}{T:aH}(p:X.s₀.heap.get? T=none)(m:X.s₀.heap.get? e=none)(v:H e=none)(k:H T=none)(l:∀b∈ch,H b=none/\X.s₀.heap.get? b=none)(x:F7 h' e cls dd T .none)
  (g:Eff ((X.env::X.outer).filterMap (·.frame)) ch s.heap h') (q:E cls dd H):CX1 X.prog X.w X.outer X.H₀ X.s₀ E (.ref e) { s with heap:=h' }:=by
 have r:=λb a=>by have:=I.stkFree b;rw[D.stk] at this;exact this a
 refine⟨e,cls,dd,H,rfl,I.os,I.bare,?_,Iq I.hok g (λb a=>(l b a).1) r,⟨T,x,v,k,m,p⟩,q⟩;have d:=I.base;have lt:∀b o,X.s₀.heap.get? b=aA o->b∉ch:=λb o z a=>by rw[(l b a).2] at z;cases z
 have nL:∀b o,X.s₀.heap.get? b=aA o->b≠X.env.locals:=λb o z a=>by subst a;exact cK _ (aV (aQ z) I.ok.above)
 have f:∀b o,X.s₀.heap.get? b=aA o->(b∈(X.env::X.outer).filterMap (·.frame)↔b∈MN X.outer):=λb o z=>by rw[jY D.fr,aa];exact⟨λh=>h.elim (λq=>absurd q (nL b o z)) λq=>q,.inr⟩
 have c:∀b:aH,b∉X.ex:=λb z=>by rw[D.ex] at z;simp at z
 refine⟨λb o z n a _=>?_,λb o z n a _=>?_,λb o z n _=>d.free b o z n (c b),λb o z _=>?_,d.tups,d.frzs,d.tbls⟩
 ·exact g.keep b o (d.keep b o z n a (c b)) (lt b o z) (λq=>a ((f b o z).mp q))
 ·obtain⟨w,i⟩:=d.slot b o z n a (c b);obtain⟨j,u⟩:=g.slot b _ i (lt b o z) ((f b o z).mpr a);exact⟨j,u⟩
 ·obtain⟨t,i⟩:=d.there b o z (c b);exact g.there b t i
theorem Zav(D:F9 X E)(I:Inv X n5 σ H s)(x:F6 s.heap e cls dd)(f:X.s₀.heap.get? e=none)(d:H e=none)(q:E cls dd H):X.xe (.ref e) s:=by rw[D.xe];have a:=I.stack;rw[D.stk] at a;have c:=I.ok.frames;rw[D.stk] at c;refine F8 c a D.fr x λh' T g j h=>?_;exact O2 D I (fJ (aX I.sz g)) f d (I.hok.fresh g) (λb i=>by rw[ah.mp i];exact⟨d,f⟩) j h q
theorem Cz{P:au}{w:bc}{K:aD}{e:a0->Option aE}{base:bH}{N:List a0}{c:a0}{a:du}{f:aH}{d:aE}{A:bQ}{b:List jN}{s:aI}{H:Hp}{E:XK} :
  F9 (Tf (CX1 P w) P w K e base N c a f d A b s H E) E:=⟨rfl,rfl,rfl,rfl⟩
end
end VX
namespace PySem
open Sem (wp)
section
variable {prog:au} {w:bc} {A:bQ} {E:aE->aI->Prop} {h:bH} {g:Array lY} {d:Drawn} {t:Nat} {os:OsState}
variable {nm q:a0} {C N:aH} {bs bm bmB:List aE} {hdct:Bool} {sn:List a0} {sub:List aE} {ab:Bool} {col:Option Bool} {dd:Option aH} {k0 k1 k2 k3 k5:Option aE} {B newId initId:String}
theorem WO(F:gQ B newId initId bmB)(T:lp h bmB bm){mN:a0->Option aE}{n8:List aE}{fI:aH}{oI:cy}{Q:Fin->aI->Prop}
  (l:h.get? C=aA (cq nm q C N bs bm hdct sn sub ab col dd k0 k1 k2 k3 k5 newId)) (D:h.Ns N mN) (y:mN "__init__" = aA (.ref fI))
  (p:h.get? fI=aA oI) (m:oI.cls = .type "function")
  (G:∀h',(∀b o,h.get? b=aA o->h'.get? b=aA o)->h'.get? (h.objs.size+1)=aA { cls:=.ref C,data:=.fields #[.ref h.objs.size,.none,.none,.none,.bool aB,.none] }->
   ak (model prog w) A (call (.ref fI) (.ref (h.objs.size+1)::n8)) (λr s=>r = .none/\Q (.done (.ret (.ref (h.objs.size+1)))) s) E ⟨h',g,d,t,os⟩) (i:n8.length<=sizeLine:=by size_fits) :
  ak (model prog w) A (jq.«type.__call__» ⟨.ref C::n8,[]⟩) Q E ⟨h,g,d,t,os⟩:=by
 repeat (first | with_reducible refine ba l ?_ | with_reducible refine wpAny_madeBy_exc l ?_ | wp_step)
 refine codeAny_call_builtin_code (lF _ F.quiet) (wpAny_check_new_subT F T l ?_);refine codeAny_exc_new_subT F T l ?_ i
 have a:=aG { cls:=.ref C,data:=.fields #[.ref h.objs.size,.none,.none,.none,.bool aB,.none] }
  (aG { cls:=.type "tuple",data:=.seq n8.toArray } l)
 have c:=aG { cls:=.ref C,data:=.fields #[.ref h.objs.size,.none,.none,.none,.bool aB,.none] }
  (aG { cls:=.type "tuple",data:=.seq n8.toArray } p)
 have j:((h.push { cls:=.type "tuple",data:=.seq n8.toArray }).push { cls:=.ref C,data:=.fields #[.ref h.objs.size,.none,.none,.none,.bool aB,.none] }).Ns N mN:=
  let⟨o,es,ep,e,r⟩:=D;⟨o,es,ep,aG _ (aG _ e),r⟩
 have f:((h.push { cls:=.type "tuple",data:=.seq n8.toArray }).push
   { cls:=.ref C,data:=.fields #[.ref h.objs.size,.none,.none,.none,.bool aB,.none] }).get? (h.objs.size+1)=aA
   { cls:=.ref C,data:=.fields #[.ref h.objs.size,.none,.none,.none,.bool aB,.none] }:=by heap_get
 have n:(cJ C::bm).contains (.ref C)=aC:=by simp
 have k:=T.keeps (h':=(h.push { cls:=.type "tuple",data:=.seq n8.toArray }).push { cls:=.ref C,data:=.fields #[.ref h.objs.size,.none,.none,.none,.bool aB,.none] })
  λb o e=>aG _ (aG _ e)
 repeat (first | with_reducible refine ba f ?_ | (with_reducible refine cV a ?_;rw[n]) | wp_step)
 refine wpAny_typeLookup_tail a j k F.mroIs F.init.lookup ?_;rw[y];refine df (aF ?_);refine aF (wpAny_typeOf ⟨_,c,m⟩ ?_);refine a9 (aF (b9 (G _ (λb o z=>aG _ (aG _ z)) f) (λr s v=>?_) λ_ _ x=>x));obtain⟨rfl,u⟩:=v
 wp_walk
 exact u
theorem Uq(F:gQ B newId initId bmB)(T:lp h bmB bm){mN:a0->Option aE}{n8:List aE}{fI:aH}{oI:cy}{Q:aE->aI->Prop}
  (j:h.get? C=aA (cq nm q C N bs bm hdct sn sub ab col dd k0 k1 k2 k3 k5 newId)) (m:h.Ns N mN) (k:mN "__init__" = aA (.ref fI))
  (i:h.get? fI=aA oI) (c:oI.cls = .type "function")
  (n:∀h',(∀b o,h.get? b=aA o->h'.get? b=aA o)->h'.get? (h.objs.size+1)=aA { cls:=.ref C,data:=.fields #[.ref h.objs.size,.none,.none,.none,.bool aB,.none] }->
   ak (model prog w) (A.under (.builtin "type.__call__" ⟨.ref C::n8,[]⟩)) (call (.ref fI) (.ref (h.objs.size+1)::n8)) (λr l=>r = .none/\Q (.ref (h.objs.size+1)) l) E ⟨h',g,d,t,os⟩) (e:n8.length<=sizeLine:=by size_fits) :
  ak (model prog w) A (call (.ref C) n8) Q E ⟨h,g,d,t,os⟩:=by
 have f1:=tc_lookup;have p:=tc_bind (.ref C);refine ip (codeAny_of_tree ?_)
 repeat (any_goals (first | assumption | with_reducible refine ba j ?_ | wp_step))
 refine⟨rfl,?_⟩;refine codeAny_call_builtin_at (lF _ (by simp)) entry_typeCall (wpAny_check_type_call_sub j (WO F T j m k i c λh' f a=>?_));exact n h' f a
end
section
variable {M:mT} {A:bQ} {E:aE->aI->Prop} {env:jN}
variable {nm q:a0} {C N:aH} {bs bm bmB:List aE} {hdct:Bool} {sn:List a0} {sub:List aE} {ab:Bool} {col:Option Bool} {dd:Option aH} {k0 k1 k2 k3 k5:Option aE} {B newId initId:String}
theorem WQ{s:aI}{x:Sem aE}{Q:Flow->aI->Prop}(b:bm.contains (.type "BaseException")=aC)(j:A.handled=none)
  (h:ak M A x (λv a=>∃e t d,v = .ref e/\a.heap.get? C=aA (cq nm q C N bs bm hdct sn sub ab col dd k0 k1 k2 k3 k5 newId)/\
   a.heap.get? e=aA { cls:=.ref C,dict:=d,data:=.fields #[.ref t,.none,.none,.none,.bool aB,.none] }/\E (.ref e) a) E s) :
  ak M A (raiseStmt env (aA x) none) Q E s:=by
 have c:(cJ C::bm).contains (.type "BaseException")=aC:=by rw[fA,b,iD]
 refine aF (b9 h (λv a h₁=>?_) λ_ _ x=>x);obtain⟨e,t,d,rfl,f,g,i⟩:=h₁
 repeat (first | with_reducible refine ba g ?_ | with_reducible refine ba f ?_ | (with_reducible refine cV f ?_;rw[c]) | wp_step)
 exact wpAny_raiseNew_none j i
end
section
variable {prog:au} {w:bc} {A:bQ} {E:aE->aI->Prop} {s:aI} {env:jN}
variable {nm q:a0} {C N:aH} {bs bm bmB:List aE} {hdct:Bool} {sn:List a0} {sub:List aE} {ab:Bool} {col:Option Bool} {dd:Option aH} {k0 k1 k2 k3 k5:Option aE} {B newId initId:String}
theorem VJ(F:gQ B newId initId bmB){mN:a0->Option aE}{x:a0}{J p pos:fD}{g:List aq}{Q:Flow->aI->Prop}{fI:aH}{oI:cy}
  (k:bm.contains (.type "BaseException")=aC) (O:A.handled=none) (i:(dD p (aO g env)).any (·.1)=aB) (M:mN "__init__" = aA (.ref fI)) (n:oI.cls = .type "function")
  (h:ak (model prog w) A (eval (.Name x J) env) (λf j=>f = .ref C/\ak (model prog w) A (evalArgs (.ref C) aC (dD p (aO g env)) [])
   (λa c=>a.kw=[]/\a.pos.length<=sizeLine/\c.heap.get? C=aA (cq nm q C N bs bm hdct sn sub ab col dd k0 k1 k2 k3 k5 newId)/\c.heap.Ns N mN/\lp c.heap bmB bm/\c.heap.get? fI=aA oI/\
    ∀h',(∀b o,c.heap.get? b=aA o->h'.get? b=aA o)->h'.get? (c.heap.objs.size+1)=aA { cls:=.ref C,data:=.fields #[.ref c.heap.objs.size,.none,.none,.none,.bool aB,.none] }->
     ak (model prog w) (A.under (.builtin "type.__call__" ⟨.ref C::a.pos,[]⟩)) (call (.ref fI) (.ref (c.heap.objs.size+1)::a.pos)) (λr d=>r = .none/\∃t D,d.heap.get? C=aA (cq nm q C N bs bm hdct sn sub ab col dd k0 k1 k2 k3 k5 newId)/\
      d.heap.get? (c.heap.objs.size+1)=aA { cls:=.ref C,dict:=D,data:=.fields #[.ref t,.none,.none,.none,.bool aB,.none] }/\E (.ref (c.heap.objs.size+1)) d) E { c with heap:=h' }) E j) E s) :
  ak (model prog w) A (exec (.Raise (aA (.Call (.Name x J) g [] p)) none pos) env) Q E s:=by
 refine aF (gV (WQ (C:=C) (nm:=nm) (q:=q) (N:=N) (bs:=bs) (hdct:=hdct) (sn:=sn) (sub:=sub) (ab:=ab) (col:=col) (dd:=dd) (k0:=k0) (k1:=k1) (k2:=k2) (k3:=k3) (k5:=k5) (newId:=newId) k O ?_));refine aF (b9 (wpAny_Call_ofName (b9 h (λf j h₁=>?_) λ_ _ x=>x)) (λv d l=>aF (gV (a9 l))) λ_ _ x=>x);obtain⟨rfl,h₁⟩:=h₁;refine aF (df (b9 h₁ (λa c e=>aF (gV ?_)) λ_ _ x=>x));obtain⟨I,W⟩:=a;obtain⟨u,G,L,U,T,z,e⟩:=e;obtain rfl:=u;simp only[i];refine aF (wpAny_keeperOf_exc L ?_);refine aF (Uq F T L U M z n λh' y m=>b9 (e h' y m) (λr X H=>⟨H.1,aF (df (wpAny_point (a9 ?_)))⟩) λ_ _ x=>x);obtain⟨_,t,D,P,S,R⟩:=H;exact⟨_,t,D,rfl,P,S,R⟩
end
end PySem
namespace VX
open PySem PySem.W PySem.Spec PyProof.Rows Builtin Builtin.ObjectAttr
noncomputable def KR:List aE:=[.type "ValueError",.type "Exception",.type "BaseException",.type "object"]
noncomputable def KS:List aE->Bool
 | .ref _::r=>KS r
 | l=>l==KR
noncomputable def veOver(K:Frag)(C:aH):Bool:=(clsIn K C).any λcd=>KS cd.mro
theorem CA{l:List aE}(h:KS l=aC):(∀a,refuseLoop a "__setattr__" l=pure ())/\l.contains (.type "object")=aC/\l.isEmpty=aB:=by
 induction l with
 | nil=>exact absurd h (by decide)
 | cons x r ih=>
  by_cases q:∃c,x = .ref c
  ·obtain⟨c,rfl⟩:=q;have:=ih h;exact⟨λa=>by rw[refuseLoop_ref];exact this.1 a,by rw[fA,this.2.1,iD],rfl⟩
  ·have e:x::r=KR:=by
    have h':(x::r==KR)=aC:=by cases x<;>first | exact h | exact absurd ⟨_,rfl⟩ q
    exact eq_of_beq h'
   rw[e];exact⟨λa=>PySem.F.store_ValueError.passes a,by decide,rfl⟩
section
variable {prog:au} {w:bc} {A:bQ} {R:mq->aI->Prop} {E:aE->aI->Prop} {s:aI} {K:Frag} {x C:aH} {ox:cy} {name:a0} {tk:Tok} {v:aE}
theorem HP{m:Option cy}(X:K.In s.heap)(I:InstAt s.heap x ox C m)(r:veOver K C=aC)(q:takerIn K C name=aA none)
  (h:∀b,ak (model prog w) A.in1 (storeInOwnDict (.ref x) (.ref C) (.str name tk) name v b)
   (λi g=>match i with | .done f=>R (.ok f) g | .again c'=>c'.quiet=aC/\gO (model prog w) A c' R g) (λe g=>R (.error e) g) s) :
  gO (model prog w) A (.call (.builtin "object.__setattr__") ⟨[.ref x,.str name tk,v],[]⟩) R s:=by
 have d:=PySem.F.store_object;obtain⟨k,j,z⟩:=any_some r;obtain⟨p,o2,y⟩:=CA z;have sub:Looks (model prog w) s.heap (lG (.ref x) (.type "object")) aC:=I.type.andThen (looks_mroIn X (by unfold mroIn;rw[j,aT,ng (by rw[y];decide),o2]));refine fM d.slot.plain d.entry (@check_slot (model prog w) _ _ s "object.__setattr__" "object" "__setattr__" (.ref x) [.str name tk,v] [] _ d.kind d.split sub (d.args (.ref x) (.str name tk) v) ?_);obtain⟨c,l,n⟩:=Option.bind_eq_some_iff.mp q;have o:Looks (model prog w) s.heap (mroOf (.ref C)) k.mro:=(looks_clsIn X j).andThen .now
 have B:Looks (model prog w) s.heap (storeTaker? c) none:=by
  cases c with
  | none=>exact .now
  | some a=>
   obtain⟨b,t,u⟩:=Option.map_eq_some_iff.mp n;refine(looks_takesIn X t).andThen ?_
   cases b with
   | false=>exact .now
   | true=>cases u
 rw[osa_eq,refuse_eq];refine aF (aF (I.type.here (aF (o.here ?_))));rw[p];refine a9 (aF (I.type.here (aF ((looks_findIn X l).here (aF (B.here ?_))))));exact h _
theorem HQ{Q:Unit->aI->Prop}(X:K.In s.heap)(l:s.heap.get? x=aA ox)(n:ox.cls = .ref C)(k:notCls ox=aC)(L:ox.dict=none)(hs:findIn K (.ref C) "__setattr__" = aA (aA (.builtin "object.__setattr__")))
  (U:veOver K C=aC) (W:takerIn K C name=aA none) (S:(clsIn K C).any (·.hasDict)=aC)
  (hq:∀h' tk' dx,(∀b o,b≠x->s.heap.get? b=aA o->h'.get? b=aA o)->h'.get? x=aA { ox with dict:=aA dx }->s.heap.objs.size<=dx->dx≠x->h'.Ns1 dx (λy=>if y=name then aA v else none)->Q () { s with heap:=h',toks:=tk' }) :
  ak (model prog w) A (setAttr (.ref x) name v) Q E s:=by
 have I:InstAt s.heap x ox C none:=⟨l,n,k,by rw[L];trivial⟩;refine set_plain X I hs ?_;have O:=X;refine HP O I U W λb=>?_;obtain⟨cd,hc,F⟩:=any_some S;obtain⟨a,g,d,t,os⟩:=s;obtain⟨oc,Y,h,j⟩:=ox;subst n L;have R:∀c,h≠.cls c:=λc z=>by subst z;simp[notCls] at k
 have i:=ar (aQ l);have f:(a.push { cls:=.type "dict",data:=.dict #[] }).get? x=aA ⟨.ref C,none,h,j⟩:=aG _ l;refine aF (a9 (aF (aF (kQ l (aF ((looks_clsIn X hc) _ _ _ _ (λ_ _ e=>e) ?_))))));rw[F]
 dsimp only
 rw[ng (by decide),ng (by simp[typeHasDict])];split
 ·rename_i T;exact absurd rfl (R _)
 refine aF (wpAny_alloc' ?_);refine aF (wpAny_update' f ?_);refine a9 ?_
 have H:((a.push { cls:=.type "dict",data:=.dict #[] }).update x λo=>{ cls:=o.cls,dict:=aA a.objs.size,data:=o.data,slots:=o.slots }).get? a.objs.size
   = aA { cls:=.type "dict",data:=.dict #[] }:=
  (kf _ _ _ _ i.symm).trans (lq rfl rfl)
 have u:((a.push { cls:=.type "dict",data:=.dict #[] }).update x λo=>{ cls:=o.cls,dict:=aA a.objs.size,data:=o.data,slots:=o.slots }).Ns a.objs.size (λ_=>none):=
  ⟨_,#[],_,H,rfl,λe N=>absurd N (by simp),λ_=>rfl⟩
 refine aF (a9 (aF (wpAny_nsSet1 (bH.Ns1.of_empty u) λh' p m=>?_)));obtain⟨oD,P,Z,q,B,r⟩:=p.count (Within.cons name v Within.nil);refine aF (wpAny_lookBehind q (by rw[B];exact pastItsLine_dict (aX r (by simp))) ?_);refine a9 ?_;have J:h'.get? x=aA { cls:=.ref C,dict:=aA a.objs.size,data:=h,slots:=j }:=?_
 ·exact hq h' _ a.objs.size (λb ob D M=>(m.2 b (ar (aQ M))).trans ((kf _ _ _ _ D).trans (aG _ M))) J (aN _) i.symm p
 ·refine(m.2 x i).trans (cw _ f ?_);have G:=(bH.get?_some_iff.mp l).2;cases h<;>first | rfl | exact G
end
section
variable {prog:au} {w:bc} {A:bQ} {E:aE->aI->Prop} {h:bH} {g:Array lY} {d:Drawn} {t:Nat} {os:OsState}
variable {nm q:a0} {C N:aH} {bs bm bmB:List aE} {hdct:Bool} {sn:List a0} {sub:List aE} {ab:Bool} {col:Option Bool} {dd:Option aH} {k0 k1 k2 k3 k5:Option aE} {B newId initId:String}
abbrev Ir(C:aH)(t:aH):cy:={ cls:=.ref C,data:=.fields #[.ref t,.none,.none,.none,.bool aB,.none] }
theorem HR{e f:aH}{v:aE}{Q:aE->aI->Prop}(F:gQ B newId initId bmB)(T:lp h bmB bm)(i:h.get? C=aA (cq nm q C N bs bm hdct sn sub ab col dd k0 k1 k2 k3 k5 newId))
  (a:h.get? e=aA (Ir C f)) (k:∀h',(∀b o,b≠e->h.get? b=aA o->h'.get? b=aA o)->h'.get? e=aA (Ir C h.objs.size)->h'.get? h.objs.size=aA { cls:=.type "tuple",data:=.seq #[v] }->Q .none ⟨h',g,d,t,os⟩) :
  ak (model prog w) A (call (.builtin initId) [.ref e,v]) Q E ⟨h,g,d,t,os⟩:=by
 refine ip (fM F.init.plain F.initEntry (wpAny_check_init_subT F T i a rfl ?_))
 wp_walk
 have c:=ar (aQ a);refine k _ (λb o j q=>?_) ?_ ?_
 ·rw[bg _ _ j.symm];exact aG _ q
 ·rw[cw _ (aG _ a) rfl];rfl
 ·rw[bg _ _ c];exact lq rfl rfl
end
end VX
namespace VX
open PySem PySem.Spec PyProof.Rows L2
theorem HU(is:List Int):kD (is.map fg)=is.map λi=>js (toString i):=by
 induction is with
 | nil=>rfl
 | cons i r ih=>rw[cM,kD,ih];rfl
theorem NT{is:List Int}(h:∀i∈is,i.natAbs.log2<1920):lH (is.map fg)=aC:=by
 induction is with
 | nil=>rfl
 | cons i r ih=>
  rw[cM,lH,ih λj a=>h j (by simp[a])];simp[PyData.showable,h i (by simp)]
theorem KU(is:List Int):jR (is.map fg)=aB:=by
 induction is with
 | nil=>rfl
 | cons i r ih=>rw[cM,jR,ih];rfl
theorem O3{h:bH}:∀{is:List Int}{us:List aE},Vals (is.map V.int) us->ReadsAll h us (is.map fg) []
 | [],_,.nil=>.nil
 | i::r,_,.cons h1 h2=>by obtain⟨t,rfl⟩:=h1;exact ReadsAll.cons (as:=[]) (bs:=[]) (.int i t) (O3 h2)
theorem HV(is:List Int):m6 (is.map fg)<=1:=by
 induction is with
 | nil=>decide
 | cons i r ih=>
  rw[cM,m6];simp[nO];omega
end VX
namespace VX
open PySem PySem.Spec PyProof.Rows L2 VL
abbrev XR:=ZE->Option a0
noncomputable def tFX(K:aD)(O:List Nat)(fx:XR)(E:XK):TS:=λ_ σ H=>∃H0 fps s n,Rel K O H0 fps s σ H/\fx s=aA n/\∀C H',b6 K az n=aA (aA (.ref C))->Same H0 H'->E (.ref C) none H'
noncomputable def VX(X:Cx)(O:List Nat)(E:XK)(st:bS)(fx:XR):Prop:=PS X st (tFX X.K O fx E)
section
variable {X:Cx} {O W:List Nat} {E:XK} {C:aH} {bmB:List aE} {B newId initId:String} {x y:a0} {np n9 pos p1 p2 p3:fD} {jj k:Nat} {e:aq} {f:XE}
variable {st:bS} {n8 a b:List bS} {c:aq} {fc:XT} {f1 g1:XR} {fs:XS}
theorem HW{t:TS}(c:PS X st t)(d:∀D D' a H,t D a H->t D' a H):PSs X (st::n8) (λ_ a H=>t { nx:=λ_ _=>False,rt:=λ_ _=>False } a H):=by
 intro b s a H D I h;refine iN (Ys (c b s a H { nx:=λ_ _=>False,rt:=λ_ _=>False } I h) λf s1 q=>?_)
 cases f with
 | next=>obtain⟨_,_,_,z⟩:=q;exact z.elim
 | ret u=>obtain⟨_,_,_,_,_,z⟩:=q;exact z.elim
 | brk=>obtain⟨_,_,_,z⟩:=q;exact z.elim
 | cont=>obtain⟨_,_,_,z⟩:=q;exact z.elim
end
structure CalX(P:au)(w:bc)(K:aD)(mg:a0->Option aE)(base:bH)(x:a0)(ps:List a0)(sp:Sp)(k:Nat):Prop where
 ex:∃f fd,mg x=aA (.ref f)/\eV K (.ref f)=aC/\Binds K fd ps []/\Te P w K mg base (CX1 P w) k f fd ps sp
section
variable {X:Cx} {n5:List (aH×cy)} {σ:L2.St} {H:Hp} {s:aI}
theorem HX{A:bQ}{E:aE->aI->Prop}{i:Nat}{n:a0}{pos:fD}{Q:Unit->aI->Prop}(I:Inv X n5 σ H s)(P:X.N.Nodup)(B:X.N[i]?=aA n)(x:X.env.scope.names.lookup n=aA .local)
  (h:∀s',Inv X n5 (σ.set i none) H s'->Q () s'):ak (model X.prog X.w) A (do bindName X.env n .none;kR X.env n pos) Q E s:=by
 refine aF (wpAny_bindName (Ua I P B (.inl x) (v:=.non) rfl (λs1 a=>?_) (.inr x)));refine iS ?_;have t:(X.env.scope.kind==.class || (X.env.scope.kind==.module&&X.env.locals != X.env.globals))=aB:=by rw[I.ok.kind];rfl
 have f:i<σ.length:=by rw[I.len];exact(aS.mp B).1
 obtain⟨m,hn,M⟩:=id a.loc;obtain⟨u,ru,lk⟩:=M i n .non B (by rw[fZ f]) (.inl x);have l:X.env.kindOf n=aA .local:=x
 have R:m n=aA u:=by
  rcases lk with⟨_,z⟩ | ⟨z,_⟩
  ·exact z
  ·rw[l] at z;rcases z with z | z<;>cases z
 have cne:=a.cne;refine wpAny_unbindName_local l hn R t λh' u' G hs=>h _ ?_;refine⟨a.ok,a.os,a.bare,⟨λb o e n F r=>?_,λb o e n F r=>?_,a.base.free,λb o e r=>?_,a.base.tups,a.base.frzs,a.base.tbls⟩,⟨_,G,λj y N g w U=>?_⟩,λy c e=>?_,a.free,a.freeC,λp W=>?_,λb Z e=>?_,by have:=a.len;simpa using this⟩
 ·exact(hs.2 b (ar (aV (aQ e) a.ok.above))).trans (a.base.keep b o e n F r)
 ·obtain⟨sl,g⟩:=a.base.slot b o e n F r;exact⟨sl,(hs.2 b (ar (aV (aQ e) a.ok.above))).trans g⟩
 ·obtain⟨S,g⟩:=a.base.there b o e r;exact⟨S,(hs.2 b (ar (aV (aQ e) a.ok.above))).trans g⟩
 ·by_cases D:j=i
  ·subst D;rw[fZ f] at w;cases w
  ·have J:(σ.set i (aA V.non))[j]?=aA (aA N):=by rw[di (bB D)] at w ⊢;exact w
   obtain⟨u2,T,q⟩:=M j y N g J U;refine⟨u2,T,?_⟩;rcases q with⟨k,e⟩ | ⟨k,c,e,z⟩
   ·refine .inl ⟨k,?_⟩;have:y≠n:=λe=>D (Qr P g (e▸B));simp[this,e]
   ·exact .inr ⟨k,c,e,z.sameBut hs (cne y c e)⟩
 ·obtain⟨L,z⟩:=a.cell y c e;exact⟨L,z.sameBut hs (cne y c e)⟩
 ·obtain⟨e,n,ne,Y,d⟩:=a.pin p W;exact⟨(hs.2 p.1 ne).trans e,n,ne,Y,d⟩
 ·refine(a.hok b Z e).stay (λc L C q=>(hs.2 c ?_).trans q) (λ_ q=>q) (λ_ _ q=>q) λ_ _ q=>q;rintro rfl;have O:=a.free;rcases C with rfl | C
  ·rw[O] at e;cases e
  ·rw[O] at C;cases C
abbrev Cx.mark(X:Cx)(e:aH):Cx:={ X with A:=X.A.mark (aA (.ref e)),calm:=aB,xe:=λ_ _=>False }
theorem Lv{e:aH}(I:Inv X n5 σ H s):Inv (Cx.mark X e) n5 σ H s:=
 ⟨⟨I.ok.mod,I.ok.kind,I.ok.glob,I.ok.blt,I.ok.above,I.ok.inj,I.ok.has,I.ok.cab,(λz=>by cases z),I.ok.frames,I.ok.stk,I.ok.exf,I.ok.bs,I.ok.bsz,I.ok.noex,I.ok.exfs,I.ok.funs,I.ok.frf,I.ok.tab,I.ok.cod⟩,I.os,I.bare,I.base,I.loc,I.cell,I.free,I.freeC,I.pin,I.hok,I.len⟩
theorem KW{e:aH}(ok:X.Ok)(I:Inv (Cx.mark X e) n5 σ H s):Inv X n5 σ H s:=
 ⟨ok,I.os,I.bare,I.base,I.loc,I.cell,I.free,I.freeC,I.pin,I.hok,I.len⟩
noncomputable def Off(X:Cx)(n5:List (aH×cy))(b:aH):Prop:=X.s₀.heap.get? b=none/\b≠X.env.locals/\(∀x c,X.env.cells.lookup x=aA c->c≠b)/\∀p∈X.pn++n5,p.1≠b
theorem NU{b:aH}(I:Inv X n5 σ H s)(e:X.ex=[])(h:s.heap.get? b=none):Off X n5 b:=by
 refine⟨?_,λz=>?_,λx c f z=>?_,λp g z=>?_⟩
 ·cases r:X.s₀.heap.get? b with
  | none=>rfl
  | some o=>
   obtain⟨i,d⟩:=I.base.there b o r (by rw[e];simp);rw[h] at d;cases d
 ·obtain⟨m,⟨o,_,_,a,_⟩,_⟩:=I.loc;rw[z,a] at h;cases h
 ·obtain⟨v,o,a,_⟩:=I.cell x c f;rw[z] at a;rw[a] at h;cases h
 ·have:=(I.pin p g).1;rw[z] at this;rw[this] at h;cases h
theorem NV{ch:List aH}{h':bH}(I:Inv X n5 σ H s)(hx:X.ex=[])(A:X.env.frame=aA X.env.locals)(i:Eff ((X.env::X.outer).filterMap (·.frame)) ch s.heap h')(r:∀b∈ch,H b=none/\Off X n5 b)(B:X.stack=X.env::X.outer):Inv X n5 σ H { s with heap:=h' }:=by
 have S:=λb a=>by have:=I.stkFree b;rw[B] at this;exact this a
 have lt:∀b o,X.s₀.heap.get? b=aA o->b∉ch:=λb o z a=>by rw[(r b a).2.1] at z;cases z
 have nL:∀b o,X.s₀.heap.get? b=aA o->b≠X.env.locals:=λb o z a=>by subst a;exact cK _ (aV (aQ z) I.ok.above)
 have l:∀b,b≠X.env.locals->(b∈(X.env::X.outer).filterMap (·.frame)↔b∈X.fs):=λb z=>by rw[jY A,aa];exact⟨λh=>h.elim (λq=>absurd q z) λq=>q,.inr⟩
 have any:=λb o q a=>by
  by_cases z:b∈(X.env::X.outer).filterMap (·.frame)
  ·exact i.slot b o q a z
  ·exact⟨o.slots,i.keep b o q a z⟩
 obtain⟨m,⟨oL,es,ep,D,rL⟩,L⟩:=id I.loc;have u:=λz=>(r _ z).2.2.1 rfl;obtain⟨O,J⟩:=any _ _ D u;have f:∀c v,(∀b∈ch,c≠b)->s.heap.IsCell c v->h'.IsCell c v:=λc v C ⟨o,Y,P⟩=>by obtain⟨Z,q⟩:=any c o Y λz=>C c z rfl;exact⟨_,q,P⟩
 have cne:=λx c q b a=>(r b a).2.2.2.1 x c q;refine⟨I.ok,I.os,I.bare,⟨λb o e n a g=>?_,λb o e n a g=>?_,I.base.free,λb o e g=>?_,I.base.tups,I.base.frzs,I.base.tbls⟩,⟨m,⟨_,es,ep,J,rL⟩,λj y M e1 N T=>?_⟩,λy c e=>?_,I.free,I.freeC,λp E=>?_,Iq I.hok i (λb a=>(r b a).1) S,I.len⟩
 ·exact i.keep b o (I.base.keep b o e n a g) (lt b o e) λz=>a ((l b (nL b o e)).mp z)
 ·obtain⟨Z,t⟩:=I.base.slot b o e n a g;obtain⟨w,W⟩:=i.slot b _ t (lt b o e) ((l b (nL b o e)).mpr a);exact⟨w,W⟩
 ·obtain⟨U,t⟩:=I.base.there b o e g;exact i.there b U t
 ·obtain⟨R,Q,q⟩:=L j y M e1 N T;refine⟨R,Q,?_⟩;rcases q with q | ⟨k,c,e,z⟩
  ·exact .inl q
  ·exact .inr ⟨k,c,e,f c _ (cne y c e) z⟩
 ·obtain⟨G,z⟩:=I.cell y c e;exact⟨G,f c _ (cne y c e) z⟩
 ·obtain⟨e,n,ne,F,d⟩:=I.pin p E;exact⟨i.keep p.1 p.2 e (λz=>(r _ z).2.2.2.2 p E rfl) (λz=>F ((l p.1 ne).mp z)),n,ne,F,d⟩
theorem O4{e:aH}{i:cy}(I:Inv X n5 σ H s)(f:s.heap.get? e=aA i)(l:H e=none)(d:Off X n5 e):Inv X n5 σ (upd H e (.frz i (.own e))) s:=by
 have ne:∀b u,H b=aA u->b≠e:=λb u q z=>by rw[z,l] at q;cases q
 refine⟨I.ok,I.os,I.bare,⟨I.base.keep,I.base.slot,λb o q n k=>?_,I.base.there,λb h q=>?_,λb o u q=>?_,λb j q=>?_⟩,I.loc,I.cell,?_,λx c q=>?_,λp g=>?_,λb u q=>?_,I.len⟩
 ·rw[upd_ne (λz=>by rw[z,d.1] at q;cases q)];exact I.base.free b o q n k
 ·have:=I.base.tups b h q;rw[upd_ne (ne _ _ this)];exact this
 ·have:=I.base.frzs b o u q;rw[upd_ne (ne _ _ this)];exact this
 ·obtain⟨a,z⟩:=I.base.tbls b j q;exact⟨a,by rw[upd_ne (ne _ _ z)];exact z⟩
 ·rw[upd_ne (bB d.2.1)];exact I.free
 ·rw[upd_ne (d.2.2.1 x c q)];exact I.freeC x c q
 ·obtain⟨m,n,r⟩:=I.pin p g;exact⟨m,by rw[upd_ne (d.2.2.2 p g)];exact n,r⟩
 ·by_cases z:b=e
  ·subst z;rw[Zs] at q;cases q;exact⟨f,_,f⟩
  ·rw[upd_ne z] at q;exact(I.hok b u q).stay (λ_ _ _ r=>r) (λc r=>by rw[upd_ne (ne _ _ r)];exact r) (λc h r=>by rw[upd_ne (ne _ _ r)];exact r) λc u r=>by rw[upd_ne (ne _ _ r)];exact r
end
section
variable {M:mT} {A:bQ} {E:aE->aI->Prop}
variable {nm q nm' q':a0} {C N Cb N':aH} {bs bm bs' bm':List aE} {hdct hdct':Bool} {sn sn':List a0} {sub sub':List aE} {ab ab':Bool} {col col':Option Bool} {dd dd':Option aH} {k0 k1 k2 k3 k5 j0 j1 j2 j3 j5:Option aE} {newId newId':String}
theorem Lw{h:bH}{g:Array lY}{d:Drawn}{t:Nat}{os:OsState}{e:aH}{k:cy}{Q:Bool->aI->Prop}
  (m:h.get? C=aA (cq nm q C N bs bm hdct sn sub ab col dd k0 k1 k2 k3 k5 newId)) (i:h.get? Cb=aA (cq nm' q' Cb N' bs' bm' hdct' sn' sub' ab' col' dd' j0 j1 j2 j3 j5 newId')) (l:h.get? e=aA k) (a:k.cls = .ref C) (b:bm'.contains (.type "BaseException")=aC)
  (j:Q ((cJ C::bm).contains (.ref Cb)) ⟨h,g,d,t,os⟩):ak M A (excMatches (.ref e) (.ref Cb)) Q E ⟨h,g,d,t,os⟩:=by
 have c:(cJ Cb::bm').contains (.type "BaseException")=aC:=by rw[fA,b,iD]
 have f:=tc_notTuple
 cases hcC:(cJ C::bm).contains (.ref Cb) with
 | true=>
  rw[hcC] at j
  repeat (first | (with_reducible refine ba l ?_;rw[a]) | with_reducible refine ba i ?_ | (with_reducible refine cV i ?_;rw[c]) | (with_reducible refine cV m ?_;rw[hcC]) | wp_step)
  exact j
 | false=>
  rw[hcC] at j
  repeat (first | (with_reducible refine ba l ?_;rw[a]) | with_reducible refine ba i ?_ | (with_reducible refine cV i ?_;rw[c]) | (with_reducible refine cV m ?_;rw[hcC]) | wp_step)
  exact j
end
noncomputable def belowIn(K:aD)(C Cb:aH):Bool:=match K.lookup C with
 | some ⟨_,_,.cls cd,_⟩=>cd.mro.contains (.ref Cb)
 | _=>aB
theorem Ea{K:aD}{h:bH}{C a:aH}{nm f:a0}{N:aH}{bs b:List aE}{hdct:Bool}{sn:List a0}{sub:List aE}{ab:Bool}{col:Option Bool}{dd:Option aH}{k0 k1 k2 k3 k5:Option aE}{newId:String}(X:K.In h)(e:belowIn K C a=aC)
  (d:h.get? C=aA (cq nm f C N bs b hdct sn sub ab col dd k0 k1 k2 k3 k5 newId)):(cJ C::b).contains (.ref a)=aC:=by
 unfold belowIn at e;split at e
 ·rename_i c;have:=X _ _ c;rw[d] at this;cases this;exact e
 ·cases e
section
variable {X:Cx} {n5:List (aH×cy)} {σ:L2.St} {H:Hp} {s:aI} {e T C Cb:aH} {dd:Option aH} {cx n:a0} {np pos:fD} {b₀:bS} {suite:List bS} {n8:List gC} {ts:TS} {D:YH} {i:Nat}
noncomputable def Eb(i:Nat)(D:YH):YH:={ nx:=λσ H=>D.nx (σ.set i none) H,rt:=D.rt,bk:=λσ H=>D.bk (σ.set i none) H,ct:=λσ H=>D.ct (σ.set i none) H }
theorem Zfb(I:Inv X n5 σ H s)(U:X.ex=[])(c:X.stack=X.env::X.outer)(j:X.env.frame=aA X.env.locals)(x:F7 s.heap e (.ref C) dd T .none)(hH:H e=none)(Z:H T=none)(w:Off X n5 e)(oT:Off X n5 T)
  (hN:X.N.Nodup) (hi:X.N[i]?=aA n) (hk:X.env.scope.names.lookup n=aA .local) (hg:Gl X cx) (hm:X.mg cx=aA (.ref Cb)) (hC:dM X.K C "BaseException" = aC) (hB:dM X.K Cb "BaseException" = aC) (O:belowIn X.K C Cb=aC)
  (hs:PSs (Cx.mark X e) (b₀::suite) ts) (q:∀w:cy,w.cls = .ref C->w.dict=dd->(∃vs,w.data = .fields vs)->ts (Eb i D) (σ.set i (aA (.ref e))) (upd H e (.frz w (.own e))))
  (hdb:(cx==("__debug__" : a0))=aB:=by decide) :
  ak (model X.prog X.w) X.A (ig (.ref e) X.env) (λ_ J=>ak (model X.prog X.w) X.A (setFlight (.ref e) none) (λ_ d=>
   ak (model X.prog X.w) X.A (handleBy (.ref e) X.env (.ExceptHandler (aA (.Name cx np)) (aA n) (b₀::suite) pos::n8)) (SP X n5 D) X.xe d) X.xe J) X.xe s:=by
 have o:=I.stack;rw[c] at o;have m:=I.ok.frames;rw[c] at m;refine Zda m o j x λh1 T' M x1 e1=>?_
 have I1:=NV I U j e1 (λb O=>by
  rcases aa.mp O with z | z
  ·rw[z];exact⟨hH,w⟩
  ·rw[ah.mp z];exact⟨Z,oT⟩) c
 have oT':=NU I U (fJ M);have B:=I.hok.fresh M;have E:∀b∈[T'],H b=none/\Off X n5 b:=λb O=>by rw[ah.mp O];exact⟨B,oT'⟩
 refine NS x1 (fs:=(X.env::X.outer).filterMap (·.frame)) λh2 x2 e2 _=>?_;have Q:=NV I1 U j e2 E c;refine wpAny_handleBy_cons (codeAny_handlers_test ?_) (by intro z;cases z);have I2m:Inv (Cx.mark X e) n5 σ H { s with heap:=h2 }:=Lv Q;refine Vq I2m hg hm ?_ hdb;obtain⟨nm,qn,N,bs,bm,hdct,sn,sub,ab,col,dc,k0,k1,k2,k3,k5,nid,P,_,_⟩:=eI Q.kIn hC;obtain⟨nm',qn',N',bs',bm',Y,sn',sub',ab',col',dc',j0,j1,j2,j3,j5,nid',hBo,p,_⟩:=eI Q.kIn hB;obtain⟨ob,vs,oT2,tsx,heo,G,hdd,hdat,_⟩:=id x2;refine Lw P hBo heo G p ?_;rw[Ea Q.kIn O P];refine codeAny_handlers_suite_as ?_;refine NS x2 (fs:=(X.env::X.outer).filterMap (·.frame)) λh3 x3 e3 _=>?_;have I3:=NV Q U j e3 E c;obtain⟨W,vs3,oT3,ts3,F,y,L,r,_⟩:=id x3;have I4:=O4 I3 F hH w;refine Ua (X:=Cx.mark X e) (Lv I4) hN hi (.inl hk) (v:=.ref e) rfl (λs5 I5=>?_) (.inr hk);refine b9 (hs n5 s5 _ _ (Eb i D) I5 (q W y L ⟨_,r⟩)) (λf l R=>?_) λ_ _ z=>z.elim
 have S:∀a g l,Inv (Cx.mark X e) n5 a g l->(∀A,Inv X n5 (a.set i none) g A->SP X n5 D f A)->ak (model X.prog X.w) X.A (do bindName X.env n .none;kR X.env n pos) (λ_ d=>SP X n5 D f d) X.xe l:=λa g l h k=>
  HX (KW I.ok h) hN hi hk k
 cases f with
 | next=>
  obtain⟨a,g,h,z⟩:=R;exact S a g l h λA t=>⟨_,_,t,z⟩
 | ret u=>
  obtain⟨v,a,g,h,r6,z⟩:=R;exact S a g l h λA t=>⟨v,_,_,t,r6,z⟩
 | brk=>
  obtain⟨a,g,h,z⟩:=R;exact S a g l h λA t=>⟨_,_,t,z⟩
 | cont=>
  obtain⟨a,g,h,z⟩:=R;exact S a g l h λA t=>⟨_,_,t,z⟩
end
noncomputable def BZ(i:Nat):MP->MP
 | .nx s=>.nx (s.set i none)
 | .bk s=>.bk (s.set i none)
 | .ct s=>.ct (s.set i none)
 | .rt l=>.rt l
theorem Pf{K:aD}{O:List Nat}{m H:Hp}{fps:Nat->List aH}{s:ZE}{n:Sq}{i:Nat}(d:i∉O)(r:Rel K O m fps s n H):Rel K O m (λj=>if j=i then [] else fps j) (s.set i none) (n.set i none) H:=by
 refine⟨r.same,by rw[cj,cj];exact r.len,λj a e=>?_,λj h=>?_,λj c=>?_,λj c p g=>?_,λj c k o p g=>?_⟩
 ·by_cases b:j=i
  ·subst b;rw[bG] at e;simp at e
  ·rw[di (bB b)] at e ⊢;rw[ng b];exact r.is j a e
 ·by_cases b:j=i
  ·rw[nZ b]
  ·rw[ng b];refine r.emp j λl z=>h l ?_;rw[di (bB b)];exact z
 ·have b:j≠i:=λz=>d (z▸c);simp only[ng b];exact r.nd j c
 ·have b:j≠i:=λz=>d (z▸c);simp only[ng b] at g;exact r.own j c p g
 ·have b:j≠i:=λz=>d (z▸c);simp only[ng b] at g;by_cases f:k=i
  ·rw[nZ f];simp
  ·rw[ng f];exact r.dis j c k o p g
end VX
namespace VX
open PySem PySem.W PySem.Spec PyProof.Rows L2
noncomputable def exiIn(K:Frag)(C:aH)(bmB:List aE)(newId:String)(fI:aH):Bool:=
 match K.lookup C with
 | some ⟨.type "type",_,.cls cd,sl⟩=>
  match cd.mro,sl.toList with
  | .ref C'::bm,[_,_,_,_,aA (.builtin n),_]=>C'==C&&n==newId&&!cd.hasDel&&tailIn K bmB bm&&nsOkIn K cd.ns&&nsIn K cd.ns "__init__"==aA (aA (.ref fI))
  | _,_=>aB
 | _=>aB
theorem Zdb{K:Frag}{h:bH}{N:aH}{m:a0->Option aE}{n:a0}{v:aE}(X:K.In h)(G:h.Ns N m)(e:nsIn K N n=aA (aA v)):m n=aA v:=by
 obtain⟨o,es,ep,i,f,_,g⟩:=G;unfold nsIn at e;split at e
 ·rename_i c d a j k q;have z:=X _ _ q;rw[i] at z;cases z;cases f;rw[<-g n];split at e
  ·rename_i l b;cases e;show nN _ es n=_;unfold nN;rw[<-il,b];rfl
  ·split at e
   ·cases e
   ·cases e
 ·cases e
theorem Iu{K:Frag}{h:bH}{C fI:aH}{c:List aE}{newId:String}(X:K.In h)(q:exiIn K C c newId fI=aC) :
  ∃d N nm e bs hdct sn sub ab col dd k0 k1 k2 k3 k5 mN,h.get? C=aA (cq nm e C N bs d hdct sn sub ab col dd k0 k1 k2 k3 k5 newId)/\h.Ns N mN/\mN "__init__" = aA (.ref fI)/\lp h c d:=by
 unfold exiIn at q;split at q
 ·rename_i dd j i s;split at q
  ·rename_i t d k0 k1 k2 k3 n k5 o hs;simp only[bX,beq_iff_eq,lu] at q;obtain⟨⟨⟨⟨⟨rfl,rfl⟩,b⟩,p⟩,a⟩,g⟩:=q;obtain⟨nm,bs,r,k,e,m,sn,sub,ab,col,Sj⟩:=j;subst o b;have f:i = #[k0,k1,k2,k3,aA (.builtin n),k5]:=by obtain⟨l⟩:=i;simp only at hs;rw[hs]
   subst f;refine⟨d,k,nm,e,bs,m,sn,sub,ab,col,dd,k0,k1,k2,k3,k5,_,X _ _ s,.of_isNs (isNs_of_in X a),?_,tail_of_in X p⟩;exact Zdb X (.of_isNs (isNs_of_in X a)) g
  ·cases q
 ·cases q
noncomputable def T9(C e t:aH):bH->Prop:=λh=>h.get? e=aA (Ir C t)
noncomputable def V5(C e t dx:aH):bH->Prop:=λh=>h.get? e=aA { Ir C t with dict:=aA dx }
structure BInit(K:Frag)(Cb:aH)(initId:String):Prop where
 ga:specialIn K (.ref Cb) "__getattribute__" = aA (aA (.builtin "type.__getattribute__"))
 rd:readsIn K Cb (.type "type")=aC
 fc:findCls K (.ref Cb) (.type "type") "__init__" = aA (.val (.builtin initId))
section
variable {X:Cx} {x:a0} {np ap n9 pos:fD} {a b o value:aq} {t:TA} {ta tv:TE} {C Cb fI:aH} {bmB:List aE} {B newId initId:String} {f:a0}
theorem Ec{pl:Sem Bool}(F:gQ B newId initId bmB)(m:BInit X.K Cb initId)(hC:exiIn X.K C bmB newId fI=aC)(L:Gl X x)(U:X.mg x=aA (.ref Cb))(S:handedIn (.builtin initId)=aC)(O:PA X [a,b] t)
  (j:(x==("__debug__" : a0))=aB:=by decide) (l:(dD n9 (aO [b] X.env)).any (·.1)=aB:=by rfl) (hs:aO [a,b] X.env=(aB,eval a X.env)::aO [b] X.env:=by rfl)
  (Y:eval (.Call (.Attribute (.Name x np) "__init__" ap) [a,b] [] n9) X.env=(do
   let A <-eval (.Name x np) X.env
   standAt ap.atName
   let(f,first) <-holding [A] (getMethod A "__init__" pl)
   callWith n9 f first (dD n9 (aO [a,b] X.env)) (backToKw n9 (mV [] X.env))):=by rfl) :
  PE X (.Call (.Attribute (.Name x np) "__init__" ap) [a,b] [] n9) (λc H Q=>t c H λvs E=>∃e v D,vs=[.ref e,v]/\E e=aA (.ext (T9 C e D))/\∀t1,Q .non (upd E e (.ext (T9 C e t1)))):=by
 intro T s c H Q I h;refine PySem.W.methodCall_KW (Vq I L U ?_ j) Y;refine PySem.W.method_cls I.kIn m.ga (PySem.W.cls_value I.kIn m.rd m.fc S ?_);have I0:=I.kept (t':=s.toks+1) λ_ _ q=>q;have G:=O n9 T _ c H _ I0 h;rw[hs] at G ⊢;refine jo (by show(aB || (dD n9 (aO [b] X.env)).any (·.1))=aB;rw[l]<;>rfl) (iU ?_);refine Ys G λus s2 ⟨vs,H2,i,R,e,v,D,P,w,q⟩=>?_;subst P
 obtain⟨u,n,rfl,rfl,rv⟩:∃u n,us=[u,n]/\u=cJ e/\RelV v n:=by
  cases R with
  | cons J y=>cases y with
   | cons h3 h4=>cases h4;exact⟨_,_,rfl,J,h3⟩
 obtain⟨bm,N,nm,qn,bs,hdct,sn,sub,ab,col,dd,k0,k1,k2,k3,k5,mN,p,hN,hi,M⟩:=Iu i.kIn hC;obtain⟨W,_,_⟩:=(i.hok e _ w);obtain⟨Z,g,d,tk,os⟩:=s2;refine HR F M p W λh' kp r e2=>?_;refine⟨.non,_,i.write (o:=.ext (T9 C e Z.objs.size)) (by rw[w];trivial) (.inl rfl) kp ⟨_,r⟩ ⟨r,⟨_,r⟩,λJ y z k=>k _ z⟩,rfl,q _⟩
theorem CB(hC:exiIn X.K C bmB newId fI=aC)(x:findIn X.K (.ref C) "__setattr__" = aA (aA (.builtin "object.__setattr__")))(J:veOver X.K C=aC)(Z:takerIn X.K C f=aA none)(S:(clsIn X.K C).any (·.hasDict)=aC)(A:X.ex=[])
  (O:PE X o ta) (P:PE X value tv) (hs:fT value (aA (.Attribute o f np)) pos.line X.env=pure aB:=by rfl) :
  PS X (.Assign [.Attribute o f np] value pos) (λD g H=>tv g H λy w=>ta g w λz i=>∃e d,z = .ref e/\i e=aA (.ext (T9 C e d))/\
   ∀a c u,RelV y u->i a=none->a≠e->VL.NsO c f u->D.nx g (upd (upd i a (.frz c (.own a))) e (.ext (V5 C e d a)))):=by
 intro G s g H D I h;refine plainObj_wpAny_Assign_Attribute (Ys (P G s g H _ I h) λu s1 ⟨y,w,W,M,q⟩=>Ys (O G s1 g w _ W q) λov s2 ⟨z,i,m,T,e,d,ez,F,Q⟩=>?_) hs;subst ez;obtain rfl:=T;obtain⟨Y,_,_⟩:=(m.hok e _ F);refine HQ m.kIn Y rfl rfl rfl x J Z S λh' B a kp v p j hn=>?_;obtain⟨c,es,ep,ho,r,E,t,U⟩:=id hn;have l:=m.hok.fresh p;have N:VL.NsO c f u:=λJ b z=>⟨c,es,ep,z,r,E,t,U⟩;have R:=m.write (t':=B) (o:=.ext (V5 C e d a)) (by rw[F];trivial) (.inl rfl) kp ⟨_,v⟩ ⟨v,⟨_,v⟩,λh1 h2 z k=>k _ z⟩;have n:upd i e (.ext (V5 C e d a)) a=none:=by rw[upd_ne j];exact l
 have off:=NU m A (fJ p);have L:=O4 R (ho) n off
 have sw:upd (upd i e (.ext (V5 C e d a))) a (.frz c (.own a))=upd (upd i a (.frz c (.own a))) e (.ext (V5 C e d a)):=by
  funext b;unfold upd;by_cases z:b=a
  ·rw[nZ z,ng (λy=>j (z.symm.trans y)),nZ z]
  ·rw[ng z];by_cases y:b=e
   ·rw[nZ y,nZ y]
   ·rw[ng y,ng y,ng z]
 rw[sw] at L;exact⟨g,_,L,Q a c u M l j N⟩
end
end VX
namespace VX
open PySem PySem.Spec PyProof.Rows L2
theorem Lx{m:Nat}:∀{ts:List a0},(∀t∈ts,t.length<=m)->piled ts<=ts.length*(m+2)
 | [],_=>by simp[piled]
 | t::r,h=>by have c:=Lx (m:=m) (ts:=r) λu a=>h u (by simp[a]);have b:=h t (by simp);rw[bp,kS,piled_cons];omega
theorem CC{m:Nat}{ts:List a0}(h:∀t∈ts,t.length<=m):(a0.join ", " ts).length<=ts.length*(m+2):=by
 by_cases q:ts=[]
 ·subst q;exact dj _
 ·have:=join_length_add ts q;have:=Lx h;omega
theorem NW{m:Nat}{ts:List a0}(h:∀t∈ts,t.length<=m):(tupleText ts).length<=3+ts.length*(m+2):=by
 unfold tupleText;rw[fP,fP];have:=CC h;have b:(js "(").length=1:=by decide
 have a:(js (if(ts.length==1)=aC then ",)" else ")" : String)).length<=2:=by split<;>decide
 omega
noncomputable def Pg(H:Hp)(v:V):Prop:=v = .non\/(∃i:Int,v = .int i/\i.natAbs.log2<1920)\/∃(a:aH) (is:List Int),v = .ref a/\H a=aA (.tup (is.map V.int))/\is.length<=100/\∀i∈is,i.natAbs.log2<1920
section
variable {X:Cx} {k:Nat} {e:aq} {te:TE} {y:a0} {p1 p2 p3:fD} {jj:Nat}
noncomputable def B1(te:TE):TE:=λσ H Q=>te σ H λv H1=>Pg H1 v/\∀z,Q (.str z) H1
end
end VX
namespace VX
open PySem PySem.W PySem.Spec PyProof.Rows L2 VL
noncomputable def spI(C:aH)(f:a0):Sp:=λvs H Q _=>vs.length=2/\∃e v t0,vs=[.ref e,v]/\H e=aA (.ext (T9 C e t0))/\Pg H v/\
 ∀t1 dx od u,RelV v u->H dx=none->dx≠e->NsO od f u->Q .non (upd (upd H dx (.frz od (.own dx))) e (.ext (V5 C e t1 dx)))
noncomputable def Zdc(C:aH)(f:a0):TS:=
 Zb8 (MT (λσ H Q=>U6 (Tx 0) (U6 (B1 (Tx 1)) Ht) σ H λvs H1=>∃e v t0,vs=[.ref e,v]/\H1 e=aA (.ext (T9 C e t0))/\∀t1,Q .non (upd H1 e (.ext (T9 C e t1)))))
  (λD σ H=>Tx 1 σ H λy H1=>Tx 0 σ H1 λz H2=>∃e t1,z = .ref e/\H2 e=aA (.ext (T9 C e t1))/\
   ∀dx od u,RelV y u->H2 dx=none->dx≠e->NsO od f u->D.nx σ (upd (upd H2 dx (.frz od (.own dx))) e (.ext (V5 C e t1 dx))))
theorem HY{C:aH}{f a b:a0}{vs:List V}{H:Hp}{Q:VK}{E:XK}(h:spI C f vs H Q E):Zdc C f { nx:=λ_ p=>Q .non p,rt:=Q } (start [a,b] vs) H:=by
 obtain⟨_,e,v,n,rfl,l,r,q⟩:=h;refine⟨.ref e,rfl,v,rfl,r,λz=>⟨e,.str z,n,rfl,l,λg=>?_⟩⟩;refine⟨v,rfl,.ref e,rfl,e,g,rfl,Zs,λd j u o k i m=>?_⟩;rw[upd_ne i] at k;have:=q g d j u o k i m
 have sw:upd (upd (upd H e (.ext (T9 C e g))) d (.frz j (.own d))) e (.ext (V5 C e g d))=upd (upd H d (.frz j (.own d))) e (.ext (V5 C e g d)):=by
  funext c;unfold upd;by_cases y:c=e
  ·rw[nZ y,nZ y]
  ·rw[ng y,ng y,ng y]
 rw[sw];exact this
noncomputable def Ly(H:Hp)(e:aH):Hp:=λb=>if b=e then none else H b
theorem CD{X:Cx}{i:List (aH×cy)}{h:L2.St}{H:Hp}{s:aI}{e:aH}{v:bH->Prop}(I:Inv X i h H s)(k:H e=aA (.ext v)):Inv X i h (Ly H e) s:=by
 have ne:∀b u,H b=aA u->(∀ψ,u≠.ext ψ)->Ly H e b=aA u:=λb u q n=>by unfold Ly;rw[ng (λz=>by rw[z,k] at q;cases q;exact n _ rfl)];exact q
 have g:∀b,H b=none->Ly H e b=none:=λb q=>by
  unfold Ly;split
  ·rfl
  ·exact q
 refine⟨I.ok,I.os,I.bare,⟨λb o q n f d=>?_,λb o q n f d=>?_,λb o q n d=>g b (I.base.free b o q n d),I.base.there,λb j q=>ne b _ (I.base.tups b j q) (λ_ z=>nomatch z),λb o u q=>ne b _ (I.base.frzs b o u q) (λ_ z=>nomatch z),λb l q=>?_⟩,I.loc,I.cell,g _ I.free,λx c q=>g c (I.freeC x c q),λp m=>?_,λb u q=>?_,I.len⟩
 ·exact I.base.keep b o q n f d
 ·exact I.base.slot b o q n f d
 ·obtain⟨a,z⟩:=I.base.tbls b l q;exact⟨a,ne b _ z λ_ z=>nomatch z⟩
 ·obtain⟨t,n,r⟩:=I.pin p m;exact⟨t,g _ n,r⟩
 ·have f:H b=aA u:=by
   unfold Ly at q;split at q
   ·cases q
   ·exact q
  exact(I.hok b u f).stay (λ_ _ _ r=>r) (λc r=>ne c _ r λ_ z=>nomatch z) (λc j r=>ne c _ r λ_ z=>nomatch z) λc u r=>ne c _ r λ_ z=>nomatch z
structure Zaw(P:au)(w:bc)(K:Frag)(mg:a0->Option aE)(base:bH)(C:aH)(f:a0)(bmB:List aE)(newId:String):Prop where
 ex:∃fI fd oI,exiIn K C bmB newId fI=aC/\K.lookup fI=aA oI/\oI.cls = .type "function"/\Binds K fd ["self",f] []/\Te P w K mg base OI 1 fI fd ["self",f] (spI C f)
structure New(X:Cx)(E:XK):Prop where
 go:∀{n5:List (aH×cy)}{σ:L2.St}{H:Hp}{s:aI}{e:aH}{cls:aE}{dd:Option aH},Inv X n5 σ H s->F6 s.heap e cls dd->X.s₀.heap.get? e=none->H e=none->E cls dd H->X.xe (.ref e) s
section
variable {X:Cx} {E:XK} {C:aH} {bmB:List aE} {B newId initId:String} {x f:a0} {np n9 pos:fD} {a:aq} {ta:TE}
theorem HZ(F:gQ B newId initId bmB)(CF:Zaw X.prog X.w X.K X.mg X.base C f bmB newId)(hr:Room 2 X.A)(hg:Gl X x)(hm:X.mg x=aA (.ref C))(A:X.calm=aC)(DX:New X E)(ha:PE X a ta)
  (W:(x==("__debug__" : a0))=aB:=by decide) (Q:aO [a] X.env=(aB,eval a X.env)::aO [] X.env:=by rfl) :
  PS X (.Raise (aA (.Call (.Name x np) [a] [] n9)) none pos) (λ_ P H=>ta P H λv i=>Pg i v/\∀g j u,RelV v u->i g=none->NsO j f u->E (.ref C) (aA g) (upd i g (.frz j (.own g)))):=by
 intro n5 s P H D I h;obtain⟨fI,fd,oI,hq,S,Z,hb,FO⟩:=CF.ex;have X0:X.K.In X.base:=I.ok.mod.kin;obtain⟨Y,N,nm,qn,bs,hdct,sn,sub,ab,col,dd,k0,k1,k2,k3,k5,mN,hC,hN,hi,TL⟩:=Iu X0 hq;refine VJ (nm:=nm) (q:=qn) (N:=N) (bs:=bs) (hdct:=hdct) (sn:=sn) (sub:=sub) (ab:=ab) (col:=col) (dd:=dd) (k0:=k0) (k1:=k1) (k2:=k2) (k3:=k3) (k5:=k5) F (mN:=mN) (fI:=fI) (oI:=oI) (TL.hasType F.hasBase) (I.ok.hd A) (by rw[Q];rfl) hi Z (Vq I hg hm ⟨rfl,?_⟩ W);have pa:PA X [a] (U6 ta Ht):=Z4 ha Xv (hs:=Q)
 have M:ak (model X.prog X.w) X.A (spliced (dD n9 (aO [a] X.env))) (λO d=>O.length<=sizeLine/\d.heap.get? C=aA (cq nm qn C N bs Y hdct sn sub ab col dd k0 k1 k2 k3 k5 newId)/\d.heap.Ns N mN/\lp d.heap bmB Y/\d.heap.get? fI=aA oI/\
    ∀h',(∀b o,d.heap.get? b=aA o->h'.get? b=aA o)->h'.get? (d.heap.objs.size+1)=aA { cls:=.ref C,data:=.fields #[.ref d.heap.objs.size,.none,.none,.none,.bool aB,.none] }->
     ak (model X.prog X.w) (X.A.under (.builtin "type.__call__" ⟨.ref C::O,[]⟩)) (call (.ref fI) (.ref (d.heap.objs.size+1)::O)) (λr m=>r = .none/\∃t g,m.heap.get? C=aA (cq nm qn C N bs Y hdct sn sub ab col dd k0 k1 k2 k3 k5 newId)/\
      m.heap.get? (d.heap.objs.size+1)=aA { cls:=.ref C,dict:=g,data:=.fields #[.ref t,.none,.none,.none,.bool aB,.none] }/\X.xe (.ref (d.heap.objs.size+1)) m) X.xe { d with heap:=h' }) X.xe s:=by
  refine Ys (pa n9 n5 s P H (λvs i=>match vs with | [v]=>Pg i v/\∀g j u,RelV v u->i g=none->NsO j f u->E (.ref C) (aA g) (upd i g (.frz j (.own g))) | _=>False) I h) λO d ⟨vs,i,n,r,q⟩=>?_
  obtain⟨v,rfl⟩:∃v,vs=[v]:=by
   match vs,q with
   | [v],_=>exact⟨v,rfl⟩
  obtain⟨hs,hE⟩:Pg i v/\∀g j u,RelV v u->i g=none->NsO j f u->E (.ref C) (aA g) (upd i g (.frz j (.own g))):=q;obtain⟨u,rfl,ru⟩:=TF r;refine⟨by show 1<=_;decide,n.bk _ _ hC,hN.keeps n.bk,TL.keeps n.bk,n.bk _ _ (X0 _ _ S),λh' kp R=>?_⟩;generalize hea:d.heap.objs.size+1=e at R ⊢;have L:d.heap.objs.size<=e:=by omega
  have w:i e=none:=n.hok.fresh L;have I2:Inv X n5 P (upd i e (.ext (T9 C e d.heap.objs.size))) { d with heap:=h' }:=n.laid (t':=d.toks) kp L ⟨R,⟨_,R⟩,λh1 J z k=>k _ z⟩
  have hs':Pg (upd i e (.ext (T9 C e d.heap.objs.size))) v:=by
   rcases hs with z | z | ⟨c,is,z1,z2,z3⟩
   ·exact .inl z
   ·exact .inr (.inl z)
   ·exact .inr (.inr ⟨c,is,z1,by rw[upd_ne (Zt z2 w)];exact z2,z3⟩)
  have r2:Vals [V.ref e,v] [cJ e,u]:=.cons rfl (.cons ru .nil);let QF:VK:=λr H'=>r = .non/\∃p g j G,RelV v G/\i g=none/\g≠e/\NsO j f G/\H'=upd (upd (upd i e (.ext (T9 C e d.heap.objs.size))) g (.frz j (.own g))) e (.ext (V5 C e p g));have T:spI C f [V.ref e,v] (upd i e (.ext (T9 C e d.heap.objs.size))) QF E0:=⟨rfl,e,v,_,rfl,Zs,hs',λp g j G h1 J h3 h4=>⟨rfl,p,g,j,G,h1,by rw[upd_ne h3] at J;exact J,h3,h4,rfl⟩⟩;refine ip (gx (FO.run _ X.stack _ _ ⟨[.ref e,u],[]⟩ [.ref e,u] [V.ref e,v] QF E0 (hr.make C [u] []) (I2.env0.make C [u] []) (hb _ [.ref e,u] I2.kIn rfl) r2 T) λrr s' l=>?_)
  cases rr with
  | error ee=>exact cD l
  | ok fl=>
   cases fl with
   | next=>exact cD l
   | brk=>exact cD l
   | cont=>exact cD l
   | ret u2=>
    obtain⟨v2,H',U,rv,ev,p,g,j,G,q1,q2,q3,q4,rfl⟩:=I2.after l;subst ev;obtain⟨ho,_,_⟩:=(show ObjOk X.prog X.w _ s'.heap e (.ext (V5 C e p g)) from U.hok e _ Zs);have I4:=CD U (e:=e) Zs
    have eH:Ly (upd (upd (upd i e (.ext (T9 C e d.heap.objs.size))) g (.frz j (.own g))) e (.ext (V5 C e p g))) e=upd i g (.frz j (.own g)):=by
     funext c;unfold Ly upd;by_cases y:c=e
     ·rw[nZ y,ng (λz=>q3 (z.symm.trans y)),y,w]
     ·rw[ng y,ng y,ng y]
    rw[eH] at I4;refine⟨rv,p,aA g,U.bk _ _ hC,ho,?_⟩;refine DX.go I4 ⟨_,_,ho,rfl,rfl,rfl,rfl⟩ ?_ ?_ (hE g j G q1 q2 q4)
    ·cases z:X.s₀.heap.get? e with
     | none=>rfl
     | some o=>
      exact absurd (aV (aQ z) n.sz) (by omega)
    ·rw[upd_ne (bB q3)];exact w
 rw[Q] at M ⊢;exact iU (b9 M (λO d J=>⟨rfl,J⟩) λ_ _ z=>z)
end
end VX
namespace VX
open PySem PySem.Spec PyProof.Rows L2 VL
abbrev XF:=ZE->Option (a0×PV)
noncomputable def GoY(K:aD)(E:XK)(H0:Hp)(n:a0)(l:PV):Prop:=∀C dx od u z H',b6 K az n=aA (aA (.ref C))->Same H0 H'->H' dx=aA (.frz od (.own dx))->NsO od (WS n) u->RelV z u->Is K H' l z []->E (.ref C) (aA dx) H'
noncomputable def tFY(K:aD)(O:List Nat)(fy:XF)(E:XK):TS:=λ_ σ H=>∃H0 fps s n l,Rel K O H0 fps s σ H/\fy s=aA (n,l)/\GoY K E H0 n l
noncomputable def VY(X:Cx)(O:List Nat)(E:XK)(st:bS)(fy:XF):Prop:=PS X st (tFY X.K O fy E)
noncomputable def B2(X:Cx)(O:List Nat)(E:XK)(st:List bS)(fy:XF):Prop:=PSs X st (tFY X.K O fy E)
noncomputable def Lz:PV->Bool
 | .non=>aC
 | .int i=>decide (i.natAbs.log2<1920)
 | .tup l=>match Xh l with
  | some is=>decide (is.length<=100)&&is.all λi=>decide (i.natAbs.log2<1920)
  | none=>aB
 | _=>aB
theorem Ed{K:aD}{H:Hp}{l:PV}{v:V}{e:List aH}(h:Is K H l v e)(g:Lz l=aC):Pg H v/\e=[]:=by
 cases l with
 | non=>exact⟨.inl h.non_inv.1,h.non_inv.2⟩
 | int i=>exact⟨.inr (.inl ⟨i,h.int_inv.1,of_decide_eq_true g⟩),h.int_inv.2⟩
 | tup l=>
  have a:(match Xh l with | some is=>decide (is.length<=100)&&is.all λi=>decide (i.natAbs.log2<1920) | none=>aB)=aC:=g;split at a
  ·rename_i is c;have:=Y9 c;subst this;obtain⟨p,j,rfl,f,d⟩:=h.tup_inv;obtain⟨rfl,rfl⟩:=d.iL;rw[bX] at a;exact⟨.inr (.inr ⟨p,is,rfl,f,of_decide_eq_true a.1,λi d=>of_decide_eq_true (bA.mp a.2 i d)⟩),rfl⟩
  ·cases a
 | bl b=>cases g
 | str x=>cases g
 | ty n=>cases g
 | exc n=>cases g
 | exf n l=>cases g
 | clo n l=>cases g
 | lst l=>cases g
 | cst l=>cases g
 | dK ks l=>cases g
 | dT ks l=>cases g
noncomputable def Ur(n:a0)(f:XE):XF:=λs=>(f s).bind λl=>if Lz l=aC then aA (n,l) else none
noncomputable def yIf(fc:XT)(f g:XF):XF:=λs=>(fc s).bind λc=>if c=aC then f s else g s
noncomputable def LA(f1:XF)(f:XS)(g:XF):XF:=λs=>match f1 s with
 | some c=>aA c
 | none=>(match f s with
  | some (.nx s')=>g s'
  | _=>none)
noncomputable def Dx:XF:=λ_=>none
section
variable {X:Cx} {O W:List Nat} {E:XK} {C:aH} {bmB:List aE} {B newId initId:String} {x:a0} {np n9 pos:fD} {e:aq} {f:XE}
theorem Ee(F:gQ B newId initId bmB)(I:Zaw X.prog X.w X.K X.mg X.base C (WS x) bmB newId)(p:Room 2 X.A)(k:Gl X x)(y:X.mg x=aA (.ref C))(c:b6 X.K az x=aA (aA (.ref C)))(a:X.calm=aC)(h:New X E)(j:VE X e f)
  (b:(x==("__debug__" : a0))=aB:=by decide) (d:aO [e] X.env=(aB,eval e X.env)::aO [] X.env:=by rfl) :
  VY X O E (.Raise (aA (.Call (.Name x np) [e] [] n9)) none pos) (Ur x f):=
 PS.imp (HZ F I p k y a h j b d) λD N H ⟨M,fps,s,n,l,r,e,q⟩=>by
  obtain⟨l',o,e⟩:=Zf e;split at e
  ·rename_i hs;cases e;refine⟨λ_=>False,s,l,λ_ z=>z.elim,r.env,o,λv P L J i _=>?_⟩;obtain⟨G,rfl⟩:=Ed i hs;refine⟨G,λw t u A g m=>q C w t u v _ c ((r.same.trans J).trans (Same.new g _)) Zs m A (i.mono (Same.new g _))⟩
  ·cases e
variable {st:bS} {n8 a b:List bS} {c:aq} {fc:XT} {f1 g1:XF} {fs:XS}
theorem vy_no:VY X O E st Dx:=λb s a H D I ⟨_,_,_,_,_,_,e,_⟩=>by cases e
theorem Ef:B2 X O E n8 Dx:=λb s a H D I ⟨_,_,_,_,_,_,e,_⟩=>by cases e
theorem Zdd(j:VT X c fc)(g:B2 X O E a f1)(h:B2 X O E b g1):VY X O E (.If c a b pos) (yIf fc f1 g1):=PS.imp (BJ j g h) λD k H ⟨f,fps,s,n,l,r,e,q⟩=>by
 obtain⟨d,i,e⟩:=Zf e;refine⟨λ_=>False,s,d,λ_ z=>z.elim,r.env,i,λm s1=>?_⟩
 cases d with
 | true=>rw[nZ rfl] at e ⊢;exact⟨f,fps,s,n,l,r.grow s1,e,q⟩
 | false=>rw[ng bT] at e ⊢;exact⟨f,fps,s,n,l,r.grow s1,e,q⟩
theorem CG(h:VY X O E st f1):B2 X O E [st] f1:=R0 h
theorem Eg(o:VY X O E st f1)(hs:VS X O W st fs)(g:B2 X O E n8 g1):B2 X O E (st::n8) (LA f1 fs g1):=by
 intro d s b H D I ⟨a,fps,sp,n,l,r,e,q⟩;unfold LA at e;split at e
 ·rename_i c m;cases e;exact HW o (λ_ _ _ _ z=>z) d s b H D I ⟨a,fps,sp,_,_,r,m,q⟩
 ·split at e
  ·rename_i f i;refine Tz hs g d s b H D I ⟨a,fps,sp,.nx f,r,i,λk j p h _=>?_⟩;exact⟨a,k,f,n,l,h,e,q⟩
  ·cases e
end
noncomputable def spY(K:aD)(R:List PV->Option (a0×PV))(n:Nat):Sp:=λvs H _ E=>vs.length=n/\∃ls fp nm l,Iss K H ls vs fp/\R ls=aA (nm,l)/\GoY K E H nm l
noncomputable def fnY(m:Nat)(fy:XF):List PV->Option (a0×PV):=λls=>fy (ZC m ls)
section
variable {K:aD} {P:au} {w:bc} {mg:a0->Option aE} {base:bH}
open Classical in
theorem Zay{N:List a0}{O:List Nat}{n:Nat}{d:XF}{vs:List V}{H:Hp}{Q:VK}{E:XK}{D:YH}(B:∀i∈O,n<=i)(h:spY K (fnY N.length d) n vs H Q E):tFY K O d E D (L2.start N vs) H:=by
 obtain⟨l,ls,j,nm,g,t,e,q⟩:=h;obtain⟨o,fps,s,w,r,b,k⟩:=R7 (N:=N) (n:=n) (O:=O) (W:=[]) (f:=λs=>if s=ZC N.length ls then aA (.rt .non) else none) (vs:=vs) (H:=H) (Q:=λ_ a=>Same H a) (E:=λ_ _ _=>True) B ⟨l,ls,j,.non,t,by unfold Yy;simp[Uj],λ_ a _ c _ _ _=>c⟩;simp only at b;split at b
 ·rename_i hs;cases b;subst hs;exact⟨o,fps,_,nm,g,r,e,λC v m u z a G c x F A I=>q C v m u z a G (k .non [] a c Is.non cg λp y=>by simp at y) x F A I⟩
 ·cases b
theorem Zdf{x:a0}{st:bS}{N d:List a0}{k n:Nat}{O:List Nat}(m:Nat)(q:XF)(D:Def K mg x st)(S:Zk N d (Ze st))
  (v:∀(kV e p:aE)(o:Option aH)(b ct:aE)(us:List aE),us.length=d.length->gv (cC x x (YE st) (ZY st) (Ze st) .none kV e p o b ct) ⟨us,[]⟩=pure (d.zip us))
  (z:d.length=n) (l:N.length=m) (y:∀i∈O,n<=i)
  (c:∀(fa:aH)(b:aE)(A:bQ)(a:List jN)(s:aI)(H:Hp)(E:XK),Room k (A.deeper (gi x (Ze st) s.heap.objs.size fa b))->B2 (Tf (CX1 P w) P w K mg base N x (Ze st) fa b A a s H E) O E (ZY st) q) :
  CalX P w K mg base x d (spY K (fnY m q) n) (k+1):=by
 subst l;obtain⟨f,u,l,F⟩:=D.ex;refine⟨f,u,l,F.kp,F.binds v,?_⟩;obtain⟨C,G,kV,e,p,o,b,ct,r,rfl,B,j⟩:=F.ex;exact YZ B j S (λvs H Q E h=>by rw[z];exact h.1) λA a s H vs Q E t g=>⟨_,c f b A a s H E t,Zay y g⟩
end
noncomputable def Ph(R:List PV->Option (a0×PV))(fs:List XE)(i:Nat)(f:XS):XS:=λs=>(RU fs s).bind λls=>(R ls).bind λnl=>(f (s.set i (aA (.exf nl.1 nl.2)))).map (BZ i)
section
variable {X:Cx} {O W:List Nat} {k n i:Nat} {x cx nm:a0} {ps:List a0} {R:List PV->Option (a0×PV)} {e:aq} {es:List aq} {fs:List XE} {p cp ep np hp pos:fD} {b₀:bS} {suite:List bS} {f:XS} {Cb:aH} {n8:List gC}
theorem Iv(CX:CalX X.prog X.w X.K X.mg X.base x ps (spY X.K R n) k)(hr:Room k X.A)(hg:Gl X x)(ha:VA X.nox (e::es) fs)(hx:X.ex=[])(hst:X.stack=X.env::X.outer)(hfr:X.env.frame=aA X.env.locals)
  (hN:X.N.Nodup) (hi:X.N[i]?=aA nm) (hk:X.env.scope.names.lookup nm=aA .local) (hgc:Gl X cx) (hmc:X.mg cx=aA (.ref Cb)) (hB:dM X.K Cb "BaseException" = aC)
  (hR:∀ls m l,R ls=aA (m,l)->∃C,b6 X.K az m=aA (aA (.ref C))/\dM X.K C "BaseException" = aC/\belowIn X.K C Cb=aC)
  (hs:∀e,Lj (Cx.mark X e) O W (b₀::suite) f) (g:i∉O) (hsw:fT (.Call (.Name x p) (e::es) [] cp) none ep.line X.env=pure aB:=by rfl) (hn:fs.length=n:=by rfl)
  (hdb:(x==("__debug__" : a0))=aB:=by decide) (hdb2:(cx==("__debug__" : a0))=aB:=by decide) (he:aO (e::es) X.env=(aB,eval e X.env)::aO es X.env:=by rfl) (hpl:(dD cp (aO es X.env)).any (·.1)=aB:=by rfl) :
  VS X O (i::W) (.Try [.Expr (.Call (.Name x p) (e::es) [] cp) ep] (.ExceptHandler (aA (.Name cx np)) (aA nm) (b₀::suite) hp::n8) [] [] pos) (Ph R fs i f):=by
 intro n5 s σ H D I ⟨H0,fps,sp,out,r,N,ok⟩;obtain⟨ls,e2,N⟩:=Zf N;obtain⟨⟨m,lv⟩,e3,N⟩:=Zf N;obtain⟨o1,e4,rfl⟩:=map_some N;obtain⟨C,hns,hC,hb⟩:=hR ls m lv e3;obtain⟨fa,fd,hmx,hkp,hbd,F⟩:=CX.ex;refine wpAny_Try_except (iN (wpAny_Expr_any ?_ I.quiet hsw));refine f9 (Vq I hg hmx ?_ hdb);refine ir I.ok.mod.kin hkp ?_ he hpl;refine b9 (ha cp n5 s σ H (λvs B=>Same H B/\∃U,Iss X.K B ls vs U) (I.wish _) ⟨λ_=>False,sp,ls,λ_ z=>z.elim,r.env,e2,λvs B U s1 i1 _=>⟨s1,U,i1⟩⟩) (λus s1 ⟨vs,B,w,rv,sm,U,i1⟩=>?_) λ_ _ z=>z.elim;have w:=w.unwish;have L:vs.length=n:=by rw[i1.len,Wm e2,hn]
 have S:spY X.K R n vs B (λ_ _=>False) (λP dd t=>P = .ref C/\∃G J u z,dd=aA G/\t G=aA (.frz J (.own G))/\NsO J (WS m) u/\RelV z u/\Is X.K t lv z []/\Same B t):=⟨L,ls,U,m,lv,i1,e3,λC' G J u z t hc sm a1 a2 a3 a4=>⟨by rw[hns] at hc;cases hc;rfl,G,J,u,z,rfl,a1,a2,a3,a4,sm⟩⟩;have hl:(us++[]).length=ps.length:=by rw[cS,<-rv.length,L];have:=F.len _ _ _ _ S;omega
 have Z:=hbd s1 us w.kIn hl;rw[cS] at Z;refine⟨w.kIn,ip (gx (F.run X.A X.stack s1 B ⟨us,[]⟩ us vs _ _ hr w.env0 Z rv S) λres y Q=>?_)⟩
 cases res with
 | ok fl=>
  cases fl with
  | ret u=>obtain⟨_,_,_,_,_,_,_,z⟩:=Q;exact z.elim
  | next=>exact cD Q
  | brk=>exact cD Q
  | cont=>exact cD Q
 | error v=>
  obtain⟨ea,P,dd,t,rfl,hos,hgn,u,hok,⟨T,xx,hH,hHT,he0,hT0⟩,rfl,G,J,u',z',rfl,b1,b2,b3,b4,sm1⟩:=Q;have I2:=w.call' hos u hok hgn λb hb=>nomatch hb;refine Zfb I2 hx hst hfr xx hH hHT (NU w hx he0) (NU w hx hT0) hN hi hk hgc hmc hC hB hb (hs ea) (λoe h1 h2 h3=>?_) hdb2;have sm2:Same H (upd t ea (.frz oe (.own ea))):=λb o q=>by have q':=sm1 b o (sm b o q);rw[upd_ne (Zt q' hH)];exact q'
  have M:Same t (upd t ea (.frz oe (.own ea))):=Same.new hH _;have iE:Is X.K (upd t ea (.frz oe (.own ea))) (.exf m lv) (.ref ea) []:=by simp only[Is];exact⟨⟨ea,oe,ea,C,G,J,u',z',rfl,Zs,h1,hns,h2,h3,M _ _ b1,b2,b3,b4.mono M⟩,trivial⟩
  have hlt:i<sp.length:=by have:=(aS.mp hi).1;rw[r.len,I.len];exact this
  have r2:=(r.grow sm2).set iE (λz=>absurd z g) (λk _ _ p hp=>by simp at hp);refine⟨H0,_,_,o1,r2,e4,?_⟩;have A:∀(d:Nat->List aH)(a:Sq)(c:Hp)(y:ZE),(∀j,j∉W->a[j]?=(σ.set i (aA (V.ref ea)))[j]?/\Kep (d j) (Th fps sp.length i [] j))->∀j,j∉i::W->(a.set i none)[j]?=σ[j]?/\Kep (if j=i then [] else d j) (fps j):=λd a c y h j hj=>by have E:j≠i:=λz=>hj (by rw[z];exact .head _);obtain⟨a1,a2⟩:=h j λz=>hj (.tail _ z);rw[di (bB E)] at a1 ⊢;rw[ZR E] at a2;rw[ng E];exact⟨a1,a2⟩
  cases o1 with
  | nx y=>exact λd a c Y k'=>ok _ _ _ (Pf g Y) (A d a c y k')
  | bk y=>exact λd a c Y k'=>ok _ _ _ (Pf g Y) (A d a c y k')
  | ct y=>exact λd a c Y k'=>ok _ _ _ (Pf g Y) (A d a c y k')
  | rt l=>exact ok
end
section
variable {prog:au} {w:bc} {A:bQ} {E:aE->aI->Prop} {K:aD} {a C:aH}
theorem H9{s:aI}{Q:Option aE->aI->Prop}(X:K.In s.heap){o:cy}{vs:Array aE}(k:s.heap.get? a=aA o)(l:o.cls = .ref C)(x:o.data = .fields vs)(i:o.dict=none)
  (y:bN K (.ref C) "__getattribute__" = aA (aA (.builtin "BaseException.__getattribute__")))
  (H:bN K (.ref C) "__getattr__" = aA none) (B:bN K (.ref C) "__class__" = aA (aA (.builtin "object.__class__"))) (O:iR K C (.type "object")=aA aC) (P:dM K C "BaseException" = aC)
  (h:Q (aA (.ref C)) { s with toks:=s.toks+1 }):ak (model prog w) A (mx (.ref a) "__class__") Q E s:=by
 obtain⟨e,g,d,t,os⟩:=s;have I:dP e a o C none:=⟨k,l,by unfold my;rw[x],by rw[i];trivial⟩;have D:=I.type (M:=model prog w);have r:=cN (M:=model prog w) X y;unfold mx getAttrBy? getAttrBy;refine aF (lx (aF (jV (df (aF (D.at (aF (r.at ?_))))))));have p:=cN (M:=model prog w) X H;have J:=cN (M:=model prog w) X B;show ak (model prog w) A (fu (.ref a) (.str "__class__" t) (.ref C) (.builtin "BaseException.__getattribute__") aB aB) _ _ _;have U:=F.attr_ValueError.ga.bind (.ref a);unfold fu
 repeat (any_goals (first | assumption | wp_step | (refine aF (p.at ?_)) | (refine p.at ?_)))
 obtain⟨nm,L,N,bs,n,hdct,sn,sub,ab,col,v,k0,k1,k2,k3,k5,j,m,c,_⟩:=eI X P;have m:e.get? C=aA (cq nm L C N bs n hdct sn sub ab col v k0 k1 k2 k3 k5 j):=m;have f:(cJ C::n).contains (.type "BaseException")=aC:=by rw[fA,c,iD]
 have q:=I.type (M:=model prog w);show gO (model prog w) A (.call (.builtin "BaseException.__getattribute__") ⟨[.ref a,.str "__class__" t],[]⟩) _ ⟨e,g,d,t+1,os⟩;refine fM F.attr_ValueError.ga.plain F.entry_bexc_ga ?_;have z:mY "BaseException.__getattribute__" = aA .slot:=by decide +kernel
 have b:splitId "BaseException.__getattribute__" = aA ("BaseException","__getattribute__"):=by decide +kernel
 have S:=F.args_bexc_ga (.ref a) (.str "__class__" t);simp only[je,z,b];refine aF ?_;unfold lG
 repeat (first | (with_reducible refine ba k ?_;rw[l]) | (with_reducible refine cV m ?_;rw[f]) | wp_step)
 refine J.at ?_;have T:=kH;have W:=F.slot_gs_get.lookup;have R:=F.slot_gs_set.lookup
 repeat (any_goals (first | assumption | (with_reducible refine ba k ?_;rw[l]) | wp_step))
 have u:K.In (⟨e,g,d,t+1,os⟩:aI).heap:=X;have G:dP (⟨e,g,d,t+1,os⟩:aI).heap a o C none:=I;refine ly u G O ?_
 repeat (any_goals (first | assumption | wp_step))
end
noncomputable def Zfe(a C:aH)(h:bH):Prop:=∃o,h.get? a=aA o/\o.cls = .ref C/\o.dict=none/\∃vs,o.data = .fields vs
structure O5(K:aD)(C:aH):Prop where
 ga:bN K (.ref C) "__getattribute__" = aA (aA (.builtin "BaseException.__getattribute__"))
 gr:bN K (.ref C) "__getattr__" = aA none
 cl:bN K (.ref C) "__class__" = aA (aA (.builtin "object.__class__"))
 mr:iR K C (.type "object")=aA aC
 kt:dM K C "BaseException" = aC
theorem Eh{K:aD}{a C:aH}(c:O5 K C):nP K (.ref a) (.ref C) (Zfe a C) where
 ty:=λM h _ ⟨o,i,d,_⟩=>d▸(PySem.W.Looks.ld i).andThen .now
 it:=λM h X _=>by obtain⟨nm,s,N,bs,p,hdct,sn,sub,ab,col,l,k0,k1,k2,k3,k5,f,g,_⟩:=eI X c.kt;intro A' t w v k q;unfold isType loadHead;exact aF (kQ (k _ _ g) (a9 q))
 ne:=λh r dd u n x X b=>by obtain⟨nm,s,N,bs,p,hdct,sn,sub,ab,col,l,k0,k1,k2,k3,k5,f,g,_⟩:=eI X c.kt;refine Bool.eq_false_iff.mpr λq=>?_;have e:C=r:=cJ.inj (beq_iff_eq.mp q);subst e;rw[g] at b;exact absurd (congrArg cy.cls (ay b)) (show ¬(ji "type" = ji "tuple") by decide)
 ca:=λX ⟨o,i,d,j,vs,m⟩ k=>H9 X i d m j c.ga c.gr c.cl c.mr c.kt k
inductive ClsV:V->aE->Prop
 | own (C:aH):ClsV (.ref C) (.ref C)
 | ty (T:String):ClsV (.ty T) (.type T)
theorem ClsV.rel{a:V}{c u:aE}(h:ClsV a c)(r:RelV a u):u=c:=by
 cases h with
 | own C=>exact r
 | ty T=>exact r
section
variable {X:Cx} {e:aq} {f:XE} {cx:a0} {p p2 pos:fD} {tb:a0->Option Bool} {c:aE} {cv:V}
theorem Iw{C:aH}(c:Gl X cx)(b:X.mg cx=aA (.ref C))(a:(cx==("__debug__" : a0))=aB:=by decide):PE X (.Name cx p2) (λ_ H Q=>Q (.ref C) H):=λe s d H Q I h=>Vq I c b ⟨.ref C,H,I,rfl,h⟩ a
theorem CH{T:String}(c:Gl X cx)(b:X.mg cx=none)(e:dN cx=aA (.type T))(d:cx≠"__name__":=by decide)(a:(cx==("__debug__" : a0))=aB:=by decide):PE X (.Name cx p2) (λ_ H Q=>Q (.ty T) H):=λg s f H Q I h=>Ub I c b e ⟨.ty T,H,I,rfl,h⟩ d a
end
section
variable {prog:au} {w:bc} {A:bQ} {E:aE->aI->Prop} {K:aD} {a C:aH}
theorem KY{s:aI}{Q:Option aE->aI->Prop}(X:K.In s.heap){o:cy}{c:Option cy}(I:dP s.heap a o C c)
  (x:bN K (.ref C) "__getattribute__" = aA (aA (.builtin "BaseException.__getattribute__")))
  (G:bN K (.ref C) "__getattr__" = aA none) (z:bN K (.ref C) "__class__" = aA (aA (.builtin "object.__class__"))) (L:iR K C (.type "object")=aA aC) (O:dM K C "BaseException" = aC)
  (h:Q (aA (.ref C)) { s with toks:=s.toks+1 }):ak (model prog w) A (mx (.ref a) "__class__") Q E s:=by
 obtain⟨f,g,d,t,os⟩:=s;have I:dP f a o C c:=I;have l:=I.at_;have p:=I.cls;have B:=I.type (M:=model prog w);have r:=cN (M:=model prog w) X x;unfold mx getAttrBy? getAttrBy;refine aF (lx (aF (jV (df (aF (B.at (aF (r.at ?_))))))));have n:=cN (M:=model prog w) X G;have H:=cN (M:=model prog w) X z;show ak (model prog w) A (fu (.ref a) (.str "__class__" t) (.ref C) (.builtin "BaseException.__getattribute__") aB aB) _ _ _;have T:=F.attr_ValueError.ga.bind (.ref a);unfold fu
 repeat (any_goals (first | assumption | wp_step | (refine aF (n.at ?_)) | (refine n.at ?_)))
 obtain⟨nm,J,N,bs,m,hdct,sn,sub,ab,col,v,k0,k1,k2,k3,k5,j,k,e,_⟩:=eI X O;have k:f.get? C=aA (cq nm J C N bs m hdct sn sub ab col v k0 k1 k2 k3 k5 j):=k;have i:(cJ C::m).contains (.type "BaseException")=aC:=by rw[fA,e,iD]
 have q:=I.type (M:=model prog w);show gO (model prog w) A (.call (.builtin "BaseException.__getattribute__") ⟨[.ref a,.str "__class__" t],[]⟩) _ ⟨f,g,d,t+1,os⟩;refine fM F.attr_ValueError.ga.plain F.entry_bexc_ga ?_;have y:mY "BaseException.__getattribute__" = aA .slot:=by decide +kernel
 have b:splitId "BaseException.__getattribute__" = aA ("BaseException","__getattribute__"):=by decide +kernel
 have R:=F.args_bexc_ga (.ref a) (.str "__class__" t);simp only[je,y,b];refine aF ?_;unfold lG
 repeat (first | (with_reducible refine ba l ?_;rw[p]) | (with_reducible refine cV k ?_;rw[i]) | wp_step)
 refine H.at ?_;have S:=kH;have U:=F.slot_gs_get.lookup;have P:=F.slot_gs_set.lookup
 repeat (any_goals (first | assumption | (with_reducible refine ba l ?_;rw[p]) | wp_step))
 have u:K.In (⟨f,g,d,t+1,os⟩:aI).heap:=X;have D:dP (⟨f,g,d,t+1,os⟩:aI).heap a o C c:=I;refine ly u D L ?_
 repeat (any_goals (first | assumption | wp_step))
theorem KZ{s:aI}{Q:aE->aI->Prop}{f:a0}{m:ClassData}{v:aE}(X:K.In s.heap){o:cy}{c:Option cy}(I:dP s.heap a o C c)
  (x:bN K (.ref C) "__getattribute__" = aA (aA (.builtin "BaseException.__getattribute__")))
  (L:bN K (.ref C) "__getattr__" = aA none) (B:bN K (.ref C) f=aA none) (R:jZ K C=aA m) (H:nE m c f=aA (aA v)) (S:dM K C "BaseException" = aC) (r:mM v=aC)
  (h:Q v { s with toks:=s.toks+1 }):ak (model prog w) A (getAttr (.ref a) f aC) Q E s:=by
 obtain⟨j,g,d,t,os⟩:=s;have I:dP j a o C c:=I;have D:=I.at_;have J:=I.cls;have G:=I.type (M:=model prog w);have q:=cN (M:=model prog w) X x;unfold getAttr getAttrBy;refine aF (lx (df (aF (G.at (aF (q.at ?_))))));have p:=cN (M:=model prog w) X L;have O:=cN (M:=model prog w) X B;have y:=PySem.W.looks_own (M:=model prog w) X I R H;show ak (model prog w) A (fu (.ref a) (.str f t) (.ref C) (.builtin "BaseException.__getattribute__") aC aC) _ _ _;have U:=F.attr_ValueError.ga.bind (.ref a);unfold fu
 repeat (any_goals (first | assumption | wp_step | (refine aF (p.at ?_)) | (refine p.at ?_)))
 obtain⟨nm,P,N,bs,n,hdct,sn,sub,ab,col,u,k0,k1,k2,k3,k5,k,l,e,_⟩:=eI X S;have l:j.get? C=aA (cq nm P C N bs n hdct sn sub ab col u k0 k1 k2 k3 k5 k):=l;have i:(cJ C::n).contains (.type "BaseException")=aC:=by rw[fA,e,iD]
 show gO (model prog w) A (.call (.builtin "BaseException.__getattribute__") ⟨[.ref a,.str f t],[]⟩) _ ⟨j,g,d,t+1,os⟩;refine fM F.attr_ValueError.ga.plain F.entry_bexc_ga ?_;have z:mY "BaseException.__getattribute__" = aA .slot:=by decide +kernel
 have b:splitId "BaseException.__getattribute__" = aA ("BaseException","__getattribute__"):=by decide +kernel
 have T:=F.args_bexc_ga (.ref a) (.str f t);simp only[je,z,b];refine aF ?_;unfold lG
 repeat (first | (with_reducible refine ba D ?_;rw[J]) | (with_reducible refine cV l ?_;rw[i]) | wp_step)
 refine O.at ?_;refine aF (a9 (aF (a9 ?_)));show ak _ _ (iK (.ref a) f none none) _ _ _;unfold iK;refine aF (y.at ?_);refine aF (lB (a9 ?_));refine a9 ?_;show ak (model prog w) A (handedOut v) Q E _;rw[PySem.W.handedOut_of r];exact a9 h
end
noncomputable def Zdg(a C:aH)(h:bH):Prop:=∃o ood,dP h a o C ood
theorem O6{K:aD}{a C:aH}(c:O5 K C):nP K (.ref a) (.ref C) (Zdg a C) where
 ty:=λM h _ ⟨o,b,I⟩=>I.type
 it:=λM h X _=>by obtain⟨nm,m,N,bs,l,hdct,sn,sub,ab,col,g,k0,k1,k2,k3,k5,d,e,_⟩:=eI X c.kt;intro A' f j i k q;unfold isType loadHead;exact aF (kQ (k _ _ e) (a9 q))
 ne:=(Eh (a:=a) c).ne
 ca:=λX ⟨o,b,I⟩ k=>KY X I c.ga c.gr c.cl c.mr c.kt k
noncomputable def SY(tb:a0->Option Bool)(f:XE):XE:=λs=>match f s with
 | some (.exf n _)=>(tb n).map PV.bl
 | _=>none
theorem NX{X:Cx}{j:List (aH×cy)}{g:L2.St}{H:Hp}{s:aI}{a b x C:aH}{o d:cy}{vs:Array aE}(I:Inv X j g H s)(e:H a=aA (.frz o (.own x)))(h:o.cls = .ref C)(f:o.dict=aA b)(i:o.data = .fields vs)(c:H b=aA (.frz d (.own b))) :
  dP s.heap a o C (aA d):=⟨(I.hok a _ e).1,h,by unfold my;rw[i],by rw[f];exact(I.hok b _ c).1⟩
section
variable {X:Cx} {e:aq} {f:XE} {cx:a0} {p p2 pos:fD} {tb:a0->Option Bool} {c:aE} {cv:V}
theorem LB:Xr X (.builtin "isinstance") (λj H Q=>∃a C i c b o x d g,j=[.ref a,i]/\ClsV i c/\H a=aA (.frz o (.own x))/\o.cls = .ref C/\o.dict=aA d/\(∃vs,o.data = .fields vs)/\H d=aA (.frz g (.own d))/\O5 X.K C/\aw X.K (.ref C) c=aA b/\Q (.bl b) H):=by intro B s A H j D Q I r h;obtain⟨a,C,i,c,b,o,x,d,g,rfl,f,t,y,l,⟨vs,k⟩,e,w,m,q⟩:=h;obtain⟨u,v,rfl,n,p⟩:=JX r;obtain rfl:=f.rel p;obtain rfl:u=cJ a:=n;exact cQ (O6 w) I.kIn ⟨o,aA g,NX I t y l k e⟩ m (λz=>nomatch z) λtk=>⟨.bl b,H,I.tok tk,rfl,q⟩
theorem Ei(m:Gl X "isinstance")(I:X.mg "isinstance" = none)(A:VE X e f)(j:ClsV cv c)(R:PE X (.Name cx p2) (λ_ H Q=>Q cv H))
  (L:∀n b,tb n=aA b->∃C,b6 X.K az n=aA (aA (.ref C))/\O5 X.K C/\aw X.K (.ref C) c=aA b)
  (g:aO [e,.Name cx p2] X.env=(aB,eval e X.env)::aO [.Name cx p2] X.env:=by rfl) (a:aO [.Name cx p2] X.env=(aB,eval (.Name cx p2) X.env)::aO [] X.env:=by rfl) (r:(dD pos (aO [.Name cx p2] X.env)).any (·.1)=aB:=by rfl):VM X (.Call (.Name "isinstance" p) [e,.Name cx p2] [] pos) (SY tb f):=
 PE.imp (Qu LB m I (by decide +kernel) (Z4 A (Z4 R Xv (hs:=a)) (hs:=g)) (by decide) (by decide) g r) λW H Q ⟨s,l,env,h,k⟩=>by
  unfold SY at h;split at h
  ·rename_i n y S;obtain⟨b,M,rfl⟩:=map_some h;obtain⟨C,t,P,F⟩:=L n b M;refine⟨λ_=>False,s,.exf n y,λ_ z=>z.elim,env,S,λv J T s1 w _=>?_⟩;simp only[Is] at w;obtain⟨⟨ea,o,x,U,G,D,u,z,rfl,O,q,d,E,B,i,_⟩,_⟩:=w;rw[t] at d;cases d;exact⟨ea,C,cv,c,b,o,x,G,D,rfl,j,O,q,E,B,i,P,F,k _ J [] s1 (Is.bl _) cg λp N=>by simp at N⟩
  ·cases h
structure Zdh(K:aD)(n:a0)(C:aH):Prop where
 ns:b6 K az n=aA (aA (.ref C))
 ec:O5 K C
 nf:bN K (.ref C) (WS n)=aA none
 hd:(jZ K C).any (·.hasDict)=aC
noncomputable def Iy(n:a0)(f:XE):XE:=λs=>match f s with
 | some (.exf m l)=>if m=n/\Lz l=aC then aA l else none
 | _=>none
theorem CI{b:cy}{f:a0}{u:aE}{e:bH}{c:aH}(h:NsO b f u)(d:e.get? c=aA b):gs f b=aA (aA u):=by
 obtain⟨o,es,ep,g,i,_,_,j⟩:=h e c d;rw[d] at g;cases g;have k:=(j f).trans (nZ rfl);have a:nN (λn v=>v.isStr n) es f=aA u:=k;unfold nN at a;rw[<-il] at a;unfold gs;rw[i]
 dsimp only
 cases q:es.toList.find? (λx=>x.key.isStr f) with
 | none=>rw[q] at a;cases a
 | some en=>rw[q] at a;cases a;rfl
theorem K1{z:V}{u:aE}(r:RelV z u):mM u=aC:=by cases z<;>simp only[L2.RelV] at r<;>first | (obtain⟨t,rfl⟩:=r;rfl) | (subst r;rfl)
theorem CJ{n:a0}{C:aH}(F:Zdh X.K n C)(B:VE X e f)(S:jU e (WS n) X.env (eval e X.env)=eval e X.env:=by rfl):VE X (.Attribute e (WS n) pos) (Iy n f):=by
 intro M s L H Q I h;obtain⟨A,N,l,J,env,b,k⟩:=h;unfold Iy at b;split at b
 ·rename_i m lv Z;split at b
  ·rename_i R;cases b;obtain⟨rfl,hg⟩:=R
   refine DM S (Ys (B M s L H (λv a=>Same H a/\Is X.K a (.exf m l) v []) I ⟨A,N,.exf m l,J,env,Z,λv a E s1 g n1=>⟨s1,by
    have:E=[]:=by simp only[Is] at g;exact g.2
    rw[<-this];exact g⟩⟩) λu s1 ⟨v,a,i,T,Y,g⟩=>?_)
   obtain⟨⟨ea,o,x,C',P,od,u',z,rfl,W,w,d,j,⟨vs,G⟩,c,D,y,O⟩,_⟩:=g;rw[F.ns] at d;cases d;obtain rfl:=T;obtain⟨cd,r,t⟩:=PySem.W.any_some F.hd
   refine KZ i.kIn (NX i W w j G c) F.ec.ga F.ec.gr F.nf r (by
    unfold nE;rw[nZ t];exact CI D (i.hok P _ c).1) F.ec.kt (K1 y) ?_
   exact⟨z,a,i.kept λ_ _ q=>q,y,k z a [] Y O λp U=>by simp at U⟩
  ·cases b
 ·cases b
end
section
variable {M:mT} {A:bQ} {E:aE->aI->Prop} {s:aI} {env:jN} {L e T:aH} {cls fl:aE} {dd:Option aH} {Q:Unit->aI->Prop}
theorem Zdi(j:env.frame=aA L)(x:F7 s.heap e cls dd T (gH L))(h:Q () s):ak M A (ig (.ref e) env) Q E s:=by obtain⟨l,vs,m,ts,b,n,i,c,k,f,g,a,d⟩:=x;unfold ig;simp only[j];refine aF (bx b c k ?_);refine aF (bx g a d ?_);rw[nZ (by simp)];exact a9 h
end
section
variable {X:Cx} {E:XK}
noncomputable def B3(X:Cx)(E:XK):aE->aI->Prop:=λv s'=>∃(n5:List (aH×cy)) (σ:L2.St) (H:Hp) (s:aI) (e:aH) (cls:aE) (dd:Option aH),v = .ref e/\Inv X n5 σ H s/\X.s₀.heap.get? e=none/\H e=none/\E cls dd H/\
 ((s'=s/\F6 s.heap e cls dd)\/∃h' T,s'={ s with heap:=h' }/\s.heap.objs.size<=T/\F7 h' e cls dd T (gH X.env.locals)/\Eff ((X.env::X.outer).filterMap (·.frame)) [e,T] s.heap h')
theorem LC(D:F9 X E){v:aE}{j:aI}(h:B3 X E v j):X.xe v j:=by
 obtain⟨r,p,H,s,e,n,dd,rfl,I,c,f,q,⟨rfl,x⟩ | ⟨h',T,rfl,g,x,k⟩⟩:=h
 ·exact Zav D I x c f q
 ·rw[D.xe];refine aF (Zdi D.fr x ?_);refine NS x (fs:=(X.env::X.outer).filterMap (·.frame)) λo m l _=>?_;have i:=fJ (aX I.sz g);have a:=I.hok.fresh g
  exact O2 D I i c f a (λb d=>by
   rcases aa.mp d with z | z
   ·rw[z];exact⟨f,c⟩
   ·rw[ah.mp z];exact⟨a,i⟩) m (k.trans (l.mono λb d=>by simp[d])) q
abbrev Cx.rdy(X:Cx)(E:XK):Cx:=X.wish (B3 X E)
theorem CK:New (Cx.rdy X E) E:=⟨λ{f d H s e c dd} I x a b q=>⟨f,d,H,s,e,c,dd,rfl,I.unwish,a,b,q,.inl ⟨rfl,x⟩⟩⟩
theorem PSs.rdy{st:List bS}{t:TS}(D:F9 X E)(h:PSs (Cx.rdy X E) st t):PSs X st t:=λd s a H c I b=>
 b9 (h d s a H c (I.wish _) b) (λ_ _ q=>q.unwish) λv e z=>LC D z
end
section
variable {K:aD} {P:au} {w:bc} {mg:a0->Option aE} {base:bH}
theorem def_yr{x:a0}{st:bS}{N d:List a0}{k n:Nat}{O:List Nat}(m:Nat)(f:XF)(D:Def K mg x st)(S:Zk N d (Ze st))
  (j:∀(kV doc pm:aE)(an:Option aH)(b ct:aE)(us:List aE),us.length=d.length->gv (cC x x (YE st) (ZY st) (Ze st) .none kV doc pm an b ct) ⟨us,[]⟩=pure (d.zip us))
  (o:d.length=n) (h:N.length=m) (l:∀i∈O,n<=i)
  (c:∀(e:aH)(b:aE)(A:bQ)(a:List jN)(s:aI)(H:Hp)(E:XK),Room k (A.deeper (gi x (Ze st) s.heap.objs.size e b))->B2 (Cx.rdy (Tf (CX1 P w) P w K mg base N x (Ze st) e b A a s H E) E) O E (ZY st) f) :
  CalX P w K mg base x d (spY K (fnY m f) n) (k+1):=Zdf m f D S j o h l λe b A a s H E g=>PSs.rdy Cz (c e b A a s H E g)
end
section
variable {X:Cx} {O W:List Nat} {k n i:Nat} {x y cx nm:a0} {ps:List a0} {R:List PV->Option a0} {e:aq} {es:List aq} {fs:List XE} {p py cp ep np hp pos:fD} {b₀:bS} {suite:List bS} {f:XS} {Cb:aH} {n8:List gC}
theorem Iz{b:List bS}{e:gC}{hs:List gC}(k:Lj X.nox O W b f):VS X O W (.Try b (e::hs) [] [] pos) f:=by
 intro j s g H D I h;refine wpAny_Try_except (b9 (k j s g H D (I.wish _) h) (λi s1 q=>?_) λ_ _ z=>z.elim)
 cases i with
 | next=>
  obtain⟨a,c,d,z⟩:=q;exact g9 ⟨a,c,d.unwish,z⟩
 | ret u=>
  obtain⟨v,a,c,d,r,z⟩:=q;exact⟨v,a,c,d.unwish,r,z⟩
 | brk=>
  obtain⟨a,c,d,z⟩:=q;exact⟨a,c,d.unwish,z⟩
 | cont=>
  obtain⟨a,c,d,z⟩:=q;exact⟨a,c,d.unwish,z⟩
noncomputable def sOr(f g:XS):XS:=λs=>match f s with
 | some o=>aA o
 | none=>g s
theorem B4{st:bS}{g:XS}{b a:List Nat}(p:VS X O b st f)(l:VS X O a st g):VS X O (b++a) st (sOr f g):=by
 intro i s h H D I ⟨d,fps,sp,m,r,e,k⟩;have s1:∀j,j∉b++a->j∉b:=λj c z=>c (b7 _ z);have s2:∀j,j∉b++a->j∉a:=λj c z=>c (aj _ z);unfold sOr at e;split at e
 ·rename_i o n;cases e;exact p i s h H D I ⟨d,fps,sp,_,r,n,k.same (λj _=>⟨rfl,Kep.refl _⟩) s1⟩
 ·exact l i s h H D I ⟨d,fps,sp,_,r,e,k.same (λj _=>⟨rfl,Kep.refl _⟩) s2⟩
end
noncomputable def nms:List a0:=["NoWeb","Apart","NoText","NoOrder","TooMany","NotSettled","NoTree","NoTotal","NoEnds","NoRow","NoName"]
noncomputable def tbM(nm cx:a0):a0->Option Bool:=λn=>if n=nm then aA (decide (cx=nm)) else none
noncomputable def tbW(nm:a0):a0->Option Bool:=λn=>if n=nm then aA aC else none
abbrev veT:List aE:=[.type "ValueError",.type "Exception",.type "BaseException",.type "object"]
noncomputable def Zdj(i:Nat):bS->bS
 | .ClassDef _ _ _ b _ _ _ _ _ _ _=>b.getD i (.Pass ⟨0,0,0,0⟩)
 | s=>s
structure QF(nm:a0)(P:au)(w:bc)(K:aD)(mg:a0->Option aE)(base:bH)(C Cb:aH):Prop where
 no:b6 K az nm=aA (aA (.ref C))
 mgo:mg nm=aA (.ref C)
 cf:Zaw P w K mg base C (WS nm) veT "ValueError.__new__"
 fl:Zdh K nm C
 bl:belowIn K C Cb=aC
 cls:∀cx∈nms,∃D,mg cx=aA (.ref D)/\aw K (.ref C) (.ref D)=aA (decide (cx=nm))
 ve:aw K (.ref C) (.type "ValueError")=aA aC
noncomputable def sEx(f:XE):XS:=λs=>(f s).map λ_=>.nx s
theorem B5{X:Cx}{O:List Nat}{e:aq}{f:XE}{pos:fD}(a:VE X e f)(hs:fT e none pos.line X.env=pure aB:=by rfl):VS X O [] (.Expr e pos) (sEx f):=PS.imp (Wk a hs) λD b H ⟨m,fps,s,c,r,e,k⟩=>by obtain⟨l,g,rfl⟩:=map_some e;exact⟨λ_=>False,s,l,λ_ z=>z.elim,r.env,g,λv d i h is _=>k fps b d (r.grow h) λj _=>⟨rfl,Kep.refl _⟩⟩
structure Q3(nmC:a0)(P:au)(wo:bc)(K:aD)(mg:a0->Option aE)(base:bH)(C Cb:aH):Prop where
 mgb:mg "PurseError" = aA (.ref Cb)
 kb:dM K Cb "BaseException" = aC
 f:QF nmC P wo K mg base C Cb
 sb:belowIn K C C=aC
section
variable {X:Cx} {nmC:a0} {C Cb:aH} {e:aq} {f:XE} {cx:a0} {p p2 pos:fD}
theorem CM(Q:Q3 nmC X.prog X.w X.K X.mg X.base C Cb)(g:Gl X "isinstance")(l:X.mg "isinstance" = none)(m:VE X e f)(i:cx∈nms)(k:Gl X cx)(d:(cx==("__debug__" : a0))=aB:=by decide)
  (c:aO [e,.Name cx p2] X.env=(aB,eval e X.env)::aO [.Name cx p2] X.env:=by rfl) (a:aO [.Name cx p2] X.env=(aB,eval (.Name cx p2) X.env)::aO [] X.env:=by rfl) (j:(dD pos (aO [.Name cx p2] X.env)).any (·.1)=aB:=by rfl):VM X (.Call (.Name "isinstance" p) [e,.Name cx p2] [] pos) (SY (tbM nmC cx) f):=by
 obtain⟨D,q,o⟩:=Q.f.cls cx i;refine Ei g l m (.own D) (Iw k q d) (λn b h=>?_) c a j;unfold tbM at h;split at h
 ·rename_i r;subst r;cases h;exact⟨C,Q.f.no,Q.f.fl.ec,o⟩
 ·cases h
theorem CN(Q:Q3 nmC X.prog X.w X.K X.mg X.base C Cb)(d:Gl X "isinstance")(j:X.mg "isinstance" = none)(k:VE X e f)(i:Gl X "ValueError")(m:X.mg "ValueError" = none)
  (c:aO [e,.Name "ValueError" p2] X.env=(aB,eval e X.env)::aO [.Name "ValueError" p2] X.env:=by rfl) (a:aO [.Name "ValueError" p2] X.env=(aB,eval (.Name "ValueError" p2) X.env)::aO [] X.env:=by rfl) (g:(dD pos (aO [.Name "ValueError" p2] X.env)).any (·.1)=aB:=by rfl):VM X (.Call (.Name "isinstance" p) [e,.Name "ValueError" p2] [] pos) (SY (tbW nmC) f):=by
 refine Ei d j k (.ty "ValueError") (CH i m (by decide +kernel)) (λn b h=>?_) c a g;unfold tbW at h;split at h
 ·rename_i l;subst l;cases h;exact⟨C,Q.f.no,Q.f.fl.ec,Q.f.ve⟩
 ·cases h
end
section
variable {X:Cx} {O W:List Nat} {nmC:a0} {C Cb:aH} {k n i:Nat} {x y nm:a0} {ps:List a0} {R:List PV->Option (a0×PV)} {e:aq} {es:List aq} {fs:List XE} {p py cp ep np hp pos:fD} {b₀:bS} {suite:List bS} {f:XS} {n8:List gC}
theorem Ej(Q:Q3 nmC X.prog X.w X.K X.mg X.base C Cb)(CX:CalX X.prog X.w X.K X.mg X.base x ps (spY X.K R n) k)(y:∀ls m l,R ls=aA (m,l)->m=nmC)(t:Room k X.A)(r:Gl X x)(s:VA X.nox (e::es) fs)(w:X.ex=[])(o:X.stack=X.env::X.outer)(c:X.env.frame=aA X.env.locals)
  (z:X.N.Nodup) (v:X.N[i]?=aA nm) (u:X.env.scope.names.lookup nm=aA .local) (b:Gl X "PurseError")
  (hs:∀e,Lj (Cx.mark X e) O W (b₀::suite) f) (g:i∉O) (a:fT (.Call (.Name x p) (e::es) [] cp) none ep.line X.env=pure aB:=by rfl) (A:fs.length=n:=by rfl)
  (d:(x==("__debug__" : a0))=aB:=by decide) (q:aO (e::es) X.env=(aB,eval e X.env)::aO es X.env:=by rfl) (j:(dD cp (aO es X.env)).any (·.1)=aB:=by rfl) :
  VS X O (i::W) (.Try [.Expr (.Call (.Name x p) (e::es) [] cp) ep] (.ExceptHandler (aA (.Name "PurseError" np)) (aA nm) (b₀::suite) hp::n8) [] [] pos) (Ph R fs i f):=
 Iv CX t r s w o c z v u b Q.mgb Q.kb (λls m l h=>by
  obtain rfl:=y ls m l h;exact⟨C,Q.f.no,Q.f.fl.ec.kt,Q.f.bl⟩) hs g a A d (by decide) q j
end
noncomputable def Sa(n0:a0)(fy:XF):Prop:=∀s m l,fy s=aA (m,l)->m=n0
section
variable {n0:a0}
theorem LD{n:a0}{f:XE}(h:n=n0):Sa n0 (Ur n f):=λs m l e=>by
 obtain⟨l',_,e⟩:=Zf e;split at e
 ·cases e;exact h
 ·cases e
theorem LF:Sa n0 Dx:=λs m l e=>nomatch e
theorem Ek{b:XT}{f g:XF}(d:Sa n0 f)(a:Sa n0 g):Sa n0 (yIf b f g):=λs m l e=>by
 obtain⟨c,_,e⟩:=Zf e;split at e
 ·exact d s m l e
 ·exact a s m l e
theorem Ga{f1:XF}{f:XS}{g:XF}(d:Sa n0 f1)(a:Sa n0 g):Sa n0 (LA f1 f g):=λs m l e=>by
 unfold LA at e;split at e
 ·rename_i c b;cases e;exact d s m l b
 ·split at e
  ·exact a _ m l e
  ·cases e
theorem El{m:Nat}{a:XF}(h:Sa n0 a):∀ls n l,fnY m a ls=aA (n,l)->n=n0:=λls n l e=>h _ n l e
end
section
variable {X:Cx} {O W:List Nat} {nmC:a0} {C Cb:aH} {k n i:Nat} {x y nm:a0} {ps:List a0} {R:List PV->Option (a0×PV)} {e:aq} {es:List aq} {fs:List XE} {p py cp ep np hp pos:fD} {b₀:bS} {suite:List bS} {f:XS} {n8:List gC}
theorem Em(Q:Q3 nmC X.prog X.w X.K X.mg X.base C Cb)(CX:CalX X.prog X.w X.K X.mg X.base x ps (spY X.K R n) k)(z:∀ls m l,R ls=aA (m,l)->m=nmC)(u:Room k X.A)(s:Gl X x)(t:VA X.nox (e::es) fs)(y:X.ex=[])(q:X.stack=X.env::X.outer)(d:X.env.frame=aA X.env.locals)
  (A:X.N.Nodup) (w:X.N[i]?=aA nm) (v:X.env.scope.names.lookup nm=aA .local) (c:Gl X nmC)
  (hs:∀e,Lj (Cx.mark X e) O W (b₀::suite) f) (j:i∉O) (b:fT (.Call (.Name x p) (e::es) [] cp) none ep.line X.env=pure aB:=by rfl) (B:fs.length=n:=by rfl)
  (g:(x==("__debug__" : a0))=aB:=by decide) (a:(nmC==("__debug__" : a0))=aB:=by decide) (r:aO (e::es) X.env=(aB,eval e X.env)::aO es X.env:=by rfl) (o:(dD cp (aO es X.env)).any (·.1)=aB:=by rfl) :
  VS X O (i::W) (.Try [.Expr (.Call (.Name x p) (e::es) [] cp) ep] (.ExceptHandler (aA (.Name nmC np)) (aA nm) (b₀::suite) hp::n8) [] [] pos) (Ph R fs i f):=
 Iv CX u s t y q d A w v c Q.f.mgo Q.f.fl.ec.kt (λls m l h=>by
  obtain rfl:=z ls m l h;exact⟨C,Q.f.no,Q.f.fl.ec.kt,Q.sb⟩) hs j b B g a r o
end
end VX
namespace VL
open PySem PySem.Spec PyProof.Rows L2
theorem Zdk{X:Cx}{g e:aq}{f:XE}(h:VE X e f):VI X g e (xSq f):=by
 intro d s c H R I ⟨a,st,ls,b,env,e,k⟩;unfold xSq at e
 cases q:Vy f st with
 | some m=>
  rw[q] at e;cases e;exact Xi h d s c H R I ⟨a,st,_,b,env,q,k⟩
 | none=>
  rw[q] at e;exact SJ h d s c H R I ⟨a,st,ls,b,env,e,k⟩
end VL
namespace VX
open PySem PySem.Spec PyProof.Rows L2
section
variable {X:Cx} {k:Nat} {e:aq} {te:TE} {y y2:a0} {p1 p2 p3 p4:fD} {jj j2:Nat}
theorem En(F:Room k X.A)(J:PE X e te)(hy:y.length<=1000:=by decide)(P:y2.length<=1000:=by decide):PE X (.JoinedStr [.Constant (.str y) jj p1,.FormattedValue e (-1) none p2,.Constant (.str y2) j2 p4] p3) (B1 te):=by
 intro g s f H Q I h;refine wpAny_JoinedStr ?_;refine Ys (G4 g s f H (λv l=>v = .str y/\l=H) I ⟨rfl,rfl⟩) λu s1 ⟨v,l,R,r,C,E⟩=>?_;subst C E;obtain⟨t,rfl⟩:=r;have D:(ja++y).length=y.length:=by rw[fP];show 0+_=_;omega
 have sz:(2000:Nat)+200000<=sizeLine:=by decide
 refine⟨y,t,rfl,by omega,?_⟩;refine wpAny_FormattedValue_plain ?_;refine Ys (J g s1 f l _ R h) λu s2 ⟨v,A,w,r,Z,q⟩=>?_
 have d:∀(x:a0)(B:aI),x.length<=200000->Inv X g f A B->ak (model X.prog X.w) X.A (eval (.Constant (.str y2) j2 p4) X.env) (λv o=>∃(b:a0) (G:Tok),v=nH b G/\(ja++y++x++b).length<=sizeLine/\(ja++y++x++b).length<=sizeLine/\EP X g f Q (.str (ja++y++x++b) o.toks) { o with toks:=o.toks+1 }) X.xe B:=λx B T j=>by
  refine Ys (G4 g B f A (λv l=>v = .str y2/\l=A) j ⟨rfl,rfl⟩) λu o ⟨v,H3,I4,r,C,E⟩=>?_;subst C E;obtain⟨M,rfl⟩:=r;refine⟨y2,M,rfl,?_,?_,.str _,_,I4.tok _,⟨_,rfl⟩,q _⟩
  ·rw[fP,fP,D];omega
  ·rw[fP,fP,D];omega
 have c:∀(x:a0),x.length<=200000->(ja++y++x).length<=sizeLine:=λx T=>by rw[fP,D];omega
 rcases Z with rfl | ⟨i,rfl,p⟩ | ⟨a,is,rfl,L,hl,hs⟩
 ·obtain rfl:=r;refine wpAny_formatField_none ?_;have j:=w.kept (t':=s2.toks+1+1) λ_ _ z=>z;exact⟨"None",_,rfl,c _ (by decide),d "None" _ (by decide) j⟩
 ·obtain⟨G,rfl⟩:=r;refine formatField_int_small p ?_;have:=lI (by decide) p;exact⟨toString i,_,rfl,c _ (by rw[iM];omega),d (toString i) _ (by rw[iM];omega) (w.tok _)⟩
 ·obtain rfl:=r;obtain⟨_,nY,W,ob,Y,hc,n,N⟩:=(w.hok a _ L);have S:Reads s2.heap (.ref a) (.tuple (is.map fg)) []:=.tuple Y hc N (O3 (by simpa using W))
  have sl:(nQ (is.map fg)).shown.length<=3+is.length*(1930+2):=by
   show(tupleText (kD (is.map fg))).length<=_;rw[HU];have:=NW (ts:=is.map λi=>js (toString i)) (m:=1930) λt U=>by obtain⟨i,p,rfl⟩:=br.mp U;have:=lI (by decide) (hs i p);rw[iM];omega
   rwa [aP] at this
  have hu:=F.un;have dp:=HV is
  refine formatField_of_reads S (NT hs) (λz=>by rw[show(nQ (is.map fg)).hasDict=jR (is.map fg) from rfl,KU] at z;cases z) F.gd (by
   simp only[nO];omega) (λ_ _ z=>z) (λh' u tk O=>?_) (by omega)
  have j:Inv X g f A { s2 with heap:=h',toks:=tk }:=w.kept O;exact⟨_,u,rfl,c _ (by omega),d _ _ (by omega) j⟩
end
end VX
namespace VX
open PySem PySem.Spec PyProof.Rows L2 VL
section
variable {X:Cx} {e:aq} {f:XE} {p p2 pos:fD} {tb:a0->Option Bool} {names:List aq} {ds:List aH} {ctx:Nat}
theorem LG:∀{ds:List aH}{us:List aE},Vals (ds.map V.ref) us->us=ds.map cJ
 | [],us,r=>by cases r;rfl
 | d::ds,us,r=>by
  rw[cM] at r
  cases r with
  | cons r1 r2=>
   rw[cM,<-LG r2];cases r1;rfl
end
end VX
namespace VL
open PySem PySem.Spec PyProof.Rows L2
theorem Inv.freezeL{X:Cx}{j:List (aH×cy)}{i:Sq}{H:Hp}{s:aI}{d:aH}{f:List V}{o:cy}(I:L2.Inv X j i H s)(g:H d=aA (.lst f))(p:s.heap.get? d=aA o) :
  L2.Inv X j i (upd H d (.frz o (.lst f))) s:=by
 have ne:∀b u,H b=aA u->(∀k,u≠.lst k)->b≠d:=λb u q n z=>by rw[z,g] at q;exact n _ (ay q).symm
 have m:∀b,H b=none->b≠d:=λb q z=>by rw[z,g] at q;cases q
 have un:Un X.fs [] H (upd H d (.frz o (.lst f))) s.heap s.heap:=
  ⟨λb o q _ _ _=>q,λb o q _ _ _=>⟨o.slots,q⟩,λb o q n _=>by rw[upd_ne (m b n)];exact n,λb o q _=>⟨o,q⟩,
   λb f q=>by rw[upd_ne (ne b _ q λ_ z=>nomatch z)];exact q,λb o u q=>by rw[upd_ne (ne b _ q λ_ z=>nomatch z)];exact q,λb r q=>⟨#[],by rw[upd_ne (ne b _ q λ_ z=>nomatch z),q];simp⟩⟩
 have h:HOk X.prog X.w (upd H d (.frz o (.lst f))) s.heap:=λb u q=>by
  have e:∀c y,H c=aA (.own y)->upd H d (.frz o (.lst f)) c=aA (.own y):=λc y z=>by rw[upd_ne (ne c _ z λ_ z=>nomatch z)];exact z
  have a:∀c xs',H c=aA (.tup xs')->upd H d (.frz o (.lst f)) c=aA (.tup xs'):=λc y z=>by rw[upd_ne (ne c _ z λ_ z=>nomatch z)];exact z
  by_cases l:b=d
  ·subst l;rw[Zs] at q;cases q;exact⟨p,(I.hok b _ g).stay (λ_ _ _ z=>z) (λc z=>e c _ z) a λc u z=>by rw[upd_ne (ne c _ z λ_ z=>nomatch z)];exact z⟩
  ·rw[upd_ne l] at q;exact(I.hok b u q).stay (λ_ _ _ z=>z) (λc z=>e c _ z) a λc u z=>by rw[upd_ne (ne c _ z λ_ z=>nomatch z)];exact z
 have:=I.un (t':=s.toks) un h;exact this
noncomputable def Ol(f:XE):XE:=λs=>(f s).bind λl=>match l with
 | .lst m=>(Xh m).map λns=>.cst (iL ns)
 | _=>none
theorem S1{X:Cx}{e:aq}{f:XE}(h:VM X e f):VE X e (Ol f):=by
 intro B s y H Q I ⟨M,st,l,P,env,x,k⟩;obtain⟨m,J,i⟩:=Zf (x)
 cases m with
 | lst ms=>
  obtain⟨g,D,G⟩:=map_some (i);subst G;have F:=Y9 D;subst F;refine Ys (h B s y H (λv c=>∃p,v = .ref p/\c p=aA (.lst (g.map V.int))/\Same H c/\H p=none) I ⟨st,.lst (iL g),env.free,J,λv S N d is U C=>?_⟩) λu s1 ⟨v,c,j,E,p,t,a,d,L⟩=>?_
  ·obtain⟨p,T,W,rfl,a,A,rfl⟩:=is.lst_inv;obtain⟨rfl,rfl⟩:=A.iL;exact⟨p,rfl,a,d,(C p (by simp)).1⟩
  ·subst t;obtain⟨z,R,n,r,O,e⟩:=j.lstM a;refine⟨.ref p,_,Inv.freezeL j a e,E,k _ _ [] (λb o q=>?_) ?_ (by simp)⟩
   ·rw[upd_ne (λw=>by rw[w,L] at q;cases q)];exact d b o q
   ·unfold Is;exact⟨p,_,rfl,.inl ⟨_,Zs⟩,Iss.ofInts _⟩
 | _=>cases i
end VL
namespace L2
open PySem PySem.Spec PyProof.Rows
structure Eo(k:Nat)(A:bQ):Prop where
 dp:A.depth+3*k+5<kJ
 un:A.units+16*k+200<gk
 gd:A.guards=aA []
theorem Zdl{j k:Nat}{A A':bQ}(r:Room k A)(h:j<=k)(d:A'.depth=A.depth:=by rfl)(u:A'.units=A.units:=by rfl)(g:A'.guards=A.guards:=by rfl):Eo j A':=⟨by have:=r.dp;omega,by have:=r.un;omega,g▸r.gd⟩
abbrev cxH(P:au)(w:bc)(K:aD)(mg:a0->Option aE)(base:bH)(N:List a0)(qual:a0)(scope:du)(f:aH)(cd:aE)(A:bQ)(outer:List jN)(s:aI)(H:Hp)(E:XK):Cx:={ Tf OI P w K mg base N qual scope f cd A outer s H E with calm:=aB }
structure B6(P:au)(w:bc)(K:aD)(mg:a0->Option aE)(base:bH)(k:Nat)(f:aH)(fd:eU)(ps:List a0)(sp:Sp):Prop where
 len:∀vs H Q E,sp vs H Q E->vs.length=ps.length
 run:∀(A:bQ)(outer:List jN)(s:aI)(H:Hp)(args:Args)(us:List aE)(vs:List V)(Q:VK)(E:XK),Eo k A->Env0 P w K mg base A outer s H->k9 s fd args (ps.zip us)->Vals vs us->sp vs H Q E->
  gO (model P w) A (.call (.ref f) args) (CR OI outer P w H s Q E) s
theorem Zaz{P:au}{w:bc}{K:aD}{G:a0->Option aE}{base:bH}{k:Nat}{f:aH}{m d:a0}{g:mI}{j:List bS}{a:du}{Y kV M Z h ct oc:aE}{X od:Option aH}
  {R:Array (Option aE)} {N O:List a0} {sp:Sp} (lk:K.lookup f=aA ⟨oc,od,.func (cC m d g j a Y kV M Z X h ct),R⟩) (L:cZ K h d=aC) (S:Zk N O a)
  (len:∀vs H Q E,sp vs H Q E->vs.length=O.length)
  (B:∀(A:bQ)(c:List jN)(s:aI)(H:Hp)(vs:List V)(Q:VK)(E:XK),sp vs H Q E->
   ∃t,PSs (cxH P w K G base N d a f h A c s H E).nox j t/\t { nx:=λ_ p=>Q .non p,rt:=Q } (start N vs) H) :
  B6 P w K G base k f (cC m d g j a Y kV M Z X h ct) O sp:=by
 refine⟨len,λA c s H args us vs Q E hr i hb r D=>?_⟩;have hl:=len _ _ _ _ D;have KX:=i.mod.kin.keeps λb o e=>(i.bs b o e).1;have W:=i.mod.nolimit.keeps λb o e=>(i.bs b o e).1
 have C:∀y∈O.zip us,a.names.lookup y.1=aA .local\/(a.names.lookup y.1=aA .cell/\((iO (s.heap.objs.size+1) a.names []).lookup y.1).isSome=aC):=λ⟨n,v⟩ hy=>by
  rcases S.par n (i6 hy).1 with q | q
  ·exact .inl q
  ·exact .inr ⟨q,gy _ _ _ (.inl q)⟩
 refine kF (by have:=hr.dp;omega) (KX _ _ lk) rfl S.co S.gen rfl (kr KX L) (hb _ _ _ _ ?_);refine iu S.kind C λenv he s1 x=>?_;subst he;refine⟨W.keeps x.toInCall.keep,codeAny_func ?_⟩;obtain⟨t,ht,hq⟩:=B A c s H vs Q E D;have e1:Env0 P w K G base ({ A with handled:=none }:bQ) c s H:=⟨i.frames,i.mod,i.bs,i.bsz,i.funs,i.frf,i.tab,i.hok,i.bare⟩;have J:=OF (A:={ A with handled:=none }) (CX:=OI) (E:=E) (f:=f) L S rfl e1 hl r x
 have I:Inv (cxH P w K G base N d a f h A c s H E) [] (start N vs) H s1:=
  ⟨⟨J.ok.mod,J.ok.kind,J.ok.glob,J.ok.blt,J.ok.above,J.ok.inj,J.ok.has,J.ok.cab,(λz=>by cases z),J.ok.frames,J.ok.stk,J.ok.exf,J.ok.bs,J.ok.bsz,J.ok.noex,J.ok.exfs,J.ok.funs,J.ok.frf,J.ok.tab,J.ok.cod⟩,J.os,J.bare,J.base,J.loc,J.cell,J.free,J.freeC,J.pin,J.hok,J.len⟩
 refine b9 (ht.nox [] s1 (start N vs) H _ I hq) (λfl T hs=>?_) λe T hs=>hs
 have F:∀{l:St}{p:Hp}{v:V}{u:aE},Inv (cxH P w K G base N d a f h A c s H E) [] l p T->RelV v u->Q v p->CE c P w H s Q u T:=
  λ{l p v u} J U q=>⟨v,p,J.os,J.bare,J.base,J.hok,U,q⟩
 cases fl with
 | ret u=>
  obtain⟨v,l,p,J,U,q⟩:=hs;exact F J U q
 | next=>
  obtain⟨l,p,J,q⟩:=hs;exact F (v:=V.non) J rfl q
 | brk=>
  obtain⟨_,_,_,q⟩:=hs;exact cD q
 | cont=>
  obtain⟨_,_,_,q⟩:=hs;exact cD q
structure CO(P:au)(w:bc)(K:aD)(mg:a0->Option aE)(base:bH)(x:a0)(ps:List a0)(sp:Sp)(k:Nat):Prop where
 ex:∃f fd,mg x=aA (.ref f)/\eV K (.ref f)=aC/\Binds K fd ps []/\B6 P w K mg base k f fd ps sp
end L2
namespace VL
open PySem PySem.Spec PyProof.Rows L2
section
variable {K:aD} {P:au} {w:bc} {mg:a0->Option aE} {base:bH}
theorem CP{x:a0}{st:bS}{N d:List a0}{k n:Nat}{O W:List Nat}(m:Nat)(f:XS)(D:Def K mg x st)(S:Zk N d (Ze st))
  (u:∀(kV e p:aE)(o:Option aH)(b ct:aE)(us:List aE),us.length=d.length->gv (cC x x (YE st) (ZY st) (Ze st) .none kV e p o b ct) ⟨us,[]⟩=pure (d.zip us))
  (y:d.length=n) (l:N.length=m) (v:∀i∈O,n<=i)
  (c:∀(fa:aH)(b:aE)(A:bQ)(a:List jN)(s:aI)(H:Hp)(E:XK),Lj (cxH P w K mg base N x (Ze st) fa b A a s H E).nox O W (ZY st) f) :
  CO P w K mg base x d (YS K (Yy m f) n) k:=by
 subst l;obtain⟨q,t,l,F⟩:=D.ex;refine⟨q,t,l,F.kp,F.binds u,?_⟩;obtain⟨B,C,kV,e,p,o,b,ct,r,rfl,z,j⟩:=F.ex;exact Zaz z j S (λvs H Q E h=>by rw[y];exact h.1) λA a s H vs Q E g=>⟨_,c q b A a s H E,R7 v g⟩
end
section
variable {X:Cx} {x:a0} {ps:List a0} {k:Nat} {e:aq} {es:List aq} {fs:List XE} {p pos:fD}
theorem Ep{D:List PV->Option PV}{n:Nat}(C:CO X.prog X.w X.K X.mg X.base x ps (YS X.K D n) k)(N:Eo k X.A)(G:Gl X x)(i:VA X (e::es) fs)(hn:fs.length=n:=by rfl)
  (t:(x==("__debug__" : a0))=aB:=by decide) (E:aO (e::es) X.env=(aB,eval e X.env)::aO es X.env:=by rfl) (w:(dD pos (aO es X.env)).any (·.1)=aB:=by rfl) :
  VM X (.Call (.Name x p) (e::es) [] pos) (Zc D fs):=by
 intro S s P H Q I ⟨sp,l,env,L,q⟩;obtain⟨ls,A,M⟩:=Zf L;obtain⟨f,fd,T,O,U,F⟩:=C.ex;refine f9 (Vq I G T ?_ t);refine ir I.ok.mod.kin O (Ys (i pos S s P H (λvs b=>Same H b/\∃d,Iss X.K b ls vs d) I ⟨λ_=>False,sp,ls,λ_ z=>z.elim,env,A,λvs b d s1 m _=>⟨s1,d,m⟩⟩) λo s1 ⟨vs,b,j,r,B,d,m⟩=>⟨j.kIn,?_⟩) E w;have c:YS X.K D n vs b Q E0:=⟨by rw[m.len,Wm A,hn],ls,d,l,m,M,λv W Z s2 R Y y=>q v W Z (B.trans s2) R Y λa i=>⟨Same.off B (y a i).1,(y a i).2⟩⟩;have J:(o++[]).length=ps.length:=by rw[cS,<-r.length];exact F.len _ _ _ _ c
 have g:=U s1 o j.kIn J;rw[cS] at g;refine ip (gx (F.run X.A X.stack s1 b ⟨o,[]⟩ o vs Q E0 N j.env0 g r c) λr s' h=>?_)
 cases r with
 | error e=>exact h.elim
 | ok fl=>
  cases fl with
  | ret u=>exact j.after h
  | next=>exact cD h
  | brk=>exact cD h
  | cont=>exact cD h
end
end VL
namespace VX
open PySem PySem.Spec PyProof.Rows L2 VL
noncomputable def K2(nm:a0)(cs:List a0):a0->Option Bool:=λn=>if n=nm then aA (decide (nm∈cs)) else none
section
variable {X:Cx} {e:aq} {f:XE} {p p2 pos:fD} {names:List aq} {ctx:Nat} {nmC:a0} {C Cb:aH}
theorem LH:Xr X (.builtin "isinstance") (λk H Q=>∃(a C q:aH) (c:List aH) (b:Bool) (o:cy) (x d:aH) (f:cy),k=[.ref a,.ref q]/\H q=aA (.tup (c.map V.ref))/\H a=aA (.frz o (.own x))/\o.cls = .ref C/\o.dict=aA d/\(∃vs,o.data = .fields vs)/\H d=aA (.frz f (.own d))/\O5 X.K C/\kT X.K (.ref C) (c.map cJ)=aA b/\Q (.bl b) H):=by intro O s N H k R Q I r h;obtain⟨a,C,q,c,b,o,x,d,f,rfl,L,D,J,p,⟨vs,m⟩,e,G,w,t⟩:=h;obtain⟨u,v,rfl,y,B⟩:=JX r;obtain rfl:u=cJ a:=y;obtain rfl:v=cJ q:=B;obtain⟨_,M,A,l,E,g,n,j⟩:=(show ObjOk X.prog X.w H s.heap q (.tup (c.map V.ref)) from I.hok q _ L);obtain rfl:=LG A;obtain⟨F,dd,i,P⟩:=l;simp only at g j;subst g j;exact PySem.W.kia_tup (O6 G) I.kIn ⟨o,aA f,NX I D J p m e⟩ E w (λz=>nomatch z) λtk=>⟨.bl b,H,I.tok tk,rfl,t⟩
inductive NmF(X:Cx):List aq->List a0->Prop
 | nil:NmF X [] []
 | cons {cx:a0} {p:fD} {es:List aq} {cs:List a0}:Gl X cx->cx∈nms->(cx==("__debug__" : a0))=aB->NmF X es cs->NmF X (.Name cx p::es) (cx::cs)
theorem IA(Q:Q3 nmC X.prog X.w X.K X.mg X.base C Cb):∀{es:List aq}{cs:List a0},NmF X es cs->∃a:List aH,a.length=cs.length/\PA X es (λ_ H Q=>Q (a.map V.ref) H)/\kT X.K (.ref C) (a.map cJ)=aA (decide (nmC∈cs))
 | _,_,.nil=>⟨[],rfl,Xv,rfl⟩
 | _,_,.cons (cx:=cx) (p:=p) (es:=es) (cs:=cs) hg hc hdb h=>by
  obtain⟨a,l,b,k1⟩:=IA Q h;obtain⟨D,d,c⟩:=Q.f.cls cx hc;refine⟨D::a,by simp[l],Z4 (Iw hg d hdb) b (hs:=rfl),?_⟩;rw[cM];unfold kT;rw[c];by_cases q:cx=nmC
  ·subst q;simp
  ·have:¬(nmC=cx):=λz=>q z.symm;rw[decide_eq_false q];simp only;rw[k1];simp[this]
theorem IB{cs:List a0}(Q:Q3 nmC X.prog X.w X.K X.mg X.base C Cb)(m:Gl X "isinstance")(N:X.mg "isinstance" = none)(G:VE X e f)(B:NmF X names cs)(T:cs.length<=100)
  (g:aO [e,.Tuple names ctx p2] X.env=(aB,eval e X.env)::aO [.Tuple names ctx p2] X.env:=by rfl) (c:aO [.Tuple names ctx p2] X.env=(aB,eval (.Tuple names ctx p2) X.env)::aO [] X.env:=by rfl) (t:(dD pos (aO [.Tuple names ctx p2] X.env)).any (·.1)=aB:=by rfl):VM X (.Call (.Name "isinstance" p) [e,.Tuple names ctx p2] [] pos) (SY (K2 nmC cs) f):=by
 obtain⟨M,l,O,k1⟩:=IA Q B;refine PE.imp (Qu LH m N (by decide +kernel) (Z4 G (Z4 (Ni O) Xv (hs:=c)) (hs:=g)) (by decide) (by decide) g t) λW H U ⟨s,l',env,i,k⟩=>?_;unfold SY at i;split at i
 ·rename_i n F B;obtain⟨b,h,rfl⟩:=map_some i;unfold K2 at h;split at h
  ·rename_i y;subst y;cases h;refine⟨λ_=>False,s,.exf n F,λ_ z=>z.elim,env,B,λv Y R s1 E _=>?_⟩;simp only[Is] at E;obtain⟨⟨ea,o,x,S,D,J,u,z,rfl,w,r,d,L,I,a,_⟩,_⟩:=E;rw[Q.f.no] at d;cases d;refine⟨by rw[aP,jP];omega,λq A=>?_⟩;have ne:ea≠q:=λz=>by rw[z,A] at w;cases w
   have j:D≠q:=λz=>by rw[z,A] at a;cases a
   exact⟨ea,C,q,M,_,o,x,D,J,rfl,Zs,by rw[upd_ne ne];exact w,r,L,I,by rw[upd_ne j];exact a,Q.f.fl.ec,k1,k _ _ [] (s1.trans (Same.new A _)) (Is.bl _) cg λp P=>by simp at P⟩
  ·cases h
 ·cases i
end
end VX
namespace L2
open PySem PySem.Spec PyProof.Rows
abbrev IC(x:a0):a0->Bool:=λy=>y==x
structure CellF(N:List a0)(around scope:du)(x:a0)(fr:List a0)(ix:List Nat):Prop where
 kind:scope.kind = .function
 cf:∀n acc,iO n scope.names acc=(x,n)::acc
 pc:∀h,mO h scope.names=h.push { cls:=.type "cell",data:=.cell none }
 cells:∀y∈scope.names,y.2 = .cell->y.1=x
 names:∀y∈scope.names,y.2 = .local->scope.names.lookup y.1=aA .local
 frees:∀y∈scope.names,y.2 = .free->(around.names.lookup y.1=aA .cell\/around.names.lookup y.1=aA .free)
 slots:fr.map aA=ix.map (λi=>N[i]?)
 outs:∀z∈fr,(z,b0)∈scope.names
 apart:∀z∈fr,scope.names.lookup z=aA .free
 ne:∀z∈fr,z≠x
theorem CellF.clos{X:Cx}{g:List (aH×cy)}{f:St}{H:Hp}{s:aI}{a:du}{x:a0}{fr:List a0}{ix:List Nat}(S:CellF X.N X.env.scope a x fr ix)(I:Inv X g f H s):∀y∈a.names,y.2 = .free->(X.env.cells.lookup y.1).isSome=aC:=λy d b=>by obtain⟨c,e⟩:=I.ok.has y.1 (S.frees y d b);rw[e];rfl
theorem Gb{M:mT}{A:bQ}{E:aE->aI->Prop}{s:aI}{N:List a0}{d b:du}{a:aH}{f:a0}{c:jN}{x:a0}{fr:List a0}{ix:List Nat}{cl:List (a0×aH)}{Q:jN->aI->Prop}(S:CellF N d b x fr ix)
  (i:Q (newEnv b s.heap.objs.size a ((x,s.heap.objs.size+1)::cl) f none .none (aA c) kj) { s with heap:=(s.heap.push { cls:=.type "dict",data:=.dict #[] }).push { cls:=.type "cell",data:=.cell none } }) :
  ak M A (jA b a cl [] f none .none (aA c)) Q E s:=by
 simp only[jA,Option.isSome_some,if_true];refine aF (wpAny_alloc ?_);refine aF (wpAny_layCells _ (λh g cells=>by cases hkc:g==cG<;>simp[hkc]) _ _ _ _ ?_);refine aF (a9 (a9 ?_));have e:(s.heap.push { cls:=.type "dict",data:=.dict #[] }).objs.size=s.heap.objs.size+1:=cT ..;rw[S.pc];simp only[S.cf,e];exact i
theorem YM{x y:a0}{a c:aH}{cl:List (a0×aH)}(h:((x,a)::cl).lookup y=aA c):(y=x/\c=a)\/(y≠x/\cl.lookup y=aA c):=by
 rw[b5] at h
 cases q:y==x with
 | true=>rw[q] at h;exact .inl ⟨by simpa using q,by simpa using h.symm⟩
 | false=>rw[q] at h;exact .inr ⟨by simpa using q,h⟩
section
variable {X:Cx} {tg nX iter:aq} {nV:List aq} {scope:du} {pos:fD} {x:a0} {fr:List a0} {ix:List Nat} {wi:TI} {g:TG} {tt:TT} {te:TE}
abbrev clF(X:Cx)(scope:du)(x:a0)(C:aH):List (a0×aH):=(x,C+1)::XQ X.env.cells scope.names []
theorem K3{n5:List (aH×cy)}{E:St}{I:Hp}{s2:aI}{L:List aH}{h₁:bH}{tk:Nat}{C:aH}(S:CellF X.N X.env.scope scope x fr ix)(a:Inv X n5 E I s2)(M:∀b∈L,Vr X n5 I b)(J:∀b∈L,b<s2.heap.objs.size)
  (G:s2.heap.objs.size<=C) (U:h₁.Ns C λ_=>none) (R:h₁.IsCell (C+1) none) (t:∀b o,s2.heap.get? b=aA o->h₁.get? b=aA o) :
  Inv (MO (IC x) X (x::fr) scope (clF X scope x C) C s2 I L) [] (ZW 1 ix E) I { s2 with heap:=h₁,toks:=tk }:=by
 have T:=a.stkSub;have cs:=S.clos a;have sub:∀y c,(XQ X.env.cells scope.names []).lookup y=aA c->X.env.cells.lookup y=aA c:=λy c e=>Vf scope.names [] cs (λh=>by simp at h) e;have lt:∀y c,(XQ X.env.cells scope.names []).lookup y=aA c->c<s2.heap.objs.size:=λy c e=>by obtain⟨v,q⟩:=a.cell y c (sub y c e);exact q.lt
 have Q:(MO (IC x) X (x::fr) scope (clF X scope x C) C s2 I L).Ok:=by
  refine⟨a.ok.mod,S.kind,a.ok.glob,a.ok.blt,G,λy z c A f=>?_,λy Z=>?_,λy c P e=>?_,a.ok.hd,a.ok.frames,.inl rfl,λb w=>⟨?_,λy c e=>?_⟩,a.bs,?_,λb o e w=>?_,λb w z=>?_,a.stack,a.stkFree,a.ok.tab.un a.base,λ_ z=>absurd rfl z⟩
  ·rcases YM A with⟨s,d⟩ | ⟨s,d⟩<;>rcases YM f with⟨b1,N⟩ | ⟨b1,N⟩
   ·rw[s,b1]
   ·have h:=lt z c N;rw[d] at h;exact absurd (aV h G) (jC.mpr (kN C))
   ·have h:=lt y c d;rw[N] at h;exact absurd (aV h G) (jC.mpr (kN C))
   ·exact a.ok.inj y z c (sub y c d) (sub z c N)
  ·have Z:=Z
   have:∃k',(relabel scope X.env).names.lookup y=aA k'/\(k' = .cell\/k' = .free):=by
    rcases Z with h | h
    ·exact⟨_,h,.inl rfl⟩
    ·exact⟨_,h,.inr rfl⟩
   obtain⟨k',e,hk'⟩:=this;obtain⟨k,e0⟩:=Wl e;have Y:=YQ (env:=X.env) e0;have e:(scope.names.map λ(n,k)=>if(k==b0&&X.env.scope.kind==.function&&X.env.kindOf n==aA .cell) then(n,cG) else(n,k)).lookup y=aA k':=e;rw[Y] at e;have m:=dW e0;by_cases F:y=x
   ·subst F;exact⟨C+1,by show((y,C+1)::_:List (a0×aH)).lookup y=_;simp[b5]⟩
   cases k with
   | free=>
    obtain⟨c,hc⟩:=cE.mp (Vg (cells:=X.env.cells) _ [] m);refine⟨c,?_⟩;show((x,C+1)::_:List (a0×aH)).lookup y=_;rw[b5,show(y==x)=aB by simpa using F];exact hc
   | cell=>exact absurd (S.cells _ m rfl) F
   | _=>simp at e;subst e;rcases hk' with z | z<;>cases z
  ·show s2.heap.objs.size<=c;have P:(y==x)=aC:=P;rcases YM e with⟨s,d⟩ | ⟨s,d⟩
   ·rw[d];exact iC G
   ·exact absurd (by simpa using P) s
  ·exact ar (aV (J b w) G)
  ·rcases YM e with⟨s,d⟩ | ⟨s,d⟩
   ·rw[d];exact fK (aV (J b w) (iC G))
   ·exact(M b w).2.2.2.2.1 y c (sub y c d)
  ·exact aX a.ok.bsz a.sz
  ·rcases(M b w).2.2.2.1 with z | z
   ·exact a.ok.noex b o e z
   ·exact absurd (aV (aQ (a.ok.bs b o e).1) z) (cK _)
  ·rcases aa.mp (T b z) with e | e
   ·exact(M b w).2.1 e
   ·exact(M b w).2.2.1 e
 have sl:fr.length=ix.length:=by simpa using congrArg iT S.slots
 refine⟨Q,rfl,a.bare,Un.kept t,⟨_,U,λi y v A f g=>?_⟩,λy c e=>?_,a.hok.fresh G,λy c e=>?_,λp hp=>absurd (show p∈([]:List (aH×cy)) from hp) (by simp),a.hok.kept t,?_⟩
 ·have A:(x::fr)[i]?=aA y:=A;unfold ZW at f
  cases i with
  | zero=>simp at f
  | succ i=>
   have A:fr[i]?=aA y:=by simpa using A
   have f:(ix.map λi=>(E[i]?).join)[i]?=aA (aA v):=by simpa using f
   rw[aZ] at f
   cases ej:ix[i]? with
   | none=>rw[ej] at f;cases f
   | some j=>
    rw[ej] at f;have f:(E[j]?).join=aA v:=by simpa using f
    have f:E[j]?=aA (aA v):=by
     cases q:E[j]? with
     | none=>rw[q] at f;cases f
     | some z=>rw[q] at f;exact congrArg aA f
    have hN:X.N[j]?=aA y:=by have q:=congrArg (λl=>l[i]?) S.slots;simp only[aZ,A,ej] at q;exact(ay q).symm
    have D:=c9 A;have hm:=S.outs y D;have hk:=S.frees _ hm rfl;obtain⟨m,hn,hl⟩:=a.loc;obtain⟨u,r,l⟩:=hl j y v hN f (by rcases hk with k | k;exact .inr (.inl k);exact .inr (.inr k));refine⟨u,r,?_⟩;rcases l with⟨k,_⟩ | ⟨_,c,hc,B⟩
    ·have k:X.env.scope.names.lookup y=aA .local:=k;rcases hk with q | q<;>rw[k] at q<;>cases q
    ·obtain⟨c',H⟩:=cE.mp (Vg _ [] hm);have ec:=sub y c' H;rw[hc] at ec;cases ec;refine .inr ⟨?_,c,?_,?_⟩
     ·have g:=g;rcases g with g | g
      ·have Y:=YQ (env:=X.env) (S.apart y D);have g:(scope.names.map λ(n,k)=>if(k==b0&&X.env.scope.kind==.function&&X.env.kindOf n==aA .cell) then(n,cG) else(n,k)).lookup y=aA .local:=g;rw[Y] at g;exfalso;split at g<;>cases g
      ·exact g
     ·show((x,C+1)::_:List (a0×aH)).lookup y=_;rw[b5,show(y==x)=aB by simpa using S.ne y D];exact H
     ·obtain⟨o,W,O⟩:=B;exact⟨o,t _ _ W,O⟩
 ·rcases YM e with⟨s,d⟩ | ⟨s,d⟩
  ·rw[d];exact⟨_,R⟩
  ·obtain⟨v,o,W,O⟩:=a.cell y c (sub y c d);exact⟨v,o,t _ _ W,O⟩
 ·rcases YM e with⟨s,d⟩ | ⟨s,d⟩
  ·rw[d];exact a.hok.fresh (by omega)
  ·exact a.freeC y c (sub y c d)
 ·show(ZW 1 ix E).length=(x::fr).length;unfold ZW;rw[bJ,dY,aP,bp,sl];omega
theorem NY{M:List (aH×cy)}{L:St}{A:Hp}{s2:aI}{Q:List aH}{it:aH}{Z:Nat->bH->Prop}{J:It}{Fin:List V->Hp->Prop}{RR:aE->aH->mq->aI->Prop}{E:aE->aI->Prop}
  (j:X.calm=aC) (S:CellF X.N X.env.scope scope x fr ix)
  (hg:∀cl C s H ex,PG (MO (IC x) X (x::fr) scope cl C s H ex) tg g) (ht:∀cl C s H ex,Kv (MO (IC x) X (x::fr) scope cl C s H ex) nV tt) (he:∀cl C s H ex,PE (MO (IC x) X (x::fr) scope cl C s H ex) nX te)
  (O:Inv X M L A s2) (T:Ng X.prog X.w X.K tg J Q it Z) (I:Z 0 s2.heap) (f2:∀b∈Q,Vr X M A b)
  {W:Nat->Nat->List V->Hp->Prop} {m0:Nat} (w0:W 0 m0 [] A)
  (turn:∀i m ys H,W i m ys H->ys.length<=sizeLine/\
   ((J.stop i H/\Fin ys H)\/
    (J.go i H/\∃N:List V->Hp->Prop,(∀ys' H',N ys' H'->∃m',m'<m/\W (i+1) m' ys' H')/\
     ∀x H',J.yld i H x H'->g x (ZW 1 ix L) H' λk A=>k.drop 1=(ZW 1 ix L).drop 1/\tt k A λb H3=>if b=aC then te k H3 λy H4=>N (ys++[y]) H4 else N ys H3)))
  (U:∀(D C:aH)(oC:cy)(m:a0->Option aE)(s':aI)(H':Hp)(ys:List V),Inv X (M++[(C,oC)]) L (upd H' D (.lst ys)) s'->s'.heap.get? C=aA oC->s'.heap.Ns C m->Vr X M (upd H' D (.lst ys)) C->H' D=none->Fin ys H'->RR (.ref D) C (.ok .next) s') :
  ak (model X.prog X.w) X.A (newList []) (λG t=>ak (model X.prog X.w) X.A (jA scope X.env.globals (XQ X.env.cells scope.names []) [] X.env.qual none .none (aA X.env)) (λf F=>
   gO (model X.prog X.w) X.A (.compStart (.ListComp nX [⟨tg,iter,nV,0⟩] scope pos) 0 (.ref it) G { f with scope:=relabel scope X.env }) (RR G f.locals) F) E t) E s2:=by
 have B:∀b∈Q,b<s2.heap.objs.size:=λb P=>by obtain⟨o,e,_⟩:=T.obj 0 s2.heap I b P;exact aQ e
 refine dQ (Gb S ?_)
 dsimp only
 generalize p:s2.heap.push { cls:=.type "list",dict:=none,data:=.seq ([]:List aE).toArray }=G2;have Y:G2.objs.size=s2.heap.objs.size+1:=by rw[<-p,cT]
 have a:=(bH.Ns.new G2 (.type "dict")).push { cls:=.type "cell",data:=.cell none };generalize d:(G2.push { cls:=.type "dict",data:=.dict #[] }).push { cls:=.type "cell",data:=.cell none }=h₁ at a ⊢;have ext:∀b o,G2.get? b=aA o->h₁.get? b=aA o:=λb o e=>d▸aG _ (aG _ e);have u:h₁.IsCell (G2.objs.size+1) none:=by refine⟨{ cls:=.type "cell",data:=.cell none },?_,rfl⟩;rw[<-d,show G2.objs.size+1=(G2.push { cls:=.type "dict",data:=.dict #[] }).objs.size from(cT ..).symm];exact ag _ rfl
 generalize hCC:G2.objs.size=C at a Y u ⊢;generalize l:s2.heap.objs.size=D at Y ⊢;have hDC:D≠C:=by omega
 have n:∀b,b<s2.heap.objs.size->b≠C/\b≠D:=λb P=>by rw[l] at P;exact⟨ar (by omega),ar P⟩
 have w:∀b o,s2.heap.get? b=aA o->h₁.get? b=aA o:=λb o e=>ext b o (p▸aG _ e)
 have r:h₁.get? D=aA { cls:=.type "list",data:=.seq ([]:List aE).toArray 0 }:=by
  have e0:G2.get? D=aA { cls:=.type "list",data:=.seq ([]:List aE).toArray 0 }:=by rw[<-p,<-l];exact ag _ rfl
  exact ext _ _ e0
 have I0:=λtk=>K3 (tk:=tk) S O f2 B (C:=C) (by omega) a u w;refine OJ (s2:=s2) (h₁:=h₁) (fv:=IC x) (N:=x::fr) (C:=C) (D:=D) (cl:=clF X scope x C) (kk:=1) (ix:=ix) j (hg _ _ _ _ _) (ht _ _ _ _ _) (he _ _ _ _ _) O T I f2 w0 turn U B Y l w r I0 λy c e z=>?_;rcases YM e with⟨a1,R⟩ | ⟨a1,R⟩
 ·have q:C+1=D:=R.symm.trans z;omega
 ·obtain⟨v,q⟩:=O.cell y c (Vf scope.names [] (S.clos O) (λh=>by simp at h) R);exact(n c q.lt).2 z
theorem Gd(c:X.calm=aC)(r:PI X tg iter wi)(S:CellF X.N X.env.scope scope x fr ix)
  (k:∀cl C s H ex,PG (MO (IC x) X (x::fr) scope cl C s H ex) tg g) (A:∀cl C s H ex,Kv (MO (IC x) X (x::fr) scope cl C s H ex) nV tt) (j:∀cl C s H ex,PE (MO (IC x) X (x::fr) scope cl C s H ex) nX te)
  (hs:∀x,bq iter X.env x=pure x:=by intro _;rfl):PE X (.ListComp nX [⟨tg,iter,nV,0⟩] scope pos) (Qx 1 ix wi g tt te):=by
 intro w s t H Q I h;refine gY rfl hs (W5 (S.clos I)) S.kind S.names (Ys (r w s t H _ I h) λv s1 M=>Ys M λG s2 p=>?_);obtain⟨Z,N,P,J,Y,e,y,T,i,F,W,⟨O,q⟩,turn⟩:=p;subst e;refine NY c S k A j y T i F q turn ?_;intro D C U m R E z l n L a u d;refine⟨m,L,λh' f=>⟨.ref D,upd E D (.lst z),?_,rfl,d D u⟩⟩;exact(l.unpinned).turned (λb o B e=>f.extBut b o B e) a.1 a.2.1 a.2.2.2.1 a.2.2.2.2.1 a.2.2.2.2.2
noncomputable def K4(N:List a0)(around scope:du)(x:a0)(fr:List a0)(ix:List Nat):Bool:=
 (match scope.kind with | .function=>aC | _=>aB)&&(scope.names.filter (λy=>y.2==.cell)==[(x,.cell)])&&scope.names.all (λy=>y.2 != .local || scope.names.lookup y.1==aA .local)&&
 scope.names.all (λy=>y.2 != .free || (around.names.lookup y.1==aA .cell || around.names.lookup y.1==aA .free))&&(fr.map aA==ix.map (λi=>N[i]?))&&
 fr.all (λz=>scope.names.contains (z,b0))&&fr.all (λz=>scope.names.lookup z==aA .free)&&fr.all (λz=>z != x)
theorem B7{x:a0}:∀(names:List (a0×eY))(n:Nat)(a:List (a0×aH)),(names.filter (λy=>y.2==.cell)=[(x,.cell)]->iO n names a=(x,n)::a)/\(names.filter (λy=>y.2==.cell)=[]->iO n names a=a)
 | [],n,a=>⟨λh=>by simp at h,λ_=>rfl⟩
 | (y,k)::r,n,a=>by
  have b:=λn a=>B7 (x:=x) r n a;unfold iO
  cases q:k==cG with
  | true=>
   rw[nZ rfl,iQ,show((y,k).2==cG)=aC from q,nZ rfl];refine⟨λh=>?_,λh=>by simp at h⟩;injection h with h1 h2;cases h1;exact(b _ _).2 h2
  | false=>
   rw[ng bT,iQ,show((y,k).2==cG)=aB from q,ng bT];exact b n a
theorem B8{x:a0}:∀(names:List (a0×eY))(h:bH),(names.filter (λy=>y.2==.cell)=[(x,.cell)]->mO h names=h.push { cls:=.type "cell",data:=.cell none })/\(names.filter (λy=>y.2==.cell)=[]->mO h names=h)
 | [],h=>⟨λh=>by simp at h,λ_=>rfl⟩
 | (y,k)::r,h=>by
  have a:=λh=>B8 (x:=x) r h;unfold mO
  cases q:k==cG with
  | true=>
   rw[nZ rfl,iQ,show((y,k).2==cG)=aC from q,nZ rfl];refine⟨λh=>?_,λh=>by simp at h⟩;injection h with h1 h2;exact(a _).2 h2
  | false=>
   rw[ng bT,iQ,show((y,k).2==cG)=aB from q,ng bT];exact a h
theorem Ge{N:List a0}{b a:du}{x:a0}{fr:List a0}{ix:List Nat}(h:K4 N b a x fr ix=aC):CellF N b a x fr ix:=by
 unfold K4 at h;simp only[bX] at h;obtain⟨⟨⟨⟨⟨⟨⟨i,c⟩,j⟩,m⟩,p⟩,o⟩,l⟩,k⟩:=h;have c:a.names.filter (λy=>y.2==.cell)=[(x,.cell)]:=by simpa using c
 refine⟨?_,λn g=>(B7 _ n g).1 c,λh=>(B8 _ h).1 c,λy f e=>?_,λy f e=>?_,λy f e=>?_,by simpa using p,λz d=>?_,λz d=>?_,λz d=>?_⟩
 ·split at i
  ·assumption
  ·cases i
 ·have:y∈a.names.filter (λy=>y.2==.cell):=i5.mpr ⟨f,by rw[e];rfl⟩;rw[c] at this;rw[ah.mp this]
 ·have:=bA.mp j y f;rw[e] at this;simpa using this
 ·have:=bA.mp m y f;rw[e] at this;simpa using this
 ·simpa using bA.mp o z d
 ·simpa using bA.mp l z d
 ·simpa using bA.mp k z d
end
end L2
namespace VL
open PySem PySem.Spec PyProof.Rows L2
section
variable {X:Cx} {tg nX iter:aq} {nV:List aq} {scope:du} {pos:fD} {fi:XL} {T:Tgt} {ft:XT} {fe:XE}
theorem Gg(x:a0)(fr:List a0)(ix:List Nat)(b:X.calm=aC)(e:VI X tg iter fi)(S:K4 X.N X.env.scope scope x fr ix=aC)
  (d:∀cl C s H a,PG (MO (IC x) X (x::fr) scope cl C s H a) tg (gT X.K T)) (f:∀cl C s H a,VTs (MO (IC x) X (x::fr) scope cl C s H a) nV ft) (c:∀cl C s H a,VM (MO (IC x) X (x::fr) scope cl C s H a) nX fe)
  (g:∀i∈T.slots,i<1:=by decide) (hs:∀x,bq iter X.env x=pure x:=by intro _;rfl):VM X (.ListComp nX [⟨tg,iter,nV,0⟩] scope pos) (Zu 1 ix fi T ft fe):=
 PE.imp (Gd b e (Ge S) d (λcl C s H a=>(show Kv (MO (IC x) X (x::fr) scope cl C s H a) nV (M9 X.K ft) from f cl C s H a)) (λcl C s H a=>(show PE (MO (IC x) X (x::fr) scope cl C s H a) nX (tM X.K fe) from c cl C s H a)) hs) (NG g)
end
end VL
namespace L2
open PySem PySem.Spec PyProof.Rows
theorem Gh{X:Cx}(G:X.calm=aC):Xr X (.builtin "any") (λm H Q=>∃(b:Bool) (p:aH) (ns:List Int),m=[.ref p]/\R3 b X.K H p (ns.map V.int)/\Q (.bl (ns.any λz=>z != 0)) H):=by
 intro N s M H m S Q I r h;obtain⟨b,p,bs,rfl,J,q⟩:=h;obtain⟨u,rfl,E⟩:=TF r;cases E;obtain⟨j,l,a,R⟩:=I.seqB J;have F:p<s.heap.objs.size:=let⟨_,e⟩:=a.has;aQ e;have k:=l.length;rw[aP] at k;refine call_any_walk (Yj a ?_);refine⟨_,_,_,_,_,_,λi=>bs.getD i 0 != 0,rfl,Walks.seqB (A:=X.A.in1) b (I.ok.hd G) s.heap.objs.size p (ar F) j.toArray,⟨IterB.new (ag _ rfl),a.at λo e=>aG _ e⟩,λi v O L P g w=>?_,λh' tk y=>?_⟩
 ·have g:j.toArray[i]?=aA v:=g;have g:j[i]?=aA v:=by simpa using g
  have d:i<bs.length:=by rw[k];exact(aS.mp g).1
  obtain⟨u,n,B⟩:=l.get (i:=i) (x:=.int bs[i]) (by rw[aZ,aL d];rfl);rw[g] at n;cases n;obtain⟨t,rfl⟩:=B;refine PyProof.Rows.truthy_int ?_;have e:bs.getD i 0=bs[i]:=by rw[aJ,aL d];rfl
  rw[<-e];exact w
 ·have e:(aM j.toArray.size).any (λi=>bs.getD i 0 != 0)=bs.any λz=>z != 0:=by
   rw[aR,<-k,m4,fX,fX];constructor
   ·rintro⟨i,d,h⟩;have d:=aU.mp d;rw[aJ,aL d] at h;exact⟨_,eT d,h⟩
   ·rintro⟨x,D,h⟩;obtain⟨i,d,rfl⟩:=gK.mp D;refine⟨i,aU.mpr d,?_⟩;rw[aJ,aL d];exact h
  rw[e];refine⟨.bl (bs.any λz=>z != 0),H,I.kept (λc o f=>y c o ?_ (aG _ f)),rfl,q⟩;intro C;rw[ah.mp C] at f;exact absurd (aQ f) (cK _)
end L2
namespace VL
open PySem PySem.Spec PyProof.Rows L2
variable {K:aD}
noncomputable def Pj:List PV->Option PV
 | [l]=>(SI l).bind λm=>(Xh m).map λns=>.bl (ns.any λz=>z != 0)
 | _=>none
theorem CQ:RC K (λd H Q=>∃(b:Bool) (p:aH) (a:List Int),d=[.ref p]/\R3 b K H p (a.map V.int)/\Q (.bl (a.any λz=>z != 0)) H) Pj:=λH vs ls l r h e Q k=>by
 unfold Pj at e;split at e
 ·obtain⟨m,q,f⟩:=Zf e;obtain⟨a,j,rfl⟩:=map_some f;obtain⟨v,rfl,i⟩:=h.one_inv;obtain⟨p,d,s,rfl,c,g,hs⟩:=WT (K:=K) i q;have o:=Y9 j;subst o;obtain⟨rfl,rfl⟩:=g.iL;obtain⟨b,n⟩:=NC c;exact⟨b,p,a,rfl,n,k _ H [] (Same.refl H) (Is.bl _) λp c=>by simp at c⟩
 ·cases e
abbrev B9:=GV (λ_ j=>j≠0) Int.fmod
theorem CS{X:Cx}{a b:aq}{c fb:XE}{pos:fD}(e:VE X a c)(d:VE X b fb):VE X (.BinOp a .Mod b pos) (Zi B9 c fb):=Wz DI (QC _ _) e d
end VL
namespace PW
open PySem L2 VL VX
noncomputable def LI:XS:=(Zm (Zq 2 (TQ [eP (eC (.int 0))]))
  (Zm (Y6 [2] (Vh [eC (.int 1),Za 1]) (.one 3) (Zm (Zq 4 (Zc Z3 [Za 0,Zi Yb (eC (.int 13)) (Za 3)]))
  (Zm (Zq 5 (eP (Zi Y5 (Zi Xq (Zi Ta (Za 4) (eC (.int 5))) (eC (.int 13))) (eC (.int 6)))))
  (Zm (SM (xB (Zi (XZ aB) (Zi Xq (Za 4) (eC (.int 5))) (eC (.int 4)))) (Zq 5 (eP (Zi Y5 (Zi Xq (Zi Uo (Za 4) (Za 4)) (Zi Yb (Zi Uo (eC (.int 2)) (Zi Oh (eC (.int 10)) (eC (.int 20)))) (eC (.int 1)))) (Zi Oh (eC (.int 10)) (eC (.int 20)))))) Yr)
  (XI 2 (eP (Za 5)))))))
  (Zm (X1 2 (eC (.int 0)) (Zi Y5 (eC (.int 0)) (Zc Vw [Za 2])))
  (ZM (eP (Zc ZN [Za 2]))))))
noncomputable def Pk:List PV->Option PV:=Yy 6 LI
noncomputable def LJ:XS:=(ZM (Zc YV [Za 0,eC (.int 0)]))
noncomputable def Us:List PV->Option PV:=Yy 1 LJ
noncomputable def K5:XS:=(ZM (Zu 1 [1] (ZX [Za 0]) (.one 0) Zy (eP (Fv (xB (Zi (XZ aB) (Za 0) (Za 1))) (eC (.int 1)) (eC (.int 0))))))
noncomputable def VN:List PV->Option PV:=Yy 2 K5
noncomputable def K6:XS:=(Zm (Zq 1 (eP (Zc YG [Za 0])))
  (Zm (Zq 2 (Zu 2 [1] (Xs aB [Za 0]) (.many [0,1]) Zy (eP (Ol (Zi QS (Zc Uh [Za 1]) (Zc VN [Za 2,Za 0]))))))
  (Zm (Zq 3 (Zu 1 [1] (ZX [Za 1]) (.one 0) Zy (eP (Ol (Zi QS (Zc VN [Za 1,Za 0]) (Zi Lk (TQ [eC (.int 0)]) (Za 1)))))))
  (ZM (Zi QS (Za 2) (Za 3))))))
noncomputable def Tn:List PV->Option PV:=Yy 4 K6
noncomputable def RW:XS:=(ZM (Zu 1 [2,0] (Vh [Zi Yb (Za 2) (eC (.int 1)),Za 1]) (.one 0) (xB (Zi (XZ aC) (Zi ZJ (Zi ZJ (Za 2) (Za 0)) (Za 1)) (eC (.int 0)))) (eP (Za 0))))
noncomputable def Y4:List PV->Option PV:=Yy 3 RW
noncomputable def Za0:XS:=(ZM (Zu 2 [2] (U4 aC aC [Za 0,Za 1]) (.many [0,1]) Zy (eP (Zi Y5 (Za 0) (Zi Uo (Za 2) (Za 1))))))
noncomputable def S2:List PV->Option PV:=Yy 3 Za0
noncomputable def V6:XS:=(Zm (Zq 3 (Zc Uh [Za 0]))
  (Zm (Zq 4 (Zc Y4 [Za 3,Za 1,Za 2]))
  (Zm (Xl (xB (Zi M8 (Zc YG [Za 4]) (eC (.int 0)))) (Zm (Zq 5 (eP (Zi ZJ (Za 4) (eC (.int 0)))))
  (Zm (SM (Dw (xB (Zi (XZ aB) (Zi ZJ (Zi ZJ (Za 3) (Za 2)) (Za 2)) (eC (.int 0)))) (xB (Zi Hz (Zc Ld [Zi ZJ (Zi ZJ (Za 3) (Za 5)) (Za 2)]) (Zc Ld [Zi ZJ (Zi ZJ (Za 3) (Za 2)) (Za 2)])))) (Zm (Zq 6 (eP (Zi ZJ (Za 3) (Za 2))))
  (Zm (X1 3 (Za 2) (Zi ZJ (Za 3) (Za 5)))
  (X1 3 (Za 5) (Za 6)))) Yr)
  (Zm (Y6 [3] (Vy (Za 4)) (.one 7) (X1 3 (Za 7) (Ol (Zc S2 [Zi ZJ (Za 3) (Za 7),Zi ZJ (Za 3) (Za 2),Zi Ta (Zi ZJ (Zi ZJ (Za 3) (Za 7)) (Za 2)) (Zi ZJ (Zi ZJ (Za 3) (Za 2)) (Za 2))]))))
  (Zq 4 (Zc Y4 [Za 3,Za 1,Za 2]))))))
  (ZM (Za 3)))))
noncomputable def ZP:List PV->Option PV:=Yy 8 V6
noncomputable def Om:XS:=(ZM (Zu 1 [0] (ZX [Zc YG [Za 0]]) (.one 0) Zy (eP (Ol (Zu 1 [0] (Vy (Za 1)) (.one 0) Zy (eP (Zi ZJ (Za 0) (Za 1))))))))
noncomputable def YC:List PV->Option PV:=Yy 1 Om
noncomputable def W8:XS:=(Zm (Zq 3 (Zc ZP [Za 0,Za 1,Za 2]))
  (Zm (Xl (xB (Zc Pj [QP TY (Zi ZJ (Za 3) (Za 2)) (Tw (Zi Yb (Za 2) (eC (.int 1)))) (Tw (Za 1))])) (Zm (Zq 3 (Zc YC [Zc ZP [Zc YC [Za 3],Za 1,Za 2]]))
  (Zq 3 (Zc ZP [Za 3,Za 1,Za 2]))))
  (ZM (Za 3))))
noncomputable def Y1:List PV->Option PV:=Yy 4 W8
noncomputable def LK:XS:=(Zm (Zq 3 (eP (Zi ZJ (Zi ZJ (Za 0) (Za 2)) (Za 2))))
  (Zm (Y6 [] (Vh [Zi Yb (Za 2) (eC (.int 1)),Za 1]) (.one 4) (SM (xB (Zc FA [Zu 1 [3] (Vy (QP TY (Zi ZJ (Za 0) (Za 4)) Li (Tw (Za 1)))) (.one 0) Zy (Zi (XZ aC) (Zi B9 (Za 0) (Za 1)) (eC (.int 0)))])) (ZM (eP (Za 4))) Yr))
  (ZM (eP (eC .non)))))
noncomputable def WY:List PV->Option PV:=Yy 5 LK
noncomputable def Sb:XS:=(Zm (Zq 3 (Zc Y1 [Za 0,Za 1,Za 2]))
  (Zm (Zq 4 (Zc WY [Za 3,Za 1,Za 2]))
  (Zm (Xl (xB (SE aC (Za 4))) (Zm (X1 3 (Za 2) (Ol (Zc S2 [Zi ZJ (Za 3) (Za 2),Zi ZJ (Za 3) (Za 4),eC (.int 1)])))
  (Zm (Zq 3 (Zc Y1 [Za 3,Za 1,Za 2]))
  (Zq 4 (Zc WY [Za 3,Za 1,Za 2])))))
  (Zm (SM (xB (Zi Hz (Zi ZJ (Zi ZJ (Za 3) (Za 2)) (Za 2)) (eC (.int 0)))) (X1 3 (Za 2) (Ol (Zu 1 [] (Vy (Zi ZJ (Za 3) (Za 2))) (.one 0) Zy (eP (GW NA (Za 0)))))) Yr)
  (ZM (Za 3))))))
noncomputable def Wq:List PV->Option PV:=Yy 5 Sb
noncomputable def Gi:XS:=(ZM (eP (Zc ZN [Zu 2 [] (U4 aB aB [Za 0,Za 1]) (.many [0,1]) Zy (Zi Ta (Za 0) (Za 1))])))
noncomputable def UZ:List PV->Option PV:=Yy 2 Gi
noncomputable def RX:XS:=(ZM (eP (Zc Vw [Zu 2 [2,1] (Xs aB [Za 0]) (.many [0,1]) Zy (Zi Uo (Za 1) (Zi ZJ (Zi ZJ (Za 3) (Za 0)) (Za 2)))])))
noncomputable def X3:List PV->Option PV:=Yy 3 RX
noncomputable def LL:XS:=(ZM (eP (Zc ZN [Zu 1 [0,1] (ZX [Zc YG [Za 0]]) (.one 0) Zy (Zc X3 [Za 1,Za 2,Za 0])])))
noncomputable def Ut:List PV->Option PV:=Yy 2 LL
noncomputable def NZ:XS:=(ZM (eP (Zc ZN [Zu 1 [1] (TV (Za 0)) (.one 0) Zy (Zc Ut [Za 0,Za 1])])))
noncomputable def YW:List PV->Option PV:=Yy 2 NZ
noncomputable def ID:XS:=(Zm (Zq 1 (Zc Us [Za 0]))
  (Zm (Zq 2 (eP (Zc YG [Za 1])))
  (Zm (Zq 3 (Zc Tn [Za 1]))
  (Zm (Y6 [] (ZX [Za 2]) (.one 4) (Zq 3 (Zc Wq [Za 3,Za 2,Za 4])))
  (Zm (Zq 5 (eP (Zc ZN [Zu 1 [3] (ZX [Za 2]) (.one 0) Zy (Zi ZJ (Zi ZJ (Za 1) (Za 0)) (Za 0))])))
  (Zm (Zq 6 (eP (Zc ZN [Zu 1 [2] (Vy (QP TY (Za 3) Li (Tw (Za 2)))) (.one 0) Zy (Zc ZN [QP TY (Za 0) (Tw (Za 1)) Li])])))
  (Zm (Zq 7 (eP (Zc ZN [Zu 1 [2] (Vy (QP TY (Za 3) (Tw (Za 2)) Li)) (.one 0) Zy (Zc ZN [QP TY (Za 0) Li (Tw (Za 1))])])))
  (Zm (Zq 8 (eP (Zc ZN [Zu 1 [5] (TV (Zc YW [Za 1,Za 7])) (.one 0) Zy (Zc UZ [Za 0,Za 1])])))
  (Zm (Zq 9 (eP (Zc ZN [Zu 2 [2] (U4 aB aB [Zc YW [Za 6,Za 1],Za 5]) (.many [0,1]) Zy (Zc UZ [Za 0,Zi OY (QJ [Za 1]) (Za 2)])])))
  (ZM (eP (QJ [Za 6,Za 8,Za 7,Za 9,Za 5]))))))))))))
noncomputable def Sd:List PV->Option PV:=Yy 10 ID
noncomputable def Er:XS:=(ZM (eP (Zc Vw [Zu 2 [] (U4 aB aB [Za 0,Za 1]) (.many [0,1]) Zy (Zi Uo (Za 0) (Za 1))])))
noncomputable def Pm:List PV->Option PV:=Yy 2 Er
noncomputable def CT:XS:=(Zm (Zq 2 (eP (Zi ZJ (Za 0) (eC (.int 0)))))
  (ZM (eP (Zc ZN [Zu 2 [1] (U4 aB aB [Za 2,Zi ZJ (Za 0) (eC (.int 4))]) (.many [0,1]) Zy (Zi Xq (Zc Pm [Za 0,QP SK (Za 2) (Tw (eC (.int 1))) Li]) (Za 1))]))))
noncomputable def Qg:List PV->Option PV:=Yy 3 CT
noncomputable def S3:XS:=(Zm (Zq 2 (eP (Za 0)))
  (Zm (Zq 3 (eP (Za 1)))
  (Zm (Xl (xB (Zi (XZ aC) (Za 3) (eC (.int 0)))) (Zm (Zq 4 (eP (Zi Xq (Za 2) (Za 3))))
  (Zm (Zq 2 (eP (Za 3)))
  (Zq 3 (eP (Za 4))))))
  (ZM (eP (Za 2))))))
noncomputable def YX:List PV->Option PV:=Yy 5 S3
noncomputable def Y7:List PV->Option (a0×PV):=fnY 7 (LA (yIf (xB (Zi (XZ aC) (Zc YF [Za 1]) (eC (.int 0)))) (Ur "NoTotal" (Zc YF [Za 1])) Dx) Q7 Dx)
theorem Tc:∀ls m l,Y7 ls=aA (m,l)->m = "NoTotal":=El (Ga (Ek (LD rfl) LF) LF)
noncomputable def K7:XS:=(Zm (SM (xB (Zi (XZ aC) (Zc YF [Za 1]) (eC (.int 0)))) Q7 Yr)
  (Zm (Zq 2 (Zc Sd [Za 0]))
  (Zm (Zq 3 (eP (eC (.int 1))))
  (Zm (Y6 [] (U4 aB aB [Zc Qg [Za 2,Za 1],Zi ZJ (Za 2) (eC (.int 4))]) (.many [4,5]) (Zm (Zq 6 (eP (Zi Ta (Za 5) (Zc YX [Za 4,Za 5]))))
  (Zq 3 (eP (Zi Ta (Zi Uo (Za 3) (Za 6)) (Zc YX [Za 3,Za 6]))))))
  (ZM (eP (Za 3)))))))
noncomputable def Xz:List PV->Option PV:=Yy 7 K7
noncomputable def O7:XS:=(Zm (SM (xB (SY (K2 "NoTotal" (["Apart","NoEnds","NoName","NoOrder","NoRow","NoText"]:List a0)) (Za 0))) (ZM (eP (eC (.bl aC)))) Yr)
  (ZM (eP (SY (K2 "NoTotal" (["NoTree","NotSettled","NoWeb","TooMany"]:List a0)) (Za 0)))))
noncomputable def XA:List PV->Option PV:=Yy 1 O7
noncomputable def LM:XS:=(Zm (Zq 2 (eP (eC .non)))
  (Zm (Zq 3 (eP (eC (.bl aB))))
  (Zm (sOr (Ph Y7 [Za 0,Za 1] 4 (Zq 2 (eP (Iy "NoTotal" (Za 4))))) (sEx (Zc Xz [Za 0,Za 1])))
  (Zm (sOr (Ph Y7 [Za 0,Za 1] 4 (Zq 3 (eP (RS (SY (tbM "NoTotal" "NoTotal") (Za 4)) (RS (SY (tbW "NoTotal") (Za 4)) (HA (Zc XA [Za 4]))))))) (sEx (Zc Xz [Za 0,Za 1])))
  (ZM (eP (RS (Zc Vl [Za 2]) (RS (Zi (XZ aB) (Za 2) (Zc Vw [Za 1])) (Za 3)))))))))
noncomputable def Uu:List PV->Option PV:=Yy 5 LM
noncomputable def Aa:XS:=(Zm (Zq 1 (Zc NQ [Za 0,eC (.int 4)]))
  (Zm (Zq 2 (eP (Zc YG [Za 1])))
  (Zm (Zq 3 (Zc Pk [Za 0,Za 2]))
  (Zm (Zq 4 (Zc Xz [Za 1,Za 3]))
  (Zm (Zq 5 (eP (Zi Q1 (QJ [eC (.int 1)]) (Zi ZJ (Zc Sd [Za 1]) (eC (.int 4))))))
  (Zm (SM (Dw (Fu (xB (Zc Vl [Za 4]))) (Dw (xB (Zi Hz (Za 4) (eC (.int 1)))) (xB (Zi (XZ aC) (Zi Xq (Zi ZJ (Za 5) (GW NA (eC (.int 1)))) (Za 4)) (eC (.int 0)))))) (ZM (eP (eC (.bl aB)))) Yr)
  (Zm (Zq 6 (eP (Zi OY (QJ [eC (.int 0)]) (Za 2))))
  (Zm (Zq 7 (eP (Zc ZN [Zu 1 [4] (TV (Za 3)) (.one 0) Zy (Zi WA (Za 1) (Za 0))])))
  (Zm (Zq 8 (Zc Y3 [Za 1,Za 7,Za 6]))
  (Zm (SM (Dw (xB (SE aB (Za 8))) (xB (Zi (XZ aC) (Zc Qf [Za 1,Za 7,Za 8]) (Za 6)))) (ZM (eP (eC (.bl aB)))) Yr)
  (Zm (SM (xB (Zi M8 (Za 4) (eC (.int 1)))) (Zm (Zq 9 (eP (Zi Yb (eC (.int 1)) (Zc Zz [Zc Z3 [Za 0,eC (.int 20)],eC (.int 8),Zi Y5 (Za 4) (eC (.int 1))]))))
  (SM (xB (SE aC (Zc Y3 [Za 1,Zc ZN [Zu 1 [9] (TV (Za 3)) (.one 0) Zy (Zi WA (Za 1) (Za 0))],Za 6]))) (ZM (eP (eC (.bl aB)))) Yr)) Yr)
  (Zm (Zq 10 (eP (Zi Yb (eC (.int 1)) (Zc Ld [Zc SX [Zc Z3 [Za 0,eC (.int 21)]]]))))
  (Zm (Zq 11 (eP (Zi Q1 (QP SK (Za 3) Li (Tw (Zi Y5 (Za 2) (eC (.int 1))))) (QJ [Zi Yb (Zi ZJ (Za 3) (Zi Y5 (Za 2) (eC (.int 1)))) (Zi WA (Za 10) (Zi Y5 (eC (.int 1)) (Zi WA (eC (.int 2)) (Zi Xq (Za 2) (eC (.int 2))))))]))))
  (ZM (eP (RS (Zc Uu [Za 1,Za 11]) (Zi (XZ aB) (Zc Xz [Za 1,Za 3]) (Za 4))))))))))))))))))
noncomputable def D_law:List PV->Option PV:=Yy 12 Aa
end PW
namespace VL
open PySem PySem.Spec PyProof.Rows L2
theorem Wi{N P:List a0}{h:du}(a:h.kind = .function:=by rfl)(b:h.isCoroutine=aB:=by rfl)(c:h.isGenerator=aB:=by rfl)(d:N.Nodup:=by decide +kernel)(e:N.take P.length=P:=by rfl)
  (f:∀x∈P,h.names.lookup x=aA .local\/h.names.lookup x=aA .cell:=by decide +kernel) (g:∀y∈h.names,y.2≠.free:=by decide +kernel):Zk N P h:=⟨a,b,c,d,e,f,g⟩
section
variable {X:Cx} {e e1 e2 e3 e4 e5:aq} {f f1 f2 f3 f4 f5:XE} {es:List aq} {fs:List XE} {x:a0} {p pos pos':fD} {k k' n:Nat} {O W:List Nat}
theorem vo(i:Nat)(c:X.N[i]?=aA x:=by rfl)(d:Vis X.env.scope x:=by first | exact lA rfl | exact kK (lA rfl) | exact kK (kK rfl))(b:(x==("__debug__" : a0))=aB:=by decide)
  (a:(x==("__classdict__" : a0))=aB:=by decide):VE X (.Name x pos) (Za i):=Zcx (pv i c d b a)
theorem Yz(a:VE X e1 f1)(hs:aO [e1] X.env=(aB,eval e1 X.env)::aO [] X.env:=by rfl):VA X [e1] [f1]:=TM a A8 hs
theorem X4(a:VE X e1 f1)(b:VE X e2 f2)(hs:aO [e1,e2] X.env=(aB,eval e1 X.env)::aO [e2] X.env:=by rfl)(c:aO [e2] X.env=(aB,eval e2 X.env)::aO [] X.env:=by rfl):VA X [e1,e2] [f1,f2]:=TM a (Yz b c) hs
theorem VP(a:VE X e1 f1)(b:VE X e2 f2)(c:VE X e3 f3)(hs:aO [e1,e2,e3] X.env=(aB,eval e1 X.env)::aO [e2,e3] X.env:=by rfl)(d:aO [e2,e3] X.env=(aB,eval e2 X.env)::aO [e3] X.env:=by rfl)(e:aO [e3] X.env=(aB,eval e3 X.env)::aO [] X.env:=by rfl):VA X [e1,e2,e3] [f1,f2,f3]:=TM a (X4 b c d e) hs
theorem va4(a:VE X e1 f1)(b:VE X e2 f2)(c:VE X e3 f3)(d:VE X e4 f4)(hs:aO [e1,e2,e3,e4] X.env=(aB,eval e1 X.env)::aO [e2,e3,e4] X.env:=by rfl)(e:aO [e2,e3,e4] X.env=(aB,eval e2 X.env)::aO [e3,e4] X.env:=by rfl)(f:aO [e3,e4] X.env=(aB,eval e3 X.env)::aO [e4] X.env:=by rfl)(g:aO [e4] X.env=(aB,eval e4 X.env)::aO [] X.env:=by rfl):VA X [e1,e2,e3,e4] [f1,f2,f3,f4]:=TM a (VP b c d e f g) hs
theorem Vn{j:List a0}{D:List PV->Option PV}(C:Xd X.prog X.w X.K X.mg X.base x j (YS X.K D n) k)(c:Room k' X.A)(g:VA X (e::es) fs)(h:k<=k':=by decide)(f:Gl X x:=by rfl)(i:fs.length=n:=by rfl)
  (a:(x==("__debug__" : a0))=aB:=by decide) (d:aO (e::es) X.env=(aB,eval e X.env)::aO es X.env:=by rfl) (b:(dD pos (aO es X.env)).any (·.1)=aB:=by rfl) :
  VM X (.Call (.Name x p) (e::es) [] pos) (Zc D fs):=J7 C (c.mono h) f g i a d b
theorem WR{j:List a0}{D:List PV->Option PV}(C:Xd X.prog X.w X.K X.mg X.base x j (YS X.K D n) k)(c:Room k' X.A)(g:VA X (e::es) fs)(h:k<=k':=by decide)(f:Gl X x:=by rfl)(i:fs.length=n:=by rfl)
  (a:(x==("__debug__" : a0))=aB:=by decide) (d:aO (e::es) X.env=(aB,eval e X.env)::aO es X.env:=by rfl) (b:(dD pos (aO es X.env)).any (·.1)=aB:=by rfl) :
  VE X (.Call (.Name x p) (e::es) [] pos) (Zc D fs):=VM.ve (J7 C (c.mono h) f g i a d b)
theorem vb{id:String}{r:List V->Hp->VK->Prop}{g:List PV->Option PV}(i:Xr X (.builtin id) r)(c:RC X.K r g)(d:X.mg x=none)(j:VA X (e::es) fs)(h:Gl X x:=by rfl)(l:dN x=aA (.builtin id):=by decide +kernel)(k:x≠"__name__":=by decide)(a:(x==("__debug__" : a0))=aB:=by decide)
  (f:aO (e::es) X.env=(aB,eval e X.env)::aO es X.env:=by rfl) (b:(dD pos (aO es X.env)).any (·.1)=aB:=by rfl):VE X (.Call (.Name x p) (e::es) [] pos) (Zc g fs):=Lb i c h d l j k a f b
theorem Gj(c:X.mg "len" = none)(g:VE X e f)(d:Gl X "len":=by rfl)(b:aO [e] X.env=(aB,eval e X.env)::aO [] X.env:=by rfl)(a:(dD pos (aO [] X.env)).any (·.1)=aB:=by rfl):VE X (.Call (.Name "len" p) [e] [] pos) (Zc YG [f]):=
 Lb Fc Zaa d c (by decide +kernel) (Yz g b) (by decide) (by decide) b a
theorem Yn{a:XE}(i:Nat)(c:X.N.Nodup)(b:VM X e a)(f:X.N[i]?=aA x:=by rfl)(d:DB X.env.scope x:=by first | exact lA rfl | exact kK rfl)(hs:fT e (aA (.Name x pos')) pos.line X.env=pure aB:=by rfl)(g:X.fn x=aC\/X.env.scope.names.lookup x=aA .local:=by first | exact .inl rfl | exact .inr rfl | assumption) :
  VS X O [i] (.Assign [.Name x pos'] e pos) (Zq i a):=Zag c f d b hs g
theorem IE(i:Nat)(a:X.N.Nodup)(c:X.N[i]?=aA x:=by rfl)(b:DB X.env.scope x:=by first | exact lA rfl | exact kK rfl)(d:X.fn x=aC\/X.env.scope.names.lookup x=aA .local:=by first | exact .inl rfl | exact .inr rfl | assumption):PG X (.Name x pos) (TB i):=R1 a c b d
theorem V7(i:Nat){N:List a0}{a:du}{cl:List (a0×aH)}{C:aH}{s:aI}{H:Hp}{b:List aH}(c:N.Nodup:=by decide +kernel)(e:N[i]?=aA x:=by rfl)(d:DB (ZH X N a cl C s H b).env.scope x:=by exact lA rfl)(f:(ZH X N a cl C s H b).env.scope.names.lookup x=aA .local:=by rfl):PG (ZH X N a cl C s H b) (.Name x pos) (TB i):=R1 c e d (.inr f)
end
section
variable {X:Cx} {tg iter nX e1 e2:aq} {fi:XL} {T:Tgt} {ft:XT} {fe f1 f2:XE} {p pos pos':fD} {O W:List Nat} {body:List bS} {fb:XS} {scope:du}
theorem GY(d:VI X tg iter fi)(a:PG X tg (gT X.K T))(b:Lj X O W body fb)(c:k8 (model X.prog X.w) X.A X.env X.xe:=by exact fG)(e:X.calm=aC:=by rfl)(f:∀i∈T.slots,i∉O:=by decide)
  (hs:∀x,bq iter X.env x=pure x:=by intro _;rfl):VS X O (T.slots++W) (.For tg iter body [] pos) (Y6 O fi T fb):=Zah c e d a b f hs
theorem K8(c:X.mg "range" = none)(b:VE X e1 f1)(a:Gl X "range":=by rfl)(hs:aO [e1] X.env=[(aB,eval e1 X.env)]:=by rfl):VI X tg (.Call (.Name "range" p) [e1] [] pos) (ZX [f1]):=HE a c (Yz b (by rw[hs];rfl)) hs
theorem vr2(b:X.mg "range" = none)(e:VE X e1 f1)(d:VE X e2 f2)(c:Gl X "range":=by rfl)(hs:aO [e1,e2] X.env=[(aB,eval e1 X.env),(aB,eval e2 X.env)]:=by rfl)(a:aO [e2] X.env=[(aB,eval e2 X.env)]:=by rfl):VI X tg (.Call (.Name "range" p) [e1,e2] [] pos) (Vh [f1,f2]):=HF c b (X4 e d (by rw[hs,a]) (by rw[a];rfl)) hs a
theorem Ki(o:a0)(fr:List a0)(ix:List Nat)(a:VI X (.Name o pos') iter fi)(c:∀{cl C s H ex},VE (ZH X ([o]++fr) scope cl C s H ex) nX fe)(S:Ue X.N X.env.scope scope [o] fr ix=aC:=by kernel_rfl)
  (e:([o]++fr).Nodup:=by decide +kernel) (b:∀cl C s H ex,DB (ZH X ([o]++fr) scope cl C s H ex).env.scope o:=by intro _ _ _ _ _;exact lA rfl) (d:∀cl C s H ex,(ZH X ([o]++fr) scope cl C s H ex).env.scope.names.lookup o=aA .local:=by intro _ _ _ _ _;rfl) (f:X.calm=aC:=by rfl) (hs:∀x,bq iter X.env x=pure x:=by intro _;rfl) :
  VE X (.ListComp nX [⟨.Name o pos',iter,[],0⟩] scope pos) (Zu 1 ix fi (.one 0) Zy fe):=Y2 [o] fr ix f a S (λ_ _ _ _ _=>R1 (i:=0) e rfl (b _ _ _ _ _) (.inr (d _ _ _ _ _))) (λ_ _ _ _ _=>Z2) (λ_ _ _ _ _=>c) (λi a=>by cases a with | head=>exact Nat.zero_lt_one | tail _ h=>cases h) hs
end
section
variable {K:aD} {P:au} {w:bc} {mg:a0->Option aE} {base:bH} {x a b c d e:a0} {st:bS} {N:List a0} {k m:Nat} {O W:List Nat} {f:XS}
abbrev BdA(x:a0)(st:bS)(us:List aE)(r:List (a0×aE)):Prop:=∀(kV doc pm:aE)(an:Option aH)(cdv ct:aE),gv (cC x x (YE st) (ZY st) (Ze st) .none kV doc pm an cdv ct) ⟨us,[]⟩=pure r
abbrev CU(P:au)(w:bc)(K:aD)(mg:a0->Option aE)(base:bH)(N:List a0)(x:a0)(st:bS)(k:Nat)(O W:List Nat)(f:XS):Prop:=∀{fa:aH}{cdv:aE}{A:bQ}{outer:List jN}{s:aI}{H:Hp}{E:XK},Room k (A.deeper (gi x (Ze st) s.heap.objs.size fa cdv))->Lj (Tf OI P w K mg base N x (Ze st) fa cdv A outer s H E).nox O W (ZY st) f
theorem CV(O:List Nat)(D:Def K mg x st)(S:Zk N [a] (Ze st))(q:CU P w K mg base N x st k O W f)(e:∀t,BdA x st [t] [(a,t)]:=by intro _ _ _ _ _ _ _;rfl)(c:N.length=m:=by rfl)(h:∀i∈O,1<=i:=by decide):Xd P w K mg base x [a] (YS K (Yy m f) 1) (k+1):=
 NK m f D S (λ_ _ _ _ _ _ d g=>match d,g with | [t],_=>e t _ _ _ _ _ _) rfl c h λ_ _ _ _ _ _ _ b=>q b
theorem N0(O:List Nat)(D:Def K mg x st)(S:Zk N [a,b] (Ze st))(q:CU P w K mg base N x st k O W f)(g:∀t u,BdA x st [t,u] [(a,t),(b,u)]:=by intro _ _ _ _ _ _ _ _;rfl)(d:N.length=m:=by rfl)(j:∀i∈O,2<=i:=by decide):Xd P w K mg base x [a,b] (YS K (Yy m f) 2) (k+1):=
 NK m f D S (λ_ _ _ _ _ _ e h=>match e,h with | [t,u],_=>g t u _ _ _ _ _ _) rfl d j λ_ _ _ _ _ _ _ c=>q c
theorem MQ(O:List Nat)(D:Def K mg x st)(S:Zk N [a,b,c] (Ze st))(q:CU P w K mg base N x st k O W f)(h:∀t u v,BdA x st [t,u,v] [(a,t),(b,u),(c,v)]:=by intro _ _ _ _ _ _ _ _ _;rfl)(e:N.length=m:=by rfl)(l:∀i∈O,3<=i:=by decide):Xd P w K mg base x [a,b,c] (YS K (Yy m f) 3) (k+1):=
 NK m f D S (λ_ _ _ _ _ _ g j=>match g,j with | [t,u,v],_=>h t u v _ _ _ _ _ _) rfl e l λ_ _ _ _ _ _ _ d=>q d
theorem dk4(O:List Nat)(D:Def K mg x st)(S:Zk N [a,b,c,d] (Ze st))(q:CU P w K mg base N x st k O W f)(j:∀t u v y,BdA x st [t,u,v,y] [(a,t),(b,u),(c,v),(d,y)]:=by intro _ _ _ _ _ _ _ _ _ _;rfl)(g:N.length=m:=by rfl)(n:∀i∈O,4<=i:=by decide):Xd P w K mg base x [a,b,c,d] (YS K (Yy m f) 4) (k+1):=
 NK m f D S (λ_ _ _ _ _ _ h l=>match h,l with | [t,u,v,y],_=>j t u v y _ _ _ _ _ _) rfl g n λ_ _ _ _ _ _ _ e=>q e
end
end VL
namespace PW
open PySem L2 VL VX
noncomputable def X5(i:Nat):bS:=jf.main.body.getD i (.Pass ⟨0,0,0,0⟩)
section
variable (P:au) (w:bc) (K:aD) (mg:a0->Option aE) (base:bH)
abbrev Uv:Prop:=Xd P w K mg base "_law_cell" ["_law_script_here","_law_k"] (YS K Z3 2) 1
abbrev Se:Prop:=Xd P w K mg base "_law_part" ["_law_cell_here","_law_turn","_law_many"] (YS K Zz 3) 1
abbrev N1:Prop:=Xd P w K mg base "_law_web" ["_law_script_here","_law_most"] (YS K NQ 2) 2
abbrev Pn:Prop:=Xd P w K mg base "_law_flat" ["_law_script_here","_law_houses"] (YS K Pk 2) 2
abbrev S4:Prop:=Xd P w K mg base "ties_at" ["web","house"] (YS K UX 2) 1
abbrev Po:Prop:=Xd P w K mg base "row_of" ["web","house","others"] (YS K Pd 3) 2
abbrev YY:Prop:=Xd P w K mg base "square_without" ["web","base"] (YS K YV 2) 3
abbrev Uw:Prop:=Xd P w K mg base "square_of" ["web"] (YS K Us 1) 4
abbrev To:Prop:=Xd P w K mg base "unit_row" ["many","at"] (YS K VN 2) 1
abbrev Tp:Prop:=Xd P w K mg base "block_of" ["square"] (YS K Tn 1) 2
abbrev X6:Prop:=Xd P w K mg base "rows_to_clear" ["rows","many","place"] (YS K Y4 3) 1
abbrev N2:Prop:=Xd P w K mg base "less" ["row","by","often"] (YS K S2 3) 1
abbrev X7:Prop:=Xd P w K mg base "cleared_below" ["block","many","place"] (YS K ZP 3) 2
abbrev W9:Prop:=Xd P w K mg base "turned_over" ["block"] (YS K YC 1) 1
abbrev Va:Prop:=Xd P w K mg base "crossed_out" ["block","many","place"] (YS K Y1 3) 3
abbrev Ux:Prop:=Xd P w K mg base "unfit_row" ["block","many","place"] (YS K WY 3) 1
abbrev VQ:Prop:=Xd P w K mg base "part_found" ["block","many","place"] (YS K Wq 3) 4
abbrev S5:Prop:=Xd P w K mg base "divided" ["line","row"] (YS K UZ 2) 1
abbrev X8:Prop:=Xd P w K mg base "row_by_column" ["row","square","column"] (YS K X3 3) 1
abbrev Uy:Prop:=Xd P w K mg base "row_times" ["row","square"] (YS K Ut 2) 2
abbrev VR:Prop:=Xd P w K mg base "multiplied" ["one","other"] (YS K YW 2) 3
abbrev Qh:Prop:=Xd P w K mg base "parts" ["web"] (YS K Sd 1) 5
abbrev Qi:Prop:=Xd P w K mg base "total" ["purse"] (YS K YF 1) 1
abbrev Pp:Prop:=Xd P w K mg base "by_row" ["line","coins"] (YS K Pm 2) 1
abbrev N3:Prop:=Xd P w K mg base "rests" ["told","purse"] (YS K Qg 2) 2
abbrev XB:Prop:=Xd P w K mg base "common_divisor" ["one","other"] (YS K YX 2) 1
abbrev VU:Prop:=Xd P w K mg base "round_of" ["web","purse"] (YS K Xz 2) 6
abbrev S6:Prop:=Xd P w K mg base "reduced" ["row","by","place","divisor"] (YS K SU 4) 1
abbrev Pq:Prop:=Xd P w K mg base "evened" ["rows"] (YS K Pb 1) 2
abbrev WE:Prop:=Xd P w K mg base "solved_below" ["square","column"] (YS K WD 2) 3
abbrev S7:Prop:=Xd P w K mg base "nearing" ["web","purse","base"] (YS K Wv 3) 4
abbrev K9:Prop:=Xd P w K mg base "gain" ["web","script","house"] (YS K Q5 3) 1
abbrev Es:Prop:=Xd P w K mg base "run" ["web","purse","script"] (YS K U9 3) 2
abbrev S8:Prop:=Xd P w K mg base "in_debt" ["purse","base"] (YS K YU 2) 1
abbrev Uz:Prop:=Xd P w K mg base "borrowing" ["web","houses"] (YS K Xa 2) 1
abbrev Ja:Prop:=Xd P w K mg base "plus" ["one","other"] (YS K Tj 2) 1
abbrev Qj:Prop:=Xd P w K mg base "least" ["script"] (YS K VH 1) 1
abbrev S9:Prop:=Xd P w K mg base "ties_to" ["web","house","others"] (YS K Vm 3) 1
abbrev X9:Prop:=Xd P w K mg base "house_to_burn" ["web","purse","fire"] (YS K Z1 3) 2
abbrev N4:Prop:=Xd P w K mg base "burnt" ["web","purse","base"] (YS K Qe 3) 3
abbrev Pr:Prop:=Xd P w K mg base "settle" ["web","purse","base"] (YS K Yc 3) 5
abbrev N5:Prop:=Xd P w K mg base "minus" ["one","other"] (YS K UY 2) 1
abbrev N6:Prop:=Xd P w K mg base "alike" ["web","one","other"] (YS K Y3 3) 6
abbrev U0:Prop:=Xd P w K mg base "_law_whole" ["_law_number"] (YS K Vl 1) 1
abbrev UA:Prop:=Xd P w K mg base "_law_refused" ["_law_web_here","_law_purse"] (YS K Uu 2) 7
abbrev N7:Prop:=Xd P w K mg base "_law_run" ["_law_web_here","_law_purse","_law_often_here"] (YS K Qf 3) 1
abbrev Ra:Prop:=Xd P w K mg base "_law_often" ["_law_cell_here"] (YS K SX 1) 1
end
section
variable {P:au} {w:bc} {K:aD} {mg:a0->Option aE} {base:bH}
abbrev Pu:bS:=X5 61
theorem Gk:Zk ["_law_script_here","_law_k"] ["_law_script_here","_law_k"] (Ze Pu):=Wi
theorem Gm(a:Def K mg "_law_cell" Pu)(B:XY mg):Uv P w K mg base:=
 N0 [] a Gk λb=>
  (Zd (Wh (OP (vo 1) (Gj B.len (vo 0))) (Zh (Zv (VE.pure (Zl (vo 0) (vo 1))))) Yo)
  (Zh (Zv (VE.pure (YD (Xg (Z7 (Z7 (Xg (vo 1) (vo 1)) (Xg Zg (vo 1))) Zg) Zg) Zg)))))
abbrev Pw:bS:=X5 62
theorem sc_l_part:Zk ["_law_cell_here","_law_turn","_law_many","_law_x","_law_k"] ["_law_cell_here","_law_turn","_law_many"] (Ze Pw):=Wi
theorem Gn(b:Def K mg "_law_part" Pw)(B:XY mg):Se P w K mg base:=
 MQ [] b sc_l_part λa=>
  (Zd (Yn 3 sc_l_part.nd (VE.pure (Nv (vo 0) Zg)))
  (Zd (Wh (VW.vt (KC (QR a.units (YD (vo 0) Zg) Zg) (Nx (La (vo 0) (QD Zg Zg))))) (Zd (GY (K8 B.range (vo 1)) (IE 4 sc_l_part.nd) (Zh (Yn 3 sc_l_part.nd (VE.pure (Nv (vo 3) Zg)))))
  (Zh (Zv (VE.pure (YD (vo 3) (vo 2)))))) Yo)
  (Zd (Yn 3 sc_l_part.nd (VE.pure (Z7 (YD (vo 3) Zg) (Xg Zg (vo 1)))))
  (Zd (Yn 3 sc_l_part.nd (VE.pure (YD (Z7 (Xg (vo 3) (vo 3)) (Xg Zg (vo 3))) Zg)))
  (Zh (Zv (VE.pure (YD (Nv (YD (Z7 (Xg (vo 3) (vo 3)) (Xg Zg (vo 1))) Zg) Zg) (vo 2)))))))))
abbrev N8:bS:=X5 63
theorem sc_l_tie:Zk ["_law_times","_law_one","_law_other_here","_law_more","_law_many"] ["_law_times","_law_one","_law_other_here","_law_more"] (Ze N8):=Wi
theorem Et(e:Def K mg "_law_tie" N8)(B:XY mg):Xd P w K mg base "_law_tie" (["_law_times","_law_one","_law_other_here","_law_more"]:List a0) (spC K VG 4) 1:=
 Cv (k:=0) 5 Qd e sc_l_tie (λ_ _ _ _ _ _ b d=>match b,d with | [_,_,_,_],_=>rfl) rfl rfl (λg c A a s H E f=>
  (O1 (VS.vs0 (Yn 4 sc_l_tie.nd (VE.pure (vb (Hq rfl) Cg B.min (X4 Zg (Z7 (Zl (Zl (vo 0) (vo 1)) (vo 2)) (vo 3)))))))
  (O1 (Q8 (Ud (vo 4) (Uc (Fg ix_list (pv 0) (vo 1) (λ_ _=>rfl)) (vo 2) XN)))
  (FY (Q8 (Ud (vo 4) (Uc (Fg ix_list (pv 0) (vo 2) (λ_ _=>rfl)) (vo 1) XN)))))))
abbrev N9:bS:=X5 64
theorem sc_l_web:Zk ["_law_script_here","_law_most","_law_first","_law_houses","_law_times","_law_spots","_law_k","_law_cell_here","_law_one","_law_other_here"] ["_law_script_here","_law_most"] (Ze N9):=Wi
theorem Eu(e:Def K mg "_law_web" N9)(B:XY mg)(b:Uv P w K mg base)(a:Se P w K mg base)(c:Xd P w K mg base "_law_tie" (["_law_times","_law_one","_law_other_here","_law_more"]:List a0) (spC K VG 4) 1):N1 P w K mg base:=
 N0 [4,5] e sc_l_web λd=>
  (Zd (Yn 2 sc_l_web.nd (Vn b d (X4 (vo 0) Zg)))
  (Zd (Yn 3 sc_l_web.nd (VE.pure (Z7 Zg (WR a d (VP (vo 2) Zg (vo 1))))))
  (Zd (R8 (["_law_k"]:List a0) (["_law_houses"]:List a0) [3] (i:=4) sc_l_web.nd rfl rfl rfl (K8 B.range (vo 3)) (by kernel_rfl) (λ_ _ _ _ _=>(V7 0)) (λ_ _ _ _ _=>Z2) (λ_ _ _ _ _=>(FK (Fz (Yz Zg)) (vo 1))))
  (Zd (Yn 5 sc_l_web.nd (NB TN))
  (Zd (GY (K8 B.range (vo 3)) (IE 6 sc_l_web.nd) (Zh (OV (Wk (MY dz j4 j6 OL (pv 5) (Z4 (WR a d (VP (WR b d (X4 (vo 0) (Z7 Zg (vo 6)))) Zg (Z7 (vo 6) Zg))) (Z4 (vo 6) Xv)))))))
  (Zd (GY (vr2 B.range Zg (vo 3)) (IE 6 sc_l_web.nd) (Zd (Yn 7 sc_l_web.nd (Vn b d (X4 (vo 0) (vo 6))))
  (Zh (F0 (Wk (Kw c (d.mono (by decide)) rfl (Z4 (pv 4) (VP (Zl (vo 5) (vo 6)) (Zl (vo 5) (WR a d (VP (vo 7) Zg (vo 6)))) (Z7 Zg (WR a d (VP (vo 7) Zg Zg)))))))))))
  (Zd (Wh (La (vo 3) Zg) (Zh (GY (K8 B.range (WR a d (VP (vo 2) Zg Zg))) (IE 6 sc_l_web.nd) (Zd (Yn 7 sc_l_web.nd (Vn b d (X4 (vo 0) (Z7 Zg (vo 6)))))
  (Zd (Yn 8 sc_l_web.nd (Vn a d (VP (vo 7) Zg (vo 3))))
  (Zd (Yn 9 sc_l_web.nd (VE.pure (YD (Z7 (Z7 (vo 8) Zg) (WR a d (VP (vo 7) Zg (YJ (vo 3) Zg)))) (vo 3))))
  (Zh (F0 (Wk (Kw c (d.mono (by decide)) rfl (Z4 (pv 4) (VP (vo 8) (vo 9) (Z7 Zg (WR a d (VP (vo 7) Zg Zg)))))))))))))) Yo)
  (Zh (Zv (VE.pure (Zx Zn ZD rfl B.tuple (by decide +kernel) (Yz (Ki "_law_row_here" [] [] (Xi (vo 4)) (Zx Zn ZD rfl B.tuple (by decide +kernel) (Yz (vo 0))))))))))))))))
abbrev Px:bS:=X5 72
theorem sc_l_flat:Zk ["_law_script_here","_law_houses","_law_coins","_law_k","_law_cell_here","_law_number"] ["_law_script_here","_law_houses"] (Ze Px):=Wi
theorem Gp(c:Def K mg "_law_flat" Px)(B:XY mg)(a:Uv P w K mg base):Pn P w K mg base:=
 N0 [2] c sc_l_flat λb=>
  (Zd (Yn 2 sc_l_flat.nd (NB (Ug (VE.pure Zg) TN)))
  (Zd (GY (vr2 B.range Zg (vo 1)) (IE 3 sc_l_flat.nd) (Zd (Yn 4 sc_l_flat.nd (Vn a b (X4 (vo 0) (Z7 Zg (vo 3)))))
  (Zd (Yn 5 sc_l_flat.nd (VE.pure (YJ (YD (XU (vo 4) Zg) Zg) Zg)))
  (Zd (Wh (QR b.units (YD (vo 4) Zg) Zg) (Zh (Yn 5 sc_l_flat.nd (VE.pure (YJ (YD (XJ (vo 4) (vo 4)) (Z7 (XJ Zg (QD Zg Zg)) Zg)) (QD Zg Zg))))) Yo)
  (Zh (SO (Wk (MY dz gZ g6 Sw (pv 2) (Z4 (VE.pure (vo 5)) Xv)))))))))
  (Zd (Vk (Ud (YJ Zg (vb (YR rfl) Vx B.sum (Yz (vo 2)))) (Uc (pv 2) Zg XN)))
  (Zh (Zv (VE.pure (Zx Zn ZD rfl B.tuple (by decide +kernel) (Yz (vo 2)))))))))
abbrev Rc:bS:=X5 14
theorem Jb:Zk ["web","house"] ["web","house"] (Ze Rc):=Wi
theorem Jc(a:Def K mg "ties_at" Rc)(B:XY mg):S4 P w K mg base:=
 N0 [] a Jb λb=>
  (Zh (Zv (VE.pure (vb (YR rfl) Vx B.sum (Yz (Zl (vo 0) (vo 1)))))))
abbrev Py:bS:=X5 25
theorem Gq:Zk ["web","house","others"] ["web","house","others"] (Ze Py):=Wi
theorem Gr(c:Def K mg "row_of" Py)(B:XY mg)(a:S4 P w K mg base):Po P w K mg base:=
 MQ [] c Gq λb=>
  (Zh (Zv (VE.pure (Zx Zn ZD rfl B.tuple (by decide +kernel) (Yz (Ki "other" ["house","web"] [1,0] (Xi (vo 2)) (J5 (QR b.units (vo 0) (vo 1)) (WR a b (X4 (vo 2) (vo 1))) (QH (Zl (Zl (vo 2) (vo 1)) (vo 0))))))))))
abbrev XC:bS:=X5 24
theorem sc_square_without:Zk ["web","base","others"] ["web","base"] (Ze XC):=Wi
theorem Sf(c:Def K mg "square_without" XC)(B:XY mg)(a:Po P w K mg base):YY P w K mg base:=
 N0 [] c sc_square_without λb=>
  (Zd (Yn 2 sc_square_without.nd (WW (["house"]:List a0) (["base"]:List a0) [1] rfl (K8 B.range (Gj B.len (vo 0))) (by kernel_rfl) (λ_ _ _ _ _=>(V7 0)) (λ_ _ _ _ _=>(NH (T3 b.units (vo 0) (vo 1)))) (λ_ _ _ _ _=>(VE.pure (vo 0)))))
  (Zh (Zv (VE.pure (Zx Zn ZD rfl B.tuple (by decide +kernel) (Yz (Ki "house" ["web","others"] [0,2] (Xi (vo 2)) (WR a b (VP (vo 1) (vo 0) (vo 2))))))))))
abbrev UB:bS:=X5 23
theorem Ma:Zk ["web"] ["web"] (Ze UB):=Wi
theorem Mc(c:Def K mg "square_of" UB)(B:XY mg)(a:YY P w K mg base):Uw P w K mg base:=
 CV [] c Ma λb=>
  (Zh (Zv (Vn a b (X4 (vo 0) Zg))))
abbrev Tq:bS:=X5 32
theorem LN:Zk ["many","at"] ["many","at"] (Ze Tq):=Wi
theorem LO(b:Def K mg "unit_row" Tq)(B:XY mg):To P w K mg base:=
 N0 [] b LN λa=>
  (Zh (Zv (WW (["column"]:List a0) (["at"]:List a0) [1] rfl (K8 B.range (vo 0)) (by kernel_rfl) (λ_ _ _ _ _=>(V7 0)) (λ_ _ _ _ _=>Z2) (λ_ _ _ _ _=>(VE.pure (J5 (QR a.units (vo 0) (vo 1)) Zg Zg))))))
abbrev Tr:bS:=X5 31
theorem sc_block_of:Zk ["square","many","upper","lower"] ["square"] (Ze Tr):=Wi
theorem LP(c:Def K mg "block_of" Tr)(B:XY mg)(a:To P w K mg base):Tp P w K mg base:=
 CV [] c sc_block_of λb=>
  (Zd (Yn 1 sc_block_of.nd (VE.pure (Gj B.len (vo 0))))
  (Zd (R8 (["at","row"]:List a0) (["many"]:List a0) [1] (i:=2) sc_block_of.nd rfl rfl rfl (Vz aB rfl B.enumerate (Yz (vo 0))) (by kernel_rfl) (λ_ _ _ _ _=>(YI (n:=2) rfl (Zw (V7 0) (Zw (V7 1) Yi)))) (λ_ _ _ _ _=>Z2) (λ_ _ _ _ _=>(VE.pure (S1 (NJ (VM.ve (SH Vu QK rfl B.list (by decide +kernel) (Yz (vo 1)))) (WR a b (X4 (vo 2) (vo 0))))))))
  (Zd (R8 (["at"]:List a0) (["many"]:List a0) [1] (i:=3) sc_block_of.nd rfl rfl rfl (K8 B.range (vo 1)) (by kernel_rfl) (λ_ _ _ _ _=>(V7 0)) (λ_ _ _ _ _=>Z2) (λ_ _ _ _ _=>(VE.pure (S1 (NJ (WR a b (X4 (vo 1) (vo 0))) (VM.ve (FK (Fz (Yz Zg)) (vo 1))))))))
  (Zh (Zv (NJ (vo 2) (vo 3)))))))
abbrev Wa:bS:=X5 37
theorem Rf:Zk ["rows","many","place"] ["rows","many","place"] (Ze Wa):=Wi
theorem Rh(b:Def K mg "rows_to_clear" Wa)(B:XY mg):X6 P w K mg base:=
 MQ [] b Rf λa=>
  (Zh (Zv (WW (["at"]:List a0) (["place","rows"]:List a0) [2,0] rfl (vr2 B.range (Z7 (vo 2) Zg) (vo 1)) (by kernel_rfl) (λ_ _ _ _ _=>(V7 0)) (λ_ _ _ _ _=>(NH (T3 a.units (Zl (Zl (vo 2) (vo 0)) (vo 1)) Zg))) (λ_ _ _ _ _=>(VE.pure (vo 0))))))
abbrev Jd:bS:=X5 38
theorem CW:Zk ["row","by","often"] ["row","by","often"] (Ze Jd):=Wi
theorem CY(a:Def K mg "less" Jd)(B:XY mg):N2 P w K mg base:=
 MQ [] a CW λb=>
  (Zh (Zv (WW (["number","other"]:List a0) (["often"]:List a0) [2] rfl (W6 aC aC rfl B.zip (X4 (vo 0) (vo 1))) (by kernel_rfl) (λ_ _ _ _ _=>(YI (n:=2) rfl (Zw (V7 0) (Zw (V7 1) Yi)))) (λ_ _ _ _ _=>Z2) (λ_ _ _ _ _=>(VE.pure (YJ (vo 0) (XJ (vo 2) (vo 1))))))))
abbrev Wb:bS:=X5 36
theorem sc_cleared_below:Zk ["block","many","place","rows","below","first","kept","at"] ["block","many","place"] (Ze Wb):=Wi
theorem Rj(d:Def K mg "cleared_below" Wb)(B:XY mg)(a:X6 P w K mg base)(b:N2 P w K mg base):X7 P w K mg base:=
 MQ [3] d sc_cleared_below λc=>
  (Zd (Yn 3 sc_cleared_below.nd (SH Vu QK rfl B.list (by decide +kernel) (Yz (vo 0))))
  (Zd (Yn 4 sc_cleared_below.nd (Vn a c (VP (vo 3) (vo 1) (vo 2))))
  (Zd (Vj fG (La (Gj B.len (vo 4)) Zg) (Zd (Yn 5 sc_cleared_below.nd (VE.pure (Zl (vo 4) Zg)))
  (Zd (Wh (VW.vt (J4 (QR c.units (Zl (Zl (vo 3) (vo 2)) (vo 2)) Zg) (KA (OP (vb Qt KG B.abs (Yz (Zl (Zl (vo 3) (vo 5)) (vo 2)))) (vb Qt KG B.abs (Yz (Zl (Zl (vo 3) (vo 2)) (vo 2)))))))) (Zd (Yn 6 sc_cleared_below.nd (VE.pure (Zl (vo 3) (vo 2))))
  (Zd (Vk (Ud (Zl (vo 3) (vo 5)) (Uc (pv 3) (vo 2) XN)))
  (Zh (Vk (Ud (vo 6) (Uc (pv 3) (vo 5) XN)))))) Yo)
  (Zd (GY (Xi (vo 4)) (IE 7 sc_cleared_below.nd) (Zh (Vk (Ud (S1 (Vn b c (VP (Zl (vo 3) (vo 7)) (Zl (vo 3) (vo 2)) (XU (Zl (Zl (vo 3) (vo 7)) (vo 2)) (Zl (Zl (vo 3) (vo 2)) (vo 2)))))) (Uc (pv 3) (vo 7) XN)))))
  (Zh (Yn 4 sc_cleared_below.nd (Vn a c (VP (vo 3) (vo 1) (vo 2)))))))))
  (Zh (R5 (pv 3))))))
abbrev Vb:bS:=X5 39
theorem Pz:Zk ["block"] ["block"] (Ze Vb):=Wi
theorem PB(a:Def K mg "turned_over" Vb)(B:XY mg):W9 P w K mg base:=
 CV [] a Pz λb=>
  (Zh (Zv (Gg "at" (["block"]:List a0) [0] rfl (K8 B.range (Gj B.len (vo 0))) (by kernel_rfl) (λ_ _ _ _ _=>(R1 (i:=0) (show((["at","block"]:List a0)).Nodup by decide +kernel) rfl (kK rfl) (.inl (beq_self_eq_true _)))) (λ_ _ _ _ _=>Z2) (λ_ _ _ _ _=>(VE.pure (S1 (WW (["row"]:List a0) (["at"]:List a0) [0] rfl (Xi (vo 1)) (by kernel_rfl) (λ_ _ _ _ _=>(V7 0)) (λ_ _ _ _ _=>Z2) (λ_ _ _ _ _=>(VE.pure (Zl (vo 0) (vo 1)))))))))))
abbrev Vc:bS:=X5 35
theorem sc_crossed_out:Zk ["block","many","place","crossed"] ["block","many","place"] (Ze Vc):=Wi
theorem PD(d:Def K mg "crossed_out" Vc)(B:XY mg)(a:X7 P w K mg base)(b:W9 P w K mg base):Va P w K mg base:=
 MQ [3] d sc_crossed_out λc=>
  (Zd (Yn 3 sc_crossed_out.nd (Vn a c (VP (vo 0) (vo 1) (vo 2))))
  (Zd (Vj fG (Nw (vb (Gh rfl) CQ B.any (Yz (Wu (Zl (vo 3) (vo 2)) (Xk (Z7 (vo 2) Zg)) (Xk (vo 1)))))) (Zd (Yn 3 sc_crossed_out.nd (Vn b c (Yz (WR a c (VP (WR b c (Yz (vo 3))) (vo 1) (vo 2))))))
  (Zh (Yn 3 sc_crossed_out.nd (Vn a c (VP (vo 3) (vo 1) (vo 2)))))))
  (Zh (R5 (pv 3)))))
abbrev UC:bS:=X5 34
theorem sc_unfit_row:Zk ["block","many","place","part","at"] ["block","many","place"] (Ze UC):=Wi
theorem Md(b:Def K mg "unfit_row" UC)(B:XY mg):Ux P w K mg base:=
 MQ [] b sc_unfit_row λa=>
  (Zd (Yn 3 sc_unfit_row.nd (VE.pure (Zl (Zl (vo 0) (vo 2)) (vo 2))))
  (Zd (GY (vr2 B.range (Z7 (vo 2) Zg) (vo 1)) (IE 4 sc_unfit_row.nd) (Zh (Wh (Nw (vb (Hx rfl) Zab B.any (Yz (Ki "number" ["part"] [3] (Xi (Wu (Zl (vo 0) (vo 4)) Wn (Xk (vo 1)))) (Zc5 a.units (CS (vo 0) (vo 1)) Zg))))) (Zh (Zv (VE.pure (vo 4)))) Yo)))
  (Zh (Zv (VE.pure Nu)))))
abbrev VV:bS:=X5 33
theorem sc_part_found:Zk ["block","many","place","found","unfit"] ["block","many","place"] (Ze VV):=Wi
theorem Oo(e:Def K mg "part_found" VV)(B:XY mg)(a:Va P w K mg base)(b:Ux P w K mg base)(c:N2 P w K mg base):VQ P w K mg base:=
 MQ [3] e sc_part_found λd=>
  (Zd (Yn 3 sc_part_found.nd (Vn a d (VP (vo 0) (vo 1) (vo 2))))
  (Zd (Yn 4 sc_part_found.nd (Vn b d (VP (vo 3) (vo 1) (vo 2))))
  (Zd (Vj fG (Nz (vo 4)) (Zd (Vk (Ud (S1 (Vn c d (VP (Zl (vo 3) (vo 2)) (Zl (vo 3) (vo 4)) Zg))) (Uc (pv 3) (vo 2) XN)))
  (Zd (Yn 3 sc_part_found.nd (Vn a d (VP (vo 3) (vo 1) (vo 2))))
  (Zh (Yn 4 sc_part_found.nd (Vn b d (VP (vo 3) (vo 1) (vo 2))))))))
  (Zd (Wh (OP (Zl (Zl (vo 3) (vo 2)) (vo 2)) Zg) (Zh (Vk (Ud (S1 (WW (["number"]:List a0) ([]:List a0) [] rfl (Xi (Zl (vo 3) (vo 2))) (by kernel_rfl) (λ_ _ _ _ _=>(V7 0)) (λ_ _ _ _ _=>Z2) (λ_ _ _ _ _=>(VE.pure (QH (vo 0)))))) (Uc (pv 3) (vo 2) XN)))) Yo)
  (Zh (R5 (pv 3)))))))
abbrev Rk:bS:=X5 40
theorem Je:Zk ["line","row"] ["line","row"] (Ze Rk):=Wi
theorem Jf(a:Def K mg "divided" Rk)(B:XY mg):S5 P w K mg base:=
 N0 [] a Je λb=>
  (Zh (Zv (VE.pure (Zx Zn ZD rfl B.tuple (by decide +kernel) (Yz (Y2 (["number","by"]:List a0) ([]:List a0) [] rfl (W6 aB aB rfl B.zip (X4 (vo 0) (vo 1))) (by kernel_rfl) (λ_ _ _ _ _=>(YI (n:=2) rfl (Zw (V7 0) (Zw (V7 1) Yi)))) (λ_ _ _ _ _=>Z2) (λ_ _ _ _ _=>(XU (vo 0) (vo 1)))))))))
abbrev Wc:bS:=X5 28
theorem Rl:Zk ["row","square","column"] ["row","square","column"] (Ze Wc):=Wi
theorem Rq(a:Def K mg "row_by_column" Wc)(B:XY mg):X8 P w K mg base:=
 MQ [] a Rl λb=>
  (Zh (Zv (VE.pure (vb (YR rfl) Vx B.sum (Yz (Y2 (["at","number"]:List a0) (["column","square"]:List a0) [2,1] rfl (Vz aB rfl B.enumerate (Yz (vo 0))) (by kernel_rfl) (λ_ _ _ _ _=>(YI (n:=2) rfl (Zw (V7 0) (Zw (V7 1) Yi)))) (λ_ _ _ _ _=>Z2) (λ_ _ _ _ _=>(XJ (vo 1) (Zl (Zl (vo 3) (vo 0)) (vo 2))))))))))
abbrev UD:bS:=X5 27
theorem Me:Zk ["row","square"] ["row","square"] (Ze UD):=Wi
theorem Mf(c:Def K mg "row_times" UD)(B:XY mg)(a:X8 P w K mg base):Uy P w K mg base:=
 N0 [] c Me λb=>
  (Zh (Zv (VE.pure (Zx Zn ZD rfl B.tuple (by decide +kernel) (Yz (Ki "column" ["row","square"] [0,1] (K8 B.range (Gj B.len (vo 0))) (WR a b (VP (vo 1) (vo 2) (vo 0)))))))))
abbrev VZ:bS:=X5 26
theorem Oq:Zk ["one","other"] ["one","other"] (Ze VZ):=Wi
theorem Ot(c:Def K mg "multiplied" VZ)(B:XY mg)(a:Uy P w K mg base):VR P w K mg base:=
 N0 [] c Oq λb=>
  (Zh (Zv (VE.pure (Zx Zn ZD rfl B.tuple (by decide +kernel) (Yz (Ki "row" ["other"] [1] (SJ (vo 0)) (WR a b (X4 (vo 0) (vo 1)))))))))
abbrev Mg:bS:=X5 30
theorem sc_parts:Zk ["web","square","many","block","place","row","left","right","back","forth"] ["web"] (Ze Mg):=Wi
theorem Ew(g:Def K mg "parts" Mg)(B:XY mg)(d:Uw P w K mg base)(e:Tp P w K mg base)(c:VQ P w K mg base)(b:S5 P w K mg base)(a:VR P w K mg base):Qh P w K mg base:=
 CV [] g sc_parts λf=>
  (Zd (Yn 1 sc_parts.nd (Vn d f (Yz (vo 0))))
  (Zd (Yn 2 sc_parts.nd (VE.pure (Gj B.len (vo 1))))
  (Zd (Yn 3 sc_parts.nd (Vn e f (Yz (vo 1))))
  (Zd (GY (K8 B.range (vo 2)) (IE 4 sc_parts.nd) (Zh (Yn 3 sc_parts.nd (Vn c f (VP (vo 3) (vo 2) (vo 4))))))
  (Zd (Yn 5 sc_parts.nd (VE.pure (Zx Zn ZD rfl B.tuple (by decide +kernel) (Yz (Ki "at" ["block"] [3] (K8 B.range (vo 2)) (Zl (Zl (vo 1) (vo 0)) (vo 0)))))))
  (Zd (Yn 6 sc_parts.nd (VE.pure (Zx Zn ZD rfl B.tuple (by decide +kernel) (Yz (Ki "line" ["many"] [2] (Xi (Wu (vo 3) Wn (Xk (vo 2)))) (Zx Zn ZD rfl B.tuple (by decide +kernel) (Yz (Wu (vo 0) (Xk (vo 1)) Wn))))))))
  (Zd (Yn 7 sc_parts.nd (VE.pure (Zx Zn ZD rfl B.tuple (by decide +kernel) (Yz (Ki "line" ["many"] [2] (Xi (Wu (vo 3) (Xk (vo 2)) Wn)) (Zx Zn ZD rfl B.tuple (by decide +kernel) (Yz (Wu (vo 0) Wn (Xk (vo 1))))))))))
  (Zd (Yn 8 sc_parts.nd (VE.pure (Zx Zn ZD rfl B.tuple (by decide +kernel) (Yz (Ki "line" ["row"] [5] (SJ (WR a f (X4 (vo 1) (vo 7)))) (WR b f (X4 (vo 0) (vo 1))))))))
  (Zd (Yn 9 sc_parts.nd (VE.pure (Zx Zn ZD rfl B.tuple (by decide +kernel) (Yz (Y2 (["line","by"]:List a0) (["many"]:List a0) [2] rfl (W6 aB aB rfl B.zip (X4 (WR a f (X4 (vo 6) (vo 1))) (vo 5))) (by kernel_rfl) (λ_ _ _ _ _=>(YI (n:=2) rfl (Zw (V7 0) (Zw (V7 1) Yi)))) (λ_ _ _ _ _=>Z2) (λ_ _ _ _ _=>(WR b f (X4 (vo 0) (Wz Ih Ii (SG (Yz (vo 1))) (vo 2))))))))))
  (Zh (Zv (VE.pure (SG (TM (vo 6) (va4 (vo 8) (vo 7) (vo 9) (vo 5))))))))))))))))
abbrev Mh:bS:=X5 16
theorem Ex:Zk ["purse"] ["purse"] (Ze Mh):=Wi
theorem Ey(a:Def K mg "total" Mh)(B:XY mg):Qi P w K mg base:=
 CV [] a Ex λb=>
  (Zh (Zv (VE.pure (vb (YR rfl) Vx B.sum (Yz (vo 0))))))
abbrev PF:bS:=X5 42
theorem Gs:Zk ["line","coins"] ["line","coins"] (Ze PF):=Wi
theorem Gu(a:Def K mg "by_row" PF)(B:XY mg):Pp P w K mg base:=
 N0 [] a Gs λb=>
  (Zh (Zv (VE.pure (vb (YR rfl) Vx B.sum (Yz (Y2 (["number","each"]:List a0) ([]:List a0) [] rfl (W6 aB aB rfl B.zip (X4 (vo 0) (vo 1))) (by kernel_rfl) (λ_ _ _ _ _=>(YI (n:=2) rfl (Zw (V7 0) (Zw (V7 1) Yi)))) (λ_ _ _ _ _=>Z2) (λ_ _ _ _ _=>(XJ (vo 0) (vo 1)))))))))
abbrev Mi:bS:=X5 41
theorem sc_rests:Zk ["told","purse","left"] ["told","purse"] (Ze Mi):=Wi
theorem Ez(c:Def K mg "rests" Mi)(B:XY mg)(a:Pp P w K mg base):N3 P w K mg base:=
 N0 [] c sc_rests λb=>
  (Zd (Yn 2 sc_rests.nd (VE.pure (Zl (vo 0) Zg)))
  (Zh (Zv (VE.pure (Zx Zn ZD rfl B.tuple (by decide +kernel) (Yz (Y2 (["line","by"]:List a0) (["purse"]:List a0) [1] rfl (W6 aB aB rfl B.zip (X4 (vo 2) (Zl (vo 0) Zg))) (by kernel_rfl) (λ_ _ _ _ _=>(YI (n:=2) rfl (Zw (V7 0) (Zw (V7 1) Yi)))) (λ_ _ _ _ _=>Z2) (λ_ _ _ _ _=>(YD (WR a b (X4 (vo 0) (UR (vo 2) (Xk Zg) Wn))) (vo 1))))))))))
abbrev XD:bS:=X5 44
theorem sc_common_divisor:Zk ["one","other","greater","lesser","rest"] ["one","other"] (Ze XD):=Wi
theorem Sg(b:Def K mg "common_divisor" XD)(B:XY mg):XB P w K mg base:=
 N0 [] b sc_common_divisor λa=>
  (Zd (Yn 2 sc_common_divisor.nd (VE.pure (vo 0)))
  (Zd (Yn 3 sc_common_divisor.nd (VE.pure (vo 1)))
  (Zd (Vj fG (T3 a.units (vo 3) Zg) (Zd (Yn 4 sc_common_divisor.nd (VE.pure (YD (vo 2) (vo 3))))
  (Zd (Yn 2 sc_common_divisor.nd (VE.pure (vo 3)))
  (Zh (Yn 3 sc_common_divisor.nd (VE.pure (vo 4)))))))
  (Zh (Zv (VE.pure (vo 2)))))))
abbrev V0:bS:=X5 43
theorem sc_round_of:Zk ["web","purse","told","often","rest","by","own"] ["web","purse"] (Ze V0):=Wi
theorem LQ(f:Def K mg "round_of" V0)(B:XY mg)(c:Qi P w K mg base)(d:Qh P w K mg base)(b:N3 P w K mg base)(a:XB P w K mg base):VU P w K mg base:=
 N0 [] f sc_round_of λe=>
  (Zd (Wh (T3 e.units (WR c e (Yz (vo 1))) Zg) (Zh (Lq (W:=[]))) Yo)
  (Zd (Yn 2 sc_round_of.nd (Vn d e (Yz (vo 0))))
  (Zd (Yn 3 sc_round_of.nd (VE.pure Zg))
  (Zd (GY (W6 aB aB rfl B.zip (X4 (WR b e (X4 (vo 2) (vo 1))) (Zl (vo 2) Zg))) (YI (n:=2) rfl (Zw (IE 4 sc_round_of.nd) (Zw (IE 5 sc_round_of.nd) Yi))) (Zd (Yn 6 sc_round_of.nd (VE.pure (XU (vo 5) (WR a e (X4 (vo 4) (vo 5))))))
  (Zh (Yn 3 sc_round_of.nd (VE.pure (XU (XJ (vo 3) (vo 6)) (WR a e (X4 (vo 3) (vo 6)))))))))
  (Zh (Zv (VE.pure (vo 3))))))))
theorem Mj{d e:aH}(i:Def K mg "round_of" V0)(B:XY mg)(Q:VX.Q3 "NoTotal" P w K mg base d e)(a:Qi P w K mg base):VX.CalX P w K mg base "round_of" (["web","purse"]:List a0) (VX.spY K Y7 2) 6:=
 VX.def_yr (O:=[]) (k:=5) 7 (LA (yIf (xB (Zi (XZ aC) (Zc YF [Za 1]) (eC (.int 0)))) (Ur "NoTotal" (Zc YF [Za 1])) Dx) Q7 Dx) i sc_round_of (λ_ _ _ _ _ _ f h=>match f,h with | [_,_],_=>rfl) rfl rfl (by decide) (λj g A c s H E b=>
  (Eg (Zdd (T3 b.units (WR a b (Yz (vo 1))) Zg) (CG (Ee F.excBase_ValueError Q.f.cf (b.mono (by decide)) rfl Q.f.mgo Q.f.no rfl CK (WR a b (Yz (vo 1))))) Ef) (Lq (W:=[])) Ef))
abbrev Rr:bS:=X5 53
theorem Jg:Zk ["row","by","place","divisor"] ["row","by","place","divisor"] (Ze Rr):=Wi
theorem Jh(a:Def K mg "reduced" Rr)(B:XY mg):S6 P w K mg base:=
 dk4 [] a Jg λb=>
  (Zh (Zv (VE.pure (Zx Zn ZD rfl B.tuple (by decide +kernel) (Yz (Y2 (["number","other"]:List a0) (["divisor","by","place","row"]:List a0) [3,1,2,0] rfl (W6 aB aB rfl B.zip (X4 (vo 0) (vo 1))) (by kernel_rfl) (λ_ _ _ _ _=>(YI (n:=2) rfl (Zw (V7 0) (Zw (V7 1) Yi)))) (λ_ _ _ _ _=>Z2) (λ_ _ _ _ _=>(XU (YJ (XJ (Zl (vo 3) (vo 4)) (vo 0)) (XJ (Zl (vo 5) (vo 4)) (vo 1))) (vo 2)))))))))
abbrev PH:bS:=X5 52
theorem sc_evened:Zk ["rows","left","divisor","place","by"] ["rows"] (Ze PH):=Wi
theorem Gv(c:Def K mg "evened" PH)(B:XY mg)(a:S6 P w K mg base):Pq P w K mg base:=
 CV [1] c sc_evened λb=>
  (Zd (Yn 1 sc_evened.nd (SH Vu QK rfl B.list (by decide +kernel) (Yz (vo 0))))
  (Zd (Yn 2 sc_evened.nd (VE.pure Zg))
  (Zd (GY (K8 B.range (Gj B.len (vo 0))) (IE 3 sc_evened.nd) (Zd (Yn 4 sc_evened.nd (VE.pure (Zl (vo 1) (vo 3))))
  (Zd (R8 (["at","row"]:List a0) (["place","by","divisor"]:List a0) [3,4,2] (i:=1) sc_evened.nd rfl rfl rfl (Vz aC rfl B.enumerate (Yz (vo 1))) (by kernel_rfl) (λ_ _ _ _ _=>(YI (n:=2) rfl (Zw (V7 0) (Zw (V7 1) Yi)))) (λ_ _ _ _ _=>Z2) (λ_ _ _ _ _=>(VE.pure (J5 (QR b.units (vo 0) (vo 2)) (vo 1) (WR a b (va4 (vo 1) (vo 3) (vo 2) (vo 4)))))))
  (Zh (Yn 2 sc_evened.nd (VE.pure (Zl (vo 4) (vo 3))))))))
  (Zh (F3 (Ni (Z4 (vo 2) (Z4 (pv 1) Xv))))))))
abbrev WG:bS:=X5 51
theorem sc_solved_below:Zk ["square","column","told"] ["square","column"] (Ze WG):=Wi
theorem RY(c:Def K mg "solved_below" WG)(B:XY mg)(a:Pq P w K mg base):WE P w K mg base:=
 N0 [] c sc_solved_below λb=>
  (Zd (Yn 2 sc_solved_below.nd (Vn a b (Yz (Y2 (["row","number"]:List a0) ([]:List a0) [] rfl (W6 aB aB rfl B.zip (X4 (vo 0) (vo 1))) (by kernel_rfl) (λ_ _ _ _ _=>(YI (n:=2) rfl (Zw (V7 0) (Zw (V7 1) Yi)))) (λ_ _ _ _ _=>Z2) (λ_ _ _ _ _=>(Wz Qb Qc (vo 0) (SG (Yz (vo 1)))))))))
  (Zh (Zv (WW (["row"]:List a0) (["told"]:List a0) [2] rfl (Xi (Zl (vo 2) Zg)) (by kernel_rfl) (λ_ _ _ _ _=>(V7 0)) (λ_ _ _ _ _=>Z2) (λ_ _ _ _ _=>(VE.pure (XU (Zl (vo 0) (QH Zg)) (Zl (vo 1) Zg))))))))
abbrev Rt:bS:=X5 56
theorem sc_nearing:Zk ["web","purse","base","column","script"] ["web","purse","base"] (Ze Rt):=Wi
theorem Ji(d:Def K mg "nearing" Rt)(B:XY mg)(b:WE P w K mg base)(a:YY P w K mg base):S7 P w K mg base:=
 MQ [4] d sc_nearing λc=>
  (Zd (Yn 3 sc_nearing.nd (VE.pure (Wz Qb Qc (UR (vo 1) Wn (Xk (vo 2))) (UR (vo 1) (Xk (Z7 (vo 2) Zg)) Wn))))
  (Zd (Yn 4 sc_nearing.nd (Vn b c (X4 (WR a c (X4 (vo 0) (vo 2))) (vo 3))))
  (Zd (OV (Wk (MY dz j4 j6 OL (pv 4) (Z4 (vo 2) (Z4 Zg Xv)))))
  (Zh (Zv (VE.pure (Zx Zn ZD rfl B.tuple (by decide +kernel) (Yz (vo 4)))))))))
abbrev Jj:bS:=X5 18
theorem CZ:Zk ["web","script","house"] ["web","script","house"] (Ze Jj):=Wi
theorem C0(a:Def K mg "gain" Jj)(B:XY mg):K9 P w K mg base:=
 MQ [] a CZ λb=>
  (Zh (Zv (VE.pure (vb (YR rfl) Vx B.sum (Yz (Y2 (["other","times"]:List a0) (["script","house"]:List a0) [1,2] rfl (Vz aB rfl B.enumerate (Yz (Zl (vo 0) (vo 2)))) (by kernel_rfl) (λ_ _ _ _ _=>(YI (n:=2) rfl (Zw (V7 0) (Zw (V7 1) Yi)))) (λ_ _ _ _ _=>Z2) (λ_ _ _ _ _=>(Xg (vo 1) (YJ (Zl (vo 2) (vo 0)) (Zl (vo 2) (vo 3)))))))))))
abbrev EA:bS:=X5 17
theorem Za1:Zk ["web","purse","script"] ["web","purse","script"] (Ze EA):=Wi
theorem Za2(c:Def K mg "run" EA)(B:XY mg)(a:K9 P w K mg base):Es P w K mg base:=
 MQ [] c Za1 λb=>
  (Zh (Zv (VE.pure (Zx Zn ZD rfl B.tuple (by decide +kernel) (Yz (Y2 (["house","coins"]:List a0) (["web","script"]:List a0) [0,2] rfl (Vz aB rfl B.enumerate (Yz (vo 1))) (by kernel_rfl) (λ_ _ _ _ _=>(YI (n:=2) rfl (Zw (V7 0) (Zw (V7 1) Yi)))) (λ_ _ _ _ _=>Z2) (λ_ _ _ _ _=>(Z7 (vo 1) (WR a b (VP (vo 2) (vo 3) (vo 0)))))))))))
abbrev Ru:bS:=X5 49
theorem Jk:Zk ["purse","base"] ["purse","base"] (Ze Ru):=Wi
theorem Jl(b:Def K mg "in_debt" Ru)(B:XY mg):S8 P w K mg base:=
 N0 [] b Jk λa=>
  (Zh (Zv (WW (["house","coins"]:List a0) (["base"]:List a0) [1] rfl (Vz aB rfl B.enumerate (Yz (vo 0))) (by kernel_rfl) (λ_ _ _ _ _=>(YI (n:=2) rfl (Zw (V7 0) (Zw (V7 1) Yi)))) (λ_ _ _ _ _=>(NH (VW.vt (KC (T3 a.units (vo 0) (vo 2)) (Nx (OP (vo 1) Zg)))))) (λ_ _ _ _ _=>(VE.pure (vo 0))))))
abbrev UE:bS:=X5 57
theorem Mk:Zk ["web","houses"] ["web","houses"] (Ze UE):=Wi
theorem Ml(b:Def K mg "borrowing" UE)(B:XY mg):Uz P w K mg base:=
 N0 [] b Mk λa=>
  (Zh (Zv (VE.pure (Zx Zn ZD rfl B.tuple (by decide +kernel) (Yz (Ki "house" ["houses"] [1] (K8 B.range (Gj B.len (vo 0))) (J5 (Zc6 a.units (vo 0) (vo 1)) (QH Zg) Zg)))))))
abbrev Jm:bS:=X5 20
theorem C1:Zk ["one","other"] ["one","other"] (Ze Jm):=Wi
theorem C2(a:Def K mg "plus" Jm)(B:XY mg):Ja P w K mg base:=
 N0 [] a C1 λb=>
  (Zh (Zv (VE.pure (Zx Zn ZD rfl B.tuple (by decide +kernel) (Yz (Y2 (["first","second"]:List a0) ([]:List a0) [] rfl (W6 aB aB rfl B.zip (X4 (vo 0) (vo 1))) (by kernel_rfl) (λ_ _ _ _ _=>(YI (n:=2) rfl (Zw (V7 0) (Zw (V7 1) Yi)))) (λ_ _ _ _ _=>Z2) (λ_ _ _ _ _=>(Z7 (vo 0) (vo 1)))))))))
abbrev Mm:bS:=X5 19
theorem sc_least:Zk ["script","lowest"] ["script"] (Ze Mm):=Wi
theorem EB(a:Def K mg "least" Mm)(B:XY mg):Qj P w K mg base:=
 CV [] a sc_least λb=>
  (Zd (Yn 1 sc_least.nd (VE.pure (vb (HJ rfl) Cs B.min (Yz (vo 0)))))
  (Zh (Zv (VE.pure (Zx Zn ZD rfl B.tuple (by decide +kernel) (Yz (Ki "often" ["lowest"] [1] (SJ (vo 0)) (YJ (vo 0) (vo 1)))))))))
abbrev Rv:bS:=X5 48
theorem Jn:Zk ["web","house","others"] ["web","house","others"] (Ze Rv):=Wi
theorem Jo(a:Def K mg "ties_to" Rv)(B:XY mg):S9 P w K mg base:=
 MQ [] a Jn λb=>
  (Zh (Zv (VE.pure (vb (YR rfl) Vx B.sum (Yz (Ki "other" ["web","house"] [0,1] (Zdk (vo 2)) (Zl (Zl (vo 1) (vo 2)) (vo 0))))))))
abbrev Wd:bS:=X5 47
theorem sc_house_to_burn:Zk ["web","purse","fire","house","coins"] ["web","purse","fire"] (Ze Wd):=Wi
theorem Rw(c:Def K mg "house_to_burn" Wd)(B:XY mg)(a:S9 P w K mg base):X9 P w K mg base:=
 MQ [] c sc_house_to_burn λb=>
  (Zd (GY (Vz aB rfl B.enumerate (Yz (vo 1))) (YI (n:=2) rfl (Zw (IE 3 sc_house_to_burn.nd) (Zw (IE 4 sc_house_to_burn.nd) Yi))) (Zh (Wh (VW.vt (KC (FJ b.units (vo 3) (vo 2)) (Nx (OP (vo 4) (WR a b (VP (vo 0) (vo 3) (vo 2))))))) (Zh (Zv (VE.pure (vo 3)))) Yo)))
  (Zh (Zv (VE.pure Nu))))
abbrev Mn:bS:=X5 46
theorem sc_burnt:Zk ["web","purse","base","fire","house"] ["web","purse","base"] (Ze Mn):=Wi
theorem EC(c:Def K mg "burnt" Mn)(B:XY mg)(a:X9 P w K mg base):N4 P w K mg base:=
 MQ [3] c sc_burnt λb=>
  (Zd (Yn 3 sc_burnt.nd (NB (Ug (VE.pure (vo 2)) TN)))
  (Zd (Yn 4 sc_burnt.nd (Vn a b (VP (vo 0) (vo 1) (vo 3))))
  (Zd (Vj fG (Nz (vo 4)) (Zd (SO (Wk (MY dz gZ g6 Sw (pv 3) (Z4 (VE.pure (vo 4)) Xv))))
  (Zh (Yn 4 sc_burnt.nd (Vn a b (VP (vo 0) (vo 1) (vo 3)))))))
  (Zh (R5 (pv 3))))))
abbrev PJ:bS:=X5 55
theorem sc_settle:Zk ["web","purse","base","script","near","indebted","step"] ["web","purse","base"] (Ze PJ):=Wi
theorem Gw(i:Def K mg "settle" PJ)(B:XY mg)(c:S7 P w K mg base)(e:Es P w K mg base)(a:S8 P w K mg base)(b:Uz P w K mg base)(h:Ja P w K mg base)(f:N4 P w K mg base)(d:Qj P w K mg base):Pr P w K mg base:=
 MQ [] i sc_settle λg=>
  (Zd (Yn 3 sc_settle.nd (Vn c g (VP (vo 0) (vo 1) (vo 2))))
  (Zd (Yn 4 sc_settle.nd (Vn e g (VP (vo 0) (vo 1) (vo 3))))
  (Zd (Yn 5 sc_settle.nd (Vn a g (X4 (vo 4) (vo 2))))
  (Zd (Vj fG (La (Gj B.len (vo 5)) Zg) (Zd (Yn 6 sc_settle.nd (Vn b g (X4 (vo 0) (vo 5))))
  (Zd (Yn 3 sc_settle.nd (Vn h g (X4 (vo 3) (vo 6))))
  (Zd (Yn 4 sc_settle.nd (Vn e g (VP (vo 0) (vo 4) (vo 6))))
  (Zh (Yn 5 sc_settle.nd (Vn a g (X4 (vo 4) (vo 2)))))))))
  (Zh (Zv (A9 (Ug (Vn d g (Yz (vo 3))) (Ug (VE.pure (vo 4)) (Ug (Vn f g (VP (vo 0) (vo 4) (vo 2))) TN))))))))))
abbrev Mo:bS:=X5 21
theorem ED:Zk ["one","other"] ["one","other"] (Ze Mo):=Wi
theorem EE(a:Def K mg "minus" Mo)(B:XY mg):N5 P w K mg base:=
 N0 [] a ED λb=>
  (Zh (Zv (VE.pure (Zx Zn ZD rfl B.tuple (by decide +kernel) (Yz (Y2 (["first","second"]:List a0) ([]:List a0) [] rfl (W6 aB aB rfl B.zip (X4 (vo 0) (vo 1))) (by kernel_rfl) (λ_ _ _ _ _=>(YI (n:=2) rfl (Zw (V7 0) (Zw (V7 1) Yi)))) (λ_ _ _ _ _=>Z2) (λ_ _ _ _ _=>(YJ (vo 0) (vo 1)))))))))
abbrev Mp:bS:=X5 59
theorem sc_alike:Zk ["web","one","other","from_one","from_other"] ["web","one","other"] (Ze Mp):=Wi
theorem EF(e:Def K mg "alike" Mp)(B:XY mg)(a:Pr P w K mg base)(c:Qj P w K mg base)(b:N5 P w K mg base):N6 P w K mg base:=
 MQ [] e sc_alike λd=>
  (Zd (Yn 3 sc_alike.nd (Vn a d (VP (vo 0) (vo 1) Zg)))
  (Zd (Yn 4 sc_alike.nd (Vn a d (VP (vo 0) (vo 2) Zg)))
  (Zd (Wh (T3 d.units (Zl (vo 3) Zg) (Zl (vo 4) Zg)) (Zh (Zv (VE.pure Nu))) Yo)
  (Zh (Zv (Vn c d (Yz (WR b d (X4 (Zl (vo 3) Zg) (Zl (vo 4) Zg))))))))))
abbrev Rx:bS:=X5 69
theorem Jp:Zk ["_law_number"] ["_law_number"] (Ze Rx):=Wi
theorem Jq(a:Def K mg "_law_whole" Rx)(B:XY mg):U0 P w K mg base:=
 CV [] a Jp λb=>
  (Zh (Zv (VE.pure (SD (vb RK J8 B.isinstance (X4 (vo 0) (BR rfl B.int (by decide +kernel)))) (Ny (Fw (vb RK J8 B.isinstance (X4 (vo 0) (BR rfl B.bool (by decide +kernel))))))))))
abbrev Ry:bS:=X5 73
theorem Jr:Zk ["_law_e"] ["_law_e"] (Ze Ry):=Wi
theorem Js(g:Def K mg "_law_other" Ry)(B:XY mg){b c:aH}(Q:VX.Q3 "NoTotal" P w K mg base b c):CO P w K mg base "_law_other" (["_law_e"]:List a0) (YS K XA 1) 1:=
 CP (O:=[]) 1 O7 g Jr (λ_ _ _ _ _ _ d f=>match d,f with | [_],_=>rfl) rfl rfl (by decide) (λh e A a s H E=>
  (Zd (Wh (Nw (VM.ve (IB Q rfl B.isinstance (vo 0) (.cons rfl (by decide) (by decide) (.cons rfl (by decide) (by decide) (.cons rfl (by decide) (by decide) (.cons rfl (by decide) (by decide) (.cons rfl (by decide) (by decide) (.cons rfl (by decide) (by decide) .nil)))))) (by decide)))) (Zh (Zv (VE.pure M7))) Yo)
  (Zh (Zv (VE.pure (VM.ve (IB Q rfl B.isinstance (vo 0) (.cons rfl (by decide) (by decide) (.cons rfl (by decide) (by decide) (.cons rfl (by decide) (by decide) (.cons rfl (by decide) (by decide) .nil)))) (by decide))))))))
abbrev UG:bS:=X5 74
theorem sc_l_refused:Zk ["_law_web_here","_law_purse","_law_whole_here","_law_lone","_law_e"] ["_law_web_here","_law_purse"] (Ze UG):=Wi
theorem Mq(h:Def K mg "_law_refused" UG)(B:XY mg)(a:VU P w K mg base)(d:CO P w K mg base "_law_other" (["_law_e"]:List a0) (YS K XA 1) 1)(c:U0 P w K mg base){f g:aH}(Q:VX.Q3 "NoTotal" P w K mg base f g)(b:VX.CalX P w K mg base "round_of" (["web","purse"]:List a0) (VX.spY K Y7 2) 6):UA P w K mg base:=
 N0 [] h sc_l_refused λe=>
  (Zd (Yn 2 sc_l_refused.nd (VE.pure Nu))
  (Zd (Yn 3 sc_l_refused.nd (VE.pure M7))
  (Zd (B4 (Em Q b Tc (e.mono (by decide)) rfl (X4 (vo 0) (vo 1)) rfl rfl rfl sc_l_refused.nd rfl rfl rfl (λ_=>(Zh (Yn 2 sc_l_refused.nd (VE.pure (CJ Q.f.fl (vo 4)))))) (by decide)) (Iz (Zh (B5 (WR a e (X4 (vo 0) (vo 1)))))))
  (Zd (B4 (Ej Q b Tc (e.mono (by decide)) rfl (X4 (vo 0) (vo 1)) rfl rfl rfl sc_l_refused.nd rfl rfl rfl (λ_=>(Zh (Yn 3 sc_l_refused.nd (VE.pure (SD (VM.ve (CM Q rfl B.isinstance (vo 4) (by decide) rfl)) (SD (VM.ve (CN Q rfl B.isinstance (vo 4) rfl B.ValueError)) (Ny (Fw (VM.ve (Ep d (Zdl e (by decide)) rfl (Yz (vo 4)))))))))))) (by decide)) (Iz (Zh (B5 (WR a e (X4 (vo 0) (vo 1)))))))
  (Zh (Zv (VE.pure (SD (WR c e (Yz (vo 2))) (SD (BU e.units (vo 2) (vb (YR rfl) Vx B.sum (Yz (vo 1)))) (Ny (vo 3)))))))))))
abbrev Mr:bS:=X5 67
theorem sc_l_run:Zk ["_law_web_here","_law_purse","_law_often_here","_law_coins","_law_k","_law_out"] ["_law_web_here","_law_purse","_law_often_here"] (Ze Mr):=Wi
theorem EG(a:Def K mg "_law_run" Mr)(B:XY mg):N7 P w K mg base:=
 MQ [3] a sc_l_run λb=>
  (Zd (Yn 3 sc_l_run.nd (NB TN))
  (Zd (GY (K8 B.range (Gj B.len (vo 0))) (IE 4 sc_l_run.nd) (Zd (Yn 5 sc_l_run.nd (VE.pure (vb (YR rfl) Vx B.sum (Yz (Ki "_law_j" ["_law_web_here","_law_k","_law_often_here"] [0,4,2] (K8 B.range (Gj B.len (vo 0))) (Xg (Zl (Zl (vo 1) (vo 2)) (vo 0)) (YJ (Zl (vo 3) (vo 2)) (Zl (vo 3) (vo 0)))))))))
  (Zh (SO (Wk (MY dz gZ g6 Sw (pv 3) (Z4 (VE.pure (YJ (Zl (vo 1) (vo 4)) (vo 5))) Xv)))))))
  (Zh (Zv (VE.pure (Zx Zn ZD rfl B.tuple (by decide +kernel) (Yz (vo 3))))))))
abbrev Rz:bS:=X5 65
theorem Jt:Zk ["_law_cell_here"] ["_law_cell_here"] (Ze Rz):=Wi
theorem Ju(b:Def K mg "_law_often" Rz)(B:XY mg):Ra P w K mg base:=
 CV [] b Jt λa=>
  (Zd (Wh (QR a.units (YD (vo 0) Zg) Zg) (Zh (Zv (VE.pure (YJ (YD (XJ (vo 0) (vo 0)) (XJ Zg (QD Zg Zg))) (QD Zg Zg))))) Yo)
  (Zh (Zv (VE.pure (YJ (YD (XU (vo 0) Zg) Zg) Zg)))))
abbrev EH:bS:=X5 75
theorem sc_law:Zk ["_law_script_here","_law_web_here","_law_houses","_law_purse","_law_found","_law_last","_law_noughts","_law_taken","_law_often_here","_law_fewer","_law_more","_law_other_here"] ["_law_script_here"] (Ze EH):=Wi
theorem Za3{p:aH}{o:eU}(r:Fun K "law" "law" EH p o)(B:XY mg)(j:N1 P w K mg base)(h:Pn P w K mg base)(a:VU P w K mg base)(m:Qh P w K mg base)(f:U0 P w K mg base)(e:N6 P w K mg base)(l:N7 P w K mg base)(i:Se P w K mg base)(b:Uv P w K mg base)(g:Ra P w K mg base)(c:UA P w K mg base):Te P w K mg base OI 8 p o (["_law_script_here"]:List a0) (YS K D_law 1):=
 Zai (O:=[]) (k:=7) 12 Aa r sc_law rfl rfl (by decide) (λt q A n s H E d=>
  (Zd (Yn 1 sc_law.nd (Vn j d (X4 (vo 0) Zg)))
  (Zd (Yn 2 sc_law.nd (VE.pure (Gj B.len (vo 1))))
  (Zd (Yn 3 sc_law.nd (Vn h d (X4 (vo 0) (vo 2))))
  (Zd (Yn 4 sc_law.nd (Vn a d (X4 (vo 1) (vo 3))))
  (Zd (Yn 5 sc_law.nd (VE.pure (Wz Qb Qc (SG (Yz Zg)) (Zl (WR m d (Yz (vo 1))) Zg))))
  (Zd (Wh (VW.vt (J4 (A6 (Nw (WR f d (Yz (vo 4))))) (J4 (OP (vo 4) Zg) (KA (T3 d.units (YD (Zl (vo 5) (QH Zg)) (vo 4)) Zg))))) (Zh (Zv (VE.pure M7))) Yo)
  (Zd (Yn 6 sc_law.nd (VE.pure (Wz Ih Ii (SG (Yz Zg)) (vo 2))))
  (Zd (Yn 7 sc_law.nd (VE.pure (Zx Zn ZD rfl B.tuple (by decide +kernel) (Yz (Ki "_law_coins" ["_law_found"] [4] (SJ (vo 3)) (Xg (vo 1) (vo 0)))))))
  (Zd (Yn 8 sc_law.nd (Vn e d (VP (vo 1) (vo 7) (vo 6))))
  (Zd (Wh (VW.vt (J4 (A7 (vo 8)) (KA (T3 d.units (WR l d (VP (vo 1) (vo 7) (vo 8))) (vo 6))))) (Zh (Zv (VE.pure M7))) Yo)
  (Zd (Wh (La (vo 4) Zg) (Zd (Yn 9 sc_law.nd (VE.pure (Z7 Zg (WR i d (VP (WR b d (X4 (vo 0) Zg)) Zg (YJ (vo 4) Zg))))))
  (Zh (Wh (Nz (WR e d (VP (vo 1) (Zx Zn ZD rfl B.tuple (by decide +kernel) (Yz (Ki "_law_coins" ["_law_fewer"] [9] (SJ (vo 3)) (Xg (vo 1) (vo 0))))) (vo 6)))) (Zh (Zv (VE.pure M7))) Yo))) Yo)
  (Zd (Yn 10 sc_law.nd (VE.pure (Z7 Zg (vb Qt KG B.abs (Yz (WR g d (Yz (WR b d (X4 (vo 0) Zg)))))))))
  (Zd (Yn 11 sc_law.nd (VE.pure (Wz Qb Qc (UR (vo 3) Wn (Xk (YJ (vo 2) Zg))) (SG (Yz (Z7 (Zl (vo 3) (YJ (vo 2) Zg)) (Xg (vo 10) (YJ Zg (Xg Zg (YD (vo 2) Zg))))))))))
  (Zh (Zv (VE.pure (SD (WR c d (X4 (vo 1) (vo 11))) (Ny (BU d.units (WR a d (X4 (vo 1) (vo 3))) (vo 4)))))))))))))))))))))
end
end PW
namespace PW
open L2 VL
theorem Jw{W:List (List Int)}{h:Nat}(a:h<W.length):UX [wP W,.int (h:Int)]=aA (.int (ZT W h).sum):=by simp[UX,OZ,Yy,ZC,UT a]
theorem LR(l:List Int):YF [pP l]=aA (.int l.sum):=by simp[YF,Ij,Yy,ZC]
noncomputable def Jx(a b:List Int):List Int:=(aM a.length).map λi=>Zp a i+Zp b i
noncomputable def U5(a b:List Int):List Int:=(aM a.length).map λi=>Zp a i-Zp b i
theorem C3{a b:List Int}(h:b.length=a.length)(f:a.length<=1000):Tj [pP a,pP b]=aA (pP (Jx a b)):=by
 have e:Vi (iL a) (iL b)=(aM a.length).map λi=>.tup [.int (Zp a i),.int (Zp b i)]:=by rw[YL _ _ (by simpa using h),aP];apply av;intro i c;have c:=aU.mp c;rw[Yu a i c,Yu b i (by omega)]
 have d:Zu 2 [] (U4 aB aB [Za 0,Za 1]) (.many [0,1]) Zy (Zi Yb (Za 0) (Za 1)) [aA (pP a),aA (pP b)]=aA (.lst (iL (Jx a b))):=by rw[ZZ (aM a.length) (λi=>.tup [.int (Zp a i),.int (Zp b i)]) (λi=>.int (Zp a i+Zp b i)) (by simp[e]) (by simp;omega) (λi _=>⟨_,rfl,rfl,by simp[setAll,ZQ]⟩)];simp[Jx]
 simp[Tj,FV,Yy,ZC,d]
theorem EI{a b:List Int}(h:b.length=a.length)(f:a.length<=1000):UY [pP a,pP b]=aA (pP (U5 a b)):=by
 have e:Vi (iL a) (iL b)=(aM a.length).map λi=>.tup [.int (Zp a i),.int (Zp b i)]:=by rw[YL _ _ (by simpa using h),aP];apply av;intro i c;have c:=aU.mp c;rw[Yu a i c,Yu b i (by omega)]
 have d:Zu 2 [] (U4 aB aB [Za 0,Za 1]) (.many [0,1]) Zy (Zi Y5 (Za 0) (Za 1)) [aA (pP a),aA (pP b)]=aA (.lst (iL (U5 a b))):=by rw[ZZ (aM a.length) (λi=>.tup [.int (Zp a i),.int (Zp b i)]) (λi=>.int (Zp a i-Zp b i)) (by simp[e]) (by simp;omega) (λi _=>⟨_,rfl,rfl,by simp[setAll,ZQ]⟩)];simp[U5]
 simp[UY,Ik,Yy,ZC,d]
theorem Qk(l:List Int):WU (iL l)=(aM l.length).map λ(i:Nat)=>.tup [.int (i:Int),.int (Zp l i)]:=by rw[WX,aP];apply av;intro i a;rw[Yu l i (aU.mp a)]
noncomputable def Wj(W:List (List Int))(S:List Int)(h:Nat):Int:=((aM W.length).map λi=>Z9 W h i*(Zp S i-Zp S h)).sum
theorem C4{W:List (List Int)}{S:List Int}{h:Nat}(ok:ZU W)(b:h<W.length)(hs:S.length=W.length):Q5 [wP W,pP S,.int (h:Int)]=aA (.int (Wj W S h)):=by
 have d:=ok.sq h b;have l:=ok.few
 have f:Zu 2 [1,2] (Xs aB [Zi ZJ (Za 0) (Za 2)]) (.many [0,1]) Zy (Zi WA (Za 1) (Zi Y5 (Zi ZJ (Za 2) (Za 0)) (Zi ZJ (Za 2) (Za 3)))) [aA (wP W),aA (pP S),aA (.int (h:Int))]=aA (.lst (iL ((aM W.length).map λi=>Z9 W h i*(Zp S i-Zp S h)))):=by
  rw[ZZ (aM W.length) (λi=>.tup [.int (i:Int),.int (Z9 W h i)]) (λi=>.int (Z9 W h i*(Zp S i-Zp S h))) (by simp[UT b,Qk,d];intro a _;rfl) (by simp;omega) (λi c=>?_)]
  ·simp
  ·have c:=aU.mp c;refine⟨_,rfl,rfl,?_⟩;have k:=ok.lo h i b c;have g:=ok.hi h i b c;have e:∀j,CMul (Z9 W h i) j:=λj=>KQ (by omega) (by omega);simp[setAll,ZQ,Xy (show i<S.length by omega),Xy (show h<S.length by omega),e]
 simp[Q5,FU,Yy,ZC,f,Wj,-eM]
noncomputable def ZG(W:List (List Int))(D S:List Int):List Int:=(aM D.length).map λh=>Zp D h+Wj W S h
theorem EJ{W:List (List Int)}{D S:List Int}(ok:ZU W)(c:D.length=W.length)(hs:S.length=W.length):U9 [wP W,pP D,pP S]=aA (pP (ZG W D S)):=by
 have d:=ok.few
 have b:Zu 2 [0,2] (Xs aB [Za 1]) (.many [0,1]) Zy (Zi Yb (Za 1) (Zc Q5 [Za 2,Za 3,Za 0])) [aA (wP W),aA (pP D),aA (pP S)]=aA (.lst (iL (ZG W D S))):=by
  rw[ZZ (aM D.length) (λi=>.tup [.int (i:Int),.int (Zp D i)]) (λh=>.int (Zp D h+Wj W S h)) (by simp[Qk]) (by simp;omega) (λi a=>?_)]
  ·simp[ZG]
  ·have a:=aU.mp a;refine⟨_,rfl,rfl,?_⟩;simp[setAll,ZQ,C4 ok (show i<W.length by omega) hs]
 simp[U9,BX,Yy,ZC,b]
noncomputable def tk(e:Tie):List Oc:=[.inl (e.1:Int),.inl (e.2.1:Int)]
noncomputable def UH(W:List (List Int)):Prop:=∀P:Nat->Prop,(∀a b,a<W.length->b<W.length->0<Z9 W a b->(P a↔P b))->∀i j,i<W.length->j<W.length->(P i↔P j)
theorem PK:∀{l m:List Int},l.Nodup->(∀x∈l,x∈m)->l.length<=m.length
 | [],m,_,_=>dj _
 | x::r,m,nd,h=>by have c:x∈m:=h x (by simp);have a:=bY.mp nd;have:=PK (l:=r) (m:=m.erase x) a.2 λy b=>(List.mem_erase_of_ne (show y≠x from λz=>a.1 (by rw[<-z];exact b))).mpr (h y (by simp[b]));rw[List.length_erase_of_mem c] at this;have d:=List.length_pos_of_mem c;rw[bp];omega
theorem Zfh{n:Nat}{l:List Int}(d:l.Nodup)(h:∀x∈l,∃k:Nat,k<n/\x=(k:Int))(e:l.length=n){j:Nat}(b:j<n):(j:Int)∈l:=by
 by_cases q:(j:Int)∈l
 ·exact q
 ·have:=PK (bY.mpr ⟨q,d⟩) (λx a=>by
   rcases aa.mp a with rfl | a
   ·exact br.mpr ⟨j,aU.mpr b,rfl⟩
   ·obtain⟨k,c,rfl⟩:=h x a;exact br.mpr ⟨k,aU.mpr c,rfl⟩)
  rw[bp,aP,cL] at this;omega
noncomputable def rL(M:List (List Int)):List PV:=M.map λr=>.lst (iL r)
theorem Jy{M:List (List Int)}{a:Nat}(h:a<M.length):(rL M)[a]?=aA (.lst (iL (ZT M a))):=by unfold rL;rw[aZ,M5 h];rfl
theorem EK{M:List (List Int)}{a b:Nat}{t:Int}:(rL M).set a (.lst ((iL (ZT M a)).set b (.int t)))=rL (Sz M a b t):=by unfold rL Sz;rw[lz];show _=(mC (λr=>PV.lst (iL r)) M).set a (PV.lst (((ZT M a).set b t).map PV.int));rw[lz]
theorem EL(l:List Int)(k:Nat)(x:Int):(iL l).take k++PV.int x::(iL l).drop k=iL (l.take k++x::l.drop k):=by simp
theorem Ac(neg:Bool)(a:Int)(l:List Int):HC neg (.int a) (.lst (iL l))=aA (.bl (if neg then !decide (a∈l) else decide (a∈l))):=by
 have c:((iL l).all λz=>U3 8 z (.int a))=aC:=by rw[ll,bA];intro x _;rfl
 show(aA (iL l)).bind _=_;simp only[aT,nZ c]
 have:decide (PV.int a∈iL l)=decide (a∈l):=decide_eq_decide.mpr (by
  rw[br];constructor
  ·rintro⟨x,b,e⟩;cases e;exact b
  ·intro h;exact⟨a,h,rfl⟩)
 rw[this]
theorem Yp{f g:XS}{s s1:ZE}(a:f s=aA (.nx s1)):Zm f g s=g s1:=by simp only[Lm,a,aT]
theorem EM(a b:List Int):(Jx a b).length=a.length:=by simp[Jx]
theorem Vo(a b:List Int):(U5 a b).length=a.length:=by simp[U5]
theorem Yd(W:List (List Int))(D S:List Int):(ZG W D S).length=D.length:=by simp[ZG]
theorem LS{a b:List Int}{i:Nat}(h:i<a.length):Zp (Jx a b) i=Zp a i+Zp b i:=Ya h
theorem PL{a b:List Int}{i:Nat}(h:i<a.length):Zp (U5 a b) i=Zp a i-Zp b i:=Ya h
theorem WH{W:List (List Int)}{a b:List Int}{i:Nat}(h:i<a.length):Zp (ZG W a b) i=Zp a i+Wj W b i:=Ya h
theorem V1{a b:List Int}(c:a.length=b.length)(h:∀i,i<a.length->Zp a i=Zp b i):a=b:=by rw[<-Sy a,<-Sy b,c];apply av;intro i d;exact h i (by rw[c];exact aU.mp d)
theorem Ms{W:List (List Int)}(ok:ZU W){i:Nat}(a:i<W.length):(ZT W i).sum=((aM W.length).map λj=>Z9 W i j).sum:=by rw[<-Nt (ZT W i),ok.sq i a];rfl
theorem Vp{n m:Nat}{ix:List Nat}{b:XL}{c:XT}{d:XE}{s:ZE}(g:Nat->Int)(a:b s=aA (TX m))(f:m<=1000)(h:∀i:Nat,i<m->∃s1,Xj (.one 0) (.int (i:Int)) (ZQ n ix s)=aA s1/\c s1=aA aC/\d s1=aA (.int (g i))) :
  Zu n ix b (.one 0) c d s=aA (.lst (iL ((aM m).map g))):=by
 rw[ZZ (aM m) (λi=>.int (i:Int)) (λi=>.int (g i)) a (by simp;omega) (λi e=>h i (aU.mp e))];simp
theorem PN(f g:Nat->Int)(n:Nat):((aM n).map λi=>f i+g i).sum=((aM n).map f).sum+((aM n).map g).sum:=by
 induction n with
 | zero=>rfl
 | succ n ih=>rw[Xe,Xe,Xe,ih];omega
theorem EN(f:Nat->Nat->Int)(n m:Nat):((aM n).map λi=>((aM m).map λj=>f i j).sum).sum=((aM m).map λj=>((aM n).map λi=>f i j).sum).sum:=by
 induction n with
 | zero=>
  have:((aM m).map λj=>((aM 0).map λi=>f i j).sum).sum=0:=by have:=Hy 0 m;simpa using this
  rw[this];rfl
 | succ n ih=>
  rw[Xe,ih,<-PN];apply Xw;intro j _;rw[Xe]
theorem Gx{W:List (List Int)}{S U T:List Int}{h:Nat}(e:∀i,i<W.length->Zp T i=Zp S i+Zp U i)(b:h<W.length):Wj W T h=Wj W S h+Wj W U h:=by unfold Wj;rw[<-PN];apply Xw;intro i a;rw[e i a,e h b,<-gL];congr 1;omega
theorem IF{W:List (List Int)}{D S U T:List Int}(b:D.length=W.length)(e:∀i,i<W.length->Zp T i=Zp S i+Zp U i):ZG W (ZG W D S) U=ZG W D T:=V1 (by simp[Yd]) λi a=>by rw[Yd,Yd] at a;rw[WH (by rw[Yd];exact a),WH a,WH a,Gx e (by omega)];omega
theorem Gy{W:List (List Int)}{S T:List Int}{h:Nat}(c:Int)(e:∀i,i<W.length->Zp T i=Zp S i+c)(a:h<W.length):Wj W T h=Wj W S h:=by unfold Wj;apply Xw;intro i b;rw[e i b,e h a];congr 1;omega
theorem EO{W:List (List Int)}(ok:ZU W)(S:List Int):((aM W.length).map λh=>Wj W S h).sum=0:=by
 have c:((aM W.length).map λh=>Wj W S h).sum=((aM W.length).map λi=>((aM W.length).map λj=>Z9 W i j*Zp S j).sum).sum-((aM W.length).map λi=>((aM W.length).map λj=>Z9 W i j*Zp S i).sum).sum:=by rw[<-J2];apply Xw;intro i _;rw[<-J2];apply Xw;intro j _;rw[gM]
 have a:((aM W.length).map λi=>((aM W.length).map λj=>Z9 W i j*Zp S i).sum).sum=((aM W.length).map λi=>((aM W.length).map λj=>Z9 W i j*Zp S j).sum).sum:=by rw[EN];apply Xw;intro i d;apply Xw;intro j b;rw[ok.sym j i b d]
 rw[c,a];omega
theorem C5{W:List (List Int)}{D S:List Int}(ok:ZU W)(a:D.length=W.length):(ZG W D S).sum=D.sum:=by unfold ZG;rw[PN,Nt,a,EO ok,ic]
theorem IG{n i:Nat}(c:Int)(a:i<n):Zp (aY n c) i=c:=by unfold Zp;rw[aJ,bu,nZ a];rfl
theorem Jz(l:List Int)(k:Nat):W7 (iL l) none (aA (k:Int))=iL (l.take k):=by
 unfold W7;rw[HT.sIx_none,HT.sIx_nat,aP,jD,jt,<-nF];congr 1;by_cases h:k<=l.length
 ·rw[eB h]
 ·rw[jc (by omega),bh (aN _),bh (by omega)]
theorem JA(l:List Int)(k:Nat):W7 (iL l) (aA (k:Int)) none=iL (l.drop k):=by
 unfold W7;rw[HT.sIx_none,HT.sIx_nat,aP,<-nG];congr 1;by_cases h:k<=l.length
 ·rw[eB h,bh (by simp)]
 ·rw[jc (by omega),iB (aN _),iB (by omega)];simp
theorem Mu{l:List Int}{i:Nat}(h:i<l.length):Zp l i∈l:=by unfold Zp;rw[aJ,aL h];exact eT h
theorem Mv{l:List Int}{x:Int}(h:x∈l):∃i,i<l.length/\Zp l i=x:=by obtain⟨i,a,e⟩:=gS h;refine⟨i,a,?_⟩;unfold Zp;rw[aJ,aL a,e];rfl
theorem Gz{l l':List Int}(c:Int)(n:l'.length=l.length)(g:0<l.length)(e:∀i,i<l.length->Zp l' i=Zp l i+c):X2 l'=X2 l+c:=by
 obtain⟨a,b⟩:=SS (l:=l) (fS.mp g);obtain⟨i,h,d⟩:=Mv a;refine Il ?_ λx f=>?_
 ·have:=Mu (l:=l') (i:=i) (by omega);rw[e i h,d] at this;exact this
 ·obtain⟨j,m,k⟩:=Mv f;have o:=b _ (Mu (l:=l) (i:=j) (by omega));rw[e j (by omega)] at k;omega
noncomputable def ZI(l:List Int):List Int:=(aM l.length).map λi=>Zp l i-X2 l
theorem Yf(l:List Int):(ZI l).length=l.length:=by simp[ZI]
theorem WI{l:List Int}{i:Nat}(h:i<l.length):Zp (ZI l) i=Zp l i-X2 l:=Ya h
theorem RN{l l':List Int}(c:Int)(b:l'.length=l.length)(d:0<l.length)(e:∀i,i<l.length->Zp l' i=Zp l i+c):ZI l'=ZI l:=V1 (by rw[Yf,Yf,b]) λi a=>by rw[Yf] at a;rw[WI a,WI (by omega),Gz c b d e,e i (by omega)];omega
theorem GA{W:List (List Int)}{D S T:List Int}(c:Int)(b:D.length=W.length)(e:∀i,i<W.length->Zp T i=Zp S i+c):ZG W D T=ZG W D S:=V1 (by simp[Yd]) λi a=>by rw[Yd] at a;rw[WH a,WH a,Gy c e (by omega)]
theorem ER{f g:XS}{s:ZE}{v:PV}(a:f s=aA (.rt v)):Zm f g s=aA (.rt v):=by rw[Lm,a];rfl
noncomputable def Yl(ns:List Int)(k:Nat):Int:=if k<ns.length then Zp ns k else((k:Int)*k+3*k+1)*5003%1999
section
variable {s:ZE} {f g:XE} {a b:Int} {C:Int->Int->Prop} [∀i j,Decidable (C i j)] {op:Int->Int->Int}
theorem vC(e:f s=aA (.int a))(d:g s=aA (.int b))(c:C a b):Zi (GV C op) f g s=aA (.int (op a b)):=by rw[T4,e,d];simp only[aT,Zal,nZ c]
theorem vI(d:f s=aA (.int a))(c:g s=aA (.int b)):Zi (gI op) f g s=aA (.int (op a b)):=by rw[T4,d,c];rfl
theorem vP(b:f s=aA (.int a)):eP f s=aA (.int a):=by rw[NL,b];rfl
theorem Ou{v:PV}(a:f s=aA v):ZM f s=aA (.rt v):=by rw[FQ,a];rfl
end
theorem XG{a:List Int}(h:a.length<=63){k:Nat}(c:k<=100):Z3 [.cst (iL a),.int (k:Int)]=aA (.int (Yl a k)):=by
 unfold Yl;by_cases q:k<a.length
 ·simp[Z3,T7,Yy,ZC,q,Xy q]
 ·have c1:CMul (k:Int) (k:Int):=KQ (by omega) (by omega);have c2:CMul 3 (k:Int):=.inl (by omega);have c3:CMul ((k:Int)*k+3*k+1) 5003:=.inr (by omega);have b:SM (xB (Zi Hz (Za 1) (Zc YG [Za 0]))) (ZM (eP (Zi ZJ (Za 0) (Za 1)))) Yr [aA (.cst (iL a)),aA (.int (k:Int))]=aA (.nx [aA (.cst (iL a)),aA (.int (k:Int))]):=by simp[q]
  show Yy 2 T7 _=_;unfold T7;show(Zm _ _ [aA (.cst (iL a)),aA (.int (k:Int))]).bind Uj=_;rw[Yp b,ng q,Ou (vP (vC (vC (vI (vI (vC rfl rfl c1) (vC rfl rfl c2)) rfl) rfl c3) rfl (by decide)))];rfl
theorem LU{a:List Int}(b:∀n∈a,n.natAbs.log2<=1048576)(k:Nat):(Yl a k).natAbs.log2<=1048576:=by
 unfold Yl;split
 ·exact b _ (Mu (by assumption))
 ·generalize ((k:Int)*k+3*k+1)*5003=z;have c:=dX z (show(1999:Int)≠0 by decide);have d:=dF z (show(0:Int)<1999 by decide)
  have:(z%1999).natAbs.log2<=1048576:=by
   by_cases h:(z%1999).natAbs=0
   ·rw[h];decide +kernel
   ·have:=(kU (k:=11) h).mpr (by omega);omega
  exact this
theorem Wr(c:Int){t m:Nat}(I:t<=100)(A:0<m):∃v:Nat,v<m/\Zz [.int c,.int (t:Int),.int (m:Int)]=aA (.int (v:Int)):=by
 have r:(0:Int)<(m:Int):=by omega
 have a:∀x:Int,∃v:Nat,v<m/\x%(m:Int)=(v:Int):=λx=>by have w:=dX x (show(m:Int)≠0 by omega);have b:=dF x r;exact⟨(x%(m:Int)).toNat,by omega,by omega⟩
 have E:Zq 3 (eP (Zi Kx (Za 0) (eC (.int 2)))) [aA (.int c),aA (.int (t:Int)),aA (.int (m:Int)),none,none]=aA (.nx [aA (.int c),aA (.int (t:Int)),aA (.int (m:Int)),aA (.int (c/2)),none]):=by simp[Kn]
 show ∃v:Nat,v<m/\Yy 5 Pa _=_;unfold Pa;show ∃v:Nat,v<m/\(Zm _ _ [aA (.int c),aA (.int (t:Int)),aA (.int (m:Int)),none,none]).bind Uj=_;rw[Yp E];by_cases q:c%2=1/\1000000000<c
 ·obtain⟨H,b,x,y,e⟩:=WB (T:=.one 4) (fb:=Zq 3 (eP (Zi Kx (Za 3) (eC (.int 1000))))) (ls:=TX t) (s:=[aA (.int c),aA (.int (t:Int)),aA (.int (m:Int)),aA (.int (c/2)),none])
   (λi st=>∃x y,st=[aA (.int c),aA (.int (t:Int)),aA (.int (m:Int)),aA (.int x),y]) ⟨_,_,rfl⟩ (by
    rintro i l st B ⟨x,y,rfl⟩;obtain⟨G,rfl⟩:=Um B;refine⟨_,_,rfl,?_,x/1000,aA (.int (i:Int)),rfl⟩;simp[Kn])
  subst e;obtain⟨v,j,k⟩:=a x;refine⟨v,j,?_⟩;have D:ZX [Za 1] [aA (.int c),aA (.int (t:Int)),aA (.int (m:Int)),aA (.int (c/2)),none]=aA (TX t):=Z6 (by simp) (by omega);have C:Y6 [] (ZX [Za 1]) (.one 4) (Zq 3 (eP (Zi Kx (Za 3) (eC (.int 1000))))) [aA (.int c),aA (.int (t:Int)),aA (.int (m:Int)),aA (.int (c/2)),none]=aA (.nx [aA (.int c),aA (.int (t:Int)),aA (.int (m:Int)),aA (.int x),y]):=by show(ZX [Za 1] [aA (.int c),aA (.int (t:Int)),aA (.int (m:Int)),aA (.int (c/2)),none]).bind _=_;rw[D];exact b
  rw[ER (v:=.int (v:Int))]
  ·rfl
  ·rw[Xm];have:(QE (xB (Zi (XZ aB) (Zi Xq (Za 0) (eC (.int 2))) (eC (.int 1)))) (xB (Zi M8 (Za 0) (Zi Oh (eC (.int 10)) (eC (.int 9)))))) [aA (.int c),aA (.int (t:Int)),aA (.int (m:Int)),aA (.int (c/2)),none]=aA aC:=by simp[q.1,MV,q.2]
   rw[this];simp only[aT,if_true];rw[Yp C];simp[A,k]
 ·have:(QE (xB (Zi (XZ aB) (Zi Xq (Za 0) (eC (.int 2))) (eC (.int 1)))) (xB (Zi M8 (Za 0) (Zi Oh (eC (.int 10)) (eC (.int 9)))))) [aA (.int c),aA (.int (t:Int)),aA (.int (m:Int)),aA (.int (c/2)),none]=aA aB:=by
   by_cases u:c%2=1
   ·have:¬1000000000<c:=λz=>q ⟨u,z⟩;simp[u,MV,this]
   ·simp[u]
  rw[Yp (s1:=[aA (.int c),aA (.int (t:Int)),aA (.int (m:Int)),aA (.int (c/2)),none]) (by rw[Xm,this];rfl)];generalize d:c/2%999979+1009*(t:Int)=x1;have F:0<=x1/\x1<2000000:=by have w:=dX (c/2) (show(999979:Int)≠0 by decide);have b:=dF (c/2) (show(0:Int)<999979 by decide);omega
  generalize f:(x1*x1+40503*x1)%999983=x2;have J:0<=x2/\x2<2000000:=by have w:=dX (x1*x1+40503*x1) (show(999983:Int)≠0 by decide);have b:=dF (x1*x1+40503*x1) (show(0:Int)<999983 by decide);omega
  have n:CMul 1009 (t:Int):=.inl (by omega);have o:CMul x1 x1:=.inl (by omega);have p:CMul 40503 x1:=.inl (by omega);have g:CMul x2 x2:=.inl (by omega);have h:CMul 7 (t:Int):=.inl (by omega);obtain⟨v,j,k⟩:=a ((x2*x2+7*(t:Int))%999961/11);refine⟨v,j,?_⟩;rw[Yp (s1:=[aA (.int c),aA (.int (t:Int)),aA (.int (m:Int)),aA (.int x1),none]) (by simp[n,d]),Yp (s1:=[aA (.int c),aA (.int (t:Int)),aA (.int (m:Int)),aA (.int x2),none]) (by simp[o,p,f])];simp[g,h,Kn,A,k]
noncomputable def Mw(M:List (List Int))(a b:Nat)(t:Int):List (List Int):=Sz (Sz M a b t) b a t
theorem Mx{n:Nat}{M:List (List Int)}{a b:Nat}{t:Int}(ok:MatOk n M)(c:a<n)(d:b<n)(i j:Nat):Z9 (Mw M a b t) i j=if b=i/\a=j then t else if a=i/\b=j then t else Z9 M i j:=by obtain⟨e,f⟩:=Vv ok.len ok.row c;unfold Mw;rw[M6 e f d c,M6 ok.len ok.row c d]
theorem ES{n:Nat}{M:List (List Int)}{a b:Nat}{t:Int}(ok:MatOk n M)(f:a<n)(g:b<n)(e:a≠b)(q:0<=t)(o:t<=9):MatOk n (Mw M a b t):=by
 obtain⟨h,k⟩:=Vv ok.len ok.row f;obtain⟨m,l⟩:=Vv h k g;have E:=Mx (t:=t) ok f g;refine⟨m,l,λi j c d=>?_,λi j c d=>?_,λi j c d=>?_,λi c=>?_⟩
 ·have:=ok.lo i j c d;rw[E];split<;>(try split)<;>omega
 ·have:=ok.hi i j c d;rw[E];split<;>(try split)<;>omega
 ·have:=ok.sym i j c d;rw[E,E];by_cases p:b=i/\a=j
  ·rw[nZ p];by_cases p2:b=j/\a=i
   ·rw[nZ p2]
   ·rw[ng p2,nZ ⟨p.2,p.1⟩]
  ·rw[ng p];by_cases p2:a=i/\b=j
   ·rw[nZ p2,nZ ⟨p2.2,p2.1⟩]
   ·rw[ng p2,ng (λz=>p2 ⟨z.2,z.1⟩),ng (λz=>p ⟨z.2,z.1⟩)];exact this
 ·rw[E,ng (λz=>e (by omega)),ng (λz=>e (by omega))];exact ok.dia i c
theorem LV{n:Nat}{M:List (List Int)}{a b:Nat}{k:Int}(ok:MatOk n M)(d:a<n)(f:b<n):VG [.lst (rL M),.int (a:Int),.int (b:Int),.int k]=aA (.lst (rL (Mw M a b (if Z9 M a b+k<9 then Z9 M a b+k else 9)))):=by
 have g:(rL M).length=n:=by unfold rL;rw[aP];exact ok.len
 generalize q:(if Z9 M a b+k<9 then Z9 M a b+k else 9)=t;have s:So (rL M) (a:Int)=aA (.lst (iL (ZT M a))):=Vt (Jy (by rw[ok.len];exact d));have r:So (iL (ZT M a)) (b:Int)=aA (.int (Z9 M a b)):=Xy (by rw[ok.row a d];exact f);have h:=Vv (t:=t) (b:=b) ok.len ok.row d;have e:(rL (Sz M a b t)).length=n:=by unfold rL;rw[aP];exact h.1
 have o:Zq 4 (eP (Zc Lc [eC (.int 9),Zi Yb (Zi ZJ (Zi ZJ (Za 0) (Za 1)) (Za 2)) (Za 3)])) [aA (.lst (rL M)),aA (.int (a:Int)),aA (.int (b:Int)),aA (.int k),none]=aA (.nx [aA (.lst (rL M)),aA (.int (a:Int)),aA (.int (b:Int)),aA (.int k),aA (.int t)]):=by simp[s,r,q]
 have i:VD 0 (Za 1) (Za 2) (Za 4) [aA (.lst (rL M)),aA (.int (a:Int)),aA (.int (b:Int)),aA (.int k),aA (.int t)]=aA (.nx [aA (.lst (rL (Sz M a b t))),aA (.int (a:Int)),aA (.int (b:Int)),aA (.int k),aA (.int t)]):=by rw[Q0 (l:=.int t) (a:=(a:Int)) (b:=(b:Int)) (j:=a) (c:=b) (m:=rL M) (n:=iL (ZT M a)) rfl rfl rfl rfl (UW (by rw[g];exact d)) (Jy (by rw[ok.len];exact d)) (Yg _) rfl (UW (by rw[aP,ok.row a d];exact f)),EK];rfl
 have p:VD 0 (Za 2) (Za 1) (Za 4) [aA (.lst (rL (Sz M a b t))),aA (.int (a:Int)),aA (.int (b:Int)),aA (.int k),aA (.int t)]=aA (.nx [aA (.lst (rL (Mw M a b t))),aA (.int (a:Int)),aA (.int (b:Int)),aA (.int k),aA (.int t)]):=by rw[Q0 (l:=.int t) (a:=(b:Int)) (b:=(a:Int)) (j:=b) (c:=a) (m:=rL (Sz M a b t)) (n:=iL (ZT (Sz M a b t) b)) rfl rfl rfl rfl (UW (by rw[e];exact f)) (Jy (by rw[h.1];exact f)) (Yg _) rfl (UW (by rw[aP,h.2 b f];exact d)),EK];rfl
 show fnC 5 Qd _=_;unfold fnC;rw[nZ (by rfl)];unfold Qd;show(Zm _ _ [aA (.lst (rL M)),aA (.int (a:Int)),aA (.int (b:Int)),aA (.int k),none]).bind Zc8=_;rw[Yp o,Yp i,p];rfl
theorem IH{i:Nat}{D:List PV->Option PV}{fs:List XE}{s:ZE}{l0 l':PV}{ls:List PV}(c:s[i]?=aA (aA l0))(d:RU fs s=aA ls)(b:ZK ls=aC)(a:D (l0::ls)=aA l'):Lr i D fs s=aA (.nx (s.set i (aA l'))):=by unfold Lr;rw[c];simp only[d,aT,b,if_true,a,eD]
theorem GB{s:ZE}{n:Nat}(h:s[3]?=aA (aA (.int (n:Int))))(a:n<=7):Zu 1 [3] (ZX [Za 3]) (.one 0) Zy (Zi Lk (TQ [eC (.int 0)]) (Za 1)) s=aA (.lst (rL (aY n (aY n 0)))):=by
 rw[ZZ (aM n) (λi=>.int (i:Int)) (λ_=>.lst (iL (aY n 0))) (Z6 (by simp[h]) (by omega)) (by simp;omega) (λi _=>⟨_,rfl,rfl,?_⟩)]
 ·unfold rL;rw[List.map_const',cL,List.map_replicate]
 ·have e:Lk (.lst [.int 0]) (.int (n:Int))=aA (.lst (iL (aY n 0))):=by show(if ZK [PV.int 0]=aC/\(-1000000:Int)<=(n:Int)/\(n:Int)<=1000000/\[PV.int 0].length*((n:Int)).toNat<=10000 then aA (PV.lst (aY ((n:Int)).toNat [PV.int 0]).flatten) else none)=_;rw[nZ ⟨rfl,by omega,by omega,by simp;omega⟩];simp
  simp[ZQ,h,e]
noncomputable def Grown(M:List (List Int))(l:List Int)(k:Nat):Prop:=∀j,1<=j->j<k->∃j',j'<j/\0<Z9 M (Zp l j).toNat (Zp l j').toNat
theorem Grown.mono{M c:List (List Int)}{l:List Int}{k:Nat}(h:Grown M l k)(g:∀i j,0<Z9 M i j->0<Z9 c i j):Grown c l k:=λj f d=>by obtain⟨e,a,b⟩:=h j f d;exact⟨e,a,g _ _ b⟩
theorem Grown.conn{M:List (List Int)}{l:List Int}{n:Nat}(h:Grown M l n)(r:M.length=n)(d:NamesOk n l):UH M:=by
 intro P t i j g p;rw[r] at g p;have lt:∀x,x<n->(Zp l x).toNat<M.length:=λx c=>by have:=d.at c;omega
 have all:∀k,k<n->(P (Zp l k).toNat↔P (Zp l 0).toNat):=by
  intro k
  induction k using m7 with
  | ind k ih=>
   intro o;by_cases q:k=0
   ·subst q;exact Iff.rfl
   ·obtain⟨m,a,b⟩:=h k (by omega) o;exact(t _ _ (lt k o) (lt m (by omega)) b).trans (ih m a (by omega))
 have f:∀i,i<n->∃x,x<n/\(Zp l x).toNat=i:=λi g=>by have:=Zfh d.nd (λx c=>⟨x.toNat,by have:=d.hi x c;omega,by have:=d.lo x c;omega⟩) d.len g;obtain⟨x,c,e⟩:=Mv this;exact⟨x,by rw[<-d.len];exact c,by rw[e];rfl⟩
 obtain⟨x,c,rfl⟩:=f i g;obtain⟨y,s,rfl⟩:=f j p;exact(all x c).trans (all y s).symm
theorem II{n:Nat}{M:List (List Int)}{a b:Nat}{t:Int}(ok:MatOk n M)(d:a<n)(e:b<n)(c:0<t):(∀i j,0<Z9 M i j->0<Z9 (Mw M a b t) i j)/\0<Z9 (Mw M a b t) a b:=by
 refine⟨λi j h=>?_,?_⟩
 ·rw[Mx ok d e];split
  ·exact c
  ·split
   ·exact c
   ·exact h
 ·rw[Mx ok d e];split
  ·exact c
  ·rw[nZ ⟨rfl,rfl⟩];exact c
noncomputable def sW(ns:List Int)(mo:Nat)(c n:Nat->Int)(x:Nat):Unit:=()
noncomputable def WK(ns:List Int)(mo n:Nat)(M:List (List Int))(sp:List Int)(x6 x7 x8 x9:Option PV):ZE:=[aA (.cst (iL ns)),aA (.int (mo:Int)),aA (.int (Yl ns 0)),aA (.int (n:Int)),aA (.lst (rL M)),aA (.lst (iL sp)),x6,x7,x8,x9]
abbrev bW1:XS:=VC 5 (Zc Zz [Zc Z3 [Za 0,Zi Yb (eC (.int 6)) (Za 6)],eC (.int 10),Zi Yb (Za 6) (eC (.int 1))]) (Za 6)
abbrev bW2:XS:=Zm (Zq 7 (Zc Z3 [Za 0,Za 6]))
  (Lr 4 VG [Zi ZJ (Za 5) (Za 6),Zi ZJ (Za 5) (Zc Zz [Za 7,eC (.int 1),Za 6]),Zi Yb (eC (.int 1)) (Zc Zz [Za 7,eC (.int 2),eC (.int 3)])])
abbrev bW3:XS:=(Zm (Zq 7 (Zc Z3 [Za 0,Zi Yb (eC (.int 7)) (Za 6)]))
  (Zm (Zq 8 (Zc Zz [Za 7,eC (.int 4),Za 3]))
  (Zm (Zq 9 (eP (Zi Xq (Zi Yb (Zi Yb (Za 8) (eC (.int 1))) (Zc Zz [Za 7,eC (.int 5),Zi Y5 (Za 3) (eC (.int 1))])) (Za 3))))
  (Lr 4 VG [Za 8,Za 9,Zi Yb (eC (.int 1)) (Zc Zz [Za 7,eC (.int 6),eC (.int 2)])]))))
theorem Za4{a:List Int}{mo n:Nat}{M:List (List Int)}{sp:List Int}{x7 x8 x9:Option PV}{i:Nat}(b:a.length<=63)(h:i<7)(d:NamesOk i sp) :
  ∃sp',NamesOk (i+1) sp'/\bW1 (WK a mo n M sp (aA (.int (i:Int))) x7 x8 x9)=aA (.nx (WK a mo n M sp' (aA (.int (i:Int))) x7 x8 x9)):=by
 obtain⟨v,j,e⟩:=Wr (Yl a (6+i)) (t:=10) (m:=i+1) (by omega) (by omega);have c:=XG b (k:=6+i) (by omega);refine⟨sp.take v++(i:Int)::sp.drop v,d.ins v,?_⟩;unfold bW1;rw[QZ (k:=(v:Int)) (l:=.int (i:Int)) (m:=iL sp) ?_ rfl rfl (Yg sp) rfl (by omega) (by omega) (by rw[aP,d.len];omega),gF,EL]
 ·rfl
 ·have g:((6+i:Nat):Int)=6+(i:Int):=by omega
  have f:((i+1:Nat):Int)=(i:Int)+1:=by omega
  rw[g] at c;rw[f] at e;simp[WK,c];exact e
theorem Za5{c:List Int}{mo n:Nat}{M:List (List Int)}{sp:List Int}{x7 x8 x9:Option PV}{k:Nat}(o:c.length<=63)(Q:n<=7)(B:1<=k)(h:k<n)(d:NamesOk n sp)(ok:MatOk n M)(C:Grown M sp k) :
  ∃M' y7,MatOk n M'/\Grown M' sp (k+1)/\bW2 (WK c mo n M sp (aA (.int (k:Int))) x7 x8 x9)=aA (.nx (WK c mo n M' sp (aA (.int (k:Int))) y7 x8 x9)):=by
 obtain⟨v,E,F⟩:=Wr (Yl c k) (t:=1) (m:=k) (by omega) (by omega);obtain⟨w,R,D⟩:=Wr (Yl c k) (t:=2) (m:=3) (by omega) (by omega);have J:=XG o (k:=k) (by omega);have P:=d.at (x:=k) h;have N:=d.at (x:=v) (by omega);have ne:=d.ne (x:=k) (y:=v) h (by omega) (by omega);obtain⟨a,ea⟩:∃a:Nat,Zp sp k=(a:Int):=⟨(Zp sp k).toNat,by omega⟩;obtain⟨b,r⟩:∃b:Nat,Zp sp v=(b:Int):=⟨(Zp sp v).toNat,by omega⟩;have e:a<n:=by omega
 have f:b<n:=by omega
 have z:=LV (k:=1+(w:Int)) ok e f;have lo:=ok.lo a b e f;generalize H:(if Z9 M a b+(1+(w:Int))<9 then Z9 M a b+(1+(w:Int)) else 9)=t at z;have s:0<t/\t<=9:=by rw[<-H];split<;>omega
 have A:=Xy (l:=sp) (k:=k) (by rw[d.len];exact h);have u:=Xy (l:=sp) (k:=v) (by rw[d.len];omega);rw[ea] at A;rw[r] at u;obtain⟨G,L⟩:=II ok e f s.1;refine⟨Mw M a b t,aA (.int (Yl c k)),ES ok e f (by omega) (by omega) s.2,λj B O=>?_,?_⟩
 ·by_cases q:j<k
  ·exact(C.mono G) j B q
  ·have:j=k:=by omega
   subst this;exact⟨v,E,by rw[ea,r];exact L⟩
 ·have I:Zq 7 (Zc Z3 [Za 0,Za 6]) (WK c mo n M sp (aA (.int (k:Int))) x7 x8 x9)=aA (.nx (WK c mo n M sp (aA (.int (k:Int))) (aA (.int (Yl c k))) x8 x9)):=by simp[WK,J]
  unfold bW2;rw[Yp I,IH (i:=4) (l0:=.lst (rL M)) (ls:=[.int (a:Int),.int (b:Int),.int (1+(w:Int))]) rfl ?_ rfl z]
  ·rfl
  ·have g:Zz [PV.int (Yl c k),PV.int 1,PV.int (k:Int)]=aA (.int (v:Int)):=F;have p:Zz [PV.int (Yl c k),PV.int 2,PV.int 3]=aA (.int (w:Int)):=D;simp[WK,A,u,g,p]
theorem Za6{e:List Int}{mo n:Nat}{M:List (List Int)}{sp:List Int}{x7 x8 x9:Option PV}{i:Nat}(l:e.length<=63)(P:n<=7)(J:2<=n)(N:i<6)(ok:MatOk n M) :
  ∃M' y7 y8 y9,MatOk n M'/\(∀i j,0<Z9 M i j->0<Z9 M' i j)/\bW3 (WK e mo n M sp (aA (.int (i:Int))) x7 x8 x9)=aA (.nx (WK e mo n M' sp (aA (.int (i:Int))) y7 y8 y9)):=by
 generalize I:Yl e (7+i)=c;obtain⟨a,f,ea⟩:=Wr c (t:=4) (m:=n) (by omega) (by omega);obtain⟨d,L,v⟩:=Wr c (t:=5) (m:=n-1) (by omega) (by omega);obtain⟨w,Q,z⟩:=Wr c (t:=6) (m:=2) (by omega) (by omega);have p:=XG l (k:=7+i) (by omega);rw[I] at p
 obtain⟨b,g,s,A⟩:∃b:Nat,b<n/\a≠b/\((a:Int)+1+(d:Int))%(n:Int)=(b:Int):=by
  refine⟨(a+1+d)%n,ju _ (by omega),?_,?_⟩
  ·by_cases q:a+1+d<n
   ·rw[mP q];omega
   ·rw[Nat.mod_eq_sub_mod (by omega),mP (by omega)];omega
  ·have:((a:Int)+1+(d:Int))=((a+1+d:Nat):Int):=by omega
   rw[this];exact(mQ _ _).symm
 have y:=LV (k:=1+(w:Int)) ok f g;have lo:=ok.lo a b f g;generalize G:(if Z9 M a b+(1+(w:Int))<9 then Z9 M a b+(1+(w:Int)) else 9)=t at y;have x:0<t/\t<=9:=by rw[<-G];split<;>omega
 obtain⟨C,O⟩:=II ok f g x.1;refine⟨Mw M a b t,aA (.int c),aA (.int (a:Int)),aA (.int (b:Int)),ES ok f g s (by omega) x.2,C,?_⟩;have D:((7+i:Nat):Int)=7+(i:Int):=by omega
 rw[D] at p;have H:Zq 7 (Zc Z3 [Za 0,Zi Yb (eC (.int 7)) (Za 6)]) (WK e mo n M sp (aA (.int (i:Int))) x7 x8 x9)=aA (.nx (WK e mo n M sp (aA (.int (i:Int))) (aA (.int c)) x8 x9)):=by simp[WK,p]
 have u:Zz [PV.int c,PV.int 4,PV.int (n:Int)]=aA (.int (a:Int)):=ea;have B:Zq 8 (Zc Zz [Za 7,eC (.int 4),Za 3]) (WK e mo n M sp (aA (.int (i:Int))) (aA (.int c)) x8 x9)=aA (.nx (WK e mo n M sp (aA (.int (i:Int))) (aA (.int c)) (aA (.int (a:Int))) x9)):=by simp[WK,u]
 have o:((n-1:Nat):Int)=(n:Int)-1:=by omega
 rw[o] at v;have h:Zz [PV.int c,PV.int 5,PV.int ((n:Int)-1)]=aA (.int (d:Int)):=v;have E:0<n:=by omega
 have F:Zq 9 (eP (Zi Xq (Zi Yb (Zi Yb (Za 8) (eC (.int 1))) (Zc Zz [Za 7,eC (.int 5),Zi Y5 (Za 3) (eC (.int 1))])) (Za 3))) (WK e mo n M sp (aA (.int (i:Int))) (aA (.int c)) (aA (.int (a:Int))) x9)=aA (.nx (WK e mo n M sp (aA (.int (i:Int))) (aA (.int c)) (aA (.int (a:Int))) (aA (.int (b:Int))))):=by simp[WK,h,E,A]
 have r:Zz [PV.int c,PV.int 6,PV.int 2]=aA (.int (w:Int)):=z;unfold bW3;rw[Yp H,Yp B,Yp F,IH (i:=4) (l0:=.lst (rL M)) (ls:=[.int (a:Int),.int (b:Int),.int (1+(w:Int))]) rfl ?_ rfl y]
 ·rfl
 ·simp[WK,r]
theorem ET{a:List Int}(x:a.length<=63){mo:Nat}(h1:1<=mo)(h7:mo<=7):∃W,NQ [.cst (iL a),.int (mo:Int)]=aA (wP W)/\ZU W/\UH W/\W.length<=mo:=by
 obtain⟨H,hp0,N⟩:=Wr (Yl a 0) (t:=0) (m:=mo) (by omega) (by omega);have C:Zz [PV.int (Yl a 0),PV.int 0,PV.int (mo:Int)]=aA (.int (H:Int)):=N;have S:=XG x (k:=0) (by omega);have F:Z3 [PV.cst (iL a),PV.int 0]=aA (.int (Yl a 0)):=S;obtain⟨n,hn⟩:∃n:Nat,n=1+H:=⟨_,rfl⟩;have X:(1:Int)+(H:Int)=(n:Int):=by omega
 let Z:=aY n (aY n (0:Int));have e1:Zq 2 (Zc Z3 [Za 0,eC (.int 0)]) [aA (.cst (iL a)),aA (.int (mo:Int)),none,none,none,none,none,none,none,none]=aA (.nx [aA (.cst (iL a)),aA (.int (mo:Int)),aA (.int (Yl a 0)),none,none,none,none,none,none,none]):=by simp[F]
 have e2:Zq 3 (eP (Zi Yb (eC (.int 1)) (Zc Zz [Za 2,eC (.int 0),Za 1]))) [aA (.cst (iL a)),aA (.int (mo:Int)),aA (.int (Yl a 0)),none,none,none,none,none,none,none]=aA (.nx [aA (.cst (iL a)),aA (.int (mo:Int)),aA (.int (Yl a 0)),aA (.int (n:Int)),none,none,none,none,none,none]):=by simp[C,X]
 have e3:Zq 4 (Zu 1 [3] (ZX [Za 3]) (.one 0) Zy (Zi Lk (TQ [eC (.int 0)]) (Za 1))) [aA (.cst (iL a)),aA (.int (mo:Int)),aA (.int (Yl a 0)),aA (.int (n:Int)),none,none,none,none,none,none]=aA (.nx [aA (.cst (iL a)),aA (.int (mo:Int)),aA (.int (Yl a 0)),aA (.int (n:Int)),aA (.lst (rL Z)),none,none,none,none,none]):=by rw[Yk,GB (n:=n) rfl (by omega)];rfl
 have e4:Zq 5 (TQ []) [aA (.cst (iL a)),aA (.int (mo:Int)),aA (.int (Yl a 0)),aA (.int (n:Int)),aA (.lst (rL Z)),none,none,none,none,none]=aA (.nx (WK a mo n Z [] none none none none)):=by simp[WK]
 -- the houses' order
 obtain⟨s5,f5,sp,z,I,E⟩:=WB (T:=.one 6) (fb:=bW1) (ls:=TX n) (s:=WK a mo n Z [] none none none none)
  (λi st=>∃sp z,st=WK a mo n Z sp z none none none/\NamesOk i sp) ⟨[],none,rfl,NamesOk.nil⟩ (by
   rintro i l st B ⟨sp,z,rfl,E⟩;obtain⟨hi,rfl⟩:=Um B;obtain⟨sp',U,e⟩:=Za4 (mo:=mo) (n:=n) (M:=Z) (x7:=none) (x8:=none) (x9:=none) x (by omega) E;exact⟨_,_,rfl,e,sp',_,rfl,U⟩)
 subst I;rw[QV] at E;have e5:Y6 [4,5] (ZX [Za 3]) (.one 6) bW1 (WK a mo n Z [] none none none none)=aA (.nx (WK a mo n Z sp z none none none)):=by show(ZX [Za 3] (Ym [4,5] (WK a mo n Z [] none none none none))).bind _=_;rw[Z6 (n:=n) (by simp[WK,Ym]) (by omega)];exact f5
 -- each to one ahead
 obtain⟨s6,f6,M,o,g,J,p,G⟩:=WB (T:=.one 6) (fb:=bW2) (ls:=Tg 1 (n-1)) (s:=WK a mo n Z sp z none none none)
  (λi st=>∃M o g,st=WK a mo n M sp o g none none/\MatOk n M/\Grown M sp (i+1)) ⟨Z,z,none,rfl,MatOk.zero n,λj h1 h2=>by omega⟩ (by
   rintro i l st B ⟨M,o,g,rfl,p,G⟩;obtain⟨hi,rfl⟩:=Lo B;have hk:(1:Int)+(i:Int)=((i+1:Nat):Int):=by omega
   rw[hk];obtain⟨d,h,b,f,e⟩:=Za5 (mo:=mo) (x7:=g) (x8:=none) (x9:=none) (k:=i+1) x (by omega) (by omega) (by omega) E p G;exact⟨_,_,rfl,e,d,_,h,rfl,b,f⟩)
 subst J;rw[Lp] at G
 have e6:Y6 [4,5] (Vh [eC (.int 1),Za 3]) (.one 6) bW2 (WK a mo n Z sp z none none none)=aA (.nx (WK a mo n M sp o g none none)):=by
  show(Vh [eC (.int 1),Za 3] (Ym [4,5] (WK a mo n Z sp z none none none))).bind _=_;rw[UU (i:=1) (j:=(n:Int)) rfl (by simp[WK,Ym]) (by omega) (by omega)];have:((n:Int)-1).toNat=n-1:=by omega
  rw[this];exact f6
 have D:Grown M sp n:=λj h1 h2=>G j h1 (by omega)
 -- more ties
 obtain⟨Q,hp3,O⟩:=Wr (Yl a 0) (t:=3) (m:=6) (by omega) (by omega);have A:Zz [PV.int (Yl a 0),PV.int 3,PV.int 6]=aA (.int (Q:Int)):=O
 have P:∃d y h w u,MatOk n d/\Grown d sp n/\SM (xB (Zi M8 (Za 3) (eC (.int 1)))) (Y6 [4,5] (ZX [Zc Zz [Za 2,eC (.int 3),eC (.int 6)]]) (.one 6) bW3) Yr (WK a mo n M sp o g none none)=aA (.nx (WK a mo n d sp y h w u)):=by
  by_cases q:1<n
  ·obtain⟨s7,f7,d,y,h,w,u,hs7,b,f⟩:=WB (T:=.one 6) (fb:=bW3) (ls:=TX Q) (s:=WK a mo n M sp o g none none)
    (λi st=>∃d y h w u,st=WK a mo n d sp y h w u/\MatOk n d/\Grown d sp n) ⟨M,o,g,none,none,rfl,p,D⟩ (by
     rintro i l st B ⟨d,y,h,w,u,rfl,b,f⟩;obtain⟨hi,rfl⟩:=Um B;obtain⟨M2,u7,u8,u9,L,g2,e⟩:=Za6 (mo:=mo) (sp:=sp) (x7:=h) (x8:=w) (x9:=u) (i:=i) x (by omega) (by omega) (by omega) b;exact⟨_,_,rfl,e,M2,_,u7,u8,u9,rfl,L,f.mono g2⟩)
   subst hs7;refine⟨d,y,h,w,u,b,f,?_⟩
   have c:xB (Zi M8 (Za 3) (eC (.int 1))) (WK a mo n M sp o g none none)=aA aC:=by
    have Y:(1:Int)<(n:Int):=by omega
    simp[WK,q,Y]
   rw[Xm,c];simp only[aT,if_true];show(ZX [Zc Zz [Za 2,eC (.int 3),eC (.int 6)]] (Ym [4,5] (WK a mo n M sp o g none none))).bind _=_;rw[Z6 (n:=Q) (by simp[WK,Ym,A]) (by omega)];exact f7
  ·refine⟨M,o,g,none,none,p,D,?_⟩
   have c:xB (Zi M8 (Za 3) (eC (.int 1))) (WK a mo n M sp o g none none)=aA aB:=by
    have Y:¬(1:Int)<(n:Int):=by omega
    simp[WK,Y]
   rw[Xm,c];rfl
 obtain⟨d,y,h,w,u,b,f,P⟩:=P;refine⟨d,?_,b.web (by omega) (by omega),f.conn b.len E,by rw[b.len];omega⟩;have R:Zu 1 [] (Vy (Za 4)) (.one 0) Zy (Zc ZN [Za 0]) (WK a mo n d sp y h w u)=aA (.lst (d.map pP)):=by rw[ZZ d (λr=>.lst (iL r)) pP (by simp[WK,rL]) (by rw[b.len];omega) (λr _=>⟨_,rfl,rfl,by simp[ZQ]⟩)]
 show Yy 10 NP _=_;unfold NP;show(Zm _ _ [aA (.cst (iL a)),aA (.int (mo:Int)),none,none,none,none,none,none,none,none]).bind Uj=_;rw[Yp e1,Yp e2,Yp e3,Yp e4,Yp e5,Yp e6,Yp P,Ou (v:=wP d)]
 ·rfl
 ·rw[NL,YB,ZA,R];simp
theorem O8{z:Int}(h:z.natAbs<2^1000):z.natAbs.log2<67108863:=by
 by_cases a:z.natAbs=0
 ·rw[a];decide +kernel
 ·have:=(kU a).mpr h;omega
noncomputable def nL(l:List Nat):List Int:=l.map λ(i:Nat)=>(i:Int)
theorem EU{y:Nat}{l:List Nat}:(y:Int)∈nL l↔y∈l:=by unfold nL;rw[br];exact⟨λ⟨a,h,e⟩=>by rw[show y=a by omega];exact h,λh=>⟨y,h,rfl⟩⟩
noncomputable def XH(W:List (List Int))(h:Nat)(F:List Nat):Int:=(F.map λo=>Z9 W h o).sum
theorem ties_comp2{W:List (List Int)}{h i j k:Nat}{F:List Nat}{s:ZE}(ok:ZU W)(a:h<W.length)(g:∀x∈F,x<W.length)(m:F.length<=100)(b:s[i]?=aA (aA (wP W)))(e:s[j]?=aA (aA (.int (h:Int))))(c:s[k]?=aA (aA (.lst (iL (nL F))))) :
  Zc Vw [Zu 1 [i,j] (Vy (Za k)) (.one 0) Zy (Zi ZJ (Zi ZJ (Za 1) (Za 2)) (Za 0))] s=aA (.int (XH W h F)):=by
 have f:Zu 1 [i,j] (Vy (Za k)) (.one 0) Zy (Zi ZJ (Zi ZJ (Za 1) (Za 2)) (Za 0)) s=aA (.lst (iL (F.map λo=>Z9 W h o))):=by
  rw[ZZ F (λo=>.int (o:Int)) (λo=>.int (Z9 W h o)) (by simp[c,nL]) (by omega) (λo l=>⟨_,rfl,rfl,?_⟩)]
  ·simp
  ·have d:=ok.sq h a;have:=Xy (by rw[d];exact g o l);simp[ZQ,b,e,UT a,this];rfl
 simp only[YB,ZA,f];exact SQ _
theorem LW{W:List (List Int)}{h:Nat}{F:List Nat}{X:PV}(ok:ZU W)(a:h<W.length)(c:∀x∈F,x<W.length)(f:F.length<=100)(e:xSq (Za 2) [aA (wP W),aA (.int (h:Int)),aA X]=aA (iL (nL F))):Vm [wP W,.int (h:Int),X]=aA (.int (XH W h F)):=by
 have b:Zu 1 [0,1] (xSq (Za 2)) (.one 0) Zy (Zi ZJ (Zi ZJ (Za 1) (Za 2)) (Za 0)) [aA (wP W),aA (.int (h:Int)),aA X]=aA (.lst (iL (F.map λo=>Z9 W h o))):=by
  rw[ZZ F (λo=>.int (o:Int)) (λo=>.int (Z9 W h o)) (by rw[e];simp[nL]) (by omega) (λo d=>⟨_,rfl,rfl,?_⟩)]
  ·simp
  ·have:=Xy (by rw[ok.sq h a];exact c o d);simp[ZQ,UT a,this];rfl
 show(ZM _ [aA (wP W),aA (.int (h:Int)),aA X]).bind Uj=_
 rw[Ou (vP (by
  simp only[YB,ZA,b];exact SQ _))]
 rfl
theorem JB{W:List (List Int)}{h:Nat}{F:List Nat}(ok:ZU W)(b:h<W.length)(c:∀x∈F,x<W.length)(a:F.length<=100):Vm [wP W,.int (h:Int),.lst (iL (nL F))]=aA (.int (XH W h F)):=LW ok b c a (Zc7 rfl)
theorem RA{d:Type}{T:Tgt}{fb:XS}{q g:d->PV}{c:d->Bool}(S:ZE->Prop):∀{ls:List d}{s:ZE},(∀a∈ls,∀s,S s->∃s1,Xj T (q a) s=aA s1/\((c a=aC->fb s1=aA (.rt (g a)))/\(c a=aB->∃s2,fb s1=aA (.nx s2)/\S s2)))->S s->
  match ls.find? c with | some a=>V9 T fb (ls.map q) s=aA (.rt (g a)) | none=>∃s',V9 T fb (ls.map q) s=aA (.nx s')/\S s'
 | [],s,_,h0=>⟨s,rfl,h0⟩
 | a::r,s,h,h0=>by
  obtain⟨s1,f,l,n⟩:=h a af s h0;rw[List.find?_cons]
  cases ca:c a with
  | true=>
   show V9 T fb (q a::r.map q) s=_;unfold V9;rw[f];simp only[aT,l ca]
  | false=>
   obtain⟨s2,i,j⟩:=n ca;have k:=RA S (ls:=r) (s:=s2) (λb m=>h b (aW _ m)) j
   have e:V9 T fb ((a::r).map q) s=V9 T fb (r.map q) s2:=by
    show V9 T fb (q a::r.map q) s=_;unfold V9;rw[f];simp only[aT,i];cases r.map q<;>rfl
   rw[e];exact k
noncomputable def Xn(W:List (List Int))(D:List Int)(F:List Nat):Option Nat:=(aM W.length).find? λh=>!decide (h∈F)&&decide (Zp D h<XH W h F)
noncomputable def PQ:Option Nat->PV
 | none=>.non
 | some h=>.int (h:Int)
theorem JC(y:Nat)(l:List Nat):HC aC (.int (y:Int)) (.lst (iL (nL l)))=aA (.bl (!decide (y∈l))):=by rw[Ac];have:=EU (y:=y) (l:=l);simp[this]
theorem C6(y:Nat)(l:List Nat):HC aB (.int (y:Int)) (.lst (iL (nL l)))=aA (.bl (decide (y∈l))):=by rw[Ac];have:=EU (y:=y) (l:=l);simp[this]
theorem RD{W:List (List Int)}{D:List Int}{F:List Nat}(ok:ZU W)(k:D.length=W.length)(l:∀x∈F,x<W.length)(j:F.length<=100):Z1 [wP W,pP D,.lst (iL (nL F))]=aA (PQ (Xn W D F)):=by
 have a:=RA (T:=.many [3,4]) (fb:=SM (QE (xB (Zi (HC aC) (Za 3) (Za 2))) (xB (Zi Hz (Za 4) (Zc Vm [Za 0,Za 3,Za 2])))) (ZM (eP (Za 3))) Yr) (q:=λ(i:Nat)=>.tup [.int (i:Int),.int (Zp D i)]) (g:=λi=>.int (i:Int)) (c:=λh=>!decide (h∈F)&&decide (Zp D h<XH W h F))
  (λst=>∃x y,st=[aA (wP W),aA (pP D),aA (.lst (iL (nL F))),x,y]) (ls:=aM W.length) (s:=[aA (wP W),aA (pP D),aA (.lst (iL (nL F))),none,none]) (by
   rintro h d st ⟨x,y,rfl⟩;have d:=aU.mp d;have f:=JB ok d l j;refine⟨_,rfl,λb=>?_,λb=>?_⟩
   ·simp only[bX] at b;simp[setAll,JC,b.1,f,b.2]
   ·refine⟨[aA (wP W),aA (pP D),aA (.lst (iL (nL F))),aA (.int (h:Int)),aA (.int (Zp D h))],?_,_,_,rfl⟩;by_cases q:h∈F
    ·simp[setAll,JC,q]
    ·have:¬Zp D h<XH W h F:=λz=>by simp[q,z] at b
     simp[setAll,JC,q,f,this]) ⟨_,_,rfl⟩
 have e:Xs aB [Za 1] [aA (wP W),aA (pP D),aA (.lst (iL (nL F))),none,none]=aA ((aM W.length).map λi=>.tup [.int (i:Int),.int (Zp D i)]):=by have:=Qk D;rw[k] at this;simp[this]
 show(Zm (Y6 [] _ _ _) _ [aA (wP W),aA (pP D),aA (.lst (iL (nL F))),none,none]).bind Uj=_;unfold Xn
 cases q:(aM W.length).find? λh=>!decide (h∈F)&&decide (Zp D h<XH W h F) with
 | some h=>
  rw[q] at a;rw[ER]
  ·rfl
  ·show(Xs aB [Za 1] [aA (wP W),aA (pP D),aA (.lst (iL (nL F))),none,none]).bind _=_;rw[e];exact a
 | none=>
  rw[q] at a;obtain⟨m,k1,x,y,rfl⟩:=a;rw[Yp]
  ·rfl
  ·show(Xs aB [Za 1] [aA (wP W),aA (pP D),aA (.lst (iL (nL F))),none,none]).bind _=_;rw[e];exact k1
theorem Za7{c:XT}{fb:XS}(g:ZE->Prop)(i:ZE->Nat)(step:∀st,g st->c st=aA aB\/(c st=aA aC/\∃s2,fb st=aA (.nx s2)/\g s2/\i s2<i st)){s:ZE}(o:g s) :
  ∃f,Xl c fb s=aA (.nx f)/\g f/\c f=aA aB:=by
 have l:∀(k:Nat)(st:ZE),i st<k->g st->∃f,Yt c fb k st=aA (.nx f)/\g f/\c f=aA aB:=by
  intro k
  induction k with
  | zero=>intro st h;omega
  | succ k ih=>
   intro st p n;rcases step st n with j | ⟨j,s2,e,m,q⟩
   ·exact⟨st,by unfold Yt;rw[j];rfl,n,j⟩
   ·obtain⟨f,a,b,d⟩:=ih s2 (by omega) m;refine⟨f,?_,b,d⟩;unfold Yt;rw[j];simp only[e];exact a
 obtain⟨f,a,b,d⟩:=l (i s+1) s (by omega) o;exact⟨f,OU a,b,d⟩
structure Burn(W:List (List Int))(D:List Int)(b:Nat)(F:List Nat):Prop where
 nd:F.Nodup
 lt:∀x∈F,x<W.length
 hd:F[0]?=aA b
 st:∀k,1<=k->k<F.length->Xn W D (F.take k)=F[k]?
theorem Burn.len{W:List (List Int)}{D:List Int}{b:Nat}{F:List Nat}(h:Burn W D b F):F.length<=W.length:=by
 have d:(nL F).Nodup:=List.Pairwise.map _ (λa b z=>by omega) h.nd;have:=PK d λy c=>by obtain⟨a,e,rfl⟩:=br.mp c;exact br.mpr ⟨a,aU.mpr (h.lt a e),rfl⟩
 simpa [nL] using this
theorem Burn.pos{W:List (List Int)}{D:List Int}{b:Nat}{F:List Nat}(h:Burn W D b F):1<=F.length:=(aS.mp h.hd).1
theorem Burn.one{W:List (List Int)}{D:List Int}{b:Nat}(d:b<W.length):Burn W D b [b]:=⟨by simp,λx c=>by rw[ah.mp c];exact d,rfl,λk e a=>by simp at a;omega⟩
theorem PR{W:List (List Int)}{D:List Int}{F:List Nat}{h:Nat}(e:Xn W D F=aA h):h<W.length/\h∉F/\Zp D h<XH W h F:=by have a:=m8 e;have b:=jK e;simp only[bX,lu,decide_eq_false_iff_not,decide_eq_true_eq] at a;exact⟨aU.mp b,a⟩
theorem JD{W:List (List Int)}{D:List Int}{F:List Nat}(e:Xn W D F=none){h:Nat}(a:h<W.length)(b:h∉F):XH W h F<=Zp D h:=by have:=lJ.mp e h (aU.mpr a);simp[b] at this;exact this
theorem Burn.add{W:List (List Int)}{D:List Int}{b h:Nat}{F:List Nat}(B:Burn W D b F)(e:Xn W D F=aA h):Burn W D b (F++[h]):=by
 obtain⟨j,g,_⟩:=PR e;have l:=B.pos;refine⟨?_,λx d=>?_,?_,λk k1 k2=>?_⟩
 ·rw[gG];exact⟨B.nd,by simp,λa f c i z=>by rw[ah.mp i] at z;exact g (z▸f)⟩
 ·rcases cB.mp d with d | d
  ·exact B.lt x d
  ·rw[ah.mp d];exact j
 ·rw[ao (by omega)];exact B.hd
 ·rw[bJ,fC] at k2;by_cases q:k<F.length
  ·rw[List.take_append_of_le_length (by omega),ao q];exact B.st k k1 q
  ·have:k=F.length:=by omega
   subst this;rw[m9,e]
   ·simp
   ·rfl
theorem EV{W:List (List Int)}{D:List Int}{b:Nat}(ok:ZU W)(k:D.length=W.length)(g:b<W.length):∃F,Qe [wP W,pP D,.int (b:Int)]=aA (.lst (iL (nL F)))/\Burn W D b F/\Xn W D F=none:=by
 have o:=ok.few;have i:∀F:List Nat,Burn W D b F->Z1 [wP W,pP D,.lst (iL (nL F))]=aA (PQ (Xn W D F)):=λF B=>RD ok k B.lt (by have:=B.len;omega)
 obtain⟨p,n,⟨F,rfl,B⟩,f⟩:=Za7 (c:=xB (SE aC (Za 4))) (fb:=Zm (XI 3 (eP (Za 4))) (Zq 4 (Zc Z1 [Za 0,Za 1,Za 3])))
  (λst=>∃F,st=[aA (wP W),aA (pP D),aA (.int (b:Int)),aA (.lst (iL (nL F))),aA (PQ (Xn W D F))]/\Burn W D b F)
  (λst=>match st[3]? with | some (aA (PV.lst l))=>8-l.length | _=>0) (by
   rintro st ⟨F,rfl,B⟩
   cases e:Xn W D F with
   | none=>exact .inl rfl
   | some h=>
    have B':=B.add e;have j:=B'.len;rw[bJ] at j;refine .inr ⟨by simp[Fx,PQ],[aA (wP W),aA (pP D),aA (.int (b:Int)),aA (.lst (iL (nL (F++[h])))),aA (PQ (Xn W D (F++[h])))],?_,⟨F++[h],rfl,B'⟩,?_⟩
    ·have d:XI 3 (eP (Za 4)) [aA (wP W),aA (pP D),aA (.int (b:Int)),aA (.lst (iL (nL F))),aA (PQ (aA h))]=aA (.nx [aA (wP W),aA (pP D),aA (.int (b:Int)),aA (.lst (iL (nL (F++[h])))),aA (PQ (aA h))]):=by rw[Ti (l:=.int (h:Int)) rfl rfl (by simp[nL];omega)];simp[nL]
     have a:Zq 4 (Zc Z1 [Za 0,Za 1,Za 3]) [aA (wP W),aA (pP D),aA (.int (b:Int)),aA (.lst (iL (nL (F++[h])))),aA (PQ (aA h))]=aA (.nx [aA (wP W),aA (pP D),aA (.int (b:Int)),aA (.lst (iL (nL (F++[h])))),aA (PQ (Xn W D (F++[h])))]):=by have:=i _ B';simp[this]
     rw[Yp d,a]
    ·show 8-(iL (nL (F++[h]))).length<8-(iL (nL F)).length;simp[nL];omega) ⟨[b],rfl,Burn.one g⟩
 have m:Xn W D F=none:=by
  cases e:Xn W D F with
  | none=>rfl
  | some h=>rw[e] at f;simp[Fx,PQ] at f
 refine⟨F,?_,B,m⟩;have d:Zq 3 (TQ [eP (Za 2)]) [aA (wP W),aA (pP D),aA (.int (b:Int)),none,none]=aA (.nx [aA (wP W),aA (pP D),aA (.int (b:Int)),aA (.lst (iL (nL [b]))),none]):=by simp[nL]
 have a:Zq 4 (Zc Z1 [Za 0,Za 1,Za 3]) [aA (wP W),aA (pP D),aA (.int (b:Int)),aA (.lst (iL (nL [b]))),none]=aA (.nx [aA (wP W),aA (pP D),aA (.int (b:Int)),aA (.lst (iL (nL [b]))),aA (PQ (Xn W D [b]))]):=by have:=i _ (Burn.one g);simp[this]
 show(Zm _ _ [aA (wP W),aA (pP D),aA (.int (b:Int)),none,none]).bind Uj=_;rw[Yp d,Yp a,Yp n];rfl
theorem Burn.uniq{W:List (List Int)}{D:List Int}{b:Nat}{F G:List Nat}(d:Burn W D b F)(c:Burn W D b G)(f:Xn W D F=none)(g:Xn W D G=none):F=G:=by
 have j:=d.pos;have l:=c.pos
 have pre:∀k,k<=F.length->k<=G.length->F.take k=G.take k:=by
  intro k
  induction k with
  | zero=>intros;simp
  | succ k ih=>
   intro m i;have e:=ih (by omega) (by omega);rw[mz,mz,e];congr 1;by_cases q:k=0
   ·subst q;rw[d.hd,c.hd]
   ·rw[<-d.st k (by omega) (by omega),<-c.st k (by omega) (by omega),e]
 rcases mD F.length G.length with h | h | h
 ·have:=pre F.length (by omega) (by omega);rw[fV] at this;have a:=c.st F.length (by omega) h;rw[<-this,f,aL h] at a;cases a
 ·have:=pre F.length (by omega) (by omega);rw[fV,h,fV] at this;exact this
 ·have:=pre G.length (by omega) (by omega);rw[fV] at this;have a:=d.st G.length (by omega) h;rw[this,g,aL h] at a;cases a
noncomputable def Xt(D:List Int)(b:Nat):List Nat:=(aM D.length).filter λh=>!decide (h=b)&&decide (Zp D h<0)
theorem PU{D:List Int}{b:Nat}(f:D.length<=1000):YU [pP D,.int (b:Int)]=aA (.lst (iL (nL (Xt D b)))):=by
 have a:Xs aB [Za 0] [aA (pP D),aA (.int (b:Int))]=aA ((aM D.length).map λi=>.tup [.int (i:Int),.int (Zp D i)]):=by have:=Qk D;simp[this]
 have c:Zu 2 [1] (Xs aB [Za 0]) (.many [0,1]) (QE (xB (Zi (XZ aC) (Za 0) (Za 2))) (xB (Zi Hz (Za 1) (eC (.int 0))))) (eP (Za 0)) [aA (pP D),aA (.int (b:Int))]=aA (.lst (iL (nL (Xt D b)))):=by
  rw[VF (aM D.length) (λi=>.tup [.int (i:Int),.int (Zp D i)]) (λi=>.int (i:Int)) (λh=>!decide (h=b)&&decide (Zp D h<0)) a (by simp;omega) λy e=>⟨[aA (.int (y:Int)),aA (.int (Zp D y)),aA (.int (b:Int))],by simp[ZQ,HI],?_,λ_=>by simp⟩]
  ·unfold nL Xt iL;rw[eM];rfl
  ·by_cases q:y=b
   ·subst q;simp
   ·have d:¬(y:Int)=(b:Int):=by omega
    simp[q,d]
 show(ZM _ [aA (pP D),aA (.int (b:Int))]).bind Uj=_;rw[Ou c];rfl
theorem debt_nil{D:List Int}{b:Nat}:Xt D b=[]↔∀h,h<D.length->h≠b->0<=Zp D h:=by
 unfold Xt;rw[List.filter_eq_nil_iff];constructor
 ·intro h x a c;have:=h x (aU.mpr a);simp[c] at this;exact this
 ·intro h x a;by_cases q:x=b
  ·simp[q]
  ·have:=h x (aU.mp a) q;simp[q];omega
theorem EW{D:List Int}{b h:Nat}:h∈Xt D b↔h<D.length/\h≠b/\Zp D h<0:=by unfold Xt;simp
end PW
set_option maxHeartbeats 2000000
namespace PW
open PySem L2 VL VX
section
variable {f g h k l:XE} {s s1:ZE} {a b c d e v r:PV} {i m:Nat} {F G:XS} {x y:XT} {o:Option MP} {p:Bool} {D:List PV->Option PV} {R:Option PV} {ls:List PV}
theorem YZ(q:F (ZC m ls)=aA (.rt v)):Yy m F ls=aA v:=by show(F (ZC m ls)).bind Uj=_;rw[q];rfl
theorem sq(q:F s=aA (.nx s1))(w:G s1=o):Zm F G s=o:=(Yp q).trans w
theorem Zr(q:f s=aA v):Zq i f s=aA (.nx (s.set i (aA v))):=by rw[Yk,q];rfl
theorem ep(q:f s=aA v)(w:Z5 v=aC:=by rfl):eP f s=aA v:=by rw[NL,q,aT,nZ w]
theorem JE{l:List Int}(q:f s=aA (pP l)):eP f s=aA (pP l):=ep q (Yg _)
theorem c1(q:f s=aA a)(w:D [a]=R):Zc D [f] s=R:=by show((f s).bind λx=>aA [x]).bind D=_;rw[q];exact w
theorem c2(q:f s=aA a)(c:g s=aA b)(w:D [a,b]=R):Zc D [f,g] s=R:=by rw[YB,ZA,q,ZA,c];exact w
theorem c3(q:f s=aA a)(e:g s=aA b)(d:h s=aA c)(w:D [a,b,c]=R):Zc D [f,g,h] s=R:=by rw[YB,ZA,q,ZA,e,ZA,d];exact w
theorem c4(q:f s=aA a)(i:g s=aA b)(j:h s=aA c)(e:k s=aA d)(w:D [a,b,c,d]=R):Zc D [f,g,h,k] s=R:=by rw[YB,ZA,q,ZA,i,ZA,j,ZA,e];exact w
theorem c5(q:f s=aA a)(m:g s=aA b)(n:h s=aA c)(i:k s=aA d)(j:l s=aA e)(w:D [a,b,c,d,e]=R):Zc D [f,g,h,k,l] s=R:=by rw[YB,ZA,q,ZA,m,ZA,n,ZA,i,ZA,j];exact w
theorem o2{op:PV->PV->Option PV}(q:f s=aA a)(c:g s=aA b)(w:op a b=R):Zi op f g s=R:=by rw[T4,q,c];exact w
theorem xb(q:f s=aA (.bl p)):xB f s=aA p:=by rw[NM,q];rfl
theorem xn(q:x s=aA p):Fu x s=aA !p:=by rw[FN,q];rfl
theorem xo{p2:Bool}(q:x s=aA p)(a:y s=aA p2):Dw x y s=aA (p || p2):=by
 rw[Ck,q];cases p
 ·exact a
 ·rfl
theorem ea{p2:Bool}(q:f s=aA (.bl p))(a:g s=aA (.bl p2)):RS f g s=aA (.bl (p&&p2)):=by
 rw[FP,xb q];cases p
 ·rfl
 ·exact a
theorem gof(q:x s=aA aB):SM x F Yr s=aA (.nx s):=by rw[Xm,q];rfl
theorem ret(q:f s=aA v):ZM f s=aA (.rt v):=Ou q
theorem neq{l:List Int}(q:f s=aA (pP l))(a:g s=aA (pP l)):xB (Zi (XZ aC) f g) s=aA aB:=xb (o2 q a (by simp))
end
theorem IJ{f g:XE}{s:ZE}{l:List Int}{k:Nat}(b:f s=aA (pP l))(a:g s=aA (.int (k:Int)))(h:k<l.length):QP SK f Li (Tw g) s=aA (pP (l.take k)):=by rw[Wo,b];simp only[aT,R9];unfold Tw;rw[a];simp only[aT];unfold SK;simp only[];rw[ng,Jz];rw[HT.sIx_none,HT.sIx_nat,aP];omega
theorem C7{f g:XE}{s:ZE}{l:List Int}{k:Nat}(b:f s=aA (pP l))(a:g s=aA (.int (k:Int)))(h:k<l.length):QP SK f (Tw (Zi Yb g (eC (.int 1)))) Li s=aA (pP (l.drop (k+1))):=by
 have a:Zi Yb g (eC (.int 1)) s=aA (.int ((k+1:Nat):Int)):=by rw[T4,a];rfl
 rw[Wo,b];simp only[aT,R9];unfold Tw;rw[a];simp only[aT];unfold SK;simp only[];rw[ng,JA];rw[HT.sIx_none,HT.sIx_nat,aP];omega
theorem My{a b:List Int}(h:a.length+b.length<=1000):Q1 (pP a) (pP b)=aA (pP (a++b)):=by unfold Q1;simp only[];rw[nZ (by rw[aP,aP];omega),<-fH]
noncomputable def YH(F:XS)(s:ZE)(Q:PV->Prop):Prop:=∃v,F s=aA (.rt v)/\Q v
noncomputable def We(F:XS)(s:ZE)(R:ZE->Prop):Prop:=∃s1,F s=aA (.nx s1)/\R s1
section
variable {F G:XS} {s s1:ZE} {Q:PV->Prop} {R:ZE->Prop} {v:PV} {f g:XE} {x:XT} {p:Bool} {m i k n:Nat} {ls:List PV} {O:List Nat} {fi:XL} {T:Tgt} {fb:XS} {a b:Int}
theorem Sh(h:YH F (ZC m ls) Q):∃v,Yy m F ls=aA v/\Q v:=by obtain⟨v,e,q⟩:=h;exact⟨v,YZ e,q⟩
theorem LX(h:YH F (ZC m ls) λw=>w=v):Yy m F ls=aA v:=by obtain⟨_,e,rfl⟩:=Sh h;exact e
theorem ZS(q:F s=aA (.nx s1))(h:YH G s1 Q):YH (Zm F G) s Q:=by obtain⟨v,e,a⟩:=h;exact⟨v,sq q e,a⟩
theorem UI(h:We F s R)(a:∀s1,R s1->YH G s1 Q):YH (Zm F G) s Q:=by obtain⟨s1,e,r⟩:=h;exact ZS e (a s1 r)
theorem Wf(q:f s=aA v)(h:Q v):YH (ZM f) s Q:=⟨v,ret q,h⟩
theorem MR(q:F s=aA (.nx s1))(h:R s1):We F s R:=⟨s1,q,h⟩
theorem WL(q:F s=aA (.nx s1))(h:We G s1 R):We (Zm F G) s R:=by obtain⟨s2,e,r⟩:=h;exact⟨s2,sq q e,r⟩
theorem EX{R2:ZE->Prop}(h:We F s R)(a:∀s1,R s1->We G s1 R2):We (Zm F G) s R2:=by obtain⟨s1,e,r⟩:=h;exact WL e (a s1 r)
theorem C8{R2:ZE->Prop}(h:We F s R)(a:∀s1,R s1->R2 s1):We F s R2:=by obtain⟨s1,e,r⟩:=h;exact⟨s1,e,a s1 r⟩
theorem IK(q:x s=aA p)(a:p=aC->We F s R)(b:p=aB->We G s R):We (SM x F G) s R:=by
 unfold We;rw[Xm,q];cases p
 ·exact b rfl
 ·exact a rfl
theorem Mz(I:Nat->ZE->Prop)(d:fi (Ym O s)=aA ls)(g:I 0 s)(st:∀i l s,ls[i]?=aA l->I i s->∃s1,Xj T l s=aA s1/\We fb s1 (I (i+1))):We (Y6 O fi T fb) s (I ls.length):=by
 obtain⟨j,e,q⟩:=WB I g λi l s f h=>by obtain⟨s1,b,s2,a,c⟩:=st i l s f h;exact⟨s1,s2,b,a,c⟩
 refine⟨j,?_,q⟩;unfold Y6;rw[d];exact e
theorem Ad(I:Nat->ZE->Prop)(d:f (Ym O s)=aA (.int (n:Int)))(e:I 0 s)(st:∀i s,i<n->I i s->We fb (s.set k (aA (.int (i:Int)))) (I (i+1)))(a:n<=10000:=by omega):We (Y6 O (ZX [f]) (.one k) fb) s (I n):=by
 have:=Mz (T:=.one k) (fb:=fb) I (Z6 d a) e λi l s c h=>by obtain⟨b,rfl⟩:=Um c;exact⟨_,rfl,st i s b h⟩
 rwa [QV] at this
theorem Zdn(I:Nat->ZE->Prop)(a:f (Ym O s)=aA (.int (m:Int)))(d:g (Ym O s)=aA (.int (n:Int)))(j:I m s)(st:∀i s,m<=i->i<n->I i s->We fb (s.set k (aA (.int (i:Int)))) (I (i+1)))(b:m<=n:=by omega)(o:n<=10000:=by omega):We (Y6 O (Vh [f,g]) (.one k) fb) s (I n):=by
 have e:((n:Int)-(m:Int)).toNat=n-m:=by omega
 have:=Mz (T:=.one k) (fb:=fb) (λi=>I (m+i)) (UU a d (by omega) (by omega)) j λi l s c h=>by obtain⟨p,rfl⟩:=Lo c;exact⟨_,rfl,st (m+i) s (by omega) (by omega) h⟩
 rwa [Lp,e,show m+(n-m)=n by omega] at this
theorem C9{d:Type}{L:List d}{q g:d->PV}(c:d->Bool)(I:ZE->Prop)(f:fi (Ym O s)=aA (L.map q))(l:I s)(st:∀a∈L,∀s,I s->∃s1,Xj T (q a) s=aA s1/\(c a=aC->fb s1=aA (.rt (g a)))/\(c a=aB->We fb s1 I))(hs:∀a,L.find? c=aA a->Q (g a))(j:L.find? c=none->∀s1,I s1->YH G s1 Q):YH (Zm (Y6 O fi T fb) G) s Q:=by
 have b:=RA (T:=T) (fb:=fb) (g:=g) I st l;have e:∀o,V9 T fb (L.map q) s=o->Y6 O fi T fb s=o:=λo h=>by unfold Y6;rw[f];exact h
 cases z:L.find? c with
 | some a=>rw[z] at b;exact⟨_,ER (e _ b),hs a z⟩
 | none=>
  rw[z] at b;obtain⟨s1,k,i⟩:=b;exact ZS (e _ k) (j z s1 i)
theorem goT{o:Option MP}(q:x s=aA aC)(w:F s=o):SM x F G s=o:=by rw[Xm,q];exact w
theorem Zdo{b:Type}{L:List b}{q g:b->PV}{H:XS}(c:b->Bool)(I:ZE->Prop)(j:fi (Ym O s)=aA (L.map q))(l:I s)(st:∀a∈L,∀s,I s->∃s1,Xj T (q a) s=aA s1/\x s1=aA (c a)/\H s1=aA (.rt (g a))/\I s1)(hs:∀a,L.find? c=aA a->Q (g a))(n:L.find? c=none->∀s1,I s1->YH G s1 Q):YH (Zm (Y6 O fi T (SM x H Yr)) G) s Q:=
 C9 (g:=g) c I j l (λa f s i=>by
  obtain⟨s1,e,d,m,k⟩:=st a f s i;exact⟨s1,e,λh=>goT (by rw[d,h]) m,λh=>MR (gof (by rw[d,h])) k⟩) hs n
theorem Zdp{X:List Nat}(I:Nat->ZE->Prop)(a:fi (Ym O s)=aA (iL (nL X)))(c:I 0 s)(st:∀i s (h:i<X.length),I i s->We fb (s.set k (aA (.int ((X[i]:Nat):Int)))) (I (i+1))):We (Y6 O fi (.one k) fb) s (I X.length):=by
 have:=Mz (T:=.one k) (fb:=fb) I a c λi l s b h=>by
  have a:i<X.length:=by have:=(aS.mp b).1;simpa [nL] using this
  have e:l = .int ((X[i]:Nat):Int):=by rw[QT (by simpa [nL] using a)] at b;rw[<-ay b];simp[nL,Zp,a]
  subst e;exact⟨_,rfl,st i s a h⟩
 rwa [show(iL (nL X)).length=X.length by simp[nL]] at this
theorem vmd(q:f s=aA (.int a))(c:g s=aA (.int b))(h:0<b:=by omega):Zi Xq f g s=aA (.int (a%b)):=vC q c h
theorem vad(q:f s=aA (.int a))(c:g s=aA (.int b)):Zi Yb f g s=aA (.int (a+b)):=vI q c
theorem vsb(q:f s=aA (.int a))(c:g s=aA (.int b)):Zi Y5 f g s=aA (.int (a-b)):=vI q c
theorem vlt{a b:Nat}(q:f s=aA (.int (a:Int)))(c:g s=aA (.int (b:Int))):Zi Hz f g s=aA (.bl (decide (a<b))):=o2 q c (by
 show aA (PV.bl (decide ((a:Int)<(b:Int))))=_;rw[decide_eq_decide.mpr Int.ofNat_lt])
theorem vgt{a b:Nat}(q:f s=aA (.int (a:Int)))(c:g s=aA (.int (b:Int))):Zi M8 f g s=aA (.bl (decide (b<a))):=o2 q c (by
 show aA (PV.bl (decide ((a:Int)>(b:Int))))=_;rw[decide_eq_decide.mpr Int.ofNat_lt])
theorem Dy(q:f s=aA (.int a))(c:g s=aA (.int b)):Zi (XZ aB) f g s=aA (.bl (decide (a=b))):=o2 q c (by rw[Ul];rfl)
theorem un1{op:PV->Option PV}{S:Option PV}(q:f s=aA v)(w:op v=S):GW op f s=S:=by unfold GW;rw[q];exact w
theorem EY{S:Option PV}(q:x s=aA aC)(w:f s=S):Fv x f g s=S:=by rw[NN,q];exact w
theorem EZ{S:Option PV}(q:x s=aA aB)(w:g s=S):Fv x f g s=S:=by rw[NN,q,aT,ng (by decide)];exact w
theorem Ba{a:Type}(h:a->PV){L:List a}{y:a}(q:f s=aA (h y))(b:Ib s i=aA (L.map h))(c:L.length<=9000):XI i f s=aA (.nx (s.set i (aA (.lst ((L++[y]).map h))))):=by rw[Ti q b (by rw[aP];omega),fH];rfl
theorem Za9(Q:List Int):WU (iL Q)=(aM Q.length).map λ(i:Nat)=>.tup [.int (i:Int),.int (Zp Q i)]:=by
 rw[WX,aP];exact av λi a=>by rw[Yu Q i (aU.mp a)]
theorem E4{W:List (List Int)}:YG [wP W]=aA (.int (W.length:Int)):=by show aA (PV.int ((W.map pP).length:Int))=_;rw[aP]
theorem Zba{l:List Int}(q:f s=aA (.int (k:Int)))(d:g s=aA (.int a))(b:Ib s i=aA (iL l))(c:k<l.length):X1 i f g s=aA (.nx (s.set i (aA (.lst (iL (l.set k a)))))):=by rw[OX d q b (Yg _) rfl (UW (by rw[aP];exact c)),<-lz]
theorem Zbb{o:List Int}(q:f s=aA (.int (n:Int)))(c:g s=aA (.int a))(b:Ib s i=aA (iL o))(e:n<=1000)(d:o.length<=1000):VC i f g s=aA (.nx (s.set i (aA (.lst (iL (o.take n++a::o.drop n)))))):=by rw[QZ q c b (Yg o) rfl (by omega) (by omega) (by rw[aP];omega),gF,EL]
end
end PW
namespace PW
noncomputable def sN:Nat->(Nat->Int)->Int
 | 0,_=>0
 | n+1,f=>sN n f+f n
theorem Zj{f g:Nat->Int}:∀{n:Nat},(∀i,i<n->f i=g i)->sN n f=sN n g
 | 0,_=>rfl
 | n+1,h=>by show sN n f+f n=sN n g+g n;rw[Zj λi a=>h i (by omega),h n (by omega)]
theorem Ws{f:Nat->Int}{n:Nat}(h:∀i,i<n->f i=0):sN n f=0:=by
 rw[Zj h];clear h
 induction n with
 | zero=>rfl
 | succ n ih=>show sN n _+0=0;rw[ih];rfl
theorem YN(f g:Nat->Int):∀n,sN n (λi=>f i+g i)=sN n f+sN n g
 | 0=>rfl
 | n+1=>by show sN n _+(f n+g n)=(sN n f+f n)+(sN n g+g n);rw[YN f g n];omega
theorem ZO(c:Int)(f:Nat->Int):∀n,sN n (λi=>c*f i)=c*sN n f
 | 0=>by show(0:Int)=c*0;simp
 | n+1=>by show sN n _+c*f n=c*(sN n f+f n);rw[ZO c f n,gL]
theorem Si(f:Nat->Nat->Int)(m:Nat):∀n,sN n (λi=>sN m (f i))=sN m (λj=>sN n λi=>f i j)
 | 0=>by show(0:Int)=sN m λ_=>0;rw[Ws (λ_ _=>rfl)]
 | n+1=>by show sN n (λi=>sN m (f i))+sN m (f n)=sN m (λj=>(sN n λi=>f i j)+f n j);rw[YN,Si f m n]
theorem Yv{f:Nat->Int}{k:Nat}:∀{n:Nat},k<n->(∀i,i<n->i≠k->f i=0)->sN n f=f k
 | 0,h,_=>by omega
 | n+1,h,z=>by
  show sN n f+f n=f k;by_cases q:k=n
  ·subst q;rw[Ws λi a=>z i (by omega) (by omega)];omega
  ·rw[Yv (n:=n) (by omega) λi a=>z i (by omega),z n (by omega) (by omega)];omega
theorem E5{f:Nat->Int}{k:Nat}:∀{n:Nat},k+1<n->(∀i,i<n->i≠k->i≠k+1->f i=0)->sN n f=f k+f (k+1)
 | 0,h,_=>by omega
 | n+1,h,z=>by
  show sN n f+f n=_;by_cases q:k+1=n
  ·subst q;rw[Yv (k:=k) (by omega) λi b a=>z i (by omega) a (by omega)]
  ·rw[E5 (n:=n) (by omega) λi b=>z i (by omega),z n (by omega) (by omega) (by omega)];omega
theorem WZ(f:Nat->Int)(n:Nat):((aM n).map f).sum=sN n f:=by
 induction n with
 | zero=>rfl
 | succ n ih=>rw[kA,fH,i8,ih];simp[sN]
abbrev Mt:=Nat->Nat->Int
noncomputable def Sj(i:Nat)(A:Mt):Mt:=λr c=>A (if r<i then r else r+1) (c+1)
noncomputable def sg:Nat->Int
 | 0=>1
 | n+1=>- sg n
noncomputable def Xp:Nat->Mt->Int
 | 0,_=>1
 | n+1,A=>sN (n+1) λi=>sg i*A i 0*Xp n (Sj i A)
theorem Xo(n:Nat)(A:Mt):Xp (n+1) A=sN (n+1) λi=>sg i*A i 0*Xp n (Sj i A):=rfl
theorem Ww:∀{n:Nat}{A B:Mt},(∀r c,r<n->c<n->A r c=B r c)->Xp n A=Xp n B
 | 0,_,_,_=>rfl
 | n+1,A,B,h=>by rw[Xo,Xo];refine Zj λi a=>?_;rw[h i 0 a (by omega),Ww (n:=n) (A:=Sj i A) (B:=Sj i B) λr c b d=>?_];unfold Sj;exact h _ _ (by split<;>omega) (by omega)
theorem IL:∀{n:Nat}{A B C:Mt}{k:Nat}{x y:Int},k<n->(∀r c,r<n->c<n->r≠k->A r c=C r c/\B r c=C r c)->(∀c,c<n->C k c=x*A k c+y*B k c)->Xp n C=x*Xp n A+y*Xp n B
 | 0,_,_,_,k,_,_,h,_,_=>by omega
 | n+1,A,B,C,k,x,y,hk,h1,h2=>by
  rw[Xo,Xo,Xo,<-ZO,<-ZO,<-YN];refine Zj λi l=>?_;by_cases q:i=k
  ·subst q;have j:Xp n (Sj i A)=Xp n (Sj i C):=Ww λr c d a=>by unfold Sj;exact(h1 _ _ (by split<;>omega) (by omega) (by split<;>omega)).1
   have f:Xp n (Sj i B)=Xp n (Sj i C):=Ww λr c d a=>by unfold Sj;exact(h1 _ _ (by split<;>omega) (by omega) (by split<;>omega)).2
   rw[j,f,h2 0 (by omega),gL,kO];simp only[bj,cu]
  ·obtain⟨m,g⟩:=h1 i 0 l (by omega) q
   have e:Xp n (Sj i C)=x*Xp n (Sj i A)+y*Xp n (Sj i B):=IL (k:=if k<i then k else k-1) (by split<;>omega) (λr c d a b=>by
    unfold Sj
    exact h1 _ _ (by split<;>omega) (by omega) (by split at b<;>split<;>omega)) (λc a=>by
    have e:(if(if k<i then k else k-1)<i then(if k<i then k else k-1) else(if k<i then k else k-1)+1)=k:=by split<;>(try split)<;>omega
    unfold Sj;rw[e];exact h2 (c+1) (by omega))
   rw[m,g,e,gL];simp only[bj,cu]
theorem Ql:∀{n:Nat}{A:Mt}{k:Nat},k+1<n->(∀c,c<n->A k c=A (k+1) c)->Xp n A=0
 | 0,_,k,h,_=>by omega
 | n+1,A,k,hk,he=>by
  rw[Xo,E5 hk]
  ·have e:Xp n (Sj k A)=Xp n (Sj (k+1) A):=Ww λr c g d=>by
    unfold Sj;by_cases q:r<k
    ·rw[nZ q,nZ (by omega)]
    ·rw[ng q];by_cases f:r=k
     ·subst f;rw[nZ (by omega)];exact(he (c+1) (by omega)).symm
     ·rw[ng (by omega)]
   rw[e,he 0 (by omega)];show sg k*_*_ + - sg k*_*_=0;rw[cX,cX];omega
  ·intro i l m j;rw[Ql (n:=n) (A:=Sj i A) (k:=if k+1<i then k else k-1) (by split<;>omega) λc d=>?_,cO];have b:(if(if k+1<i then k else k-1)<i then(if k+1<i then k else k-1) else(if k+1<i then k else k-1)+1)=k:=by split<;>(try split)<;>omega
   have a:(if(if k+1<i then k else k-1)+1<i then(if k+1<i then k else k-1)+1 else(if k+1<i then k else k-1)+1+1)=k+1:=by split<;>(try split)<;>omega
   unfold Sj;rw[b,a];exact he (c+1) (by omega)
noncomputable def XW(k:Nat)(v:Nat->Int)(A:Mt):Mt:=λr=>if r=k then v else A r
theorem Yq(k:Nat)(v:Nat->Int)(A:Mt):XW k v A k=v:=by unfold XW;rw[nZ rfl]
theorem WM{k r:Nat}(v:Nat->Int)(A:Mt)(h:r≠k):XW k v A r=A r:=by unfold XW;rw[ng h]
theorem Sk{n k:Nat}{A:Mt}{u v:Nat->Int}{x y:Int}(a:k<n):Xp n (XW k (λc=>x*u c+y*v c) A)=x*Xp n (XW k u A)+y*Xp n (XW k v A):=
 IL a (λr c _ _ h=>by rw[WM _ _ h,WM _ _ h,WM _ _ h];exact⟨rfl,rfl⟩) (λc _=>by rw[Yq,Yq,Yq])
noncomputable def swp(k:Nat)(A:Mt):Mt:=XW k (A (k+1)) (XW (k+1) (A k) A)
theorem Bc{n k:Nat}{A:Mt}(d:k+1<n):Xp n (swp k A) = - Xp n A:=by
 have two:∀u v:Nat->Int,Xp n (XW k (λc=>1*u c+1*v c) (XW (k+1) (λc=>1*u c+1*v c) A))=0:=λu v=>Ql d λc _=>by rw[Yq,WM _ _ (by omega),Yq]
 have same:∀u:Nat->Int,Xp n (XW k u (XW (k+1) u A))=0:=λu=>Ql d λc _=>by rw[Yq,WM _ _ (by omega),Yq]
 have a:∀u v:Nat->Int,XW k u (XW (k+1) v A)=XW (k+1) v (XW k u A):=λu v=>by
  funext r;unfold XW;by_cases q:r=k
  ·rw[nZ q,ng (by omega),nZ q]
  ·rw[ng q];by_cases b:r=k+1
   ·rw[nZ b,nZ b]
   ·rw[ng b,ng b,ng q]
 have h:=two (A k) (A (k+1));rw[Sk (by omega),a,Sk d,a,Sk d,<-a,<-a,<-a,<-a,same,same] at h
 have e:XW k (A k) (XW (k+1) (A (k+1)) A)=A:=by
  funext r;unfold XW;by_cases q:r=k
  ·rw[nZ q,q]
  ·rw[ng q];by_cases b:r=k+1
   ·rw[nZ b,b]
   ·rw[ng b]
 rw[e] at h;unfold swp;omega
theorem UJ:∀(d:Nat){n i:Nat}{A:Mt},i+1+d<n->(∀c,c<n->A i c=A (i+1+d) c)->Xp n A=0
 | 0,n,i,A,h,e=>Ql h e
 | d+1,n,i,A,h,e=>by
  have b:Xp n (swp (i+1+d) A)=0:=UJ d (n:=n) (i:=i) (by omega) λc a=>by unfold swp;rw[WM _ _ (by omega),WM _ _ (by omega),Yq];exact e c a
  rw[Bc (by omega)] at b;omega
theorem LY{n i j:Nat}{A:Mt}(f:i<n)(d:j<n)(a:i≠j)(e:∀c,c<n->A i c=A j c):Xp n A=0:=by
 rcases Nat.lt_or_gt_of_ne a with h | h
 ·exact UJ (j-i-1) (i:=i) (by omega) λc b=>by rw[show i+1+(j-i-1)=j by omega];exact e c b
 ·exact UJ (i-j-1) (i:=j) (by omega) λc b=>by rw[show j+1+(i-j-1)=i by omega];exact(e c b).symm
theorem LZ:∀{n:Nat}{A:Mt},(∀c,c<n->A n c=0)->Xp (n+1) A=A n n*Xp n A
 | 0,A,_=>by show 0+1*A 0 0*1=A 0 0*1;omega
 | n+1,A,h=>by
  rw[Xo (n+1)];show sN (n+1) _+sg (n+1)*A (n+1) 0*_=_;rw[h 0 (by omega),cO,cH,ic,Xo n,<-ZO];refine Zj λi a=>?_;rw[LZ (n:=n) (A:=Sj i A) λc b=>?_]
  ·have e:Sj i A n n=A (n+1) (n+1):=by unfold Sj;rw[ng (by omega)]
   rw[e];simp only[bj,cu]
  ·unfold Sj;rw[ng (by omega)];exact h (c+1) (by omega)
theorem PX{n j:Nat}{A:Mt}{a:Nat->Int}{v:Nat->Nat->Int}(b:j<n):∀m,Xp n (XW j (λc=>sN m λk=>a k*v k c) A)=sN m λk=>a k*Xp n (XW j (v k) A)
 | 0=>by have:Xp n (XW j (λc=>0*(0:Int)+0*(0:Int)) A)=0*Xp n (XW j (λ_=>0) A)+0*Xp n (XW j (λ_=>0) A):=Sk (u:=λ_=>0) (v:=λ_=>0) b;simp only[cH,ic] at this;exact this
 | m+1=>by have:=Sk (n:=n) (A:=A) (u:=λc=>sN m λk=>a k*v k c) (v:=v m) (x:=1) (y:=a m) b;simp only[iY] at this;show Xp n (XW j (λc=>(sN m λk=>a k*v k c)+a m*v m c) A)=_;rw[this,PX b m];rfl
theorem Be{n j:Nat}{A:Mt}{a:Nat->Int}(d:j<n):Xp n (XW j (λc=>sN n λk=>a k*A k c) A)=a j*Xp n A:=by
 rw[PX d n,Yv d]
 ·have:XW j (A j) A=A:=by funext r;unfold XW;split<;>simp_all
  rw[this]
 ·intro i e b;rw[LY e d b λc _=>by rw[WM _ _ b,Yq],cO]
noncomputable def MS(n:Nat)(A:Mt)(i j:Nat):Int:=Xp n (XW j (λc=>if c=i then 1 else 0) A)
theorem Bf{n:Nat}{A:Mt}{j:Nat}(b:j<n)(v:Nat->Int):sN n (λi=>v i*MS n A i j)=Xp n (XW j v A):=by
 unfold MS;rw[<-PX b n];refine Ww λr c e d=>?_;unfold XW;split
 ·show sN n (λk=>v k*if c=k then 1 else 0)=v c;rw[Yv d]
  ·simp
  ·intro i f a;rw[ng (λz=>a z.symm),cO]
 ·rfl
theorem MA{n:Nat}{A:Mt}{k j:Nat}(b:k<n)(a:j<n):sN n (λi=>A k i*MS n A i j)=if k=j then Xp n A else 0:=by
 rw[Bf a];split
 ·rename_i h;subst h;have:XW k (A k) A=A:=by funext r;unfold XW;split<;>simp_all
  rw[this]
 ·rename_i h;exact LY b a h λc _=>by rw[WM _ _ h,Yq]
theorem RE{f:Nat->Int}{q:Nat}:∀{m:Nat},q<=m->(∀k,q<=k->k<m->f k=0)->sN m f=sN q f
 | 0,h,_=>by rw[show q=0 by omega]
 | m+1,h,z=>by
  by_cases e:q=m+1
  ·rw[e]
  ·show sN m f+f m=_;rw[RE (m:=m) (by omega) (λk a b=>z k a (by omega)),z m (by omega) (by omega)];omega
theorem IM{f:Nat->Int}{q i:Nat}:∀{m:Nat},q<=i->i<m->(∀k,q<=k->k<m->k≠i->f k=0)->sN m f=sN q f+f i
 | 0,_,h,_=>by omega
 | m+1,hq,hi,z=>by
  show sN m f+f m=_;by_cases e:i=m
  ·subst e;rw[RE (q:=q) (by omega) λk a b=>z k a (by omega) (by omega)]
  ·rw[IM (m:=m) hq (by omega) (λk a b=>z k a (by omega)),z m (by omega) (by omega) (λq=>e q.symm)];omega
noncomputable def Wx(m:Nat)(X:Mt):Nat->Mt×Int
 | 0=>(X,1)
 | p+1=>(λi j=>if i=p then(Wx m X p).1 i j else((Wx m X p).1 p p*(Wx m X p).1 i j-(Wx m X p).1 i p*(Wx m X p).1 p j).fdiv (Wx m X p).2,(Wx m X p).1 p p)
structure BOk(m:Nat)(A X:Mt):Prop where
 sym:∀i j,i<m->j<m->A i j=A j i
 inj:∀p,p<=m->∀z:Nat->Int,(∀j,j<p->sN p (λk=>z k*A k j)=0)->∀k,k<p->z k=0
 ext:∀i j,i<m->j<m->X i j=A i j
structure Zfk(m p:Nat)(X:Mt)(E:Mt)(d:Int)(i:Nat)(a:Nat->Int):Prop where
 off:∀k,k<m->p<=k->k≠i->a k=0
 on:p<=i->a i=d
 val:∀j,j<=m->E i j=sN m (λk=>a k*X k j)
 uni:∀j,j<p->E i j=if i=j then d else 0
structure Zbd(m:Nat)(A X:Mt)(p:Nat)(E:Mt)(d:Int):Prop where
 de:d=Xp p A
 nz:d≠0
 row:∀i,i<m->∃a,Zfk m p X E d i a
theorem PY{m:Nat}{A X:Mt}{p:Nat}{E:Mt}{d:Int}(ok:BOk m A X)(Y:p<m)(I:Zbd m A X p E d) :
  Zbd m A X (p+1) (λi j=>if i=p then E i j else(E p p*E i j-E i p*E p j).fdiv d) (E p p)/\∀i j,i<m->j<=m->i≠p->∃q,E p p*E i j-E i p*E p j=d*q:=by
 obtain⟨u,t⟩:=I.row p Y;have P:=I.nz
 -- the pivot's row
 have x:∀j,j<m->E p j=sN (p+1) (λk=>u k*A k j):=λj g=>by
  rw[t.val j (by omega),RE (q:=p+1) (by omega) λk w v=>by rw[t.off k v (by omega) (by omega),cH]];exact Zj λk f=>by rw[ok.ext k j (by omega) g]
 have pd:E p p=Xp (p+1) A:=by
  have w:=Be (n:=p+1) (j:=p) (A:=A) (a:=u) (by omega);have v:=LZ (A:=XW p (λc=>sN (p+1) λk=>u k*A k c) A) λc hc=>by rw[Yq];rw[<-x c (by omega),t.uni c hc,ng (by omega)]
  have O:Xp p (XW p (λc=>sN (p+1) λk=>u k*A k c) A)=Xp p A:=Ww λr c hr hc=>by rw[WM _ _ (by omega)]
  rw[Yq,O,w,t.on (aN p),<-I.de] at v;have h4:d*Xp (p+1) A=E p p*d:=by rw[v];rw[<-x p Y]
  have h5:d*(Xp (p+1) A)=d*E p p:=by rw[h4,bR]
  exact(jL P h5).symm
 have pz:E p p≠0:=λz=>by
  have:=ok.inj (p+1) (by omega) u (λj g=>by
   rw[<-x j (by omega)];by_cases q:j=p
   ·rw[q];exact z
   ·rw[t.uni j (by omega),ng (by omega)]) p (by omega)
  rw[t.on (aN p)] at this;exact P this
 -- the s rows
 have s:∀i,i<m->i≠p->∃b:Nat->Int,(∀k,k<m->p+1<=k->k≠i->b k=0)/\(p+1<=i->b i=E p p)/\(∀l,l<p+1->sN m (λk=>b k*A k l)=if i=l then E p p else 0)/\∀j,j<=m->E p p*E i j-E i p*E p j=d*sN m (λk=>b k*X k j):=by
  intro i D o
  obtain⟨b,G,M,F⟩:∃b:Nat->Int,(∀k,k<m->p+1<=k->k≠i->b k=0)/\(p+1<=i->b i=E p p)/\(∀l,l<p+1->sN m (λk=>b k*A k l)=if i=l then E p p else 0):=by
   have U:∀j l,j<p+1->l<p+1->sN (p+1) (λk=>MS (p+1) A k j*A k l)=if l=j then E p p else 0:=λj l g y=>by
    rw[pd,<-MA y g];exact Zj λk f=>by rw[ok.sym l k (by omega) (by omega),bR]
   by_cases q:i<p
   ·obtain⟨b,B⟩:∃b:Nat->Int,∀k,b k=if k<p+1 then MS (p+1) A k i else 0:=⟨_,λ_=>rfl⟩
    refine⟨b,λk f w _=>by rw[B,ng (by omega)],λh=>by omega,λl y=>?_⟩;rw[RE (q:=p+1) (by omega) λk w v=>by rw[B,ng (by omega),cH]];rw[Zj λk f=>by rw[B,nZ f],U i l (by omega) y];by_cases e:i=l
    ·rw[nZ e,nZ e.symm]
    ·rw[ng e,ng (λz=>e z.symm)]
   ·obtain⟨b,B⟩:∃b:Nat->Int,∀k,b k=if k<p+1 then-sN (p+1) (λj=>A i j*MS (p+1) A k j) else if k=i then E p p else 0:=⟨_,λ_=>rfl⟩
    have J:b i=E p p:=by rw[B,ng (by omega),nZ rfl]
    refine⟨b,λk f w v=>by rw[B,ng (by omega),ng v],λh=>J,λl y=>?_⟩;rw[IM (q:=p+1) (by omega) D λk w v O=>by rw[B,ng (by omega),ng O,cH]];rw[J]
    have S:sN (p+1) (λk=>b k*A k l)=sN (p+1) (λk=>(-1)*sN (p+1) (λj=>A i j*(MS (p+1) A k j*A k l))):=Zj λk f=>by
     rw[B,nZ f,cX,bR _ (A k l),<-ZO,cX,iY];congr 1;exact Zj λj _=>by rw[bR (A k l),bj]
    rw[S,ZO,Si];have e2:(sN (p+1) λj=>sN (p+1) λk=>A i j*(MS (p+1) A k j*A k l))=A i l*E p p:=by rw[Zj λj g=>by rw[ZO,U j l g y]];rw[Yv y λj _ Q=>by rw[ng (λz=>Q z.symm),cO],nZ rfl]
    rw[e2,bR (E p p)];omega
  refine⟨b,G,M,F,?_⟩;obtain⟨C,L⟩:=I.row i D
  have hw:∀k,k<m->E p p*C k-E i p*u k-d*b k=0:=by
   have H:∀k,k<m->p+1<=k->E p p*C k-E i p*u k-d*b k=0:=λk f w=>by
    have Z:=t.off k f (by omega) (by omega);by_cases q:k=i
    ·subst q;rw[L.on (by omega),Z,M w,bR d];omega
    ·rw[L.off k f (by omega) q,Z,G k f w q];omega
   intro k f;by_cases q:k<p+1
   ·refine ok.inj (p+1) (by omega) (λk=>E p p*C k-E i p*u k-d*b k) (λl y=>?_) k q;rw[<-RE (m:=m) (by omega) λk w v=>by rw[H k v w,cH]]
    have S:sN m (λk=>(E p p*C k-E i p*u k-d*b k)*A k l)=E p p*sN m (λk=>C k*A k l)+((- E i p)*sN m (λk=>u k*A k l)+(- d)*sN m (λk=>b k*A k l)):=by
     rw[<-ZO,<-ZO,<-ZO,<-YN,<-YN];exact Zj λk _=>by rw[Int.sub_mul,Int.sub_mul];simp only[bj,cX];omega
    have W:∀a:Nat->Int,sN m (λk=>a k*X k l)=sN m (λk=>a k*A k l):=λa=>Zj λk f=>by rw[ok.ext k l f (by omega)]
    rw[S,F l y,<-W,<-W,<-L.val l (by omega),<-t.val l (by omega)];by_cases q2:l=p
    ·subst q2;rw[ng o,bR (E l l),cX];omega
    ·rw[L.uni l (by omega),t.uni l (by omega),ng (show ¬p=l by omega)];by_cases N:i=l
     ·rw[nZ N,nZ N,cX d,bR d];omega
     ·rw[ng N,ng N];omega
   ·exact H k f (by omega)
  intro j g;rw[L.val j g,t.val j g,<-ZO,<-ZO,<-ZO];have:sN m (λk=>E p p*(C k*X k j))=sN m (λk=>d*(b k*X k j))+sN m (λk=>E i p*(u k*X k j)):=by rw[<-YN];refine Zj λk f=>?_;have:=hw k f;rw[<-bj,<-bj,<-bj,<-kO];congr 1;omega
  omega
 refine⟨⟨pd,pz,λi D=>?_⟩,λi j D g o=>?_⟩
 ·by_cases o:i=p
  ·subst o;refine⟨u,λk f w v=>t.off k f (by omega) v,λh=>by omega,λj g=>by rw[nZ rfl];exact t.val j g,λj g=>?_⟩;rw[nZ rfl];by_cases q:i=j
   ·subst q;rw[nZ rfl]
   ·rw[ng q,t.uni j (by omega),ng q]
  ·obtain⟨b,G,M,F,R⟩:=s i D o;have T:∀j,j<=m->(E p p*E i j-E i p*E p j).fdiv d=sN m (λk=>b k*X k j):=λj g=>by rw[R j g,g7 _ P]
   refine⟨b,G,M,λj g=>by rw[ng o];exact T j g,λj g=>?_⟩;rw[ng o,T j (by omega),<-F j g];exact Zj λk f=>by rw[ok.ext k j f (by omega)]
 ·obtain⟨b,G,M,F,R⟩:=s i D o;exact⟨_,R j g⟩
theorem Xb{m:Nat}{A X:Mt}(ok:BOk m A X):∀{p:Nat},p<=m->Zbd m A X p (Wx m X p).1 (Wx m X p).2
 | 0,_=>⟨rfl,(show(1:Int)≠0 by decide),λi c=>⟨λk=>if k=i then 1 else 0,λk _ _ h=>ng h,λ_=>nZ rfl,λj a=>by rw[Yv (k:=i) c λk _ b=>by rw[ng b,cH],nZ rfl,iY];rfl,λj a=>by omega⟩⟩
 | p+1,h=>(PY ok (by omega) (Xb ok (p:=p) (by omega))).1
theorem GC{m:Nat}{A X:Mt}(ok:BOk m A X){k:Nat}(b:k<m):sN m (λi=>A k i*(Wx m X m).1 i m)=(Wx m X m).2*X k m:=by
 have I:=Xb ok (aN m);generalize r:(Wx m X m).1=E at I ⊢;generalize s:(Wx m X m).2=d at I ⊢;have n:=I.nz
 have f:∀k,k<m->sN m (λi=>A k i*sN m (λj=>MS m A i j*X j m))=d*X k m:=λk b=>by
  rw[Zj (g:=λi=>sN m (λj=>A k i*(MS m A i j*X j m))) λi _=>by rw[ZO]]
  rw[Si,Zj (g:=λj=>(if k=j then d else 0)*X j m) λj p=>by
   rw[I.de,<-MA b p,bR _ (X j m),<-ZO];exact Zj λi _=>by rw[bR (X j m),bj]]
  rw[Yv b λj _ h=>by rw[ng (λz=>h z.symm),cH],nZ rfl]
 have o:∀i,i<m->E i m=sN m (λj=>MS m A i j*X j m):=λi c=>by
  obtain⟨a,R⟩:=I.row i c;refine jL n ?_;rw[R.val m (aN m),<-ZO];have q:sN m (λk=>d*(a k*X k m))=sN m (λk=>a k*sN m (λl=>A k l*sN m (λj=>MS m A l j*X j m))):=Zj λk b=>by rw[f k b,cu]
  rw[q,Zj (g:=λk=>sN m (λl=>a k*A k l*sN m (λj=>MS m A l j*X j m))) λk _=>by rw[<-ZO];exact Zj λl _=>by rw[bj]]
  rw[Si,Zj (g:=λl=>(if i=l then d else 0)*sN m (λj=>MS m A l j*X j m)) λl e=>by
   rw[<-R.uni l e,R.val l (by omega),bR _ (sN m λj=>MS m A l j*X j m),<-ZO];exact Zj λk b=>by rw[ok.ext k l b e,bR]]
  rw[Yv c λl _ h=>by rw[ng (λz=>h z.symm),cH],nZ rfl]
 rw[Zj λi c=>by rw[o i c]];exact f k b
open L2 VL
theorem E6{z:Int}(h:z.natAbs<2^1000):z.natAbs.log2<1000:=by
 by_cases a:z.natAbs=0
 ·rw[a];decide +kernel
 ·exact(kU a).mpr h
theorem IP{a b:Int}(h:a.natAbs<2^1000)(h':b.natAbs<2^1000):CMulW a b:=⟨by have:=E6 h;omega,by have:=E6 h';omega⟩
theorem IQ{a b:Int}(c:b≠0)(h:b.natAbs<2^1000):WC a b:=⟨c,by have:=E6 h;omega⟩
noncomputable def Mb:Nat->Nat
 | 0=>2^7
 | p+1=>2*Mb p*Mb p
noncomputable def Nb:Nat->Nat
 | 0=>2^208
 | p+1=>2*Mb p*Nb p
theorem Zdr{p:Nat}(h:p<=6):Mb p<2^1000:=by
 have:p=0\/p=1\/p=2\/p=3\/p=4\/p=5\/p=6:=by omega
 rcases this with rfl | rfl | rfl | rfl | rfl | rfl | rfl<;>decide +kernel
theorem Zfl{p:Nat}(h:p<=6):Nb p<2^1000:=by
 have:p=0\/p=1\/p=2\/p=3\/p=4\/p=5\/p=6:=by omega
 rcases this with rfl | rfl | rfl | rfl | rfl | rfl | rfl<;>decide +kernel
theorem IS{a b c d:Int}{M N:Nat}(g:a.natAbs<=M)(f:b.natAbs<=N)(h:c.natAbs<=M)(e:d.natAbs<=N):(a*b-c*d).natAbs<=2*M*N:=by
 have l:(a*b).natAbs<=M*N:=by rw[dk];exact dS g f
 have i:(c*d).natAbs<=M*N:=by rw[dk];exact dS h e
 have j:(a*b-c*d).natAbs<=(a*b).natAbs+(c*d).natAbs:=by omega
 have k:2*M*N=M*N+M*N:=by rw[dh];omega
 omega
theorem L5{x d q:Int}(a:d≠0)(e:x=d*q):(x.fdiv d).natAbs<=x.natAbs:=by
 rw[e,g7 _ a,dk];have:1<=d.natAbs:=by omega
 calc q.natAbs=1*q.natAbs:=by omega
  _<=d.natAbs*q.natAbs:=dH _ this
theorem Bg(p:Nat):Mb p<=Mb (p+1):=by
 have h:∀p,1<=Mb p:=λp=>by
  induction p with
  | zero=>decide
  | succ p ih=>show 1<=2*Mb p*Mb p;exact dS (show 1<=2*Mb p by omega) ih
 show Mb p<=2*Mb p*Mb p
 calc Mb p=1*Mb p:=by omega
  _<=2*Mb p*Mb p:=dH _ (by have:=h p;omega)
theorem Bh(p:Nat):Nb p<=Nb (p+1):=by
 have h:∀p,1<=Mb p:=λp=>by
  induction p with
  | zero=>decide
  | succ p ih=>show 1<=2*Mb p*Mb p;exact dS (show 1<=2*Mb p by omega) ih
 show Nb p<=2*Mb p*Nb p
 calc Nb p=1*Nb p:=by omega
  _<=2*Mb p*Nb p:=dH _ (by have:=h p;omega)
theorem RF{m:Nat}{A X:Mt}(ok:BOk m A X)(h:∀i j,i<m->j<m->(X i j).natAbs<=2^7)(k:∀i,i<m->(X i m).natAbs<=2^208):∀{p:Nat},p<=m->(∀i j,i<m->j<m->((Wx m X p).1 i j).natAbs<=Mb p)/\∀i,i<m->((Wx m X p).1 i m).natAbs<=Nb p
 | 0,_=>⟨h,k⟩
 | p+1,hp=>by
  obtain⟨c,f⟩:=RF ok h k (p:=p) (by omega);have I:=Xb ok (p:=p) (by omega);have g:=(PY ok (by omega) I).2;refine⟨λi j a d=>?_,λi a=>?_⟩
  ·show(if i=p then(Wx m X p).1 i j else _).natAbs<=_;split
   ·exact aX (c i j a d) (Bg p)
   ·rename_i b;obtain⟨q,e⟩:=g i j a (by omega) b;exact aX (L5 I.nz e) (IS (c p p (by omega) (by omega)) (c i j a d) (c i p a (by omega)) (c p j (by omega) d))
  ·show(if i=p then(Wx m X p).1 i m else _).natAbs<=_;split
   ·exact aX (f i a) (Bh p)
   ·rename_i b;obtain⟨q,e⟩:=g i m a (by omega) b;exact aX (L5 I.nz e) (IS (c p p (by omega) (by omega)) (f i a) (c i p a (by omega)) (f p (by omega)))
noncomputable def ZV(w:Nat)(f:Nat->Int):List Int:=(aM w).map f
theorem ZL(w:Nat)(f:Nat->Int):(ZV w f).length=w:=by simp[ZV]
theorem YO{w:Nat}{f:Nat->Int}{j:Nat}(h:j<w):Zp (ZV w f) j=f j:=Ya h
theorem XM{n:Nat}{ix:List Nat}{c:XL}{T:Tgt}{d:XE}{s:ZE}{w:Nat}{q:Nat->PV}(g:Nat->Int)(f:c s=aA ((aM w).map q))(i:w<=100)(h:∀j,j<w->∃s1,Xj T (q j) (ZQ n ix s)=aA s1/\d s1=aA (.int (g j))):Zu n ix c T Zy d s=aA (.lst (iL (ZV w g))):=by
 rw[ZZ (aM w) q (λj=>.int (g j)) f (by rw[cL];omega) λj e=>by
  obtain⟨s1,a,b⟩:=h j (aU.mp e);exact⟨s1,a,rfl,b⟩]
 simp[ZV]
theorem PZ{w:Nat}{f:Nat->Int}{j:Nat}(h:j<w):So (iL (ZV w f)) (j:Int)=aA (.int (f j)):=by rw[Xy (by rw[ZL];exact h),YO h]
theorem JF{w p:Nat}{f g:Nat->Int}{d:Int}(o:w<=100)(e:p<w)(m:∀j,j<w->(f j).natAbs<2^1000)(l:∀j,j<w->(g j).natAbs<2^1000)(n:d≠0)(h:d.natAbs<2^1000) :
  SU [pP (ZV w f),pP (ZV w g),.int (p:Int),.int d]=aA (pP (ZV w λj=>(g p*f j-f p*g j).fdiv d)):=by
 refine YZ (ret (JE (c1 (XM (q:=λj=>.tup [.int (f j),.int (g j)]) (λj=>(g p*f j-f p*g j).fdiv d) ?_ o λj k=>⟨_,rfl,?_⟩) rfl)))
 ·show aA (Vi (iL (ZV w f)) (iL (ZV w g)))=_;rw[YL _ _ (by simp[ZL]),aP,ZL];congr 1;refine av λi c=>?_;have c:=aU.mp c;rw[Yu _ i (by rw[ZL];exact c),Yu _ i (by rw[ZL];exact c),YO c,YO c]
 ·exact vC (C:=WC) (op:=jB) (vI (vC (C:=CMulW) (op:=(· * ·)) (a:=g p) (b:=f j) (o2 rfl rfl (PZ e)) rfl (IP (l p e) (m j k))) (vC (C:=CMulW) (op:=(· * ·)) (a:=f p) (b:=g j) (o2 rfl rfl (PZ e)) rfl (IP (m p e) (l j k)))) rfl (IQ n h)
noncomputable def Wt(m w:Nat)(E:Mt):List (List Int):=(aM m).map λi=>ZV w (E i)
theorem MB(m w:Nat)(E:Mt):(Wt m w E).length=m:=by simp[Wt]
noncomputable def tL(M:List (List Int)):List PV:=M.map pP
theorem P0(m w:Nat)(E:Mt):tL (Wt m w E)=(aM m).map λi=>pP (ZV w (E i)):=by unfold tL Wt;rw[eM];rfl
theorem Vd(m w:Nat)(E:Mt):(tL (Wt m w E)).length=m:=by simp[tL,MB]
theorem Ts{m w:Nat}{E:Mt}{i:Nat}(h:i<m):(tL (Wt m w E))[i]?=aA (pP (ZV w (E i))):=by rw[P0,aZ,bO h];rfl
theorem IT(M:List (List Int)):ZK (tL M)=aC:=Uk M
theorem W0{n:Nat}{ix:List Nat}{c:XL}{T:Tgt}{d:XE}{s:ZE}{m w:Nat}{q:Nat->PV}(E:Mt)(f:c s=aA ((aM m).map q))(g:m<=100)(h:∀j,j<m->∃s1,Xj T (q j) (ZQ n ix s)=aA s1/\d s1=aA (pP (ZV w (E j)))):Zu n ix c T Zy d s=aA (.lst (tL (Wt m w E))):=by
 rw[ZZ (aM m) q (λj=>pP (ZV w (E j))) f (by rw[cL];omega) λj e=>by
  obtain⟨s1,a,b⟩:=h j (aU.mp e);exact⟨s1,a,rfl,b⟩,P0]
theorem GD{m w:Nat}{A X:Mt}(B:m<=6)(C:m<=w)(o:w<=m+1)(ok:BOk m A X)(t:∀i j,i<m->j<m->(X i j).natAbs<=2^7)(z:∀i,i<m->(X i m).natAbs<=2^208){R:PV}(x:R = .lst (tL (Wt m w X))\/R = .tup (tL (Wt m w X))) :
  Pb [R]=aA (.tup [.int (Wx m X m).2,.lst (tL (Wt m w (Wx m X m).1))]):=by
 have k:∀{p:Nat},p<=m->∀i j,i<m->j<m+1->((Wx m X p).1 i j).natAbs<2^1000:=λ{p} c i j a f=>by
  obtain⟨r,y⟩:=RF ok t z c;by_cases q:j<m
  ·exact bK (r i j a q) (Zdr (by omega))
  ·rw[show j=m by omega];exact bK (y i a) (Zfl (by omega))
 have u:∀{p:Nat},p<=m->(Wx m X p).2.natAbs<2^1000:=λ{p} c=>by
  cases p with
  | zero=>show(1:Int).natAbs<_;decide +kernel
  | succ p=>exact k (p:=p) (by omega) p p (by omega) (by omega)
 let st:Nat->Option PV->Option PV->ZE:=λp d b=>[aA R,aA (.lst (tL (Wt m w (Wx m X p).1))),aA (.int (Wx m X p).2),d,b]
 have l:Uh [R]=aA (.lst (tL (Wt m w X)))/\YG [R]=aA (.int (m:Int)):=by
  rcases x with rfl | rfl
  ·exact⟨by rw[QU,nZ (IT _)],by show aA (PV.int ((tL (Wt m w X)).length:Int))=_;rw[Vd]⟩
  ·exact⟨by rw[Ln,nZ (IT _)],by show aA (PV.int ((tL (Wt m w X)).length:Int))=_;rw[Vd]⟩
 suffices h:YH Ls (ZC 5 [R]) λv=>v = .tup [.int (Wx m X m).2,.lst (tL (Wt m w (Wx m X m).1))] by obtain⟨v,e,rfl⟩:=Sh h;exact e
 refine ZS (Zr (c1 rfl l.1)) (ZS (Zr (vP rfl)) (UI (Ad (n:=m) (λp s=>∃d b,s=st p d b) (c1 rfl l.2) ⟨none,none,rfl⟩ ?_) ?_))
 ·rintro p s c ⟨d,b,rfl⟩;have I:=Xb ok (p:=p) (by omega);have g:=λi j a f=>k (p:=p) (by omega) i j a f;refine WL (Zr (JE (o2 rfl rfl (Vt (Ts c))))) (WL (Zr (W0 (w:=w) (Wx m X (p+1)).1 (q:=λi=>.tup [.int (i:Int),pP (ZV w ((Wx m X p).1 i))]) ?_ (by omega) λi a=>⟨_,rfl,JE ?_⟩)) (MR (Zr (vP (o2 rfl rfl (PZ (by omega))))) ⟨_,_,rfl⟩))
  ·show aA (WU (tL (Wt m w (Wx m X p).1)))=_;rw[WX,Vd];congr 1;refine av λi a=>?_;rw[aJ,Ts (aU.mp a)];rfl
  ·by_cases q:i=p
   ·exact EY (xb ((Dy rfl rfl).trans (by rw[decide_eq_true (by omega)]))) (by rw[show(Wx m X (p+1)).1 i=(Wx m X p).1 i from funext λj=>nZ q];rfl)
   ·refine EZ (xb ((Dy rfl rfl).trans (by rw[decide_eq_false (by omega)]))) ?_;rw[show(Wx m X (p+1)).1 i=_ from funext λj=>ng q];exact c4 rfl rfl rfl rfl (JF (by omega) (by omega) (λj f=>g i j a (by omega)) (λj f=>g p j c (by omega)) I.nz (u (by omega)))
 ·rintro s ⟨d,b,rfl⟩;exact⟨_,rfl,rfl⟩
theorem GF{m:Nat}{A X:Mt}(f:m<=6)(ok:BOk m A X)(b:∀i j,i<m->j<m->(X i j).natAbs<=2^7)(c:∀i,i<m->(X i m).natAbs<=2^208) :
  WD [wP (Wt m m A),pP (ZV m λi=>X i m)]=aA (.lst (iL (ZV m λi=>((Wx m X m).1 i m).fdiv (Wx m X m).2))):=by
 have I:=Xb ok (aN m)
 have g:(Wx m X m).2.natAbs<2^1000:=by
  cases m with
  | zero=>show(1:Int).natAbs<_;decide +kernel
  | succ k=>exact bK ((RF ok b c (p:=k) (by omega)).1 k k (by omega) (by omega)) (Zdr (by omega))
 refine YZ (sq (Zr (c1 (W0 (w:=m+1) X (q:=λi=>.tup [pP (ZV m (A i)),.int (X i m)]) ?_ (by omega) λi a=>⟨_,rfl,?_⟩) (GD f (by omega) (by omega) ok b c (.inl rfl)))) (ret (XM (q:=λi=>pP (ZV (m+1) ((Wx m X m).1 i))) _ ?_ (by omega) λi a=>⟨_,rfl,vP (vC (C:=WC) (op:=jB) (o2 rfl rfl ?_) rfl (IQ I.nz g))⟩)))
 ·show aA (Vi (tL (Wt m m A)) (iL (ZV m λi=>X i m)))=_;rw[YL _ _ (by rw[Vd,aP,ZL]),Vd];congr 1;refine av λi a=>?_;have a:=aU.mp a;rw[Yu _ i (by rw[ZL];exact a),YO a,aJ,Ts a];rfl
 ·have d:iL (ZV m (A i))++[PV.int (X i m)]=iL (ZV (m+1) (X i)):=by unfold ZV;rw[kA,fH];simp;exact λj e=>(ok.ext i j a e).symm
  show(if(iL (ZV m (A i))).length+[PV.int (X i m)].length<=10000 then aA (PV.tup (iL (ZV m (A i))++[PV.int (X i m)])) else none)=_;rw[nZ (by simp[ZL];omega),d]
 ·show aA (tL (Wt m (m+1) (Wx m X m).1))=_;rw[P0]
 ·show So (iL (ZV (m+1) ((Wx m X m).1 i))) (-1)=_;unfold So Nj;rw[aP,ZL,ng (by omega),nZ (by omega),show(-1+((m+1:Nat):Int)).toNat=m by omega];show(iL (ZV (m+1) ((Wx m X m).1 i)))[m]?=_;rw[QT (by rw[ZL];omega),YO (by omega)]
noncomputable def Xu(b i:Nat):Nat:=if i<b then i else i+1
noncomputable def IU(b h:Nat):Nat:=if h<b then h else h-1
theorem E7(b i:Nat):Xu b i≠b:=by unfold Xu;split<;>omega
theorem Wg{b i m:Nat}(h:i<m):Xu b i<m+1:=by unfold Xu;split<;>omega
theorem IV(b i:Nat):IU b (Xu b i)=i:=by unfold IU Xu;split<;>(try split)<;>omega
theorem Qm{b h:Nat}(q:h≠b):Xu b (IU b h)=h:=by unfold IU Xu;split<;>(try split)<;>omega
theorem E8{b h m:Nat}(a:b<m+1)(c:h<m+1)(q:h≠b):IU b h<m:=by unfold IU;split<;>omega
theorem L6{n b:Nat}(c:n<=7)(a:b<n):(aM n).filter (λh=>!decide (h=b))=(aM (n-1)).map (Xu b):=by
 have:∀n,n<8->∀b,b<8->b<n->(aM n).filter (λh=>!decide (h=b))=(aM (n-1)).map (Xu b):=by decide
 exact this n (by omega) b (by omega) a
theorem JG{f:Nat->Int}{b:Nat}(a:f b=0):∀{m:Nat},b<m+1->sN (m+1) f=sN m (λi=>f (Xu b i))
 | 0,h=>by
  have:b=0:=by omega
  subst this;show 0+f 0=0;rw[a];rfl
 | m+1,h=>by
  by_cases q:b=m+1
  ·subst q;show sN (m+1) f+f (m+1)=_;rw[a,ic];exact Zj λi c=>by unfold Xu;rw[nZ c]
  ·show sN (m+1) f+f (m+1)=sN m (λi=>f (Xu b i))+f (Xu b m);rw[JG a (m:=m) (by omega),show Xu b m=m+1 by unfold Xu;rw[ng (by omega)]]
theorem UK{f:Nat->Int}:∀{n:Nat},(∀i,i<n->0<=f i)->sN n f<=0->∀i,i<n->f i=0
 | 0,_,_,i,h=>by omega
 | n+1,h,s,i,a=>by
  have s:sN n f+f n<=0:=s
  have d:0<=sN n f:=by
   have:∀k,k<=n->0<=sN k f:=by
    intro k
    induction k with
    | zero=>intro _;exact fY 0
    | succ k ih=>intro c;have:=ih (by omega);have:=h k (by omega);show 0<=sN k f+f k;omega
   exact this n (aN n)
  have b:=h n (by omega);by_cases q:i=n
  ·subst q;omega
  ·exact UK (n:=n) (λi a=>h i (by omega)) (by omega) i (by omega)
theorem Xc{f:Nat->Int}:∀{n:Nat},(∀i,i<n->0<=f i)->0<=sN n f
 | 0,_=>fY 0
 | n+1,h=>by have:=Xc (n:=n) λi a=>h i (by omega);have:=h n (by omega);show 0<=sN n f+f n;omega
theorem P4(Y:Nat->Int):∀{n:Nat},0<n->∃h,h<n/\∀g,g<n->Y h<=Y g
 | 0,h=>by omega
 | 1,_=>⟨0,by omega,λg b=>by rw[show g=0 by omega];exact fY _⟩
 | n+2,_=>by
  obtain⟨h,c,a⟩:=P4 Y (n:=n+1) (by omega);by_cases q:Y h<=Y (n+1)
  ·exact⟨h,by omega,λg b=>by
    by_cases e:g=n+1
    ·rw[e];exact q
    ·exact a g (by omega)⟩
  ·exact⟨n+1,by omega,λg b=>by
    by_cases e:g=n+1
    ·rw[e];exact fY _
    ·have:=a g (by omega);omega⟩
noncomputable def gN(W:List (List Int))(Y:Nat->Int)(h:Nat):Int:=sN W.length (λg=>Z9 W h g*(Y g-Y h))
theorem Bi{W:List (List Int)}(ok:ZU W)(q:UH W){Y:Nat->Int}{b:Nat}(r:b<W.length)(j:∀h,h<W.length->h≠b->Y h<Y b->gN W Y h<=0):∀h,h<W.length->Y b<=Y h:=by
 intro h o;refine jE.mp λp=>?_;obtain⟨e,l0,m⟩:=P4 Y (n:=W.length) (by omega);have u:Y e<Y b:=by have:=m h o;omega
 have step:∀a c,a<W.length->c<W.length->0<Z9 W a c->Y a=Y e->Y c=Y e:=λa c d i k ea=>by
  have s:=j a d (λz=>by rw[z] at ea;omega) (by omega);have t:=UK (f:=λg=>Z9 W a g*(Y g-Y a)) (λg l=>dU (ok.lo a g d l) (by have:=m g l;omega)) s c i
  have:Y c-Y a=0:=by
   rcases Int.mul_eq_zero.mp t with z | z
   ·omega
   ·exact z
  omega
 have:=(q (λx=>Y x=Y e) (λa c d i k=>⟨step a c d i k,step c a i d (by rw[ok.sym c a i d];exact k)⟩) e b l0 r).mp rfl;omega
theorem Tt{W:List (List Int)}(Y Z:Nat->Int)(h:Nat):gN W (λx=>Y x+Z x) h=gN W Y h+gN W Z h:=by
 unfold gN;rw[<-YN];exact Zj λg _=>by show Z9 W h g*(Y g+Z g-(Y h+Z h))=_;rw[<-gL];congr 1;omega
theorem WN{W:List (List Int)}(c:Int)(Y:Nat->Int)(h:Nat):gN W (λx=>c*Y x) h=c*gN W Y h:=by
 unfold gN;rw[<-ZO];exact Zj λg _=>by show Z9 W h g*(c*Y g-c*Y h)=_;rw[<-gM,cu]
theorem UL{W:List (List Int)}{Y Z:Nat->Int}{h:Nat}(b:h<W.length)(e:∀g,g<W.length->Y g=Z g):gN W Y h=gN W Z h:=Zj λg a=>by rw[e g a,e h b]
theorem IW(W:List (List Int))(S:List Int)(h:Nat):Wj W S h=gN W (Zp S) h:=by unfold Wj gN;rw[WZ]
noncomputable def Z8(W:List (List Int))(b:Nat):Mt:=λi j=>if Xu b j=Xu b i then(ZT W (Xu b i)).sum else-Z9 W (Xu b i) (Xu b j)
noncomputable def V2(W:List (List Int))(b:Nat)(c:Nat->Int):Mt:=λi j=>if j<W.length-1 then Z8 W b i j else c (Xu b i)
theorem MC{W:List (List Int)}(ok:ZU W){b:Nat}(u:b<W.length){Y:Nat->Int}(o:Y b=0){k:Nat}(e:k<W.length-1):gN W Y (Xu b k) = - sN (W.length-1) (λi=>Z8 W b k i*Y (Xu b i)):=by
 have v:=ok.pos;obtain⟨m,d⟩:∃m,W.length=m+1:=⟨W.length-1,by omega⟩;have c:W.length-1=m:=by omega
 rw[c] at e ⊢;generalize j:Xu b k=h;have a:h<W.length:=by rw[d,<-j];exact Wg e
 have r:sN m (λi=>Z8 W b k i*Y (Xu b i))=sN (m+1) (λg=>(if g=h then(ZT W h).sum else-Z9 W h g)*Y g):=by
  rw[JG (b:=b) (f:=λg=>(if g=h then(ZT W h).sum else-Z9 W h g)*Y g) (by rw[o,cO]) (by omega)];exact Zj λi _=>by unfold Z8;rw[j]
 have l:sN (m+1) (λg=>(if g=h then(ZT W h).sum else-Z9 W h g)*Y g)=(-1)*sN (m+1) (λg=>Z9 W h g*Y g)+(ZT W h).sum*Y h:=by
  have:sN (m+1) (λg=>if g=h then(ZT W h).sum*Y h else 0)=(ZT W h).sum*Y h:=by rw[Yv (k:=h) (by omega) λi _ n=>ng n,nZ rfl]
  rw[<-this,<-ZO,<-YN];refine Zj λg t=>?_;by_cases q:g=h
  ·subst q;rw[nZ rfl,nZ rfl,ok.dia g a];omega
  ·rw[ng q,ng q,cX,cX,iY];omega
 have p:(ZT W h).sum=sN (m+1) (λg=>Z9 W h g):=by rw[Ms ok a,WZ,d]
 have s:gN W Y h=sN (m+1) (λg=>Z9 W h g*Y g)+(- Y h)*sN (m+1) (λg=>Z9 W h g):=by
  unfold gN;rw[d,<-ZO,<-YN];exact Zj λg _=>by rw[gM,bR (- Y h),kX];omega
 rw[s,r,l,p,bR (sN (m+1) λg=>Z9 W h g) (Y h),cX];omega
theorem P5{W:List (List Int)}(ok:ZU W)(C:UH W){b:Nat}(A:b<W.length)(c:Nat->Int):BOk (W.length-1) (Z8 W b) (V2 W b c):=by
 have H:=ok.pos;obtain⟨m,t⟩:∃m,W.length=m+1:=⟨W.length-1,by omega⟩;have d:W.length-1=m:=by omega
 have o:∀i j,i<m->j<m->Z8 W b i j=Z8 W b j i:=λi j r l=>by
  unfold Z8;by_cases q:Xu b j=Xu b i
  ·rw[nZ q,nZ q.symm,q]
  ·rw[ng q,ng (λz=>q z.symm),ok.sym _ _ (by rw[t];exact Wg r) (by rw[t];exact Wg l)]
 rw[d];refine⟨o,λp y z F k w=>?_,λi j r l=>by unfold V2;rw[d,nZ l]⟩;obtain⟨Z,v⟩:∃Z:Nat->Int,∀h,Z h=if h=b then 0 else if IU b h<p then z (IU b h) else 0:=⟨_,λ_=>rfl⟩
 have f:Z b=0:=by rw[v,nZ rfl]
 have u:∀i,Z (Xu b i)=if i<p then z i else 0:=λi=>by rw[v,ng (E7 b i),IV]
 have g:∀j,j<p->gN W Z (Xu b j)=0:=λj l=>by
  rw[MC ok A f (by omega),d]
  have e:sN m (λi=>Z8 W b j i*Z (Xu b i))=sN p (λk=>z k*Z8 W b k j):=by
   rw[RE (q:=p) y λk D B=>by rw[u,ng (by omega),cO]];exact Zj λk w=>by rw[u,nZ w,o j k (by omega) (by omega),bR]
  rw[e,F j l];rfl
 have off:∀h,h<W.length->Z h≠0->gN W Z h=0:=λh s ne=>by
  have n:h≠b:=λz=>ne (by rw[z];exact f);have r:IU b h<p:=by refine Nat.not_le.mp λq=>ne ?_;rw[v,ng n,ng (by omega)]
  have:=g _ r;rw[Qm n] at this;exact this
 have E:=Bi ok C (Y:=Z) A (λh s _ a=>by rw[off h s (by rw[f] at a;omega)];exact fY _)
 have G:=Bi ok C (Y:=λx=>(-1)*Z x) A (λh s _ a=>by
  simp only[f] at a;rw[WN,off h s (by omega)];decide)
 have D:=E (Xu b k) (by rw[t];exact Wg (by omega));have B:=G (Xu b k) (by rw[t];exact Wg (by omega));simp only[f,u,nZ w] at D B;omega
theorem O9{W:List (List Int)}(ok:ZU W)(l:UH W){b:Nat}(j:b<W.length)(c:Nat->Int) :
  ∃R:Nat->Int,R b=0/\(∀i,i<W.length-1->R (Xu b i)=(Wx (W.length-1) (V2 W b c) (W.length-1)).1 i (W.length-1))/\∀h,h<W.length->h≠b->gN W R h = - ((Wx (W.length-1) (V2 W b c) (W.length-1)).2*c h):=by
 have o:=ok.pos;have bk:=P5 ok l j c;obtain⟨R,k⟩:∃R:Nat->Int,∀h,R h=if h=b then 0 else(Wx (W.length-1) (V2 W b c) (W.length-1)).1 (IU b h) (W.length-1):=⟨_,λ_=>rfl⟩
 have d:R b=0:=by rw[k,nZ rfl]
 have f:∀i,R (Xu b i)=(Wx (W.length-1) (V2 W b c) (W.length-1)).1 i (W.length-1):=λi=>by rw[k,ng (E7 b i),IV]
 refine⟨R,d,λi _=>f i,λh n a=>?_⟩;have g:IU b h<W.length-1:=E8 (m:=W.length-1) (by omega) (by omega) a;have e:=MC ok j d g;rw[Qm a] at e;have s:=GC bk g;have x:V2 W b c (IU b h) (W.length-1)=c h:=by unfold V2;rw[ng (by omega),Qm a]
 rw[x] at s;rw[e,<-s];congr 1;exact Zj λi _=>by rw[f]
theorem L7(l:List Int)(g:Int->Int):l.map g=(aM l.length).map λi=>g (Zp l i):=by refine V1 (by simp) λi a=>?_;rw[aP] at a;rw[Ya (by omega)];simp[Zp,aJ,aL a]
theorem P6{n:Nat}{ix:List Nat}{b:XL}{c:XT}{d:XE}{s:ZE}{l:List Int}(g:Int->Int)(a:b s=aA (iL l))(f:l.length<=1000)(h:∀x∈l,∃s1,Xj (.one 0) (.int x) (ZQ n ix s)=aA s1/\c s1=aA aC/\d s1=aA (.int (g x))) :
  Zu n ix b (.one 0) c d s=aA (.lst (iL (l.map g))):=by
 rw[ZZ l (λ(x:Int)=>.int x) (λx=>.int (g x)) a (by omega) (λx e=>h x e)];simp
theorem P7{l:List Int}(b:0<l.length)(d:l.length<=1000):VH [pP l]=aA (pP (ZI l)):=by
 have c:Zu 1 [1] (TV (Za 0)) (.one 0) Zy (Zi Y5 (Za 0) (Za 1)) [aA (pP l),aA (.int (X2 l))]=aA (.lst (iL (ZI l))):=by rw[show ZI l=l.map λx=>x-X2 l from(L7 l λx=>x-X2 l).symm];exact P6 (λx=>x-X2 l) (QY rfl) d λx e=>⟨_,rfl,rfl,by simp[ZQ]⟩
 have a:=Ct X2 (l:=l) (fS.mp b);simp[VH,Ip,Yy,ZC,a,c]
theorem GG{W:List (List Int)}{h m:Nat}{f:Nat->Nat}(ok:ZU W)(a:h<W.length)(d:m<=6)(c:∀i,i<m->f i<W.length) :
  Pd [wP W,.int (h:Int),.lst (iL (nL ((aM m).map f)))]=aA (pP (ZV m λj=>if f j=h then(ZT W h).sum else-Z9 W h (f j))):=by
 refine YZ (ret (JE (c1 (XM (q:=λj=>.int ((f j:Nat):Int)) _ (by show aA (iL (nL ((aM m).map f)))=_;simp[nL]) (by omega) λj b=>⟨_,rfl,?_⟩) rfl)));by_cases q:f j=h
 ·rw[nZ q];exact EY (xb ((Dy rfl rfl).trans (by rw[decide_eq_true (by omega)]))) (c2 rfl rfl (Jw a))
 ·rw[ng q];exact EZ (xb ((Dy rfl rfl).trans (by rw[decide_eq_false (by omega)]))) (un1 (o2 (o2 rfl rfl (UT a)) rfl (Xy (by rw[ok.sq h a];exact c j b))) rfl)
theorem W3{W:List (List Int)}{b:Nat}(ok:ZU W)(g:b<W.length) :
  YV [wP W,.int (b:Int)]=aA (wP (Wt (W.length-1) (W.length-1) (Z8 W b))):=by
 have l:=ok.pos;have d:=ok.few;obtain⟨m,e⟩:∃m,W.length=m+1:=⟨W.length-1,by omega⟩;have a:W.length-1=m:=by omega
 rw[a];have fo:∀i,i<m->Xu b i<W.length:=λi c=>by rw[e];exact Wg c
 have k:Zu 1 [1] (ZX [Zc YG [Za 0]]) (.one 0) (xB (Zi (XZ aC) (Za 0) (Za 1))) (eP (Za 0)) [aA (wP W),aA (.int (b:Int)),none]=aA (.lst (iL (nL ((aM m).map (Xu b))))):=by
  rw[VF (aM W.length) (λ(i:Nat)=>.int (i:Int)) (λ(i:Nat)=>.int (i:Int)) (λh=>!decide (h=b)) (Z6 (n:=W.length) (by simp) (by omega)) (by simp;omega) λy o=>⟨[aA (.int (y:Int)),aA (.int (b:Int))],rfl,?_,λ_=>by simp⟩]
  ·rw[L6 d g,a];simp[nL]
  ·by_cases q:y=b
   ·simp[q]
   ·have j:¬(y:Int)=(b:Int):=by omega
    simp[q,j]
 exact YZ (sq (Zr k) (ret (ep (c1 (W0 (w:=m) (Z8 W b) (q:=λi=>.int ((Xu b i:Nat):Int)) (by show aA (iL (nL ((aM m).map (Xu b))))=_;simp[nL]) (by omega) λi c=>⟨_,rfl,c3 rfl rfl rfl (GG (f:=Xu b) ok (fo i c) (by omega) fo)⟩) rfl) (Uk _))))
theorem Bj{l:List Int}{b h:Nat}{x:Int}(c:b<=l.length)(d:h<l.length+1):Zp (l.take b++x::l.drop b) h=if h=b then x else Zp l (IU b h):=by
 unfold Zp IU;rw[aJ,aJ];by_cases q:h<b
 ·rw[ng (by omega),nZ q,ao (by rw[bV];omega),fN q]
 ·rw[bU (by rw[bV];omega),bV,eB c];by_cases a:h=b
  ·rw[nZ a,a,Nat.sub_self];rfl
  ·rw[ng a,ng q,show h-b=(h-b-1)+1 by omega,List.getElem?_cons_succ,eZ,show b+(h-b-1)=h-1 by omega]
theorem MD{f:Nat->Int}:∀{n:Nat},(∀i,i<n->0<=f i/\f i<=9)->0<=sN n f/\sN n f<=9*n
 | 0,_=>⟨fY _,by show(0:Int)<=_;omega⟩
 | n+1,h=>by
  obtain⟨a,b⟩:=MD (n:=n) λi c=>h i (by omega);have:=h n (by omega);refine⟨?_,?_⟩
  ·show 0<=sN n f+f n;omega
  ·show sN n f+f n<=_;omega
theorem GH{W:List (List Int)}(ok:ZU W){b:Nat}{c:Nat->Int}{i j:Nat}(h:i<W.length-1)(d:j<W.length-1):(V2 W b c i j).natAbs<=2^7:=by
 have k:=ok.pos;have l:=ok.few;have e:Xu b i<W.length:=by have:=Wg (b:=b) h;omega
 have g:Xu b j<W.length:=by have:=Wg (b:=b) d;omega
 unfold V2 Z8;rw[nZ d];split
 ·rw[Ms ok e,WZ];obtain⟨a,b⟩:=MD (f:=λj=>Z9 W (Xu b i) j) (n:=W.length) λj d=>⟨ok.lo _ j e d,ok.hi _ j e d⟩;omega
 ·have:=ok.lo _ _ e g;have:=ok.hi _ _ e g;omega
noncomputable def Na(W:List (List Int))(D:List Int)(b:Nat):List Int:=
 (ZV (W.length-1) λi=>((Wx (W.length-1) (V2 W b (Zp D)) (W.length-1)).1 i (W.length-1)).fdiv (Wx (W.length-1) (V2 W b (Zp D)) (W.length-1)).2).take b++0::(ZV (W.length-1) λi=>((Wx (W.length-1) (V2 W b (Zp D)) (W.length-1)).1 i (W.length-1)).fdiv (Wx (W.length-1) (V2 W b (Zp D)) (W.length-1)).2).drop b
theorem E9{W:List (List Int)}{D:List Int}{b:Nat}(a:b<W.length):(Na W D b).length=W.length:=by unfold Na;rw[bJ,bV,bp,ck,ZL];omega
theorem Dc{W:List (List Int)}{D:List Int}{b:Nat}(ok:ZU W)(f:UH W)(l:D.length=W.length)(d:b<W.length)(k:∀h,h<W.length->(Zp D h).natAbs<=2^208):Wv [wP W,pP D,.int (b:Int)]=aA (pP (Na W D b)):=by
 have m:=ok.few
 have g:D.take b++D.drop (b+1)=ZV (W.length-1) λi=>V2 W b (Zp D) i (W.length-1):=by
  refine V1 (by rw[bJ,bV,ck,ZL];omega) λi a=>?_;have a:i<W.length-1:=by rw[bJ,bV,ck] at a;omega
  rw[YO a];unfold V2 Xu Zp;rw[ng (by omega),aJ,aJ];by_cases q:i<b
  ·rw[nZ q,ao (by rw[bV];omega),fN q]
  ·rw[ng q,bU (by rw[bV];omega),bV,eZ];congr 2;omega
 have c:=GF (by omega) (P5 ok f d (Zp D)) (λi j a e=>GH ok a e) (λi a=>by
  unfold V2;rw[ng (by omega)];exact k _ (by have:=Wg (b:=b) a;omega))
 rw[<-g] at c;exact YZ (sq (Zr (JE (o2 (IJ rfl rfl (by omega)) (C7 rfl rfl (by omega)) (My (by rw[bV,ck];omega))))) (sq (Zr (c2 (c2 rfl rfl (W3 ok d)) rfl c)) (sq (Zbb rfl rfl rfl (by omega) (by rw[ZL];omega)) (ret (JE (c1 rfl rfl))))))
theorem JH{W:List (List Int)}{D:List Int}{b:Nat}(ok:ZU W)(n:UH W)(t:D.length=W.length)(j:b<W.length)(u:∀h,h<W.length->(Zp D h).natAbs<=2^208) :
  ∃(S0:List Int) (d:Int) (R:Nat->Int),Wv [wP W,pP D,.int (b:Int)]=aA (pP S0)/\S0.length=W.length/\0<d/\R b=0/\Zp S0 b=0/\(∀h,h<W.length->d*Zp S0 h<=R h/\R h<d*Zp S0 h+d)/\∀h,h<W.length->h≠b->gN W R h = - (d*Zp D h):=by
 have v:=ok.few;obtain⟨R,k,s,p⟩:=O9 ok n j (Zp D);have r:=(Xb (P5 ok n j (Zp D)) (aN _)).nz;have run:=Dc ok n t j u;have len:=E9 (W:=W) (D:=D) j
 have a:∀h,h<W.length->Zp (Na W D b) h=if h=b then 0 else(R h).fdiv (Wx (W.length-1) (V2 W b (Zp D)) (W.length-1)).2:=λh c=>by
  unfold Na;rw[Bj (by rw[ZL];omega) (by rw[ZL];omega)];by_cases q:h=b
  ·rw[nZ q,nZ q]
  ·have i:=E8 (m:=W.length-1) (by omega) (by omega) q;rw[ng q,ng q,YO i,<-s _ i,Qm q]
 generalize (Wx (W.length-1) (V2 W b (Zp D)) (W.length-1)).2=d at *;generalize Na W D b=l at *;have f:Zp l b=0:=by rw[a b j,nZ rfl]
 have a:∀h,h<W.length->Zp l h=(R h).fdiv d:=λh c=>by
  rw[a h c];split
  ·rename_i q;rw[q,k];simp
  ·rfl
 rcases fj r with neg | pos
 ·refine⟨_,- d,λh=>- R h,run,len,by omega,by show-R b=0;rw[k];rfl,f,λh c=>?_,λh c o=>?_⟩
  ·have e:(R h).fdiv d=(- R h)/(- d):=by rw[<-mR,dO _ (by omega)]
   rw[a h c,e];exact⟨kY (by omega),j7 (by omega)⟩
  ·have:=WN (W:=W) (-1) R h;rw[p h c o] at this;rw[UL (Z:=λx=>(-1)*R x) c (λg _=>by show-R g=(-1)*R g;omega),this,cX d];omega
 ·refine⟨_,d,R,run,len,pos,k,f,λh c=>?_,p⟩;rw[a h c,dO _ (by omega)];exact⟨kY (by omega),j7 pos⟩
theorem Dd{c:XT}{fb:XS}(g:Nat->ZE->Prop)(step:∀k st,g k st->c st=aA aB\/(c st=aA aC/\∃s2 k',fb st=aA (.nx s2)/\k'<k/\g k' s2)){k:Nat}{s:ZE}(o:g k s) :
  ∃f k',Xl c fb s=aA (.nx f)/\g k' f/\c f=aA aB:=by
 have j:∀(n k:Nat)(st:ZE),k<n->g k st->∃f k',Yt c fb n st=aA (.nx f)/\g k' f/\c f=aA aB:=by
  intro n
  induction n with
  | zero=>intro k st h;omega
  | succ n ih=>
   intro k st p m;rcases step k st m with i | ⟨i,s2,k',e,q,l⟩
   ·exact⟨st,k,by unfold Yt;rw[i];rfl,m,i⟩
   ·obtain⟨f,k2,a,b,d⟩:=ih k' s2 (by omega) l;refine⟨f,k2,?_,b,d⟩;unfold Yt;rw[i];simp only[e];exact a
 obtain⟨f,k',a,b,d⟩:=j (k+1) k s (by omega) o;exact⟨f,k',OU a,b,d⟩
noncomputable def Ve(n:Nat)(L:List Nat):List Int:=(aM n).map λh=>if h∈L then -1 else 0
theorem ME{W:List (List Int)}{L:List Nat}(c:W.length<=7):Xa [wP W,.lst (iL (nL L))]=aA (pP (Ve W.length L)):=by
 have a:Zu 1 [1] (ZX [Zc YG [Za 0]]) (.one 0) Zy (Fv (xB (Zi (HC aB) (Za 0) (Za 1))) (GW NA (eC (.int 1))) (eC (.int 0))) [aA (wP W),aA (.lst (iL (nL L)))]=aA (.lst (iL (Ve W.length L))):=by
  rw[Vp (λh=>if h∈L then -1 else 0) (Z6 (n:=W.length) (by simp) (by omega)) (by omega) λi b=>⟨[aA (.int (i:Int)),aA (.lst (iL (nL L)))],rfl,rfl,?_⟩]
  ·rfl
  ·have g:=C6 i L;have t:xB (Zi (HC aB) (Za 0) (Za 1)) [aA (.int (i:Int)),aA (.lst (iL (nL L)))]=aA (decide (i∈L)):=by rw[NM];show(HC aB (.int (i:Int)) (.lst (iL (nL L)))).bind blO=_;rw[g];rfl
   rw[NN,t];by_cases q:i∈L
   ·rw[nZ q,decide_eq_true q];rfl
   ·rw[ng q,decide_eq_false q];rfl
 show(ZM _ [aA (wP W),aA (.lst (iL (nL L)))]).bind Uj=_;have:Zc ZN [Zu 1 [1] (ZX [Zc YG [Za 0]]) (.one 0) Zy (Fv (xB (Zi (HC aB) (Za 0) (Za 1))) (GW NA (eC (.int 1))) (eC (.int 0)))] [aA (wP W),aA (.lst (iL (nL L)))]=aA (pP (Ve W.length L)):=by simp only[YB,ZA,Ie,a,aT,eD,Y0]
 rw[Ou (v:=pP (Ve W.length L)) (by rw[NL,this];simp)];rfl
theorem Bk{n:Nat}{L:List Nat}{h:Nat}(a:h<n):Zp (Ve n L) h=if h∈L then -1 else 0:=Ya a
theorem UM{W:List (List Int)}{D S:List Int}{h:Nat}(a:h<D.length):Zp (ZG W D S) h=Zp D h+gN W (Zp S) h:=by rw[WH a,IW]
structure L8(W:List (List Int))(b:Nat)(n0:Nat->Int)(B:Nat->Int):Prop where
 pos:∀h,h<W.length->0<=B h
 base:B b=0
 free:∀h,h<W.length->h≠b->0<=n0 h-gN W B h
theorem Bm{W:List (List Int)}(ok:ZU W)(j:UH W){b:Nat}(k:b<W.length)(d:Nat->Int):∃B,L8 W b d B:=by
 obtain⟨z,l,_,p⟩:=O9 ok j k (λ_=>1);have u:=(Xb (P5 ok j k (λ_=>1)) (aN _)).nz
 obtain⟨y,s,r⟩:∃y:Nat->Int,y b=0/\∀h,h<W.length->h≠b->gN W y h<=-1:=by
  rcases fj u with neg | pos
  ·exact⟨λx=>(-1)*z x,by show(-1)*z b=0;rw[l];rfl,λh c a=>by rw[WN,p h c a];omega⟩
  ·exact⟨z,l,λh c a=>by rw[p h c a];omega⟩
 have t:=Bi ok j (Y:=y) k (λh c a _=>by have:=r h c a;omega);rw[s] at t;obtain⟨K,o⟩:∃K:Int,K=sN W.length (λh=>((d h).natAbs:Int)):=⟨_,rfl⟩;have m:0<=K:=by rw[o];exact Xc λi _=>by omega
 have g:∀h,h<W.length->- d h<=K:=λh c=>by
  have:∀n,h<n->- d h<=sN n (λh=>((d h).natAbs:Int)):=by
   intro n
   induction n with
   | zero=>intro q;omega
   | succ n ih=>
    intro q;show _<=sN n (λh=>((d h).natAbs:Int))+((d n).natAbs:Int);by_cases e:h=n
    ·subst e;have:=Xc (f:=λh=>((d h).natAbs:Int)) (n:=h) λi _=>by omega
     omega
    ·have:=ih (by omega);omega
  rw[o];exact this _ c
 refine⟨λx=>K*y x,λh c=>dU m (t h c),by rw[s,cO],λh c a=>?_⟩;rw[WN];have v:=r h c a;have A:=iZ v m;have w:=g h c;omega
theorem GI{W:List (List Int)}(ok:ZU W){b:Nat}{k B B':Nat->Int}(f:L8 W b k B')(j:∀h,h<W.length->B h<=B' h){h:Nat}(c:h<W.length)(a:h≠b)(d:k h-gN W B h<0):B h<B' h:=by
 refine Int.lt_iff_le_and_ne.mpr ⟨j h c,λe=>?_⟩;have n:=f.free h c a
 have m:gN W B h<=gN W B' h:=by
  have:0<=sN W.length (λg=>Z9 W h g*(B' g-B' h)+(-1)*(Z9 W h g*(B g-B h))):=Xc λg i=>by
   have l:Z9 W h g*(B' g-B' h)+(-1)*(Z9 W h g*(B g-B h))=Z9 W h g*(B' g-B g):=by rw[e,cX,iY,<-Int.sub_eq_add_neg,<-gM];congr 1;omega
   rw[l];exact dU (ok.lo h g c i) (by have:=j g i;omega)
  rw[YN,ZO] at this;unfold gN;omega
 omega
structure Qn(W:List (List Int))(b:Nat)(N:List Int)(F:List Nat):Prop where
 free:∀h,h<W.length->h≠b->0<=Zp N h
 burn:Burn W N b F
 stop:Xn W N F=none
 all:∀h,h<W.length->h∈F
theorem De{W:List (List Int)}{N:List Int}(ok:ZU W)(U:UH W){b:Nat}(X:b<W.length){k B R:Nat->Int}{d:Int}(hd0:0<d)(I:R b=0)(L:∀h,h<W.length->0<=R h/\R h<d)(P:∀h,h<W.length->h≠b->gN W R h = - (d*k h))
  (hN:∀h,h<W.length->Zp N h=k h-gN W B h) (f:L8 W b k B) (j:∀B',L8 W b k B'->∀h,h<W.length->B h<=B' h) {F:List Nat} (A:Burn W N b F) (st:Xn W N F=none):∀h,h<W.length->h∈F:=by
 intro x y;refine cA λt=>?_;have S:=c9 A.hd;obtain⟨T,m⟩:∃T:Nat->Int,∀h,T h=if h∈F then 0 else 1:=⟨_,λ_=>rfl⟩
 have D:T b=0:=by rw[m,nZ S]
 have s:∀h,0<=T h/\T h<=1:=λh=>by rw[m];split<;>omega
 -- what the houses outside lend to those that burn
 have w:∀h,h<W.length->h∉F->gN W T h = - XH W h F:=λh c E=>by
  have Z:gN W T h=(-1)*sN W.length (λg=>if g∈F then Z9 W h g else 0):=by
   rw[<-ZO];refine Zj λg u=>?_;rw[m,m];split
   ·rw[Int.zero_sub];omega
   ·simp
  have J:sN W.length (λg=>if g∈F then Z9 W h g else 0)=XH W h F:=by
   have v:∀l:List Nat,l.Nodup->(∀x∈l,x<W.length)->sN W.length (λg=>if g∈l then Z9 W h g else 0)=(l.map λo=>Z9 W h o).sum:=by
    intro l
    induction l with
    | nil=>intro _ _;rw[Ws λi _=>by simp];rfl
    | cons a r ih=>
     intro C lt;rw[bY] at C;rw[cM,g8,<-ih C.2 λx y=>lt x (aW _ y)];have:Z9 W h a=sN W.length (λg=>if g=a then Z9 W h a else 0):=by rw[Yv (lt a af) λi _ Q=>ng Q,nZ rfl]
     rw[this,<-YN];refine Zj λg u=>?_;by_cases q:g=a
     ·subst q;rw[nZ af,ng C.1];omega
     ·by_cases p:g∈r
      ·rw[nZ (aW _ p),nZ p];omega
      ·rw[ng (λz=>(aa.mp z).elim q p),ng q,ng p];rfl
   exact v F A.nd A.lt
  rw[Z,J];omega
 have n:∀h,h<W.length->h∈F->0<=gN W T h:=λh c E=>Xc λg u=>by rw[show T h=0 by rw[m,nZ E]];exact dU (ok.lo h g c u) (by have:=(s g).1;omega)
 have sub:∀h,gN W (λx=>B x+(-1)*T x) h=gN W B h-gN W T h:=λh=>by rw[Tt,WN];omega
 have free:∀h,h<W.length->h≠b->0<=k h-gN W (λx=>B x+(-1)*T x) h:=λh c e=>by
  rw[sub];by_cases q:h∈F
  ·have:=n h c q;have:=f.free h c e;omega
  ·have G:=w h c q;have M:=JD st c q;rw[hN h c] at M;omega
 have f2:L8 W b k (λx=>B x+(-1)*T x):=by
  refine⟨λh c=>?_,by show B b+(-1)*T b=0;rw[f.base,D];rfl,free⟩
  have O:=Bi ok U X (λh c e _=>by
   rw[Tt R (λx=>d*(B x+(-1)*T x)),WN,P h c e];have:=free h c e;have H:0<=d*(k h-gN W (λx=>B x+(-1)*T x) h):=dU (by omega) this;rw[gM] at H;omega) h c
  rw[I,f.base,D] at O;have:=(L h c).2;refine jE.mp λneg=>?_;have Y:B h+(-1)*T h<=-1:=by omega
  have h5:d*(B h+(-1)*T h)<=d*(-1):=iZ Y (by omega);omega
 have G:=j _ f2 x y;rw[show T x=1 by rw[m,ng t]] at G;omega
theorem U1{W:List (List Int)}{D:List Int}{b:Nat}(ok:ZU W)(cn:UH W)(E:D.length=W.length)(I:b<W.length)(hD:∀h,h<W.length->(Zp D h).natAbs<=2^208) :
  ∃(S N:List Int) (F:List Nat),Yc [wP W,pP D,.int (b:Int)]=aA (.tup [pP (ZI S),pP N,.lst (iL (nL F))])/\S.length=W.length/\N=ZG W D S/\Qn W b N F:=by
 have hf:=ok.few;obtain⟨a,d,R,en,l0,d0,Rb,S0b,Rs,Rg⟩:=JH ok cn E I hD;obtain⟨t,y⟩:∃t:Nat->Int,∀h,t h=Zp D h+gN W (Zp a) h:=⟨_,λ_=>rfl⟩;obtain⟨Bs,fs⟩:=Bm ok cn I t;have v:∀S:List Int,(ZG W D S).length=W.length:=λS=>by rw[Yd,E]
 let st:=λS n=>[aA (wP W),aA (pP D),aA (.int (b:Int)),aA (pP S),aA (pP (ZG W D S)),aA (.lst (iL (nL (Xt (ZG W D S) b)))),n];have r:∀(S:List Int)(B:Nat->Int),(∀h,h<W.length->Zp S h=Zp a h-B h)->∀h,h<W.length->Zp (ZG W D S) h=t h-gN W B h:=λS B e h j=>by rw[UM (by omega),y,UL (Z:=λx=>Zp a x+(-1)*B x) j (λg Y=>by rw[e g Y];omega),Tt,WN];omega
 let J:=λk s=>∃(S:List Int) (B:Nat->Int) (n:Option PV),s=st S n/\S.length=W.length/\(∀h,h<W.length->Zp S h=Zp a h-B h)/\(∀h,h<W.length->0<=B h)/\B b=0/\(∀B',L8 W b t B'->∀h,h<W.length->B h<=B' h)/\k=(sN W.length (λh=>Bs h-B h)).toNat;have j0:J (sN W.length (λh=>Bs h-0)).toNat (st a none):=⟨a,λ_=>0,none,rfl,l0,λh _=>by(show Zp a h=Zp a h-0);omega,λh _=>fY 0,rfl,λB' f h j=>f.pos h j,rfl⟩
 obtain⟨s',k',w1,⟨S,B,n,rfl,lS,M,T,Q,G,_⟩,w3⟩:=Dd (c:=xB (Zi M8 (Zc YG [Za 5]) (eC (.int 0)))) (fb:=(Zm (Zq 6 (Zc Xa [Za 0,Za 5]))
  (Zm (Zq 3 (Zc Tj [Za 3,Za 6]))
  (Zm (Zq 4 (Zc U9 [Za 0,Za 4,Za 6]))
  (Zq 5 (Zc YU [Za 4,Za 2])))))) J (by
   rintro k s ⟨S,B,n,rfl,lS,M,T,Q,G,rfl⟩;have H:xB (Zi M8 (Zc YG [Za 5]) (eC (.int 0))) (st S n)=aA (decide ((0:Int)<((Xt (ZG W D S) b).length:Int))):=by show aA (decide ((0:Int)<((iL (nL (Xt (ZG W D S) b))).length:Int)))=_;simp[nL]
   by_cases q:Xt (ZG W D S) b=[]
   ·left;rw[H,q];rfl
   ·right;have ql:=fS.mpr q;refine⟨by rw[H,decide_eq_true (by omega)],?_⟩;generalize hL:Xt (ZG W D S) b=L at *;have p:∀h,h∈L↔h<W.length/\h≠b/\Zp (ZG W D S) h<0:=λh=>by rw[<-hL,EW,v]
    let m:=Jx S (Ve W.length L);have lb:(Ve W.length L).length=W.length:=by simp[Ve]
    have U:m.length=W.length:=by rw[EM];exact lS
    have X:Zq 6 (Zc Xa [Za 0,Za 5]) [aA (wP W),aA (pP D),aA (.int (b:Int)),aA (pP S),aA (pP (ZG W D S)),aA (.lst (iL (nL L))),n]=aA (.nx [aA (wP W),aA (pP D),aA (.int (b:Int)),aA (pP S),aA (pP (ZG W D S)),aA (.lst (iL (nL L))),aA (pP (Ve W.length L))]):=by have:Zc Xa [Za 0,Za 5] [aA (wP W),aA (pP D),aA (.int (b:Int)),aA (pP S),aA (pP (ZG W D S)),aA (.lst (iL (nL L))),n]=aA (pP (Ve W.length L)):=ME hf;rw[Yk,this];rfl
    have e2:Zq 3 (Zc Tj [Za 3,Za 6]) [aA (wP W),aA (pP D),aA (.int (b:Int)),aA (pP S),aA (pP (ZG W D S)),aA (.lst (iL (nL L))),aA (pP (Ve W.length L))]=aA (.nx [aA (wP W),aA (pP D),aA (.int (b:Int)),aA (pP m),aA (pP (ZG W D S)),aA (.lst (iL (nL L))),aA (pP (Ve W.length L))]):=by have:Zc Tj [Za 3,Za 6] [aA (wP W),aA (pP D),aA (.int (b:Int)),aA (pP S),aA (pP (ZG W D S)),aA (.lst (iL (nL L))),aA (pP (Ve W.length L))]=aA (pP m):=C3 (by omega) (by omega);rw[Yk,this];rfl
    have rr:ZG W (ZG W D S) (Ve W.length L)=ZG W D m:=IF E λi hi=>LS (by omega)
    have P:Zq 4 (Zc U9 [Za 0,Za 4,Za 6]) [aA (wP W),aA (pP D),aA (.int (b:Int)),aA (pP m),aA (pP (ZG W D S)),aA (.lst (iL (nL L))),aA (pP (Ve W.length L))]=aA (.nx [aA (wP W),aA (pP D),aA (.int (b:Int)),aA (pP m),aA (pP (ZG W D m)),aA (.lst (iL (nL L))),aA (pP (Ve W.length L))]):=by
     have:Zc U9 [Za 0,Za 4,Za 6] [aA (wP W),aA (pP D),aA (.int (b:Int)),aA (pP m),aA (pP (ZG W D S)),aA (.lst (iL (nL L))),aA (pP (Ve W.length L))]=aA (pP (ZG W D m)):=by rw[<-rr];exact EJ ok (v S) lb
     rw[Yk,this];rfl
    have e4:Zq 5 (Zc YU [Za 4,Za 2]) [aA (wP W),aA (pP D),aA (.int (b:Int)),aA (pP m),aA (pP (ZG W D m)),aA (.lst (iL (nL L))),aA (pP (Ve W.length L))]=aA (.nx (st m (aA (pP (Ve W.length L))))):=by have:Zc YU [Za 4,Za 2] [aA (wP W),aA (pP D),aA (.int (b:Int)),aA (pP m),aA (pP (ZG W D m)),aA (.lst (iL (nL L))),aA (pP (Ve W.length L))]=aA (.lst (iL (nL (Xt (ZG W D m) b)))):=PU (by rw[v];omega);rw[Yk,this];rfl
    obtain⟨B',o⟩:∃B':Nat->Int,∀h,B' h=B h+(if h∈L then 1 else 0):=⟨_,λ_=>rfl⟩
    have less:∀C,L8 W b t C->∀h,h<W.length->B' h<=C h:=λC O h j=>by
     rw[o];by_cases z:h∈L
     ·rw[nZ z];obtain⟨_,z2,z3⟩:=(p h).mp z;rw[r S B M h j] at z3;have:=GI ok O (λg Y=>G C O g Y) j z2 z3;omega
     ·rw[ng z];have:=G C O h j;omega
    refine⟨st m (aA (pP (Ve W.length L))),(sN W.length (λh=>Bs h-B' h)).toNat,?_,?_,m,B',_,rfl,U,λh j=>?_,λh j=>?_,?_,less,rfl⟩
    ·show Zm _ _ [aA (wP W),aA (pP D),aA (.int (b:Int)),aA (pP S),aA (pP (ZG W D S)),aA (.lst (iL (nL (Xt (ZG W D S) b)))),n]=_;rw[hL,Yp X,Yp e2,Yp P,e4]
    ·have p1:0<=sN W.length (λh=>Bs h-B' h):=Xc λh j=>by have:=less Bs fs h j;omega
     have p2:sN W.length (λh=>Bs h-B h)=sN W.length (λh=>Bs h-B' h)+sN W.length (λh=>if h∈L then 1 else 0):=by
      rw[<-YN];exact Zj λh _=>by rw[o];omega
     have p3:0<sN W.length (λh=>if h∈L then(1:Int) else 0):=by refine Int.not_le.mp λz=>?_;obtain⟨x,hx⟩:=List.exists_mem_of_length_pos ql;have:=UK (λi _=>by split<;>omega) z x ((p x).mp hx).1;rw[nZ hx] at this;omega
     omega
    ·rw[LS (by omega),Bk j,M h j,o];split<;>omega
    ·have:=T h j;rw[o];split<;>omega
    ·rw[o,ng (λz=>((p b).mp z).2.1 rfl),Q];rfl) j0
 have w:Xt (ZG W D S) b=[]:=by
  refine cA λq=>?_;have ql:=fS.mpr q;have H:xB (Zi M8 (Zc YG [Za 5]) (eC (.int 0))) (st S n)=aA (decide ((0:Int)<((Xt (ZG W D S) b).length:Int))):=by show aA (decide ((0:Int)<((iL (nL (Xt (ZG W D S) b))).length:Int)))=_;simp[nL]
  rw[H,decide_eq_true (by omega)] at w3;cases w3
 have free:=debt_nil.mp w;rw[v] at free;have nr:=r S B M;have fB:L8 W b t B:=⟨T,Q,λh j u=>by rw[<-nr h j];exact free h j u⟩;obtain⟨F,eF,Bu,A⟩:=EV ok (v S) I
 -- what the rounding left
 have all:=De ok cn I (R:=λh=>R h+(- d)*Zp a h) d0 (by show R b+(- d)*Zp a b=0;rw[Rb,S0b,cO];rfl)
  (λh j=>by
   have:=Rs h j;rw[cX];omega)
  (λh j u=>by rw[Tt R (λx=>(- d)*Zp a x),WN,Rg h j u,y,gL,cX];omega) nr fB G Bu A
 refine⟨S,ZG W D S,F,?_,lS,rfl,free,Bu,A,all⟩;have X:Zq 3 (Zc Wv [Za 0,Za 1,Za 2]) [aA (wP W),aA (pP D),aA (.int (b:Int)),none,none,none,none]=aA (.nx [aA (wP W),aA (pP D),aA (.int (b:Int)),aA (pP a),none,none,none]):=by have:Zc Wv [Za 0,Za 1,Za 2] [aA (wP W),aA (pP D),aA (.int (b:Int)),none,none,none,none]=aA (pP a):=en;rw[Yk,this];rfl
 have e2:Zq 4 (Zc U9 [Za 0,Za 1,Za 3]) [aA (wP W),aA (pP D),aA (.int (b:Int)),aA (pP a),none,none,none]=aA (.nx [aA (wP W),aA (pP D),aA (.int (b:Int)),aA (pP a),aA (pP (ZG W D a)),none,none]):=by have:Zc U9 [Za 0,Za 1,Za 3] [aA (wP W),aA (pP D),aA (.int (b:Int)),aA (pP a),none,none,none]=aA (pP (ZG W D a)):=EJ ok E l0;rw[Yk,this];rfl
 have P:Zq 5 (Zc YU [Za 4,Za 2]) [aA (wP W),aA (pP D),aA (.int (b:Int)),aA (pP a),aA (pP (ZG W D a)),none,none]=aA (.nx (st a none)):=by have:Zc YU [Za 4,Za 2] [aA (wP W),aA (pP D),aA (.int (b:Int)),aA (pP a),aA (pP (ZG W D a)),none,none]=aA (.lst (iL (nL (Xt (ZG W D a) b)))):=PU (by rw[v];omega);rw[Yk,this];rfl
 show(Zm _ _ [aA (wP W),aA (pP D),aA (.int (b:Int)),none,none,none,none]).bind Uj=_;rw[Yp X,Yp e2,Yp P,Yp w1];have g1:Zc VH [Za 3] (st S n)=aA (pP (ZI S)):=P7 (by omega) (by omega);have g2:eP (Za 4) (st S n)=aA (pP (ZG W D S)):=by show(aA (pP (ZG W D S))).bind (λl=>if Z5 l=aC then aA l else none)=_;simp
 have g3:Zc Qe [Za 0,Za 4,Za 2] (st S n)=aA (.lst (iL (nL F))):=eF;rw[Ou (by rw[Ll,ZA,ZA,ZA,g1,g2,g3];rfl)];rfl
theorem Dg{W:List (List Int)}{D S:List Int}{X Y:PV}(ok:ZU W)(I:D.length=W.length)(A:∀k:Nat,k<W.length->ZJ X (.int (k:Int))=aA (.int (Zp D k)))(t:∀k:Nat,k<W.length->ZJ Y (.int (k:Int))=aA (.int (Zp S k))) :
  Qf [wP W,X,Y]=aA (pP (ZG W D S)):=by
 have L:=ok.few
 let fb:XS:=(Zm (Zq 5 (eP (Zc Vw [Zu 1 [0,4,2] (ZX [Zc YG [Za 0]]) (.one 0) Zy (Zi WA (Zi ZJ (Zi ZJ (Za 1) (Za 2)) (Za 0)) (Zi Y5 (Zi ZJ (Za 3) (Za 2)) (Zi ZJ (Za 3) (Za 0))))])))
  (XI 3 (eP (Zi Y5 (Zi ZJ (Za 1) (Za 4)) (Za 5)))))
 obtain⟨M,f1,h,a,hs⟩:=WB (T:=.one 4) (fb:=fb) (ls:=TX W.length) (s:=[aA (wP W),aA X,aA Y,aA (.lst (iL [])),none,none])
  (λi st=>∃h a,st=[aA (wP W),aA X,aA Y,aA (.lst (iL ((ZG W D S).take i))),h,a]) ⟨none,none,by simp⟩ (by
   rintro k l st v ⟨h,a,rfl⟩;obtain⟨c,rfl⟩:=Um v
   have G:Zu 1 [0,4,2] (ZX [Zc YG [Za 0]]) (.one 0) Zy (Zi WA (Zi ZJ (Zi ZJ (Za 1) (Za 2)) (Za 0)) (Zi Y5 (Zi ZJ (Za 3) (Za 2)) (Zi ZJ (Za 3) (Za 0)))) [aA (wP W),aA X,aA Y,aA (.lst (iL ((ZG W D S).take k))),aA (.int (k:Int)),a]=aA (.lst (iL ((aM W.length).map λj=>Z9 W k j*(Zp S k-Zp S j)))):=by
    refine Vp (λj=>Z9 W k j*(Zp S k-Zp S j)) (Z6 (n:=W.length) (by simp) (by omega)) (by omega) λj p=>⟨[aA (.int (j:Int)),aA (wP W),aA (.int (k:Int)),aA Y],rfl,rfl,?_⟩;have E:Zi ZJ (Zi ZJ (Za 1) (Za 2)) (Za 0) [aA (.int (j:Int)),aA (wP W),aA (.int (k:Int)),aA Y]=aA (.int (Z9 W k j)):=by have H:=UT (W:=W) c;have x:=Xy (l:=ZT W k) (k:=j) (by rw[ok.sq k c];exact p);have u:Zi ZJ (Za 1) (Za 2) [aA (.int (j:Int)),aA (wP W),aA (.int (k:Int)),aA Y]=aA (pP (ZT W k)):=H;rw[T4,u];exact x
    have y:Zi ZJ (Za 3) (Za 2) [aA (.int (j:Int)),aA (wP W),aA (.int (k:Int)),aA Y]=aA (.int (Zp S k)):=t k c;have B:Zi ZJ (Za 3) (Za 0) [aA (.int (j:Int)),aA (wP W),aA (.int (k:Int)),aA Y]=aA (.int (Zp S j)):=t j p;have lo:=ok.lo k j c p;have J:=ok.hi k j c p;exact vC (C:=CMul) (op:=(· * ·)) E (vI y B) (KQ (by omega) (by omega))
   have b:Zc Vw [Zu 1 [0,4,2] (ZX [Zc YG [Za 0]]) (.one 0) Zy (Zi WA (Zi ZJ (Zi ZJ (Za 1) (Za 2)) (Za 0)) (Zi Y5 (Zi ZJ (Za 3) (Za 2)) (Zi ZJ (Za 3) (Za 0))))] [aA (wP W),aA X,aA Y,aA (.lst (iL ((ZG W D S).take k))),aA (.int (k:Int)),a]=aA (.int (((aM W.length).map λj=>Z9 W k j*(Zp S k-Zp S j)).sum)):=by simp only[YB,ZA,Ie,G,aT,eD];exact SQ _
   generalize F:((aM W.length).map λj=>Z9 W k j*(Zp S k-Zp S j)).sum=o at b
   have f:Zp D k-o=Zp (ZG W D S) k:=by
    rw[WH (by omega),<-F,WZ,IW];unfold gN
    have:sN W.length (λj=>Z9 W k j*(Zp S k-Zp S j))=(-1)*sN W.length (λg=>Z9 W k g*(Zp S g-Zp S k)):=by
     rw[<-ZO];exact Zj λj _=>by rw[cu];congr 1;omega
    rw[this];omega
   have r:Zq 5 (eP (Zc Vw [Zu 1 [0,4,2] (ZX [Zc YG [Za 0]]) (.one 0) Zy (Zi WA (Zi ZJ (Zi ZJ (Za 1) (Za 2)) (Za 0)) (Zi Y5 (Zi ZJ (Za 3) (Za 2)) (Zi ZJ (Za 3) (Za 0))))])) [aA (wP W),aA X,aA Y,aA (.lst (iL ((ZG W D S).take k))),aA (.int (k:Int)),a]=aA (.nx [aA (wP W),aA X,aA Y,aA (.lst (iL ((ZG W D S).take k))),aA (.int (k:Int)),aA (.int o)]):=by rw[Yk,vP b];rfl
   have q:Zi ZJ (Za 1) (Za 4) [aA (wP W),aA X,aA Y,aA (.lst (iL ((ZG W D S).take k))),aA (.int (k:Int)),aA (.int o)]=aA (.int (Zp D k)):=A k c;have d:=vP (vI (op:=(· - ·)) q (show(Za 5:XE) [aA (wP W),aA X,aA Y,aA (.lst (iL ((ZG W D S).take k))),aA (.int (k:Int)),aA (.int o)]=aA (.int o) from rfl));rw[f] at d;refine⟨_,_,rfl,?_,aA (.int (k:Int)),aA (.int o),rfl⟩;show Zm _ _ [aA (wP W),aA X,aA Y,aA (.lst (iL ((ZG W D S).take k))),aA (.int (k:Int)),a]=_;rw[Yp r,Ti (m:=iL ((ZG W D S).take k)) (l:=.int (Zp (ZG W D S) k)) d rfl (by simp;omega)];have e:k<(ZG W D S).length:=by rw[Yd];omega
   have:(ZG W D S).take (k+1)=(ZG W D S).take k++[Zp (ZG W D S) k]:=by rw[iG e];simp[Zp,aJ,aL e]
   rw[this];simp)
 subst hs;rw[QV,bh (by rw[Yd];omega)] at f1;have r:Zq 3 (TQ []) [aA (wP W),aA X,aA Y,none,none,none]=aA (.nx [aA (wP W),aA X,aA Y,aA (.lst (iL [])),none,none]):=rfl;have w:Y6 [3] (ZX [Zc YG [Za 0]]) (.one 4) fb [aA (wP W),aA X,aA Y,aA (.lst (iL [])),none,none]=aA (.nx [aA (wP W),aA X,aA Y,aA (.lst (iL (ZG W D S))),h,a]):=by show(ZX [Zc YG [Za 0]] (Ym [3] [aA (wP W),aA X,aA Y,aA (.lst (iL [])),none,none])).bind _=_;rw[Z6 (n:=W.length) (by simp[Ym]) (by omega)];exact f1
 show Yy 6 NR _=_;unfold NR;show(Zm _ _ [aA (wP W),aA X,aA Y,none,none,none]).bind Uj=_;rw[Yp r,Yp w];generalize ZG W D S=z;simp
theorem Ae{n:Nat}{l:List Int}(h:l.length=n):∀k:Nat,k<n->ZJ (pP l) (.int (k:Int))=aA (.int (Zp l k)):=λk a=>Xy (by omega)
theorem Bn(Y:Nat->Int){n:Nat}(h:0<n):∃h,h<n/\∀g,g<n->Y g<=Y h:=by obtain⟨x,c,a⟩:=P4 (λi=>- Y i) h;exact⟨x,c,λg b=>by have:=a g b;omega⟩
theorem Bp{W:List (List Int)}(ok:ZU W){h:Nat}(m:h<W.length){P:Nat->Prop}[DecidablePred P]:∀{l:List Nat},l.Nodup->(∀x∈l,x<W.length/\¬P x)->XH W h l<=sN W.length (λg=>if P g then 0 else Z9 W h g):=by
 intro l b j
 have d:∀l:List Nat,l.Nodup->(∀x∈l,x<W.length)->sN W.length (λg=>if g∈l then Z9 W h g else 0)=(l.map λo=>Z9 W h o).sum:=by
  intro l
  induction l with
  | nil=>intro _ _;rw[Ws λi _=>by simp];rfl
  | cons a r ih=>
   intro b lt;rw[bY] at b;rw[cM,g8,<-ih b.2 λx e=>lt x (aW _ e)];have:Z9 W h a=sN W.length (λg=>if g=a then Z9 W h a else 0):=by rw[Yv (lt a af) λi _ k=>ng k,nZ rfl]
   rw[this,<-YN];refine Zj λg f=>?_;by_cases q:g=a
   ·subst q;rw[nZ af,ng b.1];omega
   ·by_cases c:g∈r
    ·rw[nZ (aW _ c),nZ c];omega
    ·rw[ng (λz=>(aa.mp z).elim q c),ng q,ng c];rfl
 unfold XH;rw[<-d l b λx e=>(j x e).1]
 have:0<=sN W.length (λg=>(if P g then 0 else Z9 W h g)+(-1)*(if g∈l then Z9 W h g else 0)):=Xc λg f=>by
  have:=ok.lo h g m f;by_cases q:g∈l
  ·rw[ng (j g q).2];omega
  ·rw[ng q];split<;>omega
 rw[YN,ZO] at this;omega
theorem IX{W:List (List Int)}{N M:List Int}{b:Nat}{F:List Nat}(ok:ZU W)(P:b<W.length){T:Nat->Int}(B:Burn W N b F)(all:∀h,h<W.length->h∈F)(w:∀h,h<W.length->Zp M h=Zp N h+gN W T h)(fr:∀h,h<W.length->h≠b->0<=Zp M h):∀h,h<W.length->T h<=T b:=by
 intro x G;refine jE.mp λE=>?_;obtain⟨m,H,r⟩:=Bn T (n:=W.length) (by omega);have D:T b<T m:=by have:=r x G;omega
 -- the first of the greatest that burns
 have C:∀k:Nat,(∃j,j<k/\∃h,F[j]?=aA h/\T h=T m)\/∀j,j<k->∀h,F[j]?=aA h->T h≠T m:=by
  intro k;by_cases q:∃j,j<k/\∃h,F[j]?=aA h/\T h=T m
  ·exact .inl q
  ·exact .inr λj c h a e=>q ⟨j,c,h,a,e⟩
 have first:∀k:Nat,(∃h,F[k]?=aA h/\T h=T m)->∃k h:Nat,F[k]?=aA h/\T h=T m/\∀j,j<k->∀h,F[j]?=aA h->T h≠T m:=by
  intro k
  induction k using m7 with
  | ind k ih=>
   rintro⟨h,e,t⟩;rcases C k with⟨j,c,q⟩ | q
   ·exact ih j c q
   ·exact⟨k,h,e,t,q⟩
 obtain⟨k0,l,A⟩:=gS (all m H);obtain⟨k,h,d,u,i⟩:=first k0 ⟨m,by rw[aL l,A],rfl⟩
 have I:1<=k:=by
  refine jC.mp λq=>?_;have:k=0:=by omega
  subst this;rw[B.hd] at d;cases d;omega
 have v:=(aS.mp d).1;have a:=B.lt h (c9 d);have st:=B.st k I v;rw[d] at st;obtain⟨_,_,lt⟩:=PR st;have o:h≠b:=λz=>by rw[z] at u;omega
 have J:(F.take k).Nodup:=B.nd.sublist (l8 _ _);have Q:=Bp ok a J λy s=>by refine⟨B.lt y (iX s),λz=>?_⟩;obtain⟨j,c,e⟩:=gS s;rw[bV] at c;exact i j (by omega) y (by rw[<-fN (show j<k by omega),aL (by rw[bV];exact c),e]) z
 have L:gN W T h<=- sN W.length (λg=>if T g=T m then 0 else Z9 W h g):=by
  have:0<=sN W.length (λg=>(-1)*(if T g=T m then 0 else Z9 W h g)+(-1)*(Z9 W h g*(T g-T h))):=Xc λg p=>by
   have lo:=ok.lo h g a p;have O:=r g p;rw[u];by_cases q:T g=T m
   ·rw[q];simp
   ·rw[ng q];have:0<=Z9 W h g*(T m-T g-1):=dU lo (by omega);have e:Z9 W h g*(T m-T g-1)=(-1)*Z9 W h g+(-1)*(Z9 W h g*(T g-T m)):=by rw[gM,gM,gM];omega
    omega
  rw[YN,ZO,ZO] at this;unfold gN;omega
 have f:=fr h a o;rw[w h a] at f;omega
theorem L9{W:List (List Int)}{N M:List Int}{b:Nat}{F G:List Nat}(ok:ZU W)(a:b<W.length){T:Nat->Int}(s1:Qn W b N F)(s2:Qn W b M G)(c:∀h,h<W.length->Zp M h=Zp N h+gN W T h):∀h,h<W.length->T h=T b:=by intro h d;have g:=IX ok a s1.burn s1.all c s2.free h d;have f:=IX (T:=λx=>(-1)*T x) ok a s2.burn s2.all (λx e=>by rw[c x e,WN];omega) s1.free h d;omega
theorem Ka{W:List (List Int)}{T:Nat->Int}{c:Int}(e:∀h,h<W.length->T h=c){h:Nat}(b:h<W.length):gN W T h=0:=Ws λg a=>by rw[e g a,e h b];simp
theorem GJ{W:List (List Int)}{D S N:List Int}{b:Nat}{F:List Nat}(ok:ZU W)(z:UH W)(k:D.length=W.length)(m:b<W.length)(y:∀h,h<W.length->(Zp D h).natAbs<=2^208)
  (C:S.length=W.length) (o:N=ZG W D S) (st:Qn W b N F):Yc [wP W,pP D,.int (b:Int)]=aA (.tup [pP (ZI S),pP N,.lst (iL (nL F))]):=by
 obtain⟨g,j,s,e,w,f,a⟩:=U1 ok z k m y;have B:N.length=W.length:=by rw[o,Yd,k]
 have u:j.length=W.length:=by rw[f,Yd,k]
 have d:∀h,h<W.length->Zp N h=Zp j h+gN W (λx=>Zp S x+(-1)*Zp g x) h:=λh A=>by rw[o,f,UM (by omega),UM (by omega),Tt (Zp S) (λx=>(-1)*Zp g x),WN];omega
 have n:=L9 ok m a st d;obtain⟨c,E⟩:∃c,c=Zp S b+(-1)*Zp g b:=⟨_,rfl⟩;have q:N=j:=V1 (by omega) λi v=>by rw[d i (by omega),Ka n (by omega)];omega
 have r:ZI S=ZI g:=RN c (by omega) (by omega) λi v=>by have:=n i (by omega);omega
 have t:F=s:=by have l:=st.burn;have p:=st.stop;rw[q] at l p;exact Burn.uniq l a.burn p a.stop
 rw[e,r,q,t]
theorem JI{f:Nat->Int}{M:Nat}:∀{n:Nat},(∀i,i<n->(f i).natAbs<=M)->(sN n f).natAbs<=n*M
 | 0,_=>by show(0:Int).natAbs<=_;simp
 | n+1,h=>by have c:=JI (n:=n) λi b=>h i (by omega);have a:=h n (by omega);show(sN n f+f n).natAbs<=_;rw[kS,mZ];omega
theorem MF(l:List Int):l.sum=sN l.length (Zp l):=by rw[<-WZ,Nt]
end PW
namespace PM
open PW
noncomputable def mul(m:Nat)(A B:Mt):Mt:=λi j=>sN m λk=>A i k*B k j
noncomputable def one:Mt:=λi j=>if i=j then 1 else 0
noncomputable def EqM(m:Nat)(A B:Mt):Prop:=∀i j,i<m->j<m->A i j=B i j
theorem Bq(c:Int)(f:Nat->Int)(n:Nat):sN n (λi=>f i*c)=sN n f*c:=by rw[bR,<-ZO];exact Zj λi _=>bR _ _
theorem XX(m:Nat)(A B C:Mt)(i j:Nat):mul m (mul m A B) C i j=mul m A (mul m B C) i j:=by show sN m (λk=>sN m (λl=>A i l*B l k)*C k j)=sN m (λl=>A i l*sN m (λk=>B l k*C k j));rw[Zj (g:=λk=>sN m (λl=>A i l*B l k*C k j)) λk _=>(Bq _ _ _).symm];rw[Si (λk l=>A i l*B l k*C k j)];refine Zj λl _=>?_;rw[<-ZO];exact Zj λk _=>bj _ _ _
theorem mul_one{m:Nat}{A:Mt}{i j:Nat}(a:j<m):mul m A one i j=A i j:=by
 show sN m (λk=>A i k*one k j)=_;rw[Yv a]
 ·unfold one;rw[nZ rfl,kI]
 ·intro k _ h;unfold one;rw[ng h,cO]
theorem one_mul{m:Nat}{A:Mt}{i j:Nat}(a:i<m):mul m one A i j=A i j:=by
 show sN m (λk=>one i k*A k j)=_;rw[Yv a]
 ·unfold one;rw[nZ rfl,iY]
 ·intro k _ h;unfold one;rw[ng (λz=>h z.symm),cH]
theorem ZF{m:Nat}{A A' B B':Mt}{i j:Nat}(h:∀k,k<m->A i k=A' i k)(h':∀k,k<m->B k j=B' k j):mul m A B i j=mul m A' B' i j:=Zj λk a=>by rw[h k a,h' k a]
theorem EqM.mulL{m:Nat}{A A' B:Mt}(h:EqM m A A'):EqM m (mul m A B) (mul m A' B):=λi j b c=>ZF (λk a=>h i k b a) λ_ _=>rfl
theorem EqM.mulR{m:Nat}{A B B':Mt}(h:EqM m B B'):EqM m (mul m A B) (mul m A B'):=λi j c a=>ZF (λ_ _=>rfl) λk b=>h k j b a
theorem EqM.trans{m:Nat}{A B C:Mt}(h:EqM m A B)(h':EqM m B C):EqM m A C:=λi j b a=>(h i j b a).trans (h' i j b a)
noncomputable def tr(A:Mt):Mt:=λi j=>A j i
theorem RG(m:Nat)(A B:Mt)(i j:Nat):tr (mul m A B) i j=mul m (tr B) (tr A) i j:=Zj λk _=>bR _ _
theorem Qo{m:Nat}{A A' B B':Mt}(h:EqM m (mul m A A') one)(h':EqM m (mul m B B') one):EqM m (mul m (mul m A B) (mul m B' A')) one:=λi j c b=>by
 rw[XX];have e:mul m A (mul m B (mul m B' A')) i j=mul m A A' i j:=ZF (λ_ _=>rfl) λk a=>by rw[<-XX,ZF (A':=one) (B':=A') (λl d=>h' k l a d) (λ_ _=>rfl),one_mul a]
 rw[e];exact h i j c b
structure RT(m p:Nat)(E E':Mt):Prop where
 ex:∃U V:Mt,EqM m (mul m U V) one/\EqM m (mul m V U) one/\(∀i j,i<m->E' i j=mul m U E i j)/\(∀i k,p<=i->i<m->k<p->U i k=0/\V i k=0)
 up:∀i j,i<p->E' i j=E i j
 low:∀i j,m<=i->E' i j=E i j
theorem RT.refl{m p:Nat}{E:Mt}:RT m p E E:=⟨⟨one,one,λi j b a=>mul_one a,λi j b a=>mul_one a,λi j b=>(one_mul b).symm,λi k e c d=>by unfold one;rw[ng (by omega)];exact⟨rfl,rfl⟩⟩,λ_ _ _=>rfl,λ_ _ _=>rfl⟩
theorem IY{m p:Nat}{U a:Mt}(b:p<=m)(h:∀i k,p<=i->i<m->k<p->U i k=0)(h':∀i k,p<=i->i<m->k<p->a i k=0):∀i k,p<=i->i<m->k<p->mul m U a i k=0:=λi k f c d=>Ws λl e=>by
 by_cases q:l<p
 ·rw[h i l f c q,cH]
 ·rw[h' l k (by omega) e d,cO]
theorem RT.trans{m p:Nat}{E l b:Mt}(c:p<=m)(h:RT m p E l)(h':RT m p l b):RT m p E b:=by obtain⟨U,V,t,w,u,n⟩:=h.ex;obtain⟨v,s,q,A,o,f⟩:=h'.ex;refine⟨⟨mul m v U,mul m V s,Qo q t,Qo w A,λi j a=>?_,λi k g e d=>⟨IY c (λi k x y z=>(f i k x y z).1) (λi k x y z=>(n i k x y z).1) i k g e d,IY c (λi k x y z=>(n i k x y z).2) (λi k x y z=>(f i k x y z).2) i k g e d⟩⟩,λi j a=>(h'.up i j a).trans (h.up i j a),λi j a=>(h'.low i j a).trans (h.low i j a)⟩;rw[o i j a,XX];exact ZF (λ_ _=>rfl) λk r=>u k j r
theorem RT.back{m p:Nat}{E f:Mt}(h:RT m p E f):RT m p f E:=by obtain⟨U,V,n,g,o,l⟩:=h.ex;refine⟨⟨V,U,g,n,λi j a=>?_,λi k e d c=>⟨(l i k e d c).2,(l i k e d c).1⟩⟩,λi j a=>(h.up i j a).symm,λi j a=>(h.low i j a).symm⟩;rw[ZF (A':=V) (B':=mul m U E) (λ_ _=>rfl) (λk b=>o k j b),<-XX,ZF (A':=one) (B':=E) (λk b=>g i k a b) (λ_ _=>rfl),one_mul a]
theorem JJ{c:Int}{f:Nat->Int}:∀{n:Nat},(∀i,i<n->c∣f i)->c∣sN n f
 | 0,_=>dC c
 | n+1,h=>Int.dvd_add (JJ λi a=>h i (by omega)) (h n (by omega))
theorem RT.dvd{m p:Nat}{E b:Mt}(h:RT m p E b){c:Int}{j:Nat}(l:∀i,p<=i->i<m->c∣E i j):∀i,p<=i->i<m->c∣b i j:=λi e a=>by
 obtain⟨U,V,n,o,f,g⟩:=h.ex;rw[f i j a];refine JJ λk d=>?_;by_cases q:k<p
 ·rw[(g i k e a q).1,cH];exact dC c
 ·exact j8 (l k (by omega) d)
theorem RT.sub{m p a b:Nat}{q:Int}{E:Mt}(C:p<=a)(v:a<m)(G:p<=b)(o:b<m)(ne:a≠b):RT m p E (λi j=>if i=a then E i j-q*E b j else E i j):=by
 have f:∀(c:Int)(i:Nat)(F:Mt)(j:Nat),i<m->mul m (λi k=>one i k+(if i=a/\k=b then c else 0)) F i j=F i j+(if i=a then c*F b j else 0):=λc i F j e=>by
  show sN m (λk=>(one i k+(if i=a/\k=b then c else 0))*F k j)=_;rw[Zj (g:=λk=>one i k*F k j+(if i=a/\k=b then c else 0)*F k j) λk _=>kO _ _ _,YN];have n:sN m (λk=>one i k*F k j)=F i j:=one_mul (A:=F) e;rw[n];congr 1;by_cases z:i=a
  ·rw[nZ z,Yv o]
   ·rw[nZ ⟨z,rfl⟩]
   ·intro k _ s;rw[ng (λw=>s w.2),cH]
  ·rw[ng z];exact Ws λk _=>by rw[ng (λw=>z w.1),cH]
 have l:∀(c d:Int)(i j:Nat),c = - d->(one i j+(if i=a/\j=b then d else 0))+(if i=a then c*(one b j+(if b=a/\j=b then d else 0)) else 0)=one i j:=λc d i j h=>by
  have u:=bB ne;by_cases z:i=a
  ·simp only[z,true_and,if_true,u,false_and,if_false,ic];by_cases w:j=b
   ·subst w;simp[one];omega
   ·have y:¬b=j:=λx=>w x.symm;simp[one,w,y]
  ·simp[z]
 refine⟨⟨λi k=>one i k+(if i=a/\k=b then -q else 0),λi k=>one i k+(if i=a/\k=b then q else 0),λi j e t=>?_,λi j e t=>?_,λi j e=>?_,λi k H D B=>?_⟩,λi j e=>?_,λi j e=>?_⟩
 ·exact(f _ i _ j e).trans (l (-q) q i j (by omega))
 ·exact(f _ i _ j e).trans (l q (-q) i j (by omega))
 ·rw[f _ i _ j e];by_cases z:i=a
  ·rw[nZ z,nZ z,cX];omega
  ·rw[ng z,ng z];omega
 ·have n:¬i=k:=by omega
  have r:¬k=b:=by omega
  simp[one,n,r]
 ·show(if i=a then _ else _)=_;rw[ng (by omega)]
 ·show(if i=a then _ else _)=_;rw[ng (by omega)]
noncomputable def sw(a b i:Nat):Nat:=if i=a then b else if i=b then a else i
theorem Zds(a b i:Nat):sw a b (sw a b i)=i:=by unfold sw;split<;>(try split)<;>(try split)<;>omega
theorem sw_lt{a b i m:Nat}(d:a<m)(c:b<m)(e:i<m):sw a b i<m:=by unfold sw;split<;>(try split)<;>omega
theorem RT.swap{m p a b:Nat}{E:Mt}(h:p<=a)(e:a<m)(o:p<=b)(f:b<m):RT m p E (λi j=>E (sw a b i) j):=by
 have d:∀(F:Mt)(i j:Nat),i<m->mul m (λi k=>one (sw a b i) k) F i j=F (sw a b i) j:=λF i j c=>one_mul (A:=F) (sw_lt e f c);have inv:EqM m (mul m (λi k=>one (sw a b i) k) (λi k=>one (sw a b i) k)) one:=λi j c n=>by rw[d _ i j c,Zds]
 refine⟨⟨_,_,inv,inv,λi j c=>(d E i j c).symm,λi k q l g=>?_⟩,λi j c=>?_,λi j c=>?_⟩
 ·have:one (sw a b i) k=0:=by
   unfold one sw;rw[ng];split<;>(try split)<;>omega
  exact⟨this,this⟩
 ·show E (sw a b i) j=_;unfold sw;rw[ng (by omega),ng (by omega)]
 ·show E (sw a b i) j=_;unfold sw;rw[ng (by omega),ng (by omega)]
theorem RT.neg{m p a:Nat}{E:Mt}(h:p<=a)(d:a<m):RT m p E (λi j=>if i=a then-E i j else E i j):=by
 have c:∀(F:Mt)(i j:Nat),i<m->mul m (λi k=>if i=a then-one i k else one i k) F i j=if i=a then-F i j else F i j:=λF i j b=>by
  have e:sN m (λk=>one i k*F k j)=F i j:=one_mul (A:=F) b;by_cases z:i=a
  ·show sN m (λk=>(if i=a then-one i k else one i k)*F k j)=_;rw[nZ z,<-e,Zj (g:=λk=>(-1)*(one i k*F k j)) λk _=>by rw[nZ z,cX];omega,ZO];omega
  ·show sN m (λk=>(if i=a then-one i k else one i k)*F k j)=_;rw[ng z,<-e];exact Zj λk _=>by rw[ng z]
 have inv:EqM m (mul m (λi k=>if i=a then-one i k else one i k) (λi k=>if i=a then-one i k else one i k)) one:=λi j b n=>by
  rw[c _ i j b];split
  ·omega
  ·rfl
 refine⟨⟨_,_,inv,inv,λi j b=>(c E i j b).symm,λi k o l f=>?_⟩,λi j b=>?_,λi j b=>?_⟩
 ·have:one i k=0:=by unfold one;rw[ng (by omega)]
  simp only[this];split<;>exact⟨rfl,rfl⟩
 ·show(if i=a then _ else _)=_;rw[ng (by omega)]
 ·show(if i=a then _ else _)=_;rw[ng (by omega)]
structure Adm(m:Nat)(A0 E:Mt):Prop where
 ex:∃L' R':Mt,EqM m (mul m (λi k=>E i (m+k)) L') one/\EqM m (mul m L' (λi k=>E i (m+k))) one/\EqM m (mul m (λi k=>E (m+i) k) R') one/\EqM m (mul m R' (λi k=>E (m+i) k)) one
 val:EqM m (mul m (λi k=>E i (m+k)) (mul m A0 (λi k=>E (m+i) k))) E
 nil:∀i j,i<m->j<m->E (m+i) (m+j)=0
theorem Adm.rt{m p:Nat}{e E c:Mt}(h:Adm m e E)(r:RT m p E c):Adm m e c:=by obtain⟨U,V,u,v,l,x⟩:=r.ex;obtain⟨n,t,q,w,o,s⟩:=h.ex;have d:EqM m (λi k=>c i (m+k)) (mul m U (λi k=>E i (m+k))):=λi j a b=>l i (m+j) a;have f:EqM m (λi k=>c (m+i) k) (λi k=>E (m+i) k):=λi j a b=>r.low _ _ (by omega);refine⟨⟨mul m n V,t,(d.mulL).trans (Qo u q),(d.mulR).trans (Qo w v),(f.mulL).trans o,(f.mulR).trans s⟩,λi j a b=>?_,λi j a b=>by rw[r.low _ _ (by omega)];exact h.nil i j a b⟩;rw[l i j a,d.mulL i j a b,XX];refine ZF (λ_ _=>rfl) λk g=>?_;rw[EqM.mulR (A:=λi k=>E i (m+k)) (EqM.mulR (A:=e) f) k j g b];exact h.val k j g b
theorem Adm.tr{m:Nat}{c E:Mt}(h:Adm m c E):Adm m (tr c) (tr E):=by
 obtain⟨f,g,o,r,l,p⟩:=h.ex
 have d:EqM m (PM.tr one) one:=λi j _ _=>by
  unfold PM.tr one;by_cases q:i=j
  ·rw[nZ q,nZ q.symm]
  ·rw[ng q,ng (λz=>q z.symm)]
 refine⟨⟨PM.tr g,PM.tr f,λi j a b=>?_,λi j a b=>?_,λi j a b=>?_,λi j a b=>?_⟩,λi j a b=>?_,λi j a b=>h.nil j i b a⟩
 ·exact((RG m g (λi k=>E (m+i) k) i j).symm.trans (p j i b a)).trans (d i j a b)
 ·exact((RG m (λi k=>E (m+i) k) g i j).symm.trans (l j i b a)).trans (d i j a b)
 ·exact((RG m f (λi k=>E i (m+k)) i j).symm.trans (r j i b a)).trans (d i j a b)
 ·exact((RG m (λi k=>E i (m+k)) f i j).symm.trans (o j i b a)).trans (d i j a b)
 ·have e:=h.val j i b a;show mul m (λi k=>E (m+k) i) (mul m (PM.tr c) (λi k=>E k (m+i))) i j=E j i;rw[<-e,<-XX];have q:=RG m (λi k=>E i (m+k)) (mul m c (λi k=>E (m+i) k)) i j;have n:mul m (PM.tr (mul m c (λi k=>E (m+i) k))) (PM.tr (λi k=>E i (m+k))) i j=mul m (mul m (λi k=>E (m+k) i) (PM.tr c)) (λi k=>E k (m+i)) i j:=ZF (λk _=>RG m c (λi k=>E (m+i) k) i k) λ_ _=>rfl;exact(q.trans n).symm
theorem Adm.div{m:Nat}{f b E:Mt}{D:Int}(h:Adm m f E)(r:EqM m (mul m b f) (λi j=>D*one i j)){c:Int}{j:Nat}(q:j<m)(u:∀i,i<m->c∣E i j):c∣D:=by
 obtain⟨d,a,w,t,v,s⟩:=h.ex
 have e:mul m (mul m a (mul m b d)) E j j=D:=by
  have s1:mul m (mul m a (mul m b d)) E j j=mul m a (mul m (mul m b d) E) j j:=XX ..;rw[s1]
  have s2:∀k,k<m->mul m (mul m b d) E k j=D*E (m+k) j:=λk o=>by
   rw[XX];rw[ZF (A':=b) (B':=mul m f (λi k=>E (m+i) k)) (λ_ _=>rfl) (λl n=>?_)]
   ·rw[<-XX,ZF (A':=λi j=>D*one i j) (B':=λi k=>E (m+i) k) (λl n=>r k l o n) (λ_ _=>rfl)];show sN m (λl=>D*one k l*E (m+l) j)=_;rw[Zj (g:=λl=>D*(one k l*E (m+l) j)) λl _=>bj _ _ _,ZO];congr 1;exact one_mul (A:=λi k=>E (m+i) k) o
   ·rw[ZF (A':=d) (B':=mul m (λi k=>E i (m+k)) (mul m f (λi k=>E (m+i) k))) (λ_ _=>rfl) (λi p=>(h.val i j p q).symm),<-XX,ZF (A':=one) (B':=mul m f (λi k=>E (m+i) k)) (λi p=>t l i n p) (λ_ _=>rfl),one_mul n]
  rw[ZF (A':=a) (B':=λk j=>D*E (m+k) j) (λ_ _=>rfl) s2];show sN m (λk=>a j k*(D*E (m+k) j))=D;rw[Zj (g:=λk=>D*(a j k*E (m+k) j)) λk _=>by rw[<-bj,bR (a j k),bj],ZO];have:sN m (λk=>a j k*E (m+k) j)=1:=by have:=s j j q q;unfold one at this;rw[nZ rfl] at this;exact this
  rw[this,kI]
 rw[<-e];exact JJ λk o=>j8 (u k o)
theorem Dh{x p:Int}(d:0<=x)(c:0<p):(x.fdiv p).natAbs=x.natAbs/p.natAbs/\(x-x.fdiv p*p).natAbs=x.natAbs%p.natAbs/\0<=(x-x.fdiv p*p)*p:=by
 obtain⟨a,rfl⟩:=jg d;obtain⟨b,rfl⟩:=jg (Int.le_of_lt c);have e:(a:Int).fdiv (b:Int)=((a/b:Nat):Int):=by rw[dO _ (Int.le_of_lt c)];exact(mS a b).symm
 have r:(a:Int)-((a/b:Nat):Int)*(b:Int)=((a%b:Nat):Int):=by
  have:=ma a b;have h:(b:Int)*((a/b:Nat):Int)+((a%b:Nat):Int)=(a:Int):=by exact_mod_cast this
  rw[bR] at h;omega
 rw[e,r];exact⟨rfl,rfl,dU (jF _) (jF _)⟩
theorem Br{x p:Int}(h:0<=x*p)(c:p≠0):(x.fdiv p).natAbs=x.natAbs/p.natAbs/\(x-x.fdiv p*p).natAbs=x.natAbs%p.natAbs/\0<=(x-x.fdiv p*p)*p:=by
 rcases fj c with d | a
 ·have f:x<=0:=by refine jE.mp λz=>?_;have:=Int.mul_neg_of_pos_of_neg z d;omega
  have:=Dh (x:=-x) (p:=-p) (by omega) (by omega);rw[mR,iH,iH] at this;refine⟨this.1,?_,?_⟩
  ·rw[<-this.2.1,<-iH];congr 1;rw[kX];omega
  ·have b:=this.2.2;have e:(-x-x.fdiv p * -p) * -p=(x-x.fdiv p*p)*p:=by rw[kX,<-cX,kX];congr 1;omega
   rw[e] at b;exact b
 ·refine Dh (jE.mp λz=>?_) a;have:=jM z a;omega
theorem fd_any{x p:Int}(h:p≠0):(x-x.fdiv p*p).natAbs<p.natAbs/\0<=(x-x.fdiv p*p)*p/\(x.fdiv p).natAbs<=x.natAbs+1:=by
 have e:x-x.fdiv p*p=x.fmod p:=by have:=Int.mul_fdiv_add_fmod x p;rw[bR] at this;omega
 have r:(x.fmod p).natAbs<p.natAbs/\0<=x.fmod p*p:=by
  rcases fj h with k | a
  ·have c:=jv (-x) (b:=-p) (by omega);have f:=lK (-x) (b:=-p) (by omega);rw[Int.neg_fmod_neg] at c f;refine⟨by omega,?_⟩;have:=dU c (show 0<=-p by omega);rw[Int.neg_mul_neg] at this;exact this
  ·have c:=jv x (b:=p) a;have f:=lK x (b:=p) a;exact⟨by omega,dU c (by omega)⟩
 rw[e];refine⟨r.1,r.2,?_⟩;have g:x.fdiv p*p=x-x.fmod p:=by omega
 have j:(x.fdiv p).natAbs*p.natAbs<=x.natAbs+(x.fmod p).natAbs:=by rw[<-dk,g];exact jS _ _
 refine jC.mp λz=>?_;have d:1<=p.natAbs:=by omega
 have i:(x.natAbs+2)*p.natAbs<=(x.fdiv p).natAbs*p.natAbs:=dH _ z;rw[kS] at i;have l:x.natAbs*1<=x.natAbs*p.natAbs:=cI _ d;omega
noncomputable def Bo(m k j N:Nat)(E:Mt):Prop:=∀i,k<=i->i<m->(E i j).natAbs<=N
structure Fst(m k:Nat)(E:Mt)(f:Nat):Prop where
 lo:k<f
 hi:f<m
 ne:E f k≠0
 ze:∀i,k<i->i<f->E i k=0
noncomputable def red(m k:Nat)(E:Mt):Mt:=λi j=>if k<i/\i<m then E i j-(E i k).fdiv (E k k)*E k j else E i j
theorem red_k{m k j:Nat}{E:Mt}:red m k E k j=E k j:=by unfold red;rw[ng (by omega)]
theorem Nc{m k i j:Nat}{E:Mt}(h:k<i)(h':i<m):red m k E i j=E i j-(E i k).fdiv (E k k)*E k j:=by unfold red;rw[nZ ⟨h,h'⟩]
theorem RT.many{m k:Nat}{E:Mt}(q:Nat->Int)(f:k<m):RT m k E (λi j=>if k<i/\i<m then E i j-q i*E k j else E i j):=by
 have g:∀t,t<=m->RT m k E (λi j=>if k<i/\i<t then E i j-q i*E k j else E i j):=by
  intro t
  induction t with
  | zero=>intro _;rw[show(λi j=>if k<i/\i<0 then E i j-q i*E k j else E i j)=E from funext λi=>funext λj=>ng (by omega)];exact RT.refl
  | succ t ih=>
   intro h;have c:=ih (by omega);by_cases z:k<t
   ·refine c.trans (by omega) ?_;have d:=RT.sub (m:=m) (p:=k) (a:=t) (b:=k) (q:=q t) (E:=λi j=>if k<i/\i<t then E i j-q i*E k j else E i j) (by omega) (by omega) (aN _) f (by omega)
    have e:(λi j=>if k<i/\i<t+1 then E i j-q i*E k j else E i j)=(λi j=>if i=t then(if k<i/\i<t then E i j-q i*E k j else E i j)-q t*(if k<k/\k<t then E k j-q k*E k j else E k j) else if k<i/\i<t then E i j-q i*E k j else E i j):=by
     funext i j;rw[ng (show ¬(k<k/\k<t) by omega)];by_cases w:i=t
     ·subst w;rw[nZ ⟨z,by omega⟩,nZ rfl,ng (by omega)]
     ·rw[ng w];by_cases y:k<i/\i<t
      ·rw[nZ y,nZ ⟨y.1,by omega⟩]
      ·rw[ng y,ng (by omega)]
    rw[e];exact d
   ·have e:(λi j=>if k<i/\i<t+1 then E i j-q i*E k j else E i j)=(λi j=>if k<i/\i<t then E i j-q i*E k j else E i j):=by funext i j;rw[ng (by omega),ng (by omega)]
    rw[e];exact c
 exact g m (aN _)
theorem rt_red{m k:Nat}{E:Mt}(a:k<m):RT m k E (red m k E):=RT.many (λi=>(E i k).fdiv (E k k)) a
open Classical in
noncomputable def pre(k f:Nat)(E:Mt):Mt:=if E k k=0\/(E f k).natAbs<(E k k).natAbs then λi j=>E (sw k f i) j else E
theorem rt_pre{m k f:Nat}{E:Mt}(a:k<m)(h:k<f)(h':f<m):RT m k E (pre k f E):=by
 unfold pre;split
 ·exact RT.swap (aN _) a (by omega) h'
 ·exact RT.refl
theorem GK(a b:Nat):sw a b a=b:=by unfold sw;rw[nZ rfl]
theorem Zbe{a b:Nat}(h:a≠b):sw a b b=a:=by unfold sw;rw[ng (λz=>h z.symm),nZ rfl]
theorem sw_c{a b i:Nat}(h:i≠a)(h':i≠b):sw a b i=i:=by unfold sw;rw[ng h,ng h']
structure Hyp(m k:Nat)(E:Mt)(j N M P:Nat):Prop where
 bo:Bo m k j N E
 one:1<=P
 piv:E k k≠0->(E k k).natAbs<=P
 nil:E k k=0->∀i,k<i->i<m->(E i k).natAbs<=P
 col:(∀i,k<=i->i<m->(E i k).natAbs<=M)\/(m=k+2/\E k j=0/\E k k≠0/\(E k k).natAbs<=M)
structure Aft(m k:Nat)(E0 E:Mt):Prop where
 nz:E k k≠0
 sg:∀i,k<i->i<m->(E i k).natAbs<(E k k).natAbs/\0<=E i k*E k k
 dv:E0 k k≠0->(∀i,k<i->i<m->E0 k k∣E0 i k)->E=red m k E0
 pv:∀P,(E0 k k≠0->(E0 k k).natAbs<=P)->(E0 k k=0->∀i,k<i->i<m->(E0 i k).natAbs<=P)->(E k k).natAbs<=P
 po:∀j N M P,Hyp m k E0 j N M P->∃N',Bo m k j N' E/\N'<=2*(N*(M+2)*P^3)/\∀f,Fst m k E f->N'*(E k k).natAbs*((E k k).natAbs*(E f k).natAbs)<=N*(M+2)*P^3
theorem JK{x y q:Int}{N Q:Nat}(e:x.natAbs<=N)(a:y.natAbs<=N)(c:q.natAbs<=Q):(x-q*y).natAbs<=N*(1+Q):=by have b:=jS x (q*y);rw[dk] at b;have d:q.natAbs*y.natAbs<=Q*N:=dS c a;rw[kZ,Nat.mul_one,fL N Q];omega
theorem Aft.first{m k f:Nat}{E:Mt}(n:k<m)(F:Fst m k E f):Aft m k E (red m k (pre k f E)):=by
 have w:=F.lo
 have c:pre k f E k k≠0:=by
  unfold pre;split
  ·show E (sw k f k) k≠0;rw[GK];exact F.ne
  ·rename_i h;exact λz=>h (.inl z)
 have pv:∀P,(E k k≠0->(E k k).natAbs<=P)->(E k k=0->∀i,k<i->i<m->(E i k).natAbs<=P)->(pre k f E k k).natAbs<=P:=λP piv nil=>by
   unfold pre;split
   ·rename_i h;show(E (sw k f k) k).natAbs<=P;rw[GK];rcases h with z | z
    ·exact nil z f F.lo F.hi
    ·have:=piv (by omega);omega
   ·rename_i h;exact piv λz=>h (.inl z)
 refine⟨by rw[red_k];exact c,λi b a=>?_,λo B=>?_,λP piv nil=>by rw[red_k];exact pv P piv nil,λj N M P H=>?_⟩
 ·rw[red_k,Nc b a];have:=fd_any (x:=pre k f E i k) c;exact⟨this.1,this.2.1⟩
 ·have:pre k f E=E:=by
   unfold pre;rw[ng];rintro(z | z)
   ·exact o z
   ·have:=cY.mpr (B f F.lo F.hi);have:=cz (by have:=F.ne;omega) this;omega
  rw[this]
 ·have pP:=pv P H.piv H.nil
  have v:Bo m k j (N*(M+2)) (red m k (pre k f E)):=λi b a=>by
   have big:N<=N*(M+2):=bz N (by omega);by_cases e:i=k
   ·subst e;rw[red_k];refine aX ?_ big;unfold pre;split
    ·show(E (sw i f i) j).natAbs<=N;rw[GK];exact H.bo f (by omega) F.hi
    ·exact H.bo i b a
   ·rw[Nc (by omega) a]
    have p:(pre k f E i j).natAbs<=N:=by
     unfold pre;split
     ·show(E (sw k f i) j).natAbs<=N;unfold sw;split
      ·exact H.bo f (by omega) F.hi
      ·split
       ·exact H.bo k (by omega) n
       ·exact H.bo i b a
     ·exact H.bo i b a
    have d:(pre k f E k j).natAbs<=N:=by
     unfold pre;split
     ·show(E (sw k f k) j).natAbs<=N;rw[GK];exact H.bo f (by omega) F.hi
     ·exact H.bo k (by omega) n
    rcases H.col with t | ⟨I,o,J,y⟩
    ·have q:=(fd_any (x:=pre k f E i k) c).2.2
     have l:(pre k f E i k).natAbs<=M:=by
      unfold pre;split
      ·show(E (sw k f i) k).natAbs<=M;exact t _ (by unfold sw;split<;>(try split)<;>omega) (sw_lt n F.hi a)
      ·exact t i b a
     have:=JK p d (aX q (k4 l 1));rw[show M+2=1+(M+1) by omega];exact this
    ·have u:i=f:=by have:=F.hi;omega
     subst u;by_cases s:E k k=0\/(E i k).natAbs<(E k k).natAbs
     ·have q:=(fd_any (x:=pre k i E i k) c).2.2;have l:(pre k i E i k).natAbs<=M:=by unfold pre;rw[nZ s];show(E (sw k i i) k).natAbs<=M;rw[Zbe (by omega)];exact y
      have:=JK p d (aX q (k4 l 1));rw[show M+2=1+(M+1) by omega];exact this
     ·have A:pre k i E k j=0:=by unfold pre;rw[ng s];exact o
      rw[A,cO,jw];exact aX p big
  have D:=H.one;have c3:1<=P^3:=k6 _ _ D;refine⟨_,v,aX (bz _ c3) (Nat.le_mul_of_pos_left _ (by omega)),λg G=>?_⟩;have r:(red m k (pre k f E) k k).natAbs<=P:=by rw[red_k];exact pP
  have C:(red m k (pre k f E) g k).natAbs<=P:=by rw[Nc G.lo G.hi];have:=(fd_any (x:=pre k f E g k) c).1;omega
  rw[dh,show P^3=P*(P*P) by rw[eQ,eQ,Nat.pow_one];rw[dh]];exact cI _ (dS r (dS r C))
theorem Aft.next{m k f:Nat}{E0 E:Mt}(W:k<m)(A:Aft m k E0 E)(F:Fst m k E f):Aft m k E0 (red m k (pre k f E))/\(red m k (pre k f E) k k).natAbs<(E k k).natAbs:=by
 have Q:=F.lo;have hs:=A.sg f F.lo F.hi;have ep:pre k f E=λi j=>E (sw k f i) j:=by unfold pre;rw[nZ (.inr hs.1)]
 rw[ep];have pk:∀j,(λi j=>E (sw k f i) j:Mt) k j=E f j:=λj=>by show E (sw k f k) j=_;rw[GK]
 obtain⟨a,C⟩:∃a,a=(E k k).natAbs:=⟨_,rfl⟩;obtain⟨b,t⟩:∃b,b=(E f k).natAbs:=⟨_,rfl⟩;have l:0<b:=by have:=F.ne;omega
 have hab:b<a:=by omega
 -- the entries of the column ahead of the turn
 have u:∀i,k<i->i<m->(E (sw k f i) k).natAbs<=a/\0<=E (sw k f i) k*E f k:=λi p d=>by
  by_cases e:i=f
  ·subst e;rw[Zbe (by omega)];exact⟨by omega,by rw[bR];exact hs.2⟩
  ·rw[sw_c (by omega) e];have:=A.sg i p d;refine⟨by omega,?_⟩;have O:=dU this.2 hs.2;have e1:E i k*E k k*(E f k*E k k)=E i k*E f k*(E k k*E k k):=by rw[bj,bj];congr 1;rw[<-bj,bR (E k k) (E f k),bj]
   rw[e1] at O;have L:=A.nz
   have sq:0<E k k*E k k:=by
    rcases fj L with h | h
    ·exact Int.mul_pos_of_neg_of_neg h h
    ·exact Int.mul_pos h h
   refine jE.mp λz=>?_;have:=jM z sq;omega
 have Z9:∀i,k<i->i<m->∀j,red m k (λi j=>E (sw k f i) j) i j=E (sw k f i) j-(E (sw k f i) k).fdiv (E f k)*E f j:=λi p d j=>by rw[Nc p d,GK]
 have piv:∀j,red m k (λi j=>E (sw k f i) j) k j=E f j:=λj=>by rw[red_k];exact pk j
 have o:∀i,k<i->i<m->(red m k (λi j=>E (sw k f i) j) i k).natAbs=(E (sw k f i) k).natAbs%b/\0<=red m k (λi j=>E (sw k f i) j) i k*E f k/\((E (sw k f i) k).fdiv (E f k)).natAbs<=a/b:=λi p d=>by rw[Z9 i p d];have v:=u i p d;have:=Br v.2 F.ne;rw[<-t] at this;exact⟨this.2.1,this.2.2,by rw[this.1];exact Nat.div_le_div_right v.1⟩
 refine⟨⟨by rw[piv];exact F.ne,λi p d=>?_,λI D=>?_,λP p d=>by rw[piv];have:=A.pv P p d;omega,λj N M P H=>?_⟩,by rw[piv];omega⟩
 ·have r:=o i p d;rw[piv,r.1];exact⟨by rw[<-t];exact ju _ l,r.2.1⟩
 ·exfalso;have e:=A.dv I D;have:=F.ne;rw[e,Nc F.lo F.hi] at this;obtain⟨c,hc⟩:=D f F.lo F.hi;rw[hc,g7 _ I,bR c] at this;exact this (by omega)
 ·obtain⟨n,y,b2,B⟩:=A.po j N M P H;have x:=B f F;rw[<-C,<-t] at x;generalize N*(M+2)*P^3=G at x b2 B ⊢
  have R:Bo m k j (n*(1+a/b)) (red m k (λi j=>E (sw k f i) j)):=λi p d=>by
   by_cases e:i=k
   ·subst e;rw[piv];exact aX (y f (by omega) F.hi) (bz _ (aV Nat.one_pos (fU 1 _)))
   ·rw[Z9 i (by omega) d];refine JK (y _ ?_ (sw_lt W F.hi d)) (y f (by omega) F.hi) (o i (by omega) d).2.2;unfold sw;split<;>(try split)<;>omega
  have S:n*(1+a/b)*b<=2*(n*a):=by rw[dh,kS,mZ,jT];refine cI _ ?_;have:=Nat.div_mul_le_self a b;omega
  have n2:n*a<=G:=by refine aX ?_ x;exact bz _ (Nat.mul_pos (by omega) l)
  refine⟨_,R,?_,λg q=>?_⟩
  ·have:n*(1+a/b)<=n*(1+a/b)*b:=bz _ l;omega
  ·rw[piv,<-t]
   have two:2*(red m k (λi j=>E (sw k f i) j) g k).natAbs<=a:=by
    have s:=(o f F.lo F.hi).1;rw[Zbe (by omega),<-C] at s;have X:=ma a b;have T:1<=a/b:=(Nat.one_le_div_iff l).mpr (by omega);have d2:b*1<=b*(a/b):=cI _ T;have ml:=ju a l;by_cases e:g=f
    ·subst e;rw[s];omega
    ·have J:f<g:=by
      refine lN (jC.mp λz=>?_) (λz=>e z.symm);refine q.ne ?_;have w:=(o g q.lo q.hi).1;rw[sw_c (by have:=q.lo;omega) e,F.ze g q.lo z] at w;have:(red m k (λi j=>E (sw k f i) j) g k).natAbs=0:=by rw[w];simp
      omega
     have U:=q.ze f F.lo J;rw[U] at s;have r0:a%b=0:=by rw[<-s];rfl
     have r1:=(o g q.lo q.hi).1;have r2:=ju (E (sw k f g) k).natAbs l
     have Y:2<=a/b:=by
      refine jC.mp λz=>?_;have:a/b=1:=by omega
      rw[this] at X;omega
     have d4:b*2<=b*(a/b):=cI _ Y;omega
   generalize (red m k (λi j=>E (sw k f i) j) g k).natAbs=v at two ⊢;have s1:n*(1+a/b)*b*(b*v)<=2*(n*a)*(b*v):=dH _ S;have s2:2*(n*a)*(b*v)=n*a*(b*(2*v)):=by rw[fL 2,dh,jT 2 b v]
   have Z:n*a*(b*(2*v))<=n*a*(b*a):=cI _ (cI _ two);rw[fL b a] at Z;omega
structure CL(m k:Nat)(E0 E:Mt):Prop where
 rt:RT m k E0 E
 z:∀i,k<i->i<m->E i k=0
 same:E0 k k≠0->(∀i,k<i->i<m->E0 k k∣E0 i k)->∀i j,i<m->E i j=red m k E0 i j
 bd:∀j N M P,Hyp m k E0 j N M P->Bo m k j (2*(N*(M+2)*P^3)) E
theorem CL.aft{m k:Nat}{E0 E:Mt}(r:RT m k E0 E)(A:Aft m k E0 E)(z:∀i,k<i->i<m->E i k=0):CL m k E0 E:=
 ⟨r,z,λh h' i j _=>by rw[A.dv h h'],λj N M P H=>by
  obtain⟨e,b,c,_⟩:=A.po j N M P H;exact λi d a=>aX (b i d a) c⟩
theorem CL.refl{m k:Nat}{E:Mt}(z:∀i,k<i->i<m->E i k=0):CL m k E E:=
 ⟨RT.refl,z,λh _ i j c=>by
  unfold red;split
  ·rename_i q;rw[z i q.1 q.2,Int.zero_fdiv,cH,jw]
  ·rfl,λj N M P H i b a=>by
  refine aX (H.bo i b a) ?_;have c3:1<=P^3:=k6 _ _ H.one;have:N<=N*(M+2):=bz N (by omega);have:N*(M+2)<=N*(M+2)*P^3:=bz _ c3;omega⟩
structure Bs(m:Nat)(A0:Mt)(D:Int):Prop where
 sym:EqM m (tr A0) A0
 z:∃Z0,EqM m (mul m Z0 A0) (λi j=>D*one i j)
 nz:D≠0
theorem Adm.trs{m:Nat}{b E:Mt}(hs:EqM m (PM.tr b) b)(h:Adm m b E):Adm m b (PM.tr E):=by have a:=h.tr;exact⟨a.ex,λi j e c=>(ZF (λ_ _=>rfl) λk d=>(hs.mulL k j d c).symm).trans (a.val i j e c),a.nil⟩
structure Cr(m k:Nat)(A0 E:Mt):Prop where
 adm:Adm m A0 E
 d1:∀i j,i<k->j<m->j≠i->E i j=0/\E j i=0
 d2:∀i,i<k->1<=E i i
 d3:∀i a b,i<k->i<=a->i<=b->a<m->b<m->E i i∣E a b
theorem Cr.rt{m k:Nat}{l E o:Mt}(c:Cr m k l E)(r:RT m k E o):Cr m k l o:=by
 refine⟨c.adm.rt r,λi j d h p=>⟨by rw[r.up i j d];exact(c.d1 i j d h p).1,?_⟩,λi d=>by rw[r.up i i d];exact c.d2 i d,λi a b d s n e f=>?_⟩
 ·by_cases q:j<k
  ·rw[r.up j i q];exact(c.d1 i j d h p).2
  ·exact ie.mp (r.dvd (c:=0) (λx t g=>ie.mpr (c.d1 i x d g (by omega)).2) j (by omega) h)
 ·rw[r.up i i d];by_cases q:a<k
  ·rw[r.up a b q];exact c.d3 i a b d s n e f
  ·exact r.dvd (λx t g=>c.d3 i x b d (by omega) n g f) a (by omega) e
theorem Cr.tr{m k:Nat}{e E:Mt}{D:Int}(b:Bs m e D)(c:Cr m k e E):Cr m k e (PM.tr E):=
 ⟨c.adm.trs b.sym,λi j d h l=>⟨(c.d1 i j d h l).2,(c.d1 i j d h l).1⟩,c.d2,λi a b d n o g f=>c.d3 i b a d o n f g⟩
theorem Cr.col{m k:Nat}{d E:Mt}{D:Int}(b:Bs m d D)(c:Cr m k d E){j:Nat}{x:Int}(g:k<=j)(a:j<m)(h:∀i,k<=i->i<m->x∣E i j):x∣D:=by
 obtain⟨l,e⟩:=b.z;refine c.adm.div e a λi f=>?_;by_cases q:i<k
 ·rw[(c.d1 i j q a (by omega)).1];exact dC x
 ·exact h i (by omega) f
theorem Cr.piv{m k:Nat}{a E:Mt}{D:Int}(b:Bs m a D)(c:Cr m k a E)(e:k<m)(z:∀i,k<i->i<m->E i k=0):E k k≠0/\E k k∣D:=by
 have:E k k∣D:=c.col b (aN k) e λi f d=>by
  by_cases q:i=k
  ·rw[q];exact iI _
  ·rw[z i (by omega) d];exact dC _
 exact⟨λh=>b.nz (ie.mp (h▸this)),this⟩
theorem Zdt{a b:Int}(h:a∣b)(f:b≠0)(n:¬b∣a):2*a.natAbs<=b.natAbs:=by
 obtain⟨c,d⟩:=h;have e:b.natAbs=a.natAbs*c.natAbs:=by rw[d,dk]
 have g:c.natAbs≠0:=λz=>f (by rw[d,Int.natAbs_eq_zero.mp z,cO])
 have c1:c.natAbs≠1:=λz=>n (by
  refine cY.mp ?_;rw[e,z,Nat.mul_one];exact Nat.dvd_refl _)
 have:a.natAbs*2<=a.natAbs*c.natAbs:=cI _ (by omega);omega
structure RZ(m k e β γ:Nat)(A0 E:Mt):Prop where
 cr:Cr m k A0 E
 nz:E k k≠0
 pb:(E k k).natAbs<=2^e
 rz:∀j,k<j->j<m->E k j=0
 ab:∀i j,k<=i->i<m->k<=j->j<m->(E i j).natAbs<=2^β
 lb:∀i j,i<m->j<m->(E i (m+j)).natAbs<=2^γ
 rb:∀i j,i<m->j<m->(E (m+i) j).natAbs<=2^γ
theorem pw2{a b:Nat}(h:a<=b):2^a<=2^b:=Nat.pow_le_pow_right (by omega) h
theorem bits3(g u e:Nat):2*(2^g*(2^u+2)*(2^e)^3)<=2^(g+u+3*e+3):=by
 have d:2^u+2<=2^(u+2):=by have:=cP (n:=u);rw[eQ,eQ];omega
 have a:(2^e)^3=2^(3*e):=by rw[<-Nat.pow_mul,fL]
 rw[a];have b:2^g*(2^u+2)*2^(3*e)<=2^g*2^(u+2)*2^(3*e):=dH _ (cI _ d);rw[<-Nat.pow_add,<-Nat.pow_add] at b;have c:2^(g+u+3*e+3)=2*2^(g+(u+2)+3*e):=by rw[show g+u+3*e+3=(g+(u+2)+3*e)+1 by omega,eQ];omega
 rw[c];omega
theorem CL.beside{m k e u a:Nat}{E f:Mt}(c:CL m k E f)(l:1<=2^e)(pv:E k k≠0->(E k k).natAbs<=2^e)(o:E k k=0->∀i,k<i->i<m->(E i k).natAbs<=2^e)(n:∀i,k<=i->i<m->(E i k).natAbs<=2^u)
  (g:∀i j,i<m->j<m->(E i (m+j)).natAbs<=2^a):∀i j,i<m->j<m->(f i (m+j)).natAbs<=2^(a+u+3*e+3):=λi j b d=>by
 by_cases q:i<k
 ·rw[c.rt.up i _ q];exact aX (g i j b d) (pw2 (by omega))
 ·exact aX (c.bd (m+j) (2^a) (2^u) (2^e) ⟨λx p h=>g x j h d,l,pv,o,.inl n⟩ i (by omega) b) (bits3 _ _ _)
theorem HS{m k e t s:Nat}{p:Nat->Nat}{w E g:Mt}{D:Int}(b:Bs m w D)(y:k<m)(h:RZ m k e (p e) t w E)(c:CL m k E g)(hs:p e+3*e+3<=s)(G:∀d,d<e->d<=p d)
  (Q:∀d,e=d+1->∀j,k<j->j<m->∃N M P,Hyp m k E j N M P/\2*(N*(M+2)*P^3)<=2^(p d)) :
  (RZ m k e (p e) (t+s) w g/\RZ m k e (p e) (t+s) w (tr g)/\∀i,k<i->i<m->E k k∣E i k)\/
   (∃d,e=d+1/\RZ m k d (p d) (t+s) w (tr g)/\¬ ∀i,k<i->i<m->E k k∣E i k):=by
 have A:=h.cr.rt c.rt
 have I:∀i j,i<m->j<m->(g i (m+j)).natAbs<=2^(t+s):=λi j l n=>
  aX (c.beside (e:=e) (u:=p e) cP (λ_=>h.pb) (λz=>absurd z h.nz) (λi f a=>h.ab i k f a (aN _) y) h.lb i j l n) (pw2 (by omega))
 have F:∀i j,i<m->j<m->(g (m+i) j).natAbs<=2^(t+s):=λi j l n=>by rw[c.rt.low _ _ (by omega)];exact aX (h.rb i j l n) (pw2 (by omega))
 by_cases all:∀i,k<i->i<m->E k k∣E i k
 ·refine .inl ?_;have O:=c.same h.nz all;have v:∀j,g k j=E k j:=λj=>by rw[O k j y,red_k]
  have n8:∀i j,k<i->i<m->k<j->j<m->g i j=E i j:=λi j f a r o=>by rw[O i j a,Nc f a,h.rz j r o,cO,jw]
  have ab:∀i j,k<=i->i<m->k<=j->j<m->(g i j).natAbs<=2^(p e):=λi j f a r o=>by
   by_cases q:i=k
   ·rw[q,v];exact h.ab k j (aN _) y r o
   ·by_cases B:j=k
    ·rw[B,c.z i (by omega) a];exact dj _
    ·rw[n8 i j (by omega) a (by omega) o];exact h.ab i j f a r o
  exact⟨⟨A,by rw[v];exact h.nz,by rw[v];exact h.pb,λj f a=>by rw[v];exact h.rz j f a,ab,I,F⟩,
   ⟨A.tr b,by show g k k≠0;rw[v];exact h.nz,by show(g k k).natAbs<=_;rw[v];exact h.pb,λj f a=>c.z j f a,λi j f a r o=>ab j i r o f a,λi j l n=>F j i n l,λi j l n=>I j i n l⟩,all⟩
 ·refine .inr ?_;have pv:=A.piv b y c.z
  have J:∀i,k<=i->i<m->g k k∣E i k:=c.rt.back.dvd λi f a=>by
   by_cases q:i=k
   ·rw[q];exact iI _
   ·rw[c.z i (by omega) a];exact dC _
  have R:2*(g k k).natAbs<=(E k k).natAbs:=Zdt (J k (aN _) y) h.nz λz=>all λi f a=>Int.dvd_trans z (J i (by omega) a);have L:=h.pb;have S:1<=(g k k).natAbs:=by have:=pv.1;omega
  obtain⟨d,rfl⟩:∃d,e=d+1:=by
   cases e with
   | zero=>exfalso;rw[Nat.pow_zero] at L;omega
   | succ d=>exact⟨d,rfl⟩
  have x:(g k k).natAbs<=2^d:=by rw[eQ] at L;omega
  have ab:∀i j,k<=i->i<m->k<=j->j<m->(g i j).natAbs<=2^(p d):=λi j f a r o=>by
   by_cases B:j=k
   ·subst B;by_cases q:i=j
    ·rw[q];exact aX x (pw2 (G d (by omega)))
    ·rw[c.z i (by omega) a];exact dj _
   ·obtain⟨N,M,P,H,C⟩:=Q d rfl j (by omega) o;exact aX (c.bd j N M P H i f a) C
  exact⟨d,rfl,⟨A.tr b,pv.1,x,λj f a=>c.z j f a,λi j f a r o=>ab j i r o f a,λi j l n=>F j i n l,λi j l n=>I j i n l⟩,all⟩
structure Bd(m k e0 s:Nat)(β:Nat->Nat)(A0:Mt):Prop where
 hs:∀e,e<=e0->β e+3*e+3<=s
 le:∀e,e<=e0->e<=β e
 mo:∀e,e<e0->β (e+1)<=β e
 cl:∀e γ E,e<e0->RZ m k (e+1) (β (e+1)) γ A0 E->∀j,k<j->j<m->∃N M P,Hyp m k E j N M P/\2*(N*(M+2)*P^3)<=2^(β e)
theorem HS'{m k e l g s:Nat}{f:Nat->Nat}{d E j:Mt}{D:Int}(b:Bs m d D)(B:Bd m k l s f d)(o:k<m)(n:e<=l)(h:RZ m k e (f e) g d E)(c:CL m k E j) :
  (RZ m k e (f e) (g+s) d j/\RZ m k e (f e) (g+s) d (tr j)/\∀i,k<i->i<m->E k k∣E i k)\/
   (∃a,e=a+1/\RZ m k a (f a) (g+s) d (tr j)/\¬ ∀i,k<i->i<m->E k k∣E i k):=
 HS b o h c (B.hs e n) (λa h=>B.le a (by omega)) λa h'=>by subst h';exact B.cl a g E (by omega) h
theorem turn{m k e t f s:Nat}{g:Nat->Nat}{d E F n:Mt}{D:Int}(b:Bs m d D)(B:Bd m k t s g d)(o:k<m)(r:e<=t)(h:RZ m k e (g e) f d (tr E))(c:CL m k (tr E) F)(v:CL m k (tr F) n) :
  (∃e',e'<=e/\RZ m k e' (g e') (f+2*s) d n/\RZ m k e' (g e') (f+2*s) d (tr n)/\((¬ ∀i,k<i->i<m->E k k∣E k i)->e'<e))\/
   (∃e',e'<e/\RZ m k e' (g e') (f+2*s) d (tr n)):=by
 have p:f+s+s=f+2*s:=by omega
 rcases HS' b B o r h c with⟨q,x,l⟩ | ⟨A,rfl,q,w⟩
 ·rcases HS' b B o r x v with⟨a,j,_⟩ | ⟨u,rfl,a,w⟩
  ·rw[p] at a j;exact .inl ⟨e,aN _,a,j,λz=>absurd l z⟩
  ·exfalso;refine w λi C y=>?_;have:tr F i k=0:=q.rz i C y;rw[this];exact dC _
 ·rcases HS' b B o (by omega) q v with⟨a,j,_⟩ | ⟨u,rfl,a,_⟩
  ·rw[p] at a j;exact .inl ⟨A,by omega,a,j,λ_=>by omega⟩
  ·rw[p] at a;exact .inr ⟨u,by omega,a⟩
noncomputable def dbl(t:Nat):Nat->Nat
 | 0=>t
 | n+1=>2*dbl t n+20
noncomputable def bI(e:Nat):Nat:=dbl 28 (5-e)
theorem IZ{e:Nat}(h:e<5):bI e=2*bI (e+1)+20:=by unfold bI;rw[show 5-e=(5-(e+1))+1 by omega];rfl
theorem bI_le:∀e,e<=5->28<=bI e/\bI e<=1516:=by decide
theorem Bd.big{m k:Nat}{c:Mt}:Bd m k 5 8000 bI c:=by refine⟨λe h=>by have:=bI_le e h;omega,λe h=>by have:=bI_le e h;omega,λe h=>by rw[IZ h];omega,λe g E f h j l d=>⟨2^bI (e+1),2^bI (e+1),2^(e+1),⟨λi a b=>h.ab i j a b (by omega) d,cP,λ_=>h.pb,λz=>absurd z h.nz,.inl λi a b=>h.ab i k a b (aN _) (by omega)⟩,aX (bits3 _ _ _) (pw2 ?_)⟩⟩;rw[IZ f];omega
noncomputable def bC(_:Nat):Nat:=7600
theorem Bd.two{m k:Nat}{f:Mt}{D:Int}(b:Bs m f D)(p:D.natAbs<=2^17)(r:m<=k+2):Bd m k 17 8000 bC f:=by
 refine⟨λe h=>by unfold bC;omega,λe h=>by unfold bC;omega,λe h=>aN _,λe s E n h j c a=>?_⟩;have l:m=k+2:=by omega
 have v:j=k+1:=by omega
 have w:∀i,k<=i->i<m->(E i j).natAbs<=2^17:=λi o t=>by
  by_cases q:i=k
  ·rw[q,h.rz j c a];exact dj _
  ·have g:i=j:=by omega
   have d:E j j∣D:=h.cr.col b (by omega) a λx y u=>by
    by_cases q:x=k
    ·rw[q,h.rz j c a];exact dC _
    ·rw[show x=j by omega];exact iI _
   have:=cz (by have:=b.nz;omega) (cY.mpr d);rw[g];omega
 refine⟨2^17,2^(e+1),2^(e+1),⟨w,cP,λ_=>h.pb,λz=>absurd z h.nz,.inr ⟨l,h.rz j c a,h.nz,h.pb⟩⟩,aX (bits3 _ _ _) (pw2 ?_)⟩;unfold bC;omega
structure Pl(m k a γ:Nat)(A0 E:Mt):Prop where
 cr:Cr m k A0 E
 ab:∀i j,k<=i->i<m->k<=j->j<m->(E i j).natAbs<=2^a
 lb:∀i j,i<m->j<m->(E i (m+j)).natAbs<=2^γ
 rb:∀i j,i<m->j<m->(E (m+i) j).natAbs<=2^γ
theorem Pl.first{m k a y s d:Nat}{r:Nat->Nat}{q E f:Mt}{D:Int}(b:Bs m q D)(o:k<m)(h:Pl m k a y q E)(c:CL m k E f)(B:(f k k).natAbs<=2^d)(p:5*a+3<=r d)(C:d<=r d)(hs:4*a+3<=s):RZ m k d (r d) (y+s) q (tr f):=by
 have w:=h.cr.rt c.rt;have col:∀i,k<=i->i<m->(E i k).natAbs<=2^a:=λi n g=>h.ab i k n g (aN _) o;refine⟨w.tr b,(w.piv b o c.z).1,B,λj n g=>c.z j n g,λi j n g z A=>?_,λi j t v=>?_,λi j t v=>?_⟩
 ·show(f j i).natAbs<=_;have:=c.bd i (2^a) (2^a) (2^a) ⟨λx p l=>h.ab x i p l n g,cP,λ_=>col k (aN _) o,λ_ x p l=>col x (by omega) l,.inl col⟩ j z A;exact aX this (aX (bits3 _ _ _) (pw2 (by omega)))
 ·show(f (m+j) i).natAbs<=_;rw[c.rt.low _ _ (by omega)];exact aX (h.rb j i v t) (pw2 (by omega))
 ·show(f j (m+i)).natAbs<=_;exact aX (c.beside (e:=a) (u:=a) cP (λ_=>col k (aN _) o) (λ_ x p l=>col x (by omega) l) col h.lb j i v t) (pw2 (by omega))
theorem Pl.small{m k a p:Nat}{j E f:Mt}{D:Int}(b:Bs m j D)(g:k<m)(h:Pl m k a p j E)(c:CL m k E f):(f k k).natAbs<=2^a/\(f k k).natAbs<=D.natAbs:=by
 have o:=h.cr.rt c.rt;have pv:=o.piv b g c.z;refine⟨?_,cz (by have:=b.nz;omega) (cY.mpr pv.2)⟩
 have l:∀i,k<=i->i<m->f k k∣E i k:=c.rt.back.dvd λi e d=>by
  by_cases q:i=k
  ·rw[q];exact iI _
  ·rw[c.z i (by omega) d];exact dC _
 obtain⟨i,e,d,r⟩:∃i,k<=i/\i<m/\E i k≠0:=by refine cA λn=>pv.1 ?_;refine ie.mp (c.rt.dvd (c:=0) (λi e d=>?_) k (aN _) g);refine ie.mpr (cA λz=>n ⟨i,e,d,z⟩)
 have:=cz (by omega) (cY.mpr (l i e d));have:=h.ab i k e d (aN _) g;omega
theorem RZ.unfit{m k e s f u:Nat}{n E:Mt}{D:Int}(b:Bs m n D)(t:k<m)(h:RZ m k e s f n E)(h':RZ m k e s f n (tr E))(z:k<u)(c:u<m):RZ m k e s (f+1) n (tr (λi j=>if i=k then E i j-1*E u j else E i j)):=by
 have r:=RT.sub (m:=m) (p:=k) (a:=k) (b:=u) (q:=1) (E:=E) (aN _) t (by omega) c (by omega);have v:E u k=0:=h'.rz u z c;have p2:2^f+2^f=2^(f+1):=by rw[eQ];omega
 have kk:(if k=k then E k k-1*E u k else E k k)=E k k:=by rw[nZ rfl,v];omega
 refine⟨(h.cr.rt r).tr b,?_,?_,λj l d=>?_,λi j l d w y=>?_,λi j g o=>?_,λi j g o=>?_⟩
 ·show(if k=k then E k k-1*E u k else E k k)≠0;rw[kk];exact h.nz
 ·show(if k=k then E k k-1*E u k else E k k).natAbs<=_;rw[kk];exact h.pb
 ·show(if j=k then E j k-1*E u k else E j k)=0;rw[ng (by omega)];exact h'.rz j l d
 ·show(if j=k then E j i-1*E u i else E j i).natAbs<=_;by_cases q:j=k
  ·rw[nZ q,q];by_cases x:i=k
   ·rw[x,v];have:=h.ab k k (aN _) t (aN _) t;omega
   ·rw[h.rz i (by omega) d];have:=h.ab u i (by omega) c l d;omega
  ·rw[ng q];exact h.ab j i w y l d
 ·show(if m+j=k then E (m+j) i-1*E u i else E (m+j) i).natAbs<=_;rw[ng (by omega)];exact aX (h.rb j i o g) (pw2 (by omega))
 ·show(if j=k then E j (m+i)-1*E u (m+i) else E j (m+i)).natAbs<=_;split
  ·have l:=h.lb j i o g;have d:=h.lb u i c g;have:=jS (E j (m+i)) (1*E u (m+i));omega
  ·exact aX (h.lb j i o g) (pw2 (by omega))
theorem RZ.next{m k e A B:Nat}{y E:Mt}(H:k<m)(h:RZ m k e A B y E)(h':RZ m k e A B y (tr E))(F:∀i j,k<i->i<m->j<m->E k k∣E i j):Pl m (k+1) A B y (λi j=>if i=k/\E k k<0 then-E i j else E i j):=by
 have l:∀i j,k<=i->i<m->k<=j->j<m->E k k∣E i j:=λi j D v C t=>by
  by_cases q:i=k
  ·rw[q];by_cases G:j=k
   ·rw[G];exact iI _
   ·rw[h.rz j (by omega) t];exact dC _
  ·exact F i j (by omega) v t
 by_cases s:E k k<0
 ·have r:=RT.neg (m:=m) (p:=k) (a:=k) (E:=E) (aN _) H
  have e:(λi j=>if i=k/\E k k<0 then-E i j else E i j)=(λi j=>if i=k then-E i j else E i j):=by
   funext i j;by_cases q:i=k
   ·rw[nZ ⟨q,s⟩,nZ q]
   ·rw[ng (λz=>q z.1),ng q]
  rw[e];have c:=h.cr.rt r;refine⟨⟨c.adm,λi j n g x=>?_,λi n=>?_,λi a b n o u d f=>?_⟩,λi j D v C t=>?_,λi j n g=>?_,λi j n g=>?_⟩
  ·by_cases q:i=k
   ·subst q;refine⟨?_,?_⟩
    ·show(if i=i then _ else _)=_;rw[nZ rfl];by_cases w:j<i
     ·have:=(h.cr.d1 j i w (by omega) (by omega)).2;rw[this];rfl
     ·rw[h.rz j (by omega) g];rfl
    ·show(if j=i then _ else _)=_;rw[ng x];by_cases w:j<i
     ·exact(h.cr.d1 j i w (by omega) (by omega)).1
     ·exact h'.rz j (by omega) g
   ·exact c.d1 i j (by omega) g x
  ·by_cases q:i=k
   ·subst q;show 1<=(if i=i then _ else _);rw[nZ rfl];omega
   ·exact c.d2 i (by omega)
  ·by_cases q:i=k
   ·subst q;show(if i=i then-E i i else E i i)∣(if a=i then-E a b else E a b);rw[nZ rfl,Int.neg_dvd];split
    ·exact Int.dvd_neg.mpr (l a b o d u f)
    ·exact l a b o d u f
   ·exact c.d3 i a b (by omega) o u d f
  ·show(if i=k then _ else _:Int).natAbs<=_;rw[ng (by omega)];exact h.ab i j (by omega) v (by omega) t
  ·show(if i=k then-E i (m+j) else E i (m+j)).natAbs<=_;split
   ·rw[iH];exact h.lb i j n g
   ·exact h.lb i j n g
  ·show(if m+i=k then _ else _:Int).natAbs<=_;rw[ng (by omega)];exact h.rb i j n g
 ·have e:(λi j=>if i=k/\E k k<0 then-E i j else E i j)=E:=by funext i j;rw[ng (λz=>s z.2)]
  rw[e];refine⟨⟨h.cr.adm,λi j n g x=>?_,λi n=>?_,λi a b n o u d f=>?_⟩,λi j D v C t=>h.ab i j (by omega) v (by omega) t,h.lb,h.rb⟩
  ·by_cases q:i=k
   ·subst q;by_cases w:j<i
    ·have:=h.cr.d1 j i w (by omega) (by omega);exact⟨this.2,this.1⟩
    ·exact⟨h.rz j (by omega) g,h'.rz j (by omega) g⟩
   ·exact h.cr.d1 i j (by omega) g x
  ·by_cases q:i=k
   ·subst q;have:=h.nz;omega
   ·exact h.cr.d2 i (by omega)
  ·by_cases q:i=k
   ·subst q;exact l a b o d u f
   ·exact h.cr.d3 i a b (by omega) o u d f
end PM
namespace PW
open PySem L2 VL VX
theorem Kb{F:XS}{x:XT}{s:ZE}{k:Nat}(J:Nat->ZE->Prop)(g:J k s)(st:∀k s,J k s->x s=aA aB\/(x s=aA aC/\We F s λs2=>∃k',k'<k/\J k' s2)):We (Xl x F) s λd=>∃k,J k d/\x d=aA aB:=by
 obtain⟨d,k',a,b,c⟩:=Dd (c:=x) (fb:=F) J (λk s h=>by
  rcases st k s h with z | ⟨z,s2,e,k',i,f⟩
  ·exact .inl z
  ·exact .inr ⟨z,s2,k',e,i,f⟩) g
 exact⟨d,a,k',b,c⟩
noncomputable def cR(w:Nat)(f:Nat->Int):PV:=.cst (iL (ZV w f))
noncomputable def bL(w:Nat)(E:Mt):List PV:=(aM w).map λi=>cR w (E i)
section
variable {w m k i j a:Nat} {E E':Mt} {f g h:XE} {s:ZE}
theorem Tu:(bL w E).length=w:=by simp[bL]
theorem JL(a:i<w):(bL w E)[i]?=aA (cR w (E i)):=by unfold bL;rw[aZ,bO a];rfl
theorem V3(f:Nat->Int):Z5 (cR w f)=aC:=Yg _
theorem MG:ZK (bL w E)=aC:=by rw[Xx,bA];intro x a;obtain⟨i,_,rfl⟩:=br.mp a;exact V3 _
theorem Zbf{v:Nat->Int}(c:a<w):(bL w E).set a (cR w v)=bL w (XW a v E):=by
 apply dR;intro i;rw[bG,Tu];by_cases b:i<w
 ·rw[JL (E:=XW a v E) b];by_cases q:a=i
  ·subst q;rw[nZ rfl,nZ b,Yq]
  ·rw[ng q,JL b,WM _ _ (λz=>q z.symm)]
 ·rw[bb (l:=bL w (XW a v E)) (by rw[Tu];omega),ng (by omega)];exact bb (by rw[Tu];omega)
theorem Ov(a:i<w)(q:f s=aA (.lst (bL w E)))(b:g s=aA (.int (i:Int))):Zi ZJ f g s=aA (cR w (E i)):=o2 q b (Vt (JL a))
theorem Zdu{v:Nat->Int}(a:j<w)(q:f s=aA (cR w v))(b:g s=aA (.int (j:Int))):Zi ZJ f g s=aA (.int (v j)):=o2 q b (PZ a)
theorem Sl(b:i<w)(a:j<w)(q:f s=aA (.lst (bL w E)))(c:g s=aA (.int (i:Int)))(d:h s=aA (.int (j:Int))):Zi ZJ (Zi ZJ f g) h s=aA (.int (E i j)):=Zdu a (Ov b q c) d
theorem Kc{v:Nat->Int}{c:Nat}(b:a<w)(q:f s=aA (.int (a:Int)))(e:g s=aA (cR w v))(d:Ib s c=aA (bL w E)):X1 c f g s=aA (.nx (s.set c (aA (.lst (bL w (XW a v E)))))):=by rw[OX e q d MG (V3 _) (UW (by rw[Tu];exact b)),Zbf b]
theorem RH{v:Nat->Int}(q:f s=aA (.lst (iL (ZV w v)))):Ol f s=aA (cR w v):=by unfold Ol;rw[q];show(Xh (iL (ZV w v))).map _=_;rw[Y8];rfl
theorem JM{u v:Nat->Int}:Vi (iL (ZV w u)) (iL (ZV w v))=(aM w).map λj=>.tup [.int (u j),.int (v j)]:=by rw[YL _ _ (by simp[ZL]),aP,ZL];refine av λi a=>?_;have a:=aU.mp a;rw[Yu _ i (by rw[ZL];exact a),Yu _ i (by rw[ZL];exact a),YO a,YO a]
theorem Nd{x:Int}{G:Nat}(h:x.natAbs<2^G)(a:0<G):x.natAbs.log2<G:=by
 by_cases z:x.natAbs=0
 ·rw[z];have:Nat.log2 0=0:=by decide
  omega
 ·exact(kU z).mpr h
theorem GL{x y:Int}{G:Nat}(h:x.natAbs<2^G)(h':y.natAbs<2^G)(a:0<G)(b:G<=67000000):CMulW x y:=⟨by have:=Nd h a;omega,by have:=Nd h' a;omega⟩
theorem Ha{u v:Nat->Int}{q:Int}(c:w<=100)(b:∀j,j<w->CMulW q (v j)):S2 [cR w u,cR w v,.int q]=aA (.lst (iL (ZV w λj=>u j-q*v j))):=by refine YZ (ret (XM (q:=λj=>.tup [.int (u j),.int (v j)]) (λj=>u j-q*v j) ?_ c λj a=>⟨_,rfl,vP (vI rfl (vC (C:=CMulW) (op:=(· * ·)) rfl rfl (b j a)))⟩));show aA (Vi (iL (ZV w u)) (iL (ZV w v)))=_;rw[JM]
noncomputable def bw(m k:Nat)(E:Mt):List Nat:=((aM (m-(k+1))).map λi=>k+1+i).filter λi=>decide (E i k≠0)
theorem mem_bw{x:Nat}:x∈bw m k E↔k<x/\x<m/\E x k≠0:=by
 unfold bw;rw[i5,br];constructor
 ·rintro⟨⟨i,b,rfl⟩,h⟩;have:=aU.mp b;exact⟨by omega,by omega,of_decide_eq_true h⟩
 ·rintro⟨d,c,a⟩;exact⟨⟨x-(k+1),aU.mpr (by omega),by omega⟩,decide_eq_true a⟩
theorem Af:(bw m k E).Pairwise (· < ·):=by unfold bw;refine List.Pairwise.filter _ (List.pairwise_map.mpr ?_);exact List.Pairwise.imp (λh=>by omega) List.pairwise_lt_range
theorem Di{x:Nat}{r:List Nat}(e:bw m k E=x::r):PM.Fst m k E x:=by
 have a:=mem_bw.mp (show x∈bw m k E by rw[e];exact af);refine⟨a.1,a.2.1,a.2.2,λi d f=>cA λz=>?_⟩;have c:i∈bw m k E:=mem_bw.mpr ⟨d,by omega,z⟩;have b:=Af (m:=m) (k:=k) (E:=E);rw[e] at c b;rcases aa.mp c with q | q
 ·omega
 ·have:=List.rel_of_pairwise_cons b q;omega
theorem UN(c:m<=w)(f:w<=100)(d:k<m):Y4 [.lst (bL w E),.int (m:Int),.int (k:Int)]=aA (.lst (iL (nL (bw m k E)))):=by
 have e:iL (nL (bw m k E))=(bw m k E).map λ(i:Nat)=>PV.int (i:Int):=by simp[nL]
 rw[e];refine YZ (ret (VF ((aM (m-(k+1))).map λi=>k+1+i) (λ(i:Nat)=>PV.int (i:Int)) (λ(i:Nat)=>PV.int (i:Int)) (λi=>decide (E i k≠0)) ?_ (by simp;omega) λi b=>?_))
 ·rw[UU (i:=(k:Int)+1) (j:=(m:Int)) (vad rfl rfl) rfl (by omega) (by omega)];unfold Tg;rw[eM,show((m:Int)-((k:Int)+1)).toNat=m-(k+1) by omega];congr 1
 ·obtain⟨x,a,rfl⟩:=br.mp b;have:=aU.mp a;refine⟨_,rfl,xb (o2 (Sl (by omega) (by omega) rfl rfl rfl) rfl ?_),λ_=>vP rfl⟩;rw[Ul];simp
end
abbrev stC(w m k:Nat)(E0 E:Mt)(x5 x6 x7:Option PV):ZE:=[aA (.lst (bL w E0)),aA (.int (m:Int)),aA (.int (k:Int)),aA (.lst (bL w E)),aA (.lst (iL (nL (bw m k E)))),x5,x6,x7]
theorem JN(x:Int):Ld [.int x]=aA (.int (x.natAbs:Int)):=by
 show aA (PV.int (if x<0 then -x else x))=_;congr 2;split<;>omega
theorem Bt{k f:Nat}{E:Mt}(h:k≠f):XW f (E k) (XW k (E f) E)=λi j=>E (PM.sw k f i) j:=by
 funext i;unfold XW PM.sw;by_cases q:i=f
 ·rw[nZ q,ng (by omega),nZ q]
 ·rw[ng q];by_cases a:i=k
  ·rw[nZ a,nZ a]
  ·rw[ng a,ng a,ng q]
noncomputable def Ox(X:List Nat)(k:Nat)(E:Mt):Mt:=λi j=>if i∈X then E i j-(E i k).fdiv (E k k)*E k j else E i j
theorem Bv{w m k:Nat}{E0 E a:Mt}{d f x7:Option PV}{G:Nat}(I:w<=100)(M:m<=w)(B:k<m)(L:0<G)(A:G<=60000000)(u:∀i j,k<=i->i<m->j<w->(a i j).natAbs<2^G)(p:a k k≠0)(H:(a k k).natAbs.log2<9000) :
  We (Y6 [3] (Vy (Za 4)) (.one 7) (X1 3 (Za 7) (Ol (Zc S2 [Zi ZJ (Za 3) (Za 7),Zi ZJ (Za 3) (Za 2),Zi Ta (Zi ZJ (Zi ZJ (Za 3) (Za 7)) (Za 2)) (Zi ZJ (Zi ZJ (Za 3) (Za 2)) (Za 2))]))))
   [aA (.lst (bL w E0)),aA (.int (m:Int)),aA (.int (k:Int)),aA (.lst (bL w a)),aA (.lst (iL (nL (bw m k E)))),d,f,x7]
   λs=>∃x7,s=[aA (.lst (bL w E0)),aA (.int (m:Int)),aA (.int (k:Int)),aA (.lst (bL w (Ox (bw m k E) k a))),aA (.lst (iL (nL (bw m k E)))),d,f,x7]:=by
 refine C8 (Zdp (X:=bw m k E) (λt s=>∃x7,s=[aA (.lst (bL w E0)),aA (.int (m:Int)),aA (.int (k:Int)),aA (.lst (bL w (Ox ((bw m k E).take t) k a))),aA (.lst (iL (nL (bw m k E)))),d,f,x7]) rfl ⟨x7,?_⟩ ?_) ?_
 ·rw[kP,show Ox [] k a=a from funext λi=>funext λj=>ng (dG)]
 ·rintro t s h ⟨x7,rfl⟩;have r:=mem_bw.mp (eT (l:=bw m k E) h);obtain⟨x,o⟩:∃x,x=(bw m k E)[t]:=⟨_,rfl⟩;rw[<-o] at r ⊢
  have xn:x∉(bw m k E).take t:=λz=>by
   obtain⟨i,J,e⟩:=List.mem_take_iff_getElem.mp z;have g:i<t:=by omega
   have:=(List.pairwise_iff_getElem.mp (Af (m:=m) (k:=k) (E:=E))) i t (by omega) h g;omega
  have F:k∉(bw m k E).take t:=λz=>by have:=(mem_bw.mp (iX z)).1;omega
  have n:Ox ((bw m k E).take t) k a x=a x:=funext λj=>ng xn;have c:Ox ((bw m k E).take t) k a k=a k:=funext λj=>ng F;refine MR (Kc (v:=λj=>a x j-(a x k).fdiv (a k k)*a k j) (by omega) rfl (RH (c3 (Ov (by omega) rfl rfl) (Ov (by omega) rfl rfl) (vC (C:=WC) (op:=jB) (Sl (by omega) (by omega) rfl rfl rfl) (Sl (by omega) (by omega) rfl rfl rfl) ?_) ?_)) rfl) ⟨aA (.int (x:Int)),?_⟩
  ·rw[c];exact⟨p,H⟩
  ·rw[n,c];refine Ha I λj D=>?_;have q:=(PM.fd_any (x:=a x k) p).2.2;have b:=u x k (by omega) r.2.1 (by omega);refine GL (G:=G+1) ?_ (aV (u k j (aN _) B D) (PM.pw2 (by omega))) (by omega) (by omega);rw[eQ];omega
  ·show [aA (PV.lst (bL w E0)),aA (.int (m:Int)),aA (.int (k:Int)),aA (.lst (bL w (XW x (λj=>a x j-(a x k).fdiv (a k k)*a k j) (Ox ((bw m k E).take t) k a)))),aA (.lst (iL (nL (bw m k E)))),d,f,aA (.int (x:Int))]=_;congr 4;congr 2;congr 1;funext i;unfold XW;have tk:∀y,y∈(bw m k E).take (t+1)↔y∈(bw m k E).take t\/y=x:=λy=>by rw[iG h,cB,ah,<-o]
   by_cases q:i=x
   ·rw[nZ q,q];funext j;unfold Ox;rw[nZ ((tk x).mpr (.inr rfl))]
   ·rw[ng q];funext j;unfold Ox;by_cases b:i∈(bw m k E).take t
    ·rw[nZ b,nZ ((tk i).mpr (.inl b))]
    ·rw[ng b,ng (λz=>by rcases(tk i).mp z with z | z;exact b z;exact q z)]
 ·rintro s ⟨x7,rfl⟩;rw[fV];exact⟨x7,rfl⟩
theorem Bw{w m k f:Nat}{E:Mt}(F:PM.Fst m k E f)(d:k<m):Ox (bw m k E) k (PM.pre k f E)=PM.red m k (PM.pre k f E):=by
 funext i j;unfold Ox PM.red;by_cases q:i∈bw m k E
 ·have:=mem_bw.mp q;rw[nZ q,nZ ⟨this.1,this.2.1⟩]
 ·rw[ng q];by_cases c:k<i/\i<m
  ·rw[nZ c];have z:E i k=0:=cA λz=>q (mem_bw.mpr ⟨c.1,c.2,z⟩)
   have e:PM.pre k f E i k=0:=by
    unfold PM.pre;split
    ·show E (PM.sw k f i) k=0;rw[PM.sw_c (a:=k) (b:=f) (by omega) (λy=>F.ne (by rw[<-y];exact z))];exact z
    ·exact z
   rw[e,Int.zero_fdiv,cH,jw]
  ·rw[ng c]
theorem P8{w m k G P:Nat}{E0:Mt}(U:w<=100)(Q:m<=w)(c:k<m)(hG:0<G)(L:G<=60000000)(Y:∀j,j<w->∃N M P,PM.Hyp m k E0 j N M P/\2*(N*(M+2)*P^3)<2^G)
  (W:E0 k k≠0->(E0 k k).natAbs<=P) (D:E0 k k=0->∀i,k<i->i<m->(E0 i k).natAbs<=P) (hP3:P<=2^8000):∃E,ZP [.lst (bL w E0),.int (m:Int),.int (k:Int)]=aA (.lst (bL w E))/\PM.CL m k E0 E:=by
 suffices g:YH V6 (ZC 8 [.lst (bL w E0),.int (m:Int),.int (k:Int)]) λv=>∃E,v = .lst (bL w E)/\PM.CL m k E0 E by obtain⟨v,e,E,rfl,r⟩:=Sh g;exact⟨E,e,r⟩
 have big:∀{N M P:Nat},1<=P->N<=2*(N*(M+2)*P^3):=λ{N M P} h=>by have c3:1<=P^3:=k6 _ _ h;have:N<=N*(M+2):=bz N (by omega);have:N*(M+2)<=N*(M+2)*P^3:=bz _ c3;omega
 refine ZS (Zr (c1 rfl (by rw[QU,nZ MG]))) (ZS (Zr (c3 rfl rfl rfl (UN Q U c))) ?_)
 obtain⟨O,I⟩:∃O,∀f,PM.Fst m k E0 f->(PM.red m k (PM.pre k f E0) k k).natAbs<O:=by
  by_cases q:∃f,PM.Fst m k E0 f
  ·obtain⟨f,F⟩:=q;refine⟨(PM.red m k (PM.pre k f E0) k k).natAbs+1,λg J=>?_⟩
   have:g=f:=by
    rcases mD g f with z | z | z
    ·exact absurd (F.ze g J.lo z) J.ne
    ·exact z
    ·exact absurd (J.ze f F.lo z) F.ne
   rw[this];omega
  ·exact⟨0,λf F=>absurd ⟨f,F⟩ q⟩
 refine UI (Kb (λn st=>∃E p l x7,st=stC w m k E0 E p l x7/\PM.RT m k E0 E/\((E=E0/\n=O)\/(PM.Aft m k E0 E/\n=(E k k).natAbs))) ⟨E0,none,none,none,rfl,.refl,.inl ⟨rfl,rfl⟩⟩ ?_) ?_
 ·rintro n st ⟨E,p,l,x7,rfl,rt,y⟩;have a:(iL (nL (bw m k E))).length=(bw m k E).length:=by simp[nL]
  have d:xB (Zi M8 (Zc YG [Za 4]) (eC (.int 0))) (stC w m k E0 E p l x7)=aA (decide (0<(bw m k E).length)):=xb (vgt (b:=0) (c1 rfl (by rw[KP,a])) rfl)
  cases e:bw m k E with
  | nil=>exact .inl (d.trans (by rw[e];rfl))
  | cons f r=>
   refine .inr ⟨d.trans (by rw[e];rfl),?_⟩;have F:=Di e;have Z:=F.lo
   -- the bounds
   have X:∀i j,k<=i->i<m->j<w->(E i j).natAbs<2^G:=λi j t o B=>by
    obtain⟨N,M,P',H,u⟩:=Y j B;rcases y with⟨rfl,_⟩ | ⟨A,_⟩
    ·exact bK (H.bo i t o) (bK (big H.one) u)
    ·obtain⟨N',b1,b2,_⟩:=A.po j N M P' H;exact bK (b1 i t o) (bK b2 u)
   have C:PM.Aft m k E0 (PM.red m k (PM.pre k f E))/\(PM.red m k (PM.pre k f E) k k).natAbs<n:=by
    rcases y with⟨rfl,rfl⟩ | ⟨A,rfl⟩
    ·exact⟨PM.Aft.first c F,I f F⟩
    ·exact A.next c F
   have pz:PM.pre k f E k k≠0:=by have:=C.1.nz;rwa [PM.red_k] at this
   have pb:(PM.pre k f E k k).natAbs.log2<9000:=by
    have:=C.1.pv P W D;rw[PM.red_k] at this;have:(PM.pre k f E k k).natAbs<2^8001:=by rw[eQ];have:=cP (n:=8000);omega
    have:=Nd this (by omega);omega
   have S:∀i j,k<=i->i<m->j<w->(PM.pre k f E i j).natAbs<2^G:=λi j t o B=>by
    unfold PM.pre;split
    ·exact X _ j (by unfold PM.sw;split<;>(try split)<;>omega) (PM.sw_lt c F.hi o) B
    ·exact X i j t o B
   have x:∀p:Option PV,Dw (xB (Zi (XZ aB) (Zi ZJ (Zi ZJ (Za 3) (Za 2)) (Za 2)) (eC (.int 0)))) (xB (Zi Hz (Zc Ld [Zi ZJ (Zi ZJ (Za 3) (Za 5)) (Za 2)]) (Zc Ld [Zi ZJ (Zi ZJ (Za 3) (Za 2)) (Za 2)]))) (stC w m k E0 E (aA (.int (f:Int))) l x7)=aA (decide (E k k=0) || decide ((E f k).natAbs<(E k k).natAbs)):=λ_=>xo (xb (Dy (Sl (by omega) (by omega) rfl rfl rfl) rfl)) (xb (vlt (c1 (Sl (by have:=F.hi;omega) (by omega) rfl rfl rfl) (JN _)) (c1 (Sl (by omega) (by omega) rfl rfl rfl) (JN _))));have hf:ZJ (.lst (iL (nL (bw m k E)))) (.int 0)=aA (.int (f:Int)):=by rw[e];exact Vt (j:=0) rfl
   refine WL (Zr (ep (o2 rfl rfl hf))) (EX (R:=λs=>∃l,s=[aA (.lst (bL w E0)),aA (.int (m:Int)),aA (.int (k:Int)),aA (.lst (bL w (PM.pre k f E))),aA (.lst (iL (nL (bw m k E)))),aA (.int (f:Int)),l,x7]) (IK (x p) (λz=>?_) λz=>?_) ?_)
   ·have T:E k k=0\/(E f k).natAbs<(E k k).natAbs:=by simpa using z
    refine WL (Zr (ep (Ov (by omega) rfl rfl) (V3 _))) (WL (Kc (by omega) rfl (Ov (by have:=F.hi;omega) rfl rfl) rfl) (MR (Kc (v:=E k) (by have:=F.hi;omega) rfl rfl rfl) ⟨aA (cR w (E k)),?_⟩));show [aA (PV.lst (bL w E0)),aA (.int (m:Int)),aA (.int (k:Int)),aA (.lst (bL w (XW f (E k) (XW k (E f) E)))),aA (.lst (iL (nL (bw m k E)))),aA (.int (f:Int)),aA (cR w (E k)),x7]=_;rw[Bt (by omega),show PM.pre k f E=λi j=>E (PM.sw k f i) j by unfold PM.pre;rw[nZ T]]
   ·have T:¬(E k k=0\/(E f k).natAbs<(E k k).natAbs):=by simpa using z
    exact MR rfl ⟨l,by rw[show PM.pre k f E=E by unfold PM.pre;rw[ng T]];rfl⟩
   ·rintro s ⟨y6,rfl⟩;refine EX (Bv U Q c hG L S pz pb) ?_;rintro s ⟨y7,rfl⟩;rw[Bw (w:=w) F c];exact MR (Zr (c3 rfl rfl rfl (UN Q U c))) ⟨_,C.2,_,_,_,_,rfl,(rt.trans (by omega) (PM.rt_pre c F.lo F.hi)).trans (by omega) (PM.rt_red c),.inr ⟨C.1,rfl⟩⟩
 ·rintro st ⟨n,⟨E,p,l,x7,rfl,rt,y⟩,q⟩;have a:(iL (nL (bw m k E))).length=(bw m k E).length:=by simp[nL]
  have d:xB (Zi M8 (Zc YG [Za 4]) (eC (.int 0))) (stC w m k E0 E p l x7)=aA (decide (0<(bw m k E).length)):=xb (vgt (b:=0) (c1 rfl (by rw[KP,a])) rfl);have q0:=of_decide_eq_false (ay (d.symm.trans q));have nil:bw m k E=[]:=List.eq_nil_of_length_eq_zero (by omega);have z:∀i,k<i->i<m->E i k=0:=λi t o=>cA λz=>by have:=mem_bw.mpr ⟨t,o,z⟩;rw[nil] at this;exact dG this
  refine Wf rfl ⟨E,rfl,?_⟩;rcases y with⟨rfl,_⟩ | ⟨A,_⟩
  ·exact .refl z
  ·exact .aft rt A z
section
variable {w m k:Nat} {E:Mt}
theorem UO(b:w<=100):YC [.lst (bL w E)]=aA (.lst (bL w (PM.tr E))):=by refine YZ (ret (ZZ (aM w) (λ(i:Nat)=>PV.int (i:Int)) (λi=>cR w (PM.tr E i)) (Z6 (c1 rfl (by rw[KP,Tu])) (by omega)) (by simp;omega) λi a=>⟨_,rfl,rfl,ep (RH ?_) (V3 _)⟩));have a:=aU.mp a;exact XM (q:=λr=>cR w (E r)) (λr=>E r i) rfl b λr c=>⟨_,rfl,vP (Zdu a rfl rfl)⟩
noncomputable def beside(m k:Nat)(E:Mt):Bool:=((aM (m-(k+1))).map λi=>E k (k+1+i)).any λz=>z != 0
theorem GN(h:beside m k E=aB):∀j,k<j->j<m->E k j=0:=λj b a=>by have:=gu.mp h (E k j) (br.mpr ⟨j-(k+1),aU.mpr (by omega),by rw[show k+1+(j-(k+1))=j by omega]⟩);simpa using this
theorem JO(h:∀j,k<j->j<m->E k j=0):beside m k E=aB:=gu.mpr λx a=>by obtain⟨i,b,rfl⟩:=br.mp a;have:=aU.mp b;rw[h _ (by omega) (by omega)];simp
theorem Bx{l:List Int}{a b:Nat}(d:a<=l.length)(c:b<=l.length):W7 (iL l) (aA (a:Int)) (aA (b:Int))=iL ((l.drop a).take (b-a)):=by unfold W7;rw[HT.sIx_nat,HT.sIx_nat,aP,eB d,eB c,<-nG,<-nF]
theorem Qp{v:Nat->Int}{a b:Nat}(c:a<=b)(d:b<=w):((ZV w v).drop a).take (b-a)=(aM (b-a)).map λi=>v (a+i):=by
 apply dR;intro i;rw[List.getElem?_take];by_cases h:i<b-a
 ·rw[nZ h,eZ,aZ,bO h];unfold ZV;rw[aZ,bO (by omega)];rfl
 ·rw[ng h,bb (by simp;omega)]
theorem Hb{s:ZE}{f g h:XE}(d:m<=w)(j:k<m)(q:f s=aA (.lst (bL w E)))(c:g s=aA (.int (k:Int)))(e:h s=aA (.int (m:Int))):xB (Zc Pj [QP TY (Zi ZJ f g) (Tw (Zi Yb g (eC (.int 1)))) (Tw h)]) s=aA (beside m k E):=by
 refine xb (c1 (a:=.lst (iL ((aM (m-(k+1))).map λi=>E k (k+1+i)))) ?_ ?_)
 ·rw[Wo,Ov (by omega) q c];simp only[aT];unfold Tw;rw[vad (a:=(k:Int)) (b:=1) c rfl,e];simp only[aT];show aA (PV.lst (W7 (iL (ZV w (E k))) (aA ((k:Int)+1)) (aA (m:Int))))=_;rw[show((k:Int)+1)=((k+1:Nat):Int) from rfl,Bx (by rw[ZL];omega) (by rw[ZL];omega),Qp (by omega) d]
 ·show(Xh (iL _)).map _=_;rw[Y8];rfl
end
theorem Zbg{m k e a c G:Nat}{g E:Mt}(l:k<m)(h:PM.RZ m k e a c g E)(n:c+2*a+3*e+3<G):∀j,j<m+m->∃N M P,PM.Hyp m k E j N M P/\2*(N*(M+2)*P^3)<2^G:=λj o=>by
 have lt:∀{x},x<=c+2*a+3*e+3->2^x<2^G:=λ{x} p=>dt (by omega) (by omega);have col:∀i,k<=i->i<m->(E i k).natAbs<=2^a:=λi d b=>h.ab i k d b (aN _) l;by_cases q:j<m
 ·refine⟨2^a,2^a,2^e,⟨λi d b=>?_,cP,λ_=>h.pb,λz=>absurd z h.nz,.inl col⟩,bK (PM.bits3 _ _ _) (lt (by omega))⟩;by_cases f:j<k
  ·rw[(h.cr.d1 j i f b (by omega)).2];exact dj _
  ·exact h.ab i j d b (by omega) q
 ·refine⟨2^c,2^a,2^e,⟨λi d b=>?_,cP,λ_=>h.pb,λz=>absurd z h.nz,.inl col⟩,bK (PM.bits3 _ _ _) (lt (by omega))⟩;have:=h.lb i (j-m) b (by omega)
  rwa [show m+(j-m)=j by omega] at this
theorem P9{m k e b c G:Nat}{f E:Mt}(i:m<=50)(d:k<m)(h:PM.RZ m k e b c f E)(j:e<=17)(g:c+2*b+3*e+3<G)(a:G<=60000000):∃E',ZP [.lst (bL (m+m) E),.int (m:Int),.int (k:Int)]=aA (.lst (bL (m+m) E'))/\PM.CL m k E E':=
 P8 (P:=2^e) (G:=G) (by omega) (by omega) d (by omega) a (Zbg d h g) (λ_=>h.pb) (λz=>absurd z h.nz) (PM.pw2 (by omega))
theorem Zbh{m k e n o:Nat}{f E:Mt}{D:Int}(b:PM.Bs m f D)(h:PM.RZ m k e n o f (PM.tr E))(z:∀j,k<j->j<m->E k j=0):PM.RZ m k e n o f E:=
 ⟨h.cr.tr b,h.nz,h.pb,z,λi j a b c d=>h.ab j i c d a b,λi j l g=>h.rb j i g l,λi j l g=>h.lb j i g l⟩
abbrev stX(w m k:Nat)(B:List PV)(E:Mt):ZE:=[aA (.lst B),aA (.int (m:Int)),aA (.int (k:Int)),aA (.lst (bL w E))]
theorem Sm{m k e I x s G:Nat}{r:Nat->Nat}{p E:Mt}{B:List PV}{D:Int}(b:PM.Bs m p D)(Bd:PM.Bd m k I s r p)(P:m<=50)(w:k<m)(Y:e<=I)(W:I<=17)(h:PM.RZ m k e (r e) x p (PM.tr E))(H:∀e,e<=I->r e<=8000)
  (hG:x+2*s*e+s+17000<G) (u:G<=60000000) :
  YH (Zm (Xl (xB (Zc Pj [QP TY (Zi ZJ (Za 3) (Za 2)) (Tw (Zi Yb (Za 2) (eC (.int 1)))) (Tw (Za 1))])) (Zm (Zq 3 (Zc YC [Zc ZP [Zc YC [Za 3],Za 1,Za 2]])) (Zq 3 (Zc ZP [Za 3,Za 1,Za 2])))) (ZM (Za 3)))
   (stX (m+m) m k B E) λv=>∃E' e' γ',v = .lst (bL (m+m) E')/\e'<=e/\γ'+2*s*e'<=x+2*s*e+2*s/\PM.RZ m k e' (r e') γ' p E'/\PM.RZ m k e' (r e') γ' p (PM.tr E')/\((¬ ∀i,k<i->i<m->E k k∣E k i)->e'<e):=by
 refine UI (Kb (λn st=>∃f c d,st=stX (m+m) m k B f/\((n=c+1/\c<=e/\d+2*s*c<=x+2*s*e/\PM.RZ m k c (r c) d p (PM.tr f)/\(c=e->f=E))\/(n=0/\c<=e/\d+2*s*c<=x+2*s*e+2*s/\PM.RZ m k c (r c) d p f/\PM.RZ m k c (r c) d p (PM.tr f)/\((¬ ∀i,k<i->i<m->E k k∣E k i)->c<e)))) ⟨E,e,x,rfl,.inl ⟨rfl,aN _,aN _,h,λ_=>rfl⟩⟩ ?_) ?_
 ·rintro n st ⟨f,c,d,rfl,L⟩;have o:xB (Zc Pj [QP TY (Zi ZJ (Za 3) (Za 2)) (Tw (Zi Yb (Za 2) (eC (.int 1)))) (Tw (Za 1))]) (stX (m+m) m k B f)=aA (beside m k f):=Hb (by omega) w rfl rfl rfl
  cases q:beside m k f with
  | false=>exact .inl (o.trans (by rw[q]))
  | true=>
   refine .inr ⟨o.trans (by rw[q]),?_⟩;rcases L with⟨rfl,j,N,l,t⟩ | ⟨_,_,_,l,_⟩
   ·have s1:2*s*c+2*s*(e-c)=2*s*e:=by rw[<-kZ];congr 1;omega
    have Z:=H c (by omega);obtain⟨F,U,S⟩:=P9 (G:=G) P w l (by omega) (by omega) u
    -- Zdt a turn more
    have c2:∃A,ZP [.lst (bL (m+m) (PM.tr F)),.int (m:Int),.int (k:Int)]=aA (.lst (bL (m+m) A))/\PM.CL m k (PM.tr F) A:=by
     rcases PM.HS' b Bd w (by omega) l S with⟨_,C,_⟩ | ⟨g,rfl,C,_⟩
     ·exact P9 (G:=G) P w C (by omega) (by omega) u
     ·have:=H g (by omega);exact P9 (G:=G) P w C (by omega) (by omega) u
    obtain⟨A,Q,J⟩:=c2;refine WL (Zr (c1 (c3 (c1 rfl (UO (by omega))) rfl rfl U) (UO (by omega)))) (MR (Zr (c3 rfl rfl rfl Q)) ?_);rcases PM.turn b Bd w (by omega) l S J with⟨g,X,y,R,O⟩ | ⟨g,X,y⟩
    ·have s2:2*s*g+2*s*(c-g)=2*s*c:=by rw[<-kZ];congr 1;omega
     refine⟨0,by omega,A,g,d+2*s,rfl,.inr ⟨rfl,by omega,by omega,y,R,λz=>?_⟩⟩;by_cases M:c=e
     ·have:=O (by rw[t M];exact z);omega
     ·omega
    ·have s2:2*s*g+2*s*(c-g)=2*s*c:=by rw[<-kZ];congr 1;omega
     have s3:2*s*1<=2*s*(c-g):=cI _ (by omega);exact⟨g+1,by omega,A,g,d+2*s,rfl,.inl ⟨rfl,by omega,by omega,y,λz=>by omega⟩⟩
   ·exfalso;rw[JO l.rz] at q;cases q
 ·rintro st ⟨n,⟨f,c,d,rfl,L⟩,q⟩;have o:xB (Zc Pj [QP TY (Zi ZJ (Za 3) (Za 2)) (Tw (Zi Yb (Za 2) (eC (.int 1)))) (Tw (Za 1))]) (stX (m+m) m k B f)=aA (beside m k f):=Hb (by omega) w rfl rfl rfl;have z:=GN (ay (o.symm.trans q));rcases L with⟨rfl,j,N,l,t⟩ | ⟨_,j,N,l,C,O⟩
  ·refine Wf rfl ⟨f,c,d,rfl,j,by omega,Zbh b l z,l,λT=>?_⟩;refine lN j λM=>T ?_;have e:=t M;subst e;exact λi y R=>by rw[z i y R];exact dC _
  ·exact Wf rfl ⟨f,c,d,rfl,j,N,l,C,O⟩
theorem Kd{w m k:Nat}{E:Mt}(d:w<=100)(a:m<=w)(c:k<m)(z:∀i,k<i->i<m->E i k=0):ZP [.lst (bL w E),.int (m:Int),.int (k:Int)]=aA (.lst (bL w E)):=by
 have nil:bw m k E=[]:=List.eq_nil_iff_forall_not_mem.mpr λx b=>by have:=mem_bw.mp b;exact this.2.2 (z x this.1 this.2.1)
 refine LX (ZS (Zr (c1 rfl (by rw[QU,nZ MG]))) (ZS (Zr (c3 rfl rfl rfl (UN a d c))) (UI (Kb (k:=0) (λn st=>st=stC w m k E E none none none) rfl ?_) ?_)))
 ·rintro n st rfl;unfold stC;rw[nil];exact .inl rfl
 ·rintro st ⟨n,rfl,_⟩;exact Wf rfl rfl
theorem Zbi{m k a d G:Nat}{n E:Mt}(f:k<m)(h:PM.Pl m k a d n E)(o:d+5*a+3<G):∀j,j<m+m->∃N M P,PM.Hyp m k E j N M P/\2*(N*(M+2)*P^3)<2^G:=λj p=>by
 have lt:∀{x},x<=d+5*a+3->2^x<2^G:=λ{x} r=>dt (by omega) (by omega);have col:∀i,k<=i->i<m->(E i k).natAbs<=2^a:=λi c b=>h.ab i k c b (aN _) f;have e:∀N,PM.Bo m k j N E->PM.Hyp m k E j N (2^a) (2^a):=λN g=>⟨g,cP,λ_=>col k (aN _) f,λ_ i c b=>col i (by omega) b,.inl col⟩;by_cases q:j<m
 ·refine⟨2^a,2^a,2^a,e _ λi c b=>?_,bK (PM.bits3 _ _ _) (lt (by omega))⟩;by_cases l:j<k
  ·rw[(h.cr.d1 j i l b (by omega)).2];exact dj _
  ·exact h.ab i j c b (by omega) q
 ·refine⟨2^d,2^a,2^a,e _ λi c b=>?_,bK (PM.bits3 _ _ _) (lt (by omega))⟩;have:=h.lb i (j-m) b (by omega)
  rwa [show m+(j-m)=j by omega] at this
structure Plc(m k a e0:Nat)(β:Nat->Nat)(A0 E:Mt)(D:Int):Prop where
 bs:PM.Bs m A0 D
 bd:PM.Bd m k e0 8000 β A0
 m5:m<=50
 km:k<m
 e17:e0<=17
 b8:∀e,e<=e0->β e<=7900
 a5:5*a+3<=β e0
 pb:∀E',PM.CL m k E E'->(E' k k).natAbs<=2^e0
section
variable {m k a e0 γ:Nat} {β:Nat->Nat} {A0 E:Mt} {D:Int}
theorem Oy(P:Plc m k a e0 β A0 E D)(h:PM.Pl m k a γ A0 E)(z:γ<=50000000) :
  ∃f c b,Y1 [.lst (bL (m+m) E),.int (m:Int),.int (k:Int)]=aA (.lst (bL (m+m) f))/\c<=e0/\b+2*8000*c<=γ+8000+2*8000*e0+2*8000/\PM.RZ m k c (β c) b A0 f/\PM.RZ m k c (β c) b A0 (PM.tr f):=by
 have o:=P.m5;have d:=P.km;have u:=P.a5;have l:=P.e17;have H:=P.b8 e0 (aN _);obtain⟨x,y,j⟩:=P8 (w:=m+m) (G:=60000000) (P:=2^a) (by omega) (by omega) d (by omega) (by omega) (Zbi d h (by omega)) (λ_=>h.ab k k (aN _) d (aN _) d) (λ_ i I t=>h.ab i k (by omega) t (aN _) d) (PM.pw2 (by omega));have r:=PM.Pl.first (s:=8000) P.bs d h j (P.pb x j) u (P.bd.le e0 (aN _)) (by omega);have g:=Sm (G:=60000000) (B:=bL (m+m) E) P.bs P.bd o d (aN e0) l r (λe h=>by have:=P.b8 e h;omega) (by omega) (by omega);have C:YH W8 (ZC 4 [.lst (bL (m+m) E),.int (m:Int),.int (k:Int)]) _:=ZS (Zr (c3 rfl rfl rfl y)) g;obtain⟨v,p,f,c,b,rfl,n,A,F,q,_⟩:=Sh C;exact⟨f,c,b,p,n,A,F,q⟩
theorem Oz{e:Nat}(P:Plc m k a e0 β A0 E D){d:Mt}(n:e<=e0)(r:PM.RZ m k e (β e) γ A0 (PM.tr d))(t:γ<=50000000) :
  ∃f c b,Y1 [.lst (bL (m+m) d),.int (m:Int),.int (k:Int)]=aA (.lst (bL (m+m) f))/\c<=e/\b+2*8000*c<=γ+2*8000*e+2*8000/\PM.RZ m k c (β c) b A0 f/\PM.RZ m k c (β c) b A0 (PM.tr f)/\((¬ ∀i,k<i->i<m->d k k∣d k i)->c<e):=by
 have o:=P.m5;have l:=P.km;have j:=P.e17;have g:=Sm (G:=60000000) (B:=bL (m+m) d) P.bs P.bd o l n j r (λe h=>by have:=P.b8 e h;omega) (by omega) (by omega);have u:YH W8 (ZC 4 [.lst (bL (m+m) d),.int (m:Int),.int (k:Int)]) _:=ZS (Zr (c3 rfl rfl rfl (Kd (w:=m+m) (by omega) (by omega) l λi s q=>r.rz i s q))) g;obtain⟨v,p,f,c,b,rfl,n8⟩:=Sh u;exact⟨f,c,b,p,n8⟩
noncomputable def Zbj(m k:Nat)(E:Mt)(i:Nat):Bool:=((aM m).map λj=>!decide ((E i j).fmod (E k k)=0)).any id
theorem By{i:Nat}(h:Zbj m k E i=aB):∀j,j<m->E k k∣E i j:=λj a=>by have:=gu.mp h (!decide ((E i j).fmod (E k k)=0)) (br.mpr ⟨j,aU.mpr a,rfl⟩);exact Int.dvd_of_fmod_eq_zero (by simpa using this)
theorem Dj{i:Nat}(h:Zbj m k E i=aC):∃j,j<m/\¬E k k∣E i j:=by obtain⟨b,d,c⟩:=fX.mp h;obtain⟨j,a,rfl⟩:=br.mp d;refine⟨j,aU.mp a,λz=>?_⟩;have:=Int.fmod_eq_zero_of_dvd z;simp[this] at c
theorem Ke{w:Nat}(y:w<=100)(l:m<=w)(r:k<m)(h:E k k≠0):∃v,WY [.lst (bL w E),.int (m:Int),.int (k:Int)]=aA v/\((v = .non/\∀i j,k<i->i<m->j<m->E k k∣E i j)\/(∃u:Nat,v = .int (u:Int)/\k<u/\u<m/\∃j,j<m/\¬E k k∣E u j)):=by
 refine Sh (ZS (Zr (ep (Sl (by omega) (by omega) rfl rfl rfl))) (Zdo (L:=(aM (m-(k+1))).map λi=>k+1+i) (q:=λ(i:Nat)=>PV.int (i:Int)) (g:=λ(i:Nat)=>PV.int (i:Int)) (Zbj m k E) (λs=>∃x,s=[aA (.lst (bL w E)),aA (.int (m:Int)),aA (.int (k:Int)),aA (.int (E k k)),x]) ?_ ⟨none,rfl⟩ ?_ ?_ ?_))
 ·rw[UU (i:=(k:Int)+1) (j:=(m:Int)) (vad rfl rfl) rfl (by omega) (by omega)];unfold Tg;rw[eM,show((m:Int)-((k:Int)+1)).toNat=m-(k+1) by omega];congr 1
 ·rintro i c s ⟨x,rfl⟩;obtain⟨t,d,rfl⟩:=br.mp c;have:=aU.mp d;refine⟨_,rfl,xb (c1 (a:=.lst (((aM m).map λj=>!decide ((E (k+1+t) j).fmod (E k k)=0)).map PV.bl)) ?_ (Zan _)),ret (vP rfl),⟨_,rfl⟩⟩;rw[eM];refine ZZ (aM m) (λj=>PV.int (E (k+1+t) j)) _ ?_ (by simp;omega) λj p=>⟨_,rfl,rfl,o2 (vC (C:=λ_ j=>j≠0) (op:=Int.fmod) rfl rfl h) rfl (by rw[Ul];rfl)⟩;show(QP TY (Zi ZJ (Za 0) (Za 4)) Li (Tw (Za 1)) _).bind _=_;rw[Wo,Ov (i:=k+1+t) (E:=E) (w:=w) (by omega) rfl rfl];simp only[aT,R9];show(aA (PV.lst (W7 (iL (ZV w (E (k+1+t)))) none (aA (m:Int))))).bind _=_;rw[Jz];show aA (iL ((ZV w (E (k+1+t))).take m))=_;have:=Qp (w:=w) (v:=E (k+1+t)) (a:=0) (b:=m) (by omega) l;rw[jD,jt] at this;rw[this];show aA (mC PV.int (mC _ _))=_;rw[eM];congr 1;refine av λi _=>?_;show PV.int (E (k+1+t) (0+i))=_;rw[Nat.zero_add]
 ·intro i c;have f:=jK c;have e:=m8 c;obtain⟨t,d,rfl⟩:=br.mp f;have:=aU.mp d;exact .inr ⟨_,rfl,by omega,by omega,Dj e⟩
 ·rintro o s ⟨x,rfl⟩;refine Wf rfl (.inl ⟨rfl,λi j f e n=>By ?_ j n⟩);have:=lJ.mp o i (br.mpr ⟨i-(k+1),aU.mpr (by omega),by omega⟩);simpa using this
theorem GO{e b c:Nat}{g E:Mt}{G u:Nat}(h:PM.RZ m k e b c g E)(l:b<G)(d:c<G)(n:k<=u)(a:u<m):∀j,j<m+m->(E u j).natAbs<2^G:=λj o=>by
 have lt:∀{x},x<G->2^x<2^G:=λ{x} i=>dt (by omega) i;by_cases q:j<m
 ·by_cases f:j<k
  ·rw[(h.cr.d1 j u f a (by omega)).2];exact Nat.pow_pos (by omega)
  ·exact bK (h.ab u j n a (by omega) q) (lt l)
 ·have:=h.lb u (j-m) a (by omega);rw[show m+(j-m)=j by omega] at this;exact bK this (lt d)
theorem MH(P:Plc m k a e0 β A0 E D)(h:PM.Pl m k a γ A0 E)(hγ:γ<=40000000)(p:Nat)(H:∀e,e<=e0->β e<=p) :
  ∃A o,Wq [.lst (bL (m+m) E),.int (m:Int),.int (k:Int)]=aA (.lst (bL (m+m) A))/\o<=γ+600000/\PM.Pl m (k+1) p o A0 A:=by
 have m5:=P.m5;have I:=P.km;have e17:=P.e17;obtain⟨W,e1,C,v1,l1,g1,t,B⟩:=Oy P h (by omega);obtain⟨x1,w1,M⟩:=Ke (w:=m+m) (E:=W) (by omega) (by omega) I t.nz
 suffices g:YH Sb (ZC 5 [.lst (bL (m+m) E),.int (m:Int),.int (k:Int)]) λv=>∃A o,v = .lst (bL (m+m) A)/\o<=γ+600000/\PM.Pl m (k+1) p o A0 A by obtain⟨v,e,A,o,rfl,r⟩:=Sh g;exact⟨A,o,e,r⟩
 have base:C+(4*8000+1)*e1<=γ+600000:=by omega
 refine ZS (Zr (c3 rfl rfl rfl v1)) (ZS (Zr (c3 rfl rfl rfl w1)) (UI (Kb (λn st=>∃f l x,st=[aA (.lst (bL (m+m) E)),aA (.int (m:Int)),aA (.int (k:Int)),aA (.lst (bL (m+m) f)),aA x]/\n<=e0/\l+(4*8000+1)*n<=γ+600000/\PM.RZ m k n (β n) l A0 f/\PM.RZ m k n (β n) l A0 (PM.tr f)/\((x = .non/\∀i j,k<i->i<m->j<m->f k k∣f i j)\/(∃u:Nat,x = .int (u:Int)/\k<u/\u<m/\∃j,j<m/\¬f k k∣f u j))) ⟨W,C,x1,rfl,l1,base,t,B,M⟩ ?_) ?_))
 ·rintro n st ⟨f,l,x,rfl,L,hg,t,B,S⟩;rcases S with⟨rfl,_⟩ | ⟨u,rfl,u1,J,j,F,nd⟩
  ·exact .inl rfl
  ·refine .inr ⟨rfl,?_⟩;have b8:=P.b8 n L;have sm:=GO (G:=60000000) t (by omega) (by omega) (by omega) J;have lo:S2 [cR (m+m) (f k),cR (m+m) (f u),.int 1]=aA (.lst (iL (ZV (m+m) λj=>f k j-1*f u j))):=Ha (by omega) λj F=>GL (G:=60000000) (by show 1<2^60000000;exact Nat.one_lt_two_pow (by omega)) (sm j F) (by omega) (by omega);have r3:=t.unfit P.bs I B u1 J
   have eE:XW k (λj=>f k j-1*f u j) f=λi j=>if i=k then f i j-1*f u j else f i j:=by
    funext i;unfold XW;by_cases q:i=k
    ·rw[nZ q];funext j;rw[nZ q,q]
    ·rw[ng q];funext j;rw[ng q]
   obtain⟨Y,X,Q,v3,l3,g3,U,r5,d3⟩:=Oz P L r3 (by omega)
   have less:X<n:=d3 λz=>by
    have uk:f u k=0:=B.rz u u1 J
    have Z:k<j:=by
     refine Nat.not_le.mp λle=>nd ?_;by_cases q:j=k
     ·rw[q,uk];exact dC _
     ·rw[(t.cr.d1 j u (by omega) J (by omega)).2];exact dC _
    have:=z j Z F;simp only[nZ] at this;rw[uk,t.rz j Z F] at this;refine nd ?_;have h2:f k k∣-(1*f u j):=by simpa using this
    simpa using Int.dvd_neg.mp h2
   obtain⟨x3,w3,N⟩:=Ke (w:=m+m) (E:=Y) (by omega) (by omega) I U.nz;refine WL (Kc (w:=m+m) (E:=f) (v:=λj=>f k j-1*f u j) (by omega) rfl (RH (c3 (Ov (by omega) rfl rfl) (Ov (by omega) rfl rfl) rfl lo)) rfl) (WL (Zr (c3 rfl rfl rfl ?_)) (MR (Zr (c3 rfl rfl rfl w3)) ⟨X,less,Y,Q,x3,rfl,by omega,by omega,U,r5,N⟩));rw[eE];exact v3
 ·rintro st ⟨n,⟨f,l,x,rfl,L,hg,t,B,S⟩,q⟩;rcases S with⟨rfl,dv⟩ | ⟨u,rfl,_⟩
  case inr=>cases q
  have nx:=t.next I B dv;have O:PM.Pl m (k+1) p l A0 (λi j=>if i=k/\f k k<0 then-f i j else f i j):=⟨nx.cr,λi j a b c d=>aX (nx.ab i j a b c d) (PM.pw2 (H n L)),nx.lb,nx.rb⟩;have T:xB (Zi Hz (Zi ZJ (Zi ZJ (Za 3) (Za 2)) (Za 2)) (eC (.int 0))) [aA (.lst (bL (m+m) E)),aA (.int (m:Int)),aA (.int (k:Int)),aA (.lst (bL (m+m) f)),aA .non]=aA (decide (f k k<0)):=xb (o2 (Sl (by omega) (by omega) rfl rfl rfl) rfl rfl);refine UI (R:=λs=>s=[aA (.lst (bL (m+m) E)),aA (.int (m:Int)),aA (.int (k:Int)),aA (.lst (bL (m+m) (λi j=>if i=k/\f k k<0 then-f i j else f i j))),aA .non]) (IK T (λz=>?_) λz=>?_) ?_
  ·have z:=of_decide_eq_true z;refine MR (Kc (w:=m+m) (E:=f) (v:=λj=>- f k j) (by omega) rfl (RH (XM (q:=λj=>.int (f k j)) (λj=>- f k j) ?_ (by omega) λj F=>⟨_,rfl,vP (un1 rfl rfl)⟩)) rfl) ?_
   ·show(Zi ZJ (Za 3) (Za 2) _).bind _=_;rw[Ov (i:=k) (E:=f) (w:=m+m) (by omega) rfl rfl];show aA (mC PV.int (mC (f k) (aM (m+m))))=_;rw[eM];rfl
   ·show [_,_,_,aA (PV.lst (bL (m+m) (XW k (λj=>- f k j) f))),_]=_;rw[show XW k (λj=>- f k j) f=λi j=>if i=k/\f k k<0 then-f i j else f i j from ?_];funext i;unfold XW;by_cases q:i=k
    ·rw[nZ q];funext j;rw[nZ ⟨q,z⟩,q]
    ·rw[ng q];funext j;rw[ng (λy=>q y.1)]
  ·have z:=of_decide_eq_false z;refine MR rfl ?_;rw[show(λi j=>if i=k/\f k k<0 then-f i j else f i j)=f from funext λi=>funext λj=>ng (λy=>z y.2)]
  ·rintro s rfl;exact Wf rfl ⟨_,l,rfl,by omega,O⟩
end
noncomputable def E0(m:Nat)(A:Mt):Mt:=λi j=>if i<m then(if j<m then A i j else PM.one i (j-m)) else(if j<m then PM.one (i-m) j else 0)
theorem Zbk{a b:Nat}(u v:Nat->Int):ZV a u++ZV b v=ZV (a+b) λj=>if j<a then u j else v (j-a):=by
 apply dR;intro i;unfold ZV;by_cases h:i<a
 ·rw[ao (by simpa using h),aZ,aZ,bO h,bO (by omega)];show aA (u i)=aA (if i<a then u i else v (i-a));rw[nZ h]
 ·rw[bU (by simp;omega),aP,cL,aZ,aZ];by_cases c:i<a+b
  ·rw[bO (by omega),bO c];show aA (v (i-a))=aA (if i<a then u i else v (i-a));rw[ng h]
  ·rw[bb (by simp;omega),bb (by simp;omega)];rfl
theorem Dk{a b:Nat}{u v:Nat->Int}(h:a+b<=100):QS (.lst (iL (ZV a u))) (.lst (iL (ZV b v)))=aA (.lst (iL (ZV (a+b) λj=>if j<a then u j else v (j-a)))):=by unfold QS;simp only[];rw[nZ ⟨by rw[aP,aP,ZL,ZL];omega,Yg _,Yg _⟩,<-fH,Zbk]
theorem RO{m i:Nat}(b:m<=100):VN [.int (m:Int),.int (i:Int)]=aA (.lst (iL (ZV m (PM.one i)))):=by
 refine YZ (ret (Vp (PM.one i) (Z6 rfl (by omega)) (by omega) λj a=>⟨_,rfl,rfl,vP ?_⟩));unfold PM.one;by_cases q:i=j
 ·rw[nZ q];exact EY (xb ((Dy rfl rfl).trans (by rw[decide_eq_true (by omega)]))) rfl
 ·rw[ng q];exact EZ (xb ((Dy rfl rfl).trans (by rw[decide_eq_false (by omega)]))) rfl
theorem Zdw{m:Nat}(a:m<=100):Lk (.lst [.int 0]) (.int (m:Int))=aA (.lst (iL (ZV m λ_=>0))):=by
 unfold Lk;simp only[];rw[nZ (by refine⟨?_,?_,?_,?_⟩<;>first | rfl | omega | (simp;omega))];congr 2;apply dR;intro i;unfold ZV;by_cases h:i<m
 ·simp[h]
 ·simp[h]
theorem Kf{m:Nat}{A:Mt}(h:m<=50):Tn [wP (Wt m m A)]=aA (.lst (bL (m+m) (E0 m A))):=by
 have f:∀i,i<m->cR (m+m) (E0 m A i) = .cst (iL (ZV (m+m) λj=>if j<m then A i j else PM.one i (j-m))):=λi b=>by unfold cR E0;simp only[nZ b]
 have lo:∀i,i<m->cR (m+m) (E0 m A (m+i)) = .cst (iL (ZV (m+m) λj=>if j<m then PM.one i j else 0)):=λi b=>by unfold cR E0;rw[show m+i-m=i by omega];simp only[ng (show ¬m+i<m by omega)]
 have c:bL (m+m) (E0 m A)=(aM m).map (λi=>cR (m+m) (E0 m A i))++(aM m).map λi=>cR (m+m) (E0 m A (m+i)):=by unfold bL;rw[nA,fH,eM];rfl
 have d:∀(g:Nat->Nat->Int),ZK ((aM m).map λi=>cR (m+m) (g i))=aC:=λg=>by rw[Xx,bA];intro x e;obtain⟨i,_,rfl⟩:=br.mp e;exact V3 _
 refine LX (ZS (Zr (vP (c1 rfl (by rw[E4,MB])))) (ZS (Zr (ZZ (aM m) (λi=>.tup [.int ((i:Nat):Int),pP (ZV m (A i))]) (λi=>cR (m+m) (E0 m A i)) ?_ (by simp;omega) λi b=>⟨_,rfl,rfl,ep ?_ (V3 _)⟩)) (ZS (Zr (ZZ (aM m) (λ(i:Nat)=>PV.int (i:Int)) (λi=>cR (m+m) (E0 m A (m+i))) (Z6 rfl (by omega)) (by simp;omega) λi b=>⟨_,rfl,rfl,ep ?_ (V3 _)⟩)) (Wf (o2 rfl rfl ?_) rfl))))
 ·show aA (WU (tL (Wt m m A)))=_;rw[WX,Vd];congr 1;refine av λi b=>?_;rw[aJ,Ts (aU.mp b)];rfl
 ·rw[f i (aU.mp b)];exact RH (o2 (a:=.lst (iL (ZV m (A i)))) (c1 rfl (by rw[Ln,nZ (Yg _)])) (c2 rfl rfl (RO (by omega))) (Dk (by omega)))
 ·rw[lo i (aU.mp b)];exact RH (o2 (c2 rfl rfl (RO (by omega))) (o2 rfl rfl (Zdw (by omega))) (Dk (by omega)))
 ·unfold QS;simp only[];rw[nZ ⟨by simp;omega,d _,d _⟩,c]
theorem Zfm(m:Nat)(A:Mt):PM.Adm m A (E0 m A):=by
 have e:PM.EqM m (λi k=>E0 m A i (m+k)) PM.one:=λi j b a=>by show E0 m A i (m+j)=_;unfold E0;rw[nZ b,ng (by omega),show m+j-m=j by omega]
 have d:PM.EqM m (λi k=>E0 m A (m+i) k) PM.one:=λi j b a=>by show E0 m A (m+i) j=_;unfold E0;rw[ng (by omega),nZ a,show m+i-m=i by omega]
 have c:PM.EqM m (PM.mul m PM.one PM.one) PM.one:=λi j b a=>PM.mul_one a;refine⟨⟨PM.one,PM.one,e.mulL.trans c,e.mulR.trans c,d.mulL.trans c,d.mulR.trans c⟩,λi j b a=>?_,λi j b a=>?_⟩
 ·rw[e.mulL i j b a,PM.one_mul b,d.mulR i j b a,PM.mul_one a];unfold E0;rw[nZ b,nZ a]
 ·unfold E0;rw[ng (by omega),ng (by omega)]
theorem Hd(i j:Nat):(PM.one i j).natAbs<=2^0:=by unfold PM.one;split<;>decide
theorem pl0{m a:Nat}{A:Mt}(h:∀i j,i<m->j<m->(A i j).natAbs<=2^a):PM.Pl m 0 a 0 A (E0 m A):=by
 refine⟨⟨Zfm m A,λi _ b=>by omega,λi b=>by omega,λi _ _ b=>by omega⟩,λi j _ b _ c=>?_,λi j b c=>?_,λi j b c=>?_⟩
 ·unfold E0;rw[nZ b,nZ c];exact h i j b c
 ·unfold E0;rw[nZ b,ng (by omega)];exact Hd _ _
 ·unfold E0;rw[ng (by omega),nZ c];exact Hd _ _
noncomputable def fac:Nat->Nat
 | 0=>1
 | n+1=>(n+1)*fac n
theorem He{c:Nat}:∀{n:Nat}{A:Mt},(∀i j,i<n->j<n->(A i j).natAbs<=c)->(Xp n A).natAbs<=fac n*c^n
 | 0,A,_=>by show(1:Int).natAbs<=1*c^0;simp
 | n+1,A,h=>by
  rw[Xo]
  have:=JI (f:=λi=>sg i*A i 0*Xp n (Sj i A)) (M:=c*(fac n*c^n)) (n:=n+1) λi a=>by
   rw[dk,dk]
   have s1:(sg i).natAbs<=1:=by
    clear h a
    induction i with
    | zero=>decide
    | succ i ih=>unfold sg;rw[iH];exact ih
   have b:=h i 0 a (by omega)
   have d:(Xp n (Sj i A)).natAbs<=fac n*c^n:=He λr s e hs=>by
    unfold Sj;refine h _ _ ?_ (by omega);split<;>omega
   have:=dS (dS s1 b) d
   rwa [mZ] at this
  refine aX this (Nat.le_of_eq ?_);rw[show fac (n+1)=(n+1)*fac n from rfl,eQ,dh,jT c,fL c]
section
variable {W:List (List Int)} {m:Nat}
theorem Ag(ok:ZU W)(l:W.length<=4)(g:W.length=m+1):∀i j,i<m->j<m->(Z8 W 0 i j).natAbs<=27:=λi j k e=>by
 have c:Xu 0 i<W.length:=by have:=Wg (b:=0) k;omega
 have d:Xu 0 j<W.length:=by have:=Wg (b:=0) e;omega
 unfold Z8;split
 ·rw[Ms ok c,WZ,g,JG (b:=Xu 0 i) (ok.dia _ c) (by omega)];obtain⟨a,b⟩:=MD (f:=λx=>Z9 W (Xu 0 i) (Xu (Xu 0 i) x)) (n:=m) λx h=>by have:=Wg (b:=Xu 0 i) h;exact⟨ok.lo _ _ c (by omega),ok.hi _ _ c (by omega)⟩
  omega
 ·have:=ok.lo _ _ c d;have:=ok.hi _ _ c d;omega
theorem Dl(ok:ZU W)(d:UH W)(h:W.length=m+1):PM.Bs m (Z8 W 0) (Xp m (Z8 W 0)):=by
 have bk:=P5 ok d (b:=0) ok.pos (λ_=>0);rw[show W.length-1=m by omega] at bk;have I:=Xb bk (aN m);refine⟨λi j c a=>bk.sym j i a c,⟨PM.tr (MS m (Z8 W 0)),λi j c a=>?_⟩,?_⟩
 ·have e:=MA (A:=Z8 W 0) a c;show sN m (λk=>MS m (Z8 W 0) k i*Z8 W 0 k j)=_;rw[Zj (g:=λk=>Z8 W 0 j k*MS m (Z8 W 0) k i) λk f=>by rw[bR,bk.sym k j f a],e];unfold PM.one;by_cases q:i=j
  ·rw[nZ q.symm];show _=Xp m (Z8 W 0)*(if i=j then 1 else 0);rw[nZ q,kI]
  ·rw[ng (λz=>q z.symm)];show _=Xp m (Z8 W 0)*(if i=j then 1 else 0);rw[ng q,cO]
 ·rw[<-I.de];exact I.nz
theorem D17(ok:ZU W)(b:W.length<=4)(a:W.length=m+1):(Xp m (Z8 W 0)).natAbs<=2^17:=by
 have h:=He (n:=m) (c:=27) (Ag ok b a);have:m=0\/m=1\/m=2\/m=3:=by omega
 refine aX h ?_;rcases this with rfl | rfl | rfl | rfl<;>decide
theorem Bz{k a e:Nat}{c E:Mt}{D:Int}(b:PM.Bs m c D)(p:D.natAbs<=2^17)(l:k+1=m)(h:PM.Pl m k a e c E):PM.Pl m k 17 e c E:=by refine⟨h.cr,λi j g f n o=>?_,h.lb,h.rb⟩;have d:=(h.cr.piv b (by omega) λi g f=>by omega).2;have:=cz (by have:=b.nz;omega) (cY.mpr d);rw[show i=k by omega,show j=k by omega];omega
noncomputable def aK(m k:Nat):Nat:=if k=0 then 5 else if k=1/\m=3 then 1516 else 7600
theorem Dm{k j:Nat}{g E:Mt}{D:Int}(b:PM.Bs m g D)(o:D.natAbs<=2^17)(s:m<=3)(i:k<m)(h:PM.Pl m k (aK m k) j g E)(f:j<=40000000) :
  ∃l γ',Wq [.lst (bL (m+m) E),.int (m:Int),.int (k:Int)]=aA (.lst (bL (m+m) l))/\γ'<=j+600000/\PM.Pl m (k+1) (aK m (k+1)) γ' g l:=by
 have two:∀a,PM.Pl m k a j g E->m<=k+2->5*a+3<=7600->Plc m k a 17 PM.bC g E D:=λa h r p=>⟨b,PM.Bd.two b o r,by omega,i,by omega,λe _=>by unfold PM.bC;omega,p,λl c=>aX (h.small b i c).2 o⟩;have d:m=3->k=0->Plc m k 5 5 PM.bI g E D:=λt q=>by subst q;exact⟨b,PM.Bd.big,by omega,i,by omega,λe n=>by have:=PM.bI_le e n;omega,by decide,λl c=>(h.small b i c).1⟩
 have c:(k+1=m)\/(k+2=m)\/(k=0/\m=3):=by omega
 rcases c with c | c | ⟨c1,c2⟩
 ·have h':=Bz b o c h;have:=MH (two 17 h' (by omega) (by omega)) h' f (aK m (k+1)) λe _=>by unfold PM.bC aK;rw[ng (by omega),ng (by omega)];omega
  exact this
 ·have e:aK m k<=1516:=by
   unfold aK;split
   ·omega
   ·rw[nZ (by omega)];omega
  exact MH (two _ h (by omega) (by omega)) h f (aK m (k+1)) λe _=>by unfold PM.bC aK;rw[ng (by omega),ng (by omega)];omega
 ·have e:aK m k=5:=by unfold aK;rw[nZ c1]
  rw[e] at h;exact MH (d c2 c1) h f (aK m (k+1)) λe n=>by have:=PM.bI_le e n;unfold aK;rw[ng (by omega),nZ ⟨by omega,c2⟩];omega
end
section
variable {m:Nat} {A B:Mt} {u v:Nat->Int}
theorem Zdx{i j:Nat}(c:i<m)(a:j<m){f g h:XE}{s:ZE}(q:f s=aA (wP (Wt m m B)))(d:g s=aA (.int (i:Int)))(b:h s=aA (.int (j:Int))):Zi ZJ (Zi ZJ f g) h s=aA (.int (B i j)):=o2 (o2 q d (Vt (Ts c))) b (PZ a)
theorem RI{j:Nat}(d:m<=50)(b:j<m)(c:∀k,k<m->CMulW (u k) (B k j)):X3 [pP (ZV m u),wP (Wt m m B),.int (j:Int)]=aA (.int (sN m λk=>u k*B k j)):=by
 refine YZ (ret (vP (c1 (XM (q:=λi=>.tup [.int ((i:Nat):Int),.int (u i)]) (λk=>u k*B k j) ?_ (by omega) λi a=>⟨_,rfl,vC (C:=CMulW) (op:=(· * ·)) rfl (Zdx a b rfl rfl rfl) (c i a)⟩) ?_)))
 ·show aA (WU (iL (ZV m u)))=_;rw[Za9,ZL];congr 1;refine av λi a=>?_;rw[YO (aU.mp a)]
 ·rw[SQ];congr 2;exact WZ _ _
theorem MI(b:m<=50)(d:∀k j,k<m->j<m->CMulW (u k) (B k j)):Ut [pP (ZV m u),wP (Wt m m B)]=aA (pP (ZV m λj=>sN m λk=>u k*B k j)):=
 YZ (ret (JE (c1 (Vp (λj=>sN m λk=>u k*B k j) (Z6 (n:=m) (c1 rfl (by rw[Zao,aP,ZL])) (by omega)) (by omega) λj a=>⟨_,rfl,rfl,c3 rfl rfl rfl (RI b a λk c=>d k j c a)⟩) (Y0 _))))
theorem Kg{M:List (List Int)}{f:XE}{s:ZE}(q:f s=aA (.lst (tL M))):eP (Zc ZN [f]) s=aA (wP M):=ep (c1 q (Y0 _)) (by rw[US];exact Uk _)
theorem Td(b:m<=50)(e:∀i k j,i<m->k<m->j<m->CMulW (A i k) (B k j)):YW [wP (Wt m m A),wP (Wt m m B)]=aA (wP (Wt m m (PM.mul m A B))):=
 YZ (ret (Kg (W0 (w:=m) (PM.mul m A B) (q:=λi=>pP (ZV m (A i))) (by show aA (tL (Wt m m A))=_;rw[P0]) (by omega) λi d=>⟨_,rfl,c2 rfl rfl (MI b λk j c a=>e i k j d c a)⟩)))
theorem Oa(c:m<=100)(b:∀j,j<m->WC (u j) (v j)):UZ [pP (ZV m u),pP (ZV m v)]=aA (pP (ZV m λj=>(u j).fdiv (v j))):=
 YZ (ret (JE (c1 (XM (q:=λj=>.tup [.int (u j),.int (v j)]) (λj=>(u j).fdiv (v j)) (by show aA (Vi (iL (ZV m u)) (iL (ZV m v)))=_;rw[JM]) c λj a=>⟨_,rfl,vC (C:=WC) (op:=jB) rfl rfl (b j a)⟩) (Y0 _))))
theorem MJ{W:List (List Int)}(ok:ZU W)(a:W.length=m+1):Us [wP W]=aA (wP (Wt m m (Z8 W 0))):=by have h:=W3 ok (b:=0) ok.pos;rw[show W.length-1=m by omega] at h;exact YZ (ret (c2 rfl rfl h))
theorem BA{l:List PV}{k:Nat}(a:k<=l.length):W7 l none (aA (k:Int))=l.take k:=by unfold W7;rw[HT.sIx_none,HT.sIx_nat,jD,jt,eB a]
theorem BB{l:List PV}{k:Nat}(a:k<=l.length):W7 l (aA (k:Int)) none=l.drop k:=by unfold W7;rw[HT.sIx_none,HT.sIx_nat,eB a,bh (by rw[ck];omega)]
theorem BC:(ZV (m+m) u).take m=ZV m u:=by have:=Qp (w:=m+m) (v:=u) (a:=0) (b:=m) (by omega) (by omega);rw[jD,jt] at this;rw[this];unfold ZV;refine av λi _=>?_;rw[Nat.zero_add]
theorem BD:(ZV (m+m) u).drop m=ZV m λj=>u (m+j):=by have:=Qp (w:=m+m) (v:=u) (a:=m) (b:=m+m) (by omega) (by omega);rw[bh (by rw[ck,ZL];omega),show m+m-m=m by omega] at this;exact this
theorem Dn{x:Int}(b:1<=m)(a:m<=100):OY (.tup [.int x]) (.int (m:Int))=aA (pP (ZV m λ_=>x)):=by
 unfold OY;simp only[];rw[nZ (by refine⟨rfl,by simp,by omega,by omega,by simp;omega⟩)];congr 2;apply dR;intro i;unfold ZV;by_cases h:i<m
 ·simp[h]
 ·simp[h]
end
abbrev OA(m:Nat)(E:Mt):Mt:=λi j=>E i (m+j)
abbrev GZ(m:Nat)(E:Mt):Mt:=λi j=>E (m+i) j
theorem Dp{W:List (List Int)}{m:Nat}(ok:ZU W)(T:UH W)(L:W.length<=4)(z:W.length=m+1) :
  ∃E c bk fo,Sd [wP W]=aA (.tup [wP (Wt m m (OA m E)),wP bk,wP (Wt m m (GZ m E)),wP fo,pP (ZV m λi=>E i i)])/\PM.Cr m m (Z8 W 0) E/\c<=1800000/\(∀i j,i<m->j<m->(E i (m+j)).natAbs<=2^c)/\(∀i,i<m->E i i∣Xp m (Z8 W 0)):=by
 have M:m<=3:=by omega
 have bs:=Dl ok T z;have F:=D17 ok L z;have y:=Ag ok L z
 suffices g:YH ID (ZC 10 [wP W]) λv=>∃E c bk fo,v = .tup [wP (Wt m m (OA m E)),wP bk,wP (Wt m m (GZ m E)),wP fo,pP (ZV m λi=>E i i)]/\PM.Cr m m (Z8 W 0) E/\c<=1800000/\(∀i j,i<m->j<m->(E i (m+j)).natAbs<=2^c)/\(∀i,i<m->E i i∣Xp m (Z8 W 0)) by obtain⟨v,e,E,c,bk,fo,rfl,r⟩:=Sh g;exact⟨E,c,bk,fo,e,r⟩
 refine ZS (Zr (c1 rfl (MJ ok z))) (ZS (Zr (vP (c1 rfl (by rw[E4,MB])))) (ZS (Zr (c1 rfl (Kf (by omega)))) (UI (Ad (n:=m) (λk s=>∃E c u,s=[aA (wP W),aA (wP (Wt m m (Z8 W 0))),aA (.int (m:Int)),aA (.lst (bL (m+m) E)),u,none,none,none,none,none]/\c<=k*600000/\PM.Pl m k (aK m k) c (Z8 W 0) E) rfl ⟨E0 m (Z8 W 0),0,none,rfl,by omega,pl0 λi j b d=>aX (y i j b d) (by show 27<=2^(if 0=0 then 5 else _);rw[nZ rfl];decide)⟩ ?_) ?_)))
 ·rintro k s f ⟨E,c,u,rfl,D,h⟩;have:k<=3:=by omega
  obtain⟨X,C,e,l,p⟩:=Dm bs F M f h (by omega);exact MR (Zr (c3 rfl rfl rfl e)) ⟨X,C,_,rfl,by omega,p⟩
 ·rintro s ⟨E,c,u,rfl,D,h⟩;have t:c<=1800000:=by omega
  have J:∀i,i<m->E i i∣Xp m (Z8 W 0):=λi b=>by
   obtain⟨Z,N⟩:=bs.z;refine h.cr.adm.div N b λx U=>?_;by_cases q:x=i
   ·rw[q];exact iI _
   ·rw[(h.cr.d1 i x b U q).2];exact dC _
  have dl:∀i,i<m->E i i≠0/\(E i i).natAbs.log2<9000:=λi b=>by have h1:=h.cr.d2 i b;have Y:=cz (by have:=bs.nz;omega) (cY.mpr (J i b));refine⟨by omega,?_⟩;have:=Nd (x:=E i i) (G:=18) (by omega) (by omega);omega
  have H:∀{i j G},5<=G->i<m->j<m->(Z8 W 0 i j).natAbs<2^G:=λ{i j G} Q b d=>aV (show _<2^5 by have:=y i j b d;omega) (PM.pw2 Q);have O:∀i j,i<m->j<m->(E (m+i) j).natAbs<2^(c+5):=λi j b d=>bK (h.rb i j b d) (dt (by omega) (by omega));have P:∀i j,i<m->j<m->(E i (m+j)).natAbs<2^(c+5):=λi j b d=>bK (h.lb i j b d) (dt (by omega) (by omega));have S:=Td (m:=m) (A:=Z8 W 0) (B:=GZ m E) (by omega) λi k j b f d=>GL (G:=c+5) (H (by omega) b f) (O k j f d) (by omega) (by omega);have R:=Td (m:=m) (A:=OA m E) (B:=Z8 W 0) (by omega) λi k j b f d=>GL (G:=c+5) (P i k b f) (H (by omega) f d) (by omega) (by omega);have lst:bL (m+m) E=(aM m).map (λi=>cR (m+m) (E i))++(aM m).map λi=>cR (m+m) (E (m+i)):=by unfold bL;rw[nA,fH,eM];rfl
  refine ZS (Zr (JE (c1 (Vp (λi=>E i i) (Z6 rfl (by omega)) (by omega) λi b=>⟨_,rfl,rfl,Sl (w:=m+m) (E:=E) (by omega) (by omega) rfl rfl rfl⟩) (Y0 _)))) (ZS (Zr (Kg (W0 (w:=m) (OA m E) (q:=λi=>cR (m+m) (E i)) ?_ (by omega) λi b=>⟨_,rfl,c1 (a:=.lst (iL (ZV m λj=>E i (m+j)))) ?_ (Y0 _)⟩))) (ZS (Zr (Kg (W0 (w:=m) (GZ m E) (q:=λi=>cR (m+m) (E (m+i))) ?_ (by omega) λi b=>⟨_,rfl,c1 (a:=.lst (iL (ZV m (E (m+i))))) ?_ (Y0 _)⟩))) (ZS (Zr (Kg (W0 (m:=m) (w:=m) (λi j=>(PM.mul m (Z8 W 0) (GZ m E) i j).fdiv (E j j)) (q:=λi=>pP (ZV m (PM.mul m (Z8 W 0) (GZ m E) i))) ?_ (by omega) λi b=>⟨_,rfl,c2 rfl rfl (Oa (by omega) λj d=>dl j d)⟩))) (ZS (Zr (Kg (W0 (m:=m) (w:=m) (λi j=>(PM.mul m (OA m E) (Z8 W 0) i j).fdiv (E i i)) (q:=λi=>.tup [pP (ZV m (PM.mul m (OA m E) (Z8 W 0) i)),.int (E i i)]) ?_ (by omega) λi b=>⟨_,rfl,c2 rfl (o2 (a:=.tup [.int (E i i)]) rfl rfl (Dn (by omega) (by omega))) (Oa (by omega) λj d=>dl i b)⟩))) (Wf (ep rfl ?_) ⟨E,c,_,_,rfl,h.cr,t,h.lb,J⟩)))))
  ·show(QP TY (Za 3) Li (Tw (Za 2)) _).bind _=_;rw[Wo];show(aA (PV.lst (W7 (bL (m+m) E) none (aA (m:Int))))).bind _=_;rw[BA (by rw[Tu];omega),lst,m9 (by simp)];rfl
  ·rw[Wo];show aA (PV.lst (W7 (iL (ZV (m+m) (E i))) (aA (m:Int)) none))=_;rw[JA,BD]
  ·show(QP TY (Za 3) (Tw (Za 2)) Li _).bind _=_;rw[Wo];show(aA (PV.lst (W7 (bL (m+m) E) (aA (m:Int)) none))).bind _=_;rw[BB (by rw[Tu];omega),lst,List.drop_left' (by simp)];rfl
  ·rw[Wo];show aA (PV.lst (W7 (iL (ZV (m+m) (E (m+i)))) none (aA (m:Int))))=_;rw[Jz,BC]
  ·have:Zc YW [Za 1,Za 7] [aA (wP W),aA (wP (Wt m m (Z8 W 0))),aA (.int (m:Int)),aA (.lst (bL (m+m) E)),u,aA (pP (ZV m λi=>E i i)),aA (wP (Wt m m (OA m E))),aA (wP (Wt m m (GZ m E))),none,none]=aA (wP (Wt m m (PM.mul m (Z8 W 0) (GZ m E)))):=c2 rfl rfl S;refine(QY this).trans ?_;show aA (tL (Wt m m _))=_;rw[P0]
  ·have:∀I,Zc YW [Za 6,Za 1] [aA (wP W),aA (wP (Wt m m (Z8 W 0))),aA (.int (m:Int)),aA (.lst (bL (m+m) E)),u,aA (pP (ZV m λi=>E i i)),aA (wP (Wt m m (OA m E))),aA (wP (Wt m m (GZ m E))),I,none]=aA (wP (Wt m m (PM.mul m (OA m E) (Z8 W 0)))):=λI=>c2 rfl rfl R;rw[QX];refine(congrArg (λo=>m3 o _) (this _)).trans ?_;show aA (Vi (tL (Wt m m (PM.mul m (OA m E) (Z8 W 0)))) (iL (ZV m λi=>E i i)))=_;rw[YL _ _ (by rw[Vd];simp[ZL]),Vd];congr 1;refine av λi b=>?_;have b:=aU.mp b;rw[aJ,Ts b,Yu _ i (by rw[ZL];exact b),YO b];rfl
  ·rw[US];simp only[ZK,US,Uk,Yg,Bool.and_self]
end PW
namespace PW
open L2 VL
noncomputable def GP(c:Int):Int:=if c%4=3 then c*c%(2*10^26)-10^26 else c.fdiv 4%9-4
theorem JP{c:Int}(h:c.natAbs.log2<=1048576):SX [.int c]=aA (.int (GP c)):=by
 have c1:CMulW c c:=⟨by omega,by omega⟩;have c2:CMulW 2 (10^26):=⟨O8 (by decide),O8 (by decide)⟩;have c3:WC c 4:=⟨by decide,by decide +kernel⟩;have p:∀s:ZE,Zi Oh (eC (.int 10)) (eC (.int 26)) s=aA (.int (10^26)):=λs=>vC (a:=10) (b:=26) (C:=MV) (op:=λi j=>i^j.toNat) rfl rfl (by decide);show Yy 1 SW _=_;unfold SW GP;show(Zm _ _ [aA (.int c)]).bind Uj=_;by_cases d:c%4=3
 ·rw[nZ d,ER (v:=.int (c*c%(2*10^26)-10^26))]
  ·rfl
  ·have t:xB (Zi (XZ aB) (Zi Xq (Za 0) (eC (.int 4))) (eC (.int 3))) [aA (.int c)]=aA aC:=by simp[d]
   rw[Xm,t];simp only[aT,if_true];exact Ou (vP (vI (vC (vC rfl rfl c1) (vC rfl (p _) c2) (by decide)) (p _)))
 ·have t:xB (Zi (XZ aB) (Zi Xq (Za 0) (eC (.int 4))) (eC (.int 3))) [aA (.int c)]=aA aB:=by simp[d]
  rw[ng d,Yp (s1:=[aA (.int c)]) (by rw[Xm,t];rfl),Ou (vP (vI (vC (vC rfl rfl c3) rfl (by decide)) rfl))];rfl
theorem GQ(c:Int):(GP c).natAbs<=10^26:=by
 unfold GP;split
 ·have a:=dX (c*c) (show(2*10^26:Int)≠0 by decide);have b:=dF (c*c) (show(0:Int)<2*10^26 by decide);omega
 ·have a:=dX (c.fdiv 4) (show(9:Int)≠0 by decide);have b:=dF (c.fdiv 4) (show(0:Int)<9 by decide);omega
theorem Dq{W:List (List Int)}{D E O:List Int}(ok:ZU W)(f:UH W)(d:D.length=W.length)(q:∀h,h<W.length->(Zp D h).natAbs<=2^208)(k:∀h,h<W.length->(Zp E h).natAbs<=2^208)(B:O.length=W.length)(e:E=ZG W D O):Y3 [wP W,pP D,pP E]=aA (pP (ZI O)):=by
 have z:=ok.pos;have y:=ok.few;have o:E.length=W.length:=by rw[e,Yd,d]
 obtain⟨S,N,F,m,u,j,st⟩:=U1 ok f d (b:=0) (by omega) q;have A:N.length=W.length:=by rw[j,Yd,d]
 have n:=GJ (D:=E) (S:=U5 S O) (N:=N) (F:=F) ok f o (b:=0) (by omega) k (by rw[Vo];exact u) (by
  rw[j,e];exact(IF d λi r=>by rw[PL (by omega)];omega).symm) st
 have s:=EI (a:=ZI S) (b:=ZI (U5 S O)) (by rw[Yf,Yf,Vo]) (by rw[Yf];omega);have g:=P7 (l:=U5 (ZI S) (ZI (U5 S O))) (by rw[Vo,Yf];omega) (by rw[Vo,Yf];omega);have v:ZI (U5 (ZI S) (ZI (U5 S O)))=ZI O:=RN (X2 (U5 S O)-X2 S) (by rw[Vo,Yf];omega) (by omega) λi r=>by rw[PL (by rw[Yf];omega),WI (by omega),WI (by rw[Vo];omega),PL (by omega)];omega
 rw[v] at g;let T:PV:=.tup [pP (ZI S),pP N,.lst (iL (nL F))];let c:PV:=.tup [pP (ZI (U5 S O)),pP N,.lst (iL (nL F))];have p:Zq 3 (Zc Yc [Za 0,Za 1,eC (.int 0)]) [aA (wP W),aA (pP D),aA (pP E),none,none]=aA (.nx [aA (wP W),aA (pP D),aA (pP E),aA T,none]):=by have:Zc Yc [Za 0,Za 1,eC (.int 0)] [aA (wP W),aA (pP D),aA (pP E),none,none]=aA T:=m;rw[Yk,this];rfl
 have w:Zq 4 (Zc Yc [Za 0,Za 2,eC (.int 0)]) [aA (wP W),aA (pP D),aA (pP E),aA T,none]=aA (.nx [aA (wP W),aA (pP D),aA (pP E),aA T,aA c]):=by have:Zc Yc [Za 0,Za 2,eC (.int 0)] [aA (wP W),aA (pP D),aA (pP E),aA T,none]=aA c:=n;rw[Yk,this];rfl
 have t:SM (xB (Zi (XZ aC) (Zi ZJ (Za 3) (eC (.int 1))) (Zi ZJ (Za 4) (eC (.int 1))))) (ZM (eP (eC .non))) Yr [aA (wP W),aA (pP D),aA (pP E),aA T,aA c]=aA (.nx [aA (wP W),aA (pP D),aA (pP E),aA T,aA c]):=by
  have:Zi (XZ aC) (Zi ZJ (Za 3) (eC (.int 1))) (Zi ZJ (Za 4) (eC (.int 1))) [aA (wP W),aA (pP D),aA (pP E),aA T,aA c]=aA (.bl aB):=by show XZ aC (pP N) (pP N)=_;rw[FR];simp
  rw[Xm,NM,this];rfl
 show Yy 5 T8 _=_;unfold T8;show(Zm _ _ [aA (wP W),aA (pP D),aA (pP E),none,none]).bind Uj=_;rw[Yp p,Yp w,Yp t];have x:Zc VH [Zc UY [Zi ZJ (Za 3) (eC (.int 0)),Zi ZJ (Za 4) (eC (.int 0))]] [aA (wP W),aA (pP D),aA (pP E),aA T,aA c]=aA (pP (ZI O)):=by have h:Zc UY [Zi ZJ (Za 3) (eC (.int 0)),Zi ZJ (Za 4) (eC (.int 0))] [aA (wP W),aA (pP D),aA (pP E),aA T,aA c]=aA (pP (U5 (ZI S) (ZI (U5 S O)))):=s;rw[YB,ZA,h];exact g
 rw[Ou x];rfl
theorem GR{W:List (List Int)}{D E S N e a:List Int}{F d:List Nat}(ok:ZU W)(l:UH W)(j:D.length=W.length)(k:E.length=W.length)(f:Yc [wP W,pP D,.int ((0:Nat):Int)]=aA (.tup [pP S,pP N,.lst (iL (nL F))]))(c:Yc [wP W,pP E,.int ((0:Nat):Int)]=aA (.tup [pP e,pP a,.lst (iL (nL d))]))(ne:N≠a):Y3 [wP W,pP D,pP E]=aA .non:=by
 let T:PV:=.tup [pP S,pP N,.lst (iL (nL F))];let b:PV:=.tup [pP e,pP a,.lst (iL (nL d))];have g:Zq 3 (Zc Yc [Za 0,Za 1,eC (.int 0)]) [aA (wP W),aA (pP D),aA (pP E),none,none]=aA (.nx [aA (wP W),aA (pP D),aA (pP E),aA T,none]):=by have:Zc Yc [Za 0,Za 1,eC (.int 0)] [aA (wP W),aA (pP D),aA (pP E),none,none]=aA T:=f;rw[Yk,this];rfl
 have i:Zq 4 (Zc Yc [Za 0,Za 2,eC (.int 0)]) [aA (wP W),aA (pP D),aA (pP E),aA T,none]=aA (.nx [aA (wP W),aA (pP D),aA (pP E),aA T,aA b]):=by have:Zc Yc [Za 0,Za 2,eC (.int 0)] [aA (wP W),aA (pP D),aA (pP E),aA T,none]=aA b:=c;rw[Yk,this];rfl
 have h:SM (xB (Zi (XZ aC) (Zi ZJ (Za 3) (eC (.int 1))) (Zi ZJ (Za 4) (eC (.int 1))))) (ZM (eP (eC .non))) Yr [aA (wP W),aA (pP D),aA (pP E),aA T,aA b]=aA (.rt .non):=by
  have:Zi (XZ aC) (Zi ZJ (Za 3) (eC (.int 1))) (Zi ZJ (Za 4) (eC (.int 1))) [aA (wP W),aA (pP D),aA (pP E),aA T,aA b]=aA (.bl aC):=by show XZ aC (pP N) (pP a)=_;rw[FR];simp[ne]
  rw[Xm,NM,this];rfl
 show Yy 5 T8 _=_;unfold T8;show(Zm _ _ [aA (wP W),aA (pP D),aA (pP E),none,none]).bind Uj=_;rw[Yp g,Yp i,ER h];rfl
end PW
namespace PW
open PySem L2 VL VX
theorem W4(a b:Nat):YX [.int (a:Int),.int (b:Int)]=aA (.int (eA a b:Int)):=by
 refine LX (ZS (Zr (vP rfl)) (ZS (Zr (vP rfl)) (UI (Kb (λn st=>∃(x:Nat) (d:Option PV),st=[aA (.int (a:Int)),aA (.int (b:Int)),aA (.int (x:Int)),aA (.int (n:Int)),d]/\eA x n=eA a b) ⟨a,none,rfl,rfl⟩ ?_) ?_)))
 ·rintro n st ⟨x,d,rfl,h⟩;have c:xB (Zi (XZ aC) (Za 3) (eC (.int 0))) [aA (.int (a:Int)),aA (.int (b:Int)),aA (.int (x:Int)),aA (.int (n:Int)),d]=aA (!decide ((n:Int)=0)):=xb (o2 rfl rfl (by rw[Ul];rfl));by_cases q:n=0
  ·exact .inl (c.trans (by rw[decide_eq_true (by omega)];rfl))
  ·refine .inr ⟨c.trans (by rw[decide_eq_false (by omega)];rfl),WL (Zr (vP (vmd rfl rfl))) (WL (Zr (vP rfl)) (MR (Zr (vP rfl)) ⟨x%n,ju _ (by omega),n,aA (.int ((x:Int)%(n:Int))),?_,?_⟩))⟩
   ·rw[mQ];rfl
   ·rw[Nat.gcd_comm,<-Nat.gcd_rec,Nat.gcd_comm];exact h
 ·rintro st ⟨n,⟨x,d,rfl,h⟩,q⟩;have c:xB (Zi (XZ aC) (Za 3) (eC (.int 0))) [aA (.int (a:Int)),aA (.int (b:Int)),aA (.int (x:Int)),aA (.int (n:Int)),d]=aA (!decide ((n:Int)=0)):=xb (o2 rfl rfl (by rw[Ul];rfl));have e:=ay (c.symm.trans q);have:n=0:=by refine cA λz=>?_;rw[decide_eq_false (by omega)] at e;cases e
  subst this;rw[Nat.gcd_zero_right] at h;exact Wf (vP rfl) (by rw[h])
section
variable {m:Nat} {u v:Nat->Int} {L:Mt}
theorem GS{l:List Int}(d:l.length=m)(e:m<=50)(c:∀j,j<m->CMulW (u j) (Zp l j)):Pm [pP (ZV m u),pP l]=aA (.int (sN m λj=>u j*Zp l j)):=by
 refine YZ (ret (vP (c1 (XM (q:=λj=>.tup [.int (u j),.int (Zp l j)]) (λj=>u j*Zp l j) ?_ (by omega) λj b=>⟨_,rfl,vC (C:=CMulW) (op:=(· * ·)) rfl rfl (c j b)⟩) ?_)))
 ·show aA (Vi (iL (ZV m u)) (iL l))=_;rw[YL _ _ (by simp[ZL,d]),aP,ZL];congr 1;refine av λi a=>?_;have a:=aU.mp a;rw[Yu _ i (by rw[ZL];exact a),Yu _ i (by omega),YO a]
 ·rw[SQ];congr 2;exact WZ _ _
abbrev Zbl(m:Nat)(L:Mt)(bk:List (List Int))(R:Mt)(fo:List (List Int))(r:Nat->Int):PV:=.tup [wP (Wt m m L),wP bk,wP (Wt m m R),wP fo,pP (ZV m r)]
theorem Zfn{l:List Int}(h:1<=l.length){f:XE}{s:ZE}(q:f s=aA (pP l)):QP SK f (Tw (eC (.int 1))) Li s=aA (pP (l.drop 1)):=by rw[Wo,q];simp only[aT,R9];show SK (pP l) (aA ((1:Nat):Int)) none=_;unfold SK;simp only[];rw[ng,JA];rw[HT.sIx_none,HT.sIx_nat,aP];omega
noncomputable def G0(m:Nat)(L:Mt)(D:List Int)(i:Nat):Int:=sN m λj=>L i j*Zp D (j+1)
theorem Dr{R:Mt}{bk fo:List (List Int)}{D:List Int}(e:m<=50)(h:D.length=m+1)(f:∀i j,i<m->j<m->CMulW (L i j) (Zp D (j+1)))(g:∀i,i<m->1<=v i):Qg [Zbl m L bk R fo v,pP D]=aA (pP (ZV m λi=>G0 m L D i%v i)):=by
 have c:∀j,Zp (D.drop 1) j=Zp D (j+1):=λj=>by unfold Zp;rw[aJ,eZ,aJ,Nat.add_comm]
 refine YZ (sq (Zr (ep (v:=wP (Wt m m L)) rfl (by rw[US];exact Uk _))) (ret (JE (c1 (XM (q:=λi=>.tup [pP (ZV m (L i)),.int (v i)]) (λi=>G0 m L D i%v i) ?_ (by omega) λi b=>⟨_,rfl,vC (C:=λ_ j=>0<j) (op:=(· % ·)) (a:=G0 m L D i) (c2 rfl (Zfn (by omega) rfl) ?_) rfl (by have:=g i b;omega)⟩) (Y0 _)))))
 ·rw[QX];show aA (Vi (tL (Wt m m L)) (iL (ZV m v)))=_;rw[YL _ _ (by rw[Vd];simp[ZL]),Vd];congr 1;refine av λi b=>?_;have b:=aU.mp b;rw[aJ,Ts b,Yu _ i (by rw[ZL];exact b),YO b];rfl
 ·rw[GS (l:=D.drop 1) (by rw[ck];omega) e λj d=>by rw[c];exact f i j b d];unfold G0;rw[Zj λj _=>by rw[c]]
noncomputable def Tv(s r:Nat):Nat:=r/eA s r
noncomputable def Sn(s r:Nat->Nat):Nat->Nat
 | 0=>1
 | k+1=>Nat.lcm (Sn s r k) (Tv (s k) (r k))
theorem Hf{s r:Nat}(h:0<r):0<Tv s r:=Nat.div_pos (cz h (iJ s r)) (fQ s h)
theorem MK{s r k:Nat}(h:0<r):Tv s r∣k↔r∣k*s:=by
 have b:=fQ s h;have f:=Nat.coprime_div_gcd_div_gcd (m:=s) (n:=r) b;have c:Tv s r*eA s r=r:=lQ (iJ s r);have a:s/eA s r*eA s r=s:=lQ (Nat.gcd_dvd_left s r);constructor
 ·rintro⟨t,rfl⟩;refine⟨t*(s/eA s r),?_⟩
  calc Tv s r*t*s=Tv s r*t*(s/eA s r*eA s r):=by rw[a]
   _=Tv s r*eA s r*(t*(s/eA s r)):=by rw[dh,dh,fL (eA s r) (t*_),dh]
   _=r*(t*(s/eA s r)):=by rw[c]
 ·intro e;have d:Tv s r*eA s r∣k*(s/eA s r)*eA s r:=by rw[c,dh,a];exact e
  have g:=Nat.dvd_of_mul_dvd_mul_right b d;exact Nat.Coprime.dvd_of_dvd_mul_right f.symm g
theorem Hg{s r:Nat->Nat}:∀{n:Nat},(∀i,i<n->0<r i)->0<Sn s r n
 | 0,_=>Nat.one_pos
 | n+1,h=>Nat.lcm_pos (Hg λi a=>h i (by omega)) (Hf (h n (by omega)))
theorem ML{s r:Nat->Nat}{k:Nat}:∀{n:Nat},(∀i,i<n->0<r i)->(Sn s r n∣k↔∀i,i<n->r i∣k*s i)
 | 0,_=>⟨λ_ i a=>by omega,λ_=>Nat.one_dvd k⟩
 | n+1,h=>by
  have b:=ML (s:=s) (r:=r) (k:=k) (n:=n) λi a=>h i (by omega);constructor
  ·intro c i a;by_cases q:i=n
   ·rw[q];exact(MK (h n (by omega))).mp (j9 (Nat.dvd_lcm_right _ _) c)
   ·exact b.mp (j9 (Nat.dvd_lcm_left _ _) c) i (by omega)
  ·intro d;exact Nat.lcm_dvd (b.mpr λi a=>d i (by omega)) ((MK (h n (by omega))).mpr (d n (by omega)))
end
end PW
namespace PM
open PW
noncomputable def col(x:Nat->Int):Mt:=λi _=>x i
theorem image{m:Nat}{d E:Mt}(s:Cr m m d E)(c:Nat->Int)(k:Int):(∀i,i<m->E i i∣k*sN m (λj=>E i (m+j)*c j))↔∃x:Nat->Int,∀j,j<m->sN m (λl=>d j l*x l)=k*c j:=by
 obtain⟨g,o,C,v,w,D⟩:=s.adm.ex;have e:=s.adm.val;generalize B:(λi k=>E i (m+k):Mt)=L at C v e;generalize N:(λi k=>E (m+i) k:Mt)=R at w D e;have A:∀i,sN m (λj=>E i (m+j)*c j)=mul m L (col c) i 0:=λi=>by rw[<-B];rfl
 have n:∀(y:Nat->Int) i,i<m->mul m E (col y) i 0=E i i*y i:=λy i a=>Yv a λj f J=>by rw[(s.d1 i j a f J).1,cH]
 have H:∀i j,i<m->j<m->mul m d R i j=mul m g E i j:=λi j a f=>by rw[ZF (A':=g) (B':=mul m L (mul m d R)) (λ_ _=>rfl) (λl b=>(e l j b f).symm),<-XX,ZF (A':=one) (B':=mul m d R) (λl b=>v i l a b) (λ_ _=>rfl),one_mul a]
 constructor
 ·intro h
  have:∀i,∃t,i<m->k*mul m L (col c) i 0=E i i*t:=λi=>by
   by_cases a:i<m
   ·obtain⟨t,p⟩:=h i a;rw[A] at p;exact⟨t,λ_=>p⟩
   ·exact⟨0,λz=>absurd z a⟩
  obtain⟨t,p⟩:=Classical.axiomOfChoice this;refine⟨λl=>mul m R (col t) l 0,λj f=>?_⟩;have u:sN m (λl=>d j l*mul m R (col t) l 0)=mul m (mul m d R) (col t) j 0:=(XX m d R (col t) j 0).symm;have r:mul m (mul m d R) (col t) j 0=mul m (mul m g E) (col t) j 0:=ZF (λl b=>H j l f b) λ_ _=>rfl;rw[u,r,XX];have F:mul m g (mul m E (col t)) j 0=sN m (λi=>k*(g j i*mul m L (col c) i 0)):=Zj λi a=>by rw[n t i a,<-p i a,cu]
  rw[F,ZO];congr 1;have I:sN m (λi=>g j i*mul m L (col c) i 0)=mul m (mul m g L) (col c) j 0:=(XX m g L (col c) j 0).symm;rw[I,ZF (A':=one) (B':=col c) (λl b=>v j l f b) (λ_ _=>rfl),one_mul f];rfl
 ·rintro⟨x,G⟩ i a;rw[A];refine⟨mul m o (col x) i 0,?_⟩;rw[<-n (λi=>mul m o (col x) i 0) i a];have u:mul m E (col λi=>mul m o (col x) i 0) i 0=mul m (mul m L (mul m d R)) (mul m o (col x)) i 0:=ZF (λl b=>(e i l a b).symm) λ_ _=>rfl;rw[u,XX];have r:∀j,j<m->mul m (mul m d R) (mul m o (col x)) j 0=k*c j:=λj f=>by rw[XX,<-G j f];refine Zj λl b=>?_;rw[<-XX,ZF (A':=one) (B':=col x) (λq M=>w l q b M) (λ_ _=>rfl),one_mul b];rfl
  rw[ZF (A':=L) (B':=λj _=>k*c j) (λ_ _=>rfl) r];show k*sN m (λj=>L i j*c j)=sN m (λj=>L i j*(k*c j));rw[<-ZO];exact Zj λj _=>cu _ _ _
end PM
namespace PW
open PySem L2 VL VX
theorem MM(f:Nat->Int):∀n,sN (n+1) f=f 0+sN n λj=>f (j+1)
 | 0=>by show 0+f 0=f 0+0;omega
 | n+1=>by show sN (n+1) f+f (n+1)=f 0+(sN n (λj=>f (j+1))+f (n+1));rw[MM f n];omega
theorem Kh(i:Nat):Xu 0 i=i+1:=by unfold Xu;rw[ng (by omega)]
section
variable {W:List (List Int)} {m:Nat} {D:List Int}
theorem Zbm(ok:ZU W)(Y:Nat->Int):sN W.length (gN W Y)=0:=by
 have z:(aY W.length (0:Int)).length=W.length:=by simp
 have h:=C5 (S:=ZV W.length Y) ok z;rw[MF,Yd,z] at h
 have b:(aY W.length (0:Int)).sum=0:=by
  rw[MF];exact Ws λi a=>by rw[z] at a;exact IG 0 a
 rw[b] at h;rw[<-h];refine Zj λi a=>?_;rw[UM (by rw[z];exact a),IG 0 a,Int.zero_add];exact UL a λg c=>(YO c).symm
theorem JQ(ok:ZU W)(o:W.length=m+1)(r:D.length=W.length)(t:D.sum=0)(k:Int):(∃Y:Nat->Int,∀h,h<W.length->k*Zp D h+gN W Y h=0)↔∃x:Nat->Int,∀j,j<m->sN m (λl=>Z8 W 0 j l*x l)=k*Zp D (j+1):=by
 have p:sN (m+1) (Zp D)=0:=by rw[<-o,<-r,<-MF];exact t
 constructor
 ·rintro⟨Y,d⟩;obtain⟨Z,f⟩:∃Z:Nat->Int,∀h,Z h=Y h+(- Y 0):=⟨_,λ_=>rfl⟩;refine⟨λl=>Z (l+1),λj n=>?_⟩;have e:=MC ok (b:=0) ok.pos (Y:=Z) (by rw[f];omega) (k:=j) (by omega);have s:gN W Z (Xu 0 j)=gN W Y (Xu 0 j):=by rw[Kh];rw[UL (W:=W) (Y:=Z) (Z:=λx=>Y x+(λ_=>- Y 0) x) (by omega) (λg _=>f g),Tt,Ka (T:=λ_=>- Y 0) (c:=- Y 0) (λ_ _=>rfl) (by omega)];omega
  rw[s,Kh,show W.length-1=m by omega] at e;have y:=d (j+1) (by omega);rw[Zj (g:=λi=>Z8 W 0 j i*Z (Xu 0 i)) λi _=>by rw[Kh]];omega
 ·rintro⟨x,u⟩;obtain⟨Y,d⟩:∃Y:Nat->Int,∀h,Y h=if h=0 then 0 else x (h-1):=⟨_,λ_=>rfl⟩
  have a:∀j,j<m->k*Zp D (j+1)+gN W Y (j+1)=0:=λj n=>by have e:=MC ok (b:=0) ok.pos (Y:=Y) (by rw[d,nZ rfl]) (k:=j) (by omega);rw[Kh,show W.length-1=m by omega,Zj (g:=λl=>Z8 W 0 j l*x l) λl _=>by rw[Kh,d,ng (by omega),show l+1-1=l by omega],u j n] at e;omega
  refine⟨Y,λh w=>?_⟩;by_cases q:h=0
  ·subst q;have s1:=Zbm ok Y;rw[o,MM (gN W Y) m] at s1;rw[MM (Zp D) m] at p;have s2:sN m (λj=>k*Zp D (j+1)+gN W Y (j+1))=0:=Ws a;rw[YN,ZO] at s2;have v:k*(Zp D 0+sN m λj=>Zp D (j+1))=0:=by rw[p,cO]
   rw[gL] at v;omega
  ·have:=a (h-1) (by omega)
   rwa [show h-1+1=h by omega] at this
theorem GU{E:List Int}(ok:ZU W)(c:UH W)(a:D.length=W.length)(e:E.length=W.length)(m:∀h,h<W.length->(Zp D h).natAbs<=2^208)(k:∀h,h<W.length->(Zp E h).natAbs<=2^208) :
  (∃O,O.length=W.length/\E=ZG W D O/\Y3 [wP W,pP D,pP E]=aA (pP (ZI O)))\/(Y3 [wP W,pP D,pP E]=aA .non/\¬ ∃Y:Nat->Int,∀h,h<W.length->Zp E h=Zp D h+gN W Y h):=by
 have G:=ok.pos;by_cases q:∃Y:Nat->Int,∀h,h<W.length->Zp E h=Zp D h+gN W Y h
 ·obtain⟨Y,s⟩:=q;have n:=ZL W.length Y;have l:E=ZG W D (ZV W.length Y):=V1 (by rw[e,Yd,a]) λi B=>by rw[s i (by omega),UM (by omega)];congr 1;exact UL (by omega) λg p=>(YO p).symm
  exact .inl ⟨_,n,l,Dq ok c a m k n l⟩
 ·refine .inr ⟨?_,q⟩;obtain⟨S,N,F,r,H,v,st⟩:=U1 ok c a (b:=0) (by omega) m;obtain⟨d,o,y,f,t,j,u⟩:=U1 ok c e (b:=0) (by omega) k;refine GR ok c a e r f λz=>q ⟨λx=>Zp S x+(-1)*Zp d x,λh C=>?_⟩;have w:Zp N h=Zp D h+gN W (Zp S) h:=by rw[v];exact UM (by omega)
  have A:Zp o h=Zp E h+gN W (Zp d) h:=by rw[j];exact UM (by omega)
  rw[Tt (Zp S) (λx=>(-1)*Zp d x),WN];rw[z] at w;omega
end
theorem fdN(a b:Nat):((a:Nat):Int).fdiv ((b:Nat):Int)=((a/b:Nat):Int):=by rw[dO _ (jF b)];exact(mS a b).symm
theorem Zdy{x:Nat}(a:0<x)(h:x<=2^17)(y:Int):WC y ((x:Nat):Int):=⟨by omega,by
 have:=Nd (x:=((x:Nat):Int)) (G:=18) (by omega) (by omega);omega⟩
section
variable {W:List (List Int)} {m:Nat} {D:List Int}
theorem Ds(ok:ZU W)(cn:UH W)(h4:W.length<=4)(A:W.length=m+1)(hd:D.length=W.length)(U:D.sum=0)(bD:∀h,h<W.length->(Zp D h).natAbs<=10^29) :
  ∃(E:Mt) (q:Nat) (X:PV),Xz [wP W,pP D]=aA (.int (q:Int))/\Sd [wP W]=aA X/\ZJ X (.int 4)=aA (pP (ZV m λi=>E i i))/\0<q/\q<=2^17/\(∀i,i+1=m->(q:Int)∣E i i)/\(m=0->q=1)/\(∀i,i<m->1<=E i i)/\
   ∀k:Nat,q∣k↔∃Y:Nat->Int,∀h,h<W.length->(k:Int)*Zp D h+gN W Y h=0:=by
 have h3:m<=3:=by omega
 obtain⟨E,γ,bk,fo,eP,d,hγ,lb,dg⟩:=Dp ok cn h4 A;have nzD:=(Dl ok cn A).nz;have w:=D17 ok h4 A;have b29:(10:Nat)^29<2^100:=by decide
 have rs:=Dr (m:=m) (L:=OA m E) (R:=GZ m E) (bk:=bk) (fo:=fo) (v:=λi=>E i i) (D:=D) (by omega) (by omega) (λi j c y=>GL (G:=γ+101) (bK (lb i j c y) (dt (by omega) (by omega))) (aV (show _<2^100 by have:=bD (j+1) (by omega);omega) (PM.pw2 (by omega))) (by omega) (by omega)) (λi c=>d.d2 i c);obtain⟨r,Q⟩:∃r:Nat->Nat,∀i,r i=(E i i).toNat:=⟨_,λ_=>rfl⟩;obtain⟨s,hs⟩:∃s:Nat->Nat,∀i,s i=(G0 m (OA m E) D i%E i i).toNat:=⟨_,λ_=>rfl⟩;have rI:∀i,i<m->((r i:Nat):Int)=E i i:=λi c=>by rw[Q];have:=d.d2 i c;omega
 have T:∀i,i<m->((s i:Nat):Int)=G0 m (OA m E) D i%E i i:=λi c=>by rw[hs];have:=dX (G0 m (OA m E) D i) (b:=E i i) (by have:=d.d2 i c;omega);omega
 have f:∀i,i<m->0<r i:=λi c=>by rw[Q];have:=d.d2 i c;omega
 have u:∀i,i<m->r i∣(Xp m (Z8 W 0)).natAbs:=λi c=>by
  have:=cY.mpr (dg i c)
  rwa [<-rI i c,lT] at this
 have P:∀i,i<m->r i<=2^17:=λi c=>aX (cz (by omega) (u i c)) w;have odv:∀{i k:Nat},i<m->r i∣k->Tv (s i) (r i)∣k:=λ{i k} c h=>(MK (f i c)).mpr (j9 h (mE _ _));have t:∀{k n:Nat},n<=m->(∀i,i<n->r i∣k)->Sn s r n∣k:=λ{k n} J h=>(ML λi c=>f i (by omega)).mpr λi c=>j9 (h i c) (mE _ _);have g:∀n,n<=m->Sn s r n<=2^17:=λn J=>aX (cz (by omega) (t J λi c=>u i (by omega))) w;have np:∀n,n<=m->0<Sn s r n:=λn J=>Hg λi c=>f i (by omega);refine⟨E,Sn s r m,_,?_,eP,rfl,np m (aN _),g m (aN _),λi c=>?_,λz=>by subst z;rfl,d.d2,λk=>?_⟩
 ·have I:xB (Zi (XZ aC) (Zc YF [Za 1]) (eC (.int 0))) (ZC 7 [wP W,pP D])=aA aB:=xb (o2 (c1 rfl (LR D)) rfl (by rw[Ul,U];rfl));refine LX (ZS (gof I) (ZS (Zr (c1 rfl eP)) (ZS (Zr (vP rfl)) (UI (Mz (ls:=(aM m).map λi=>.tup [.int ((s i:Nat):Int),.int ((r i:Nat):Int)]) (λi st=>∃F H M,st=[aA (wP W),aA (pP D),aA (Zbl m (OA m E) bk (GZ m E) fo λi=>E i i),aA (.int ((Sn s r i:Nat):Int)),F,H,M]) ?_ ⟨none,none,none,rfl⟩ ?_) ?_))))
  ·have e1:Zc Qg [Za 2,Za 1] (Ym [] [aA (wP W),aA (pP D),aA (Zbl m (OA m E) bk (GZ m E) fo λi=>E i i),aA (.int 1),none,none,none])=aA (pP (ZV m λi=>G0 m (OA m E) D i%E i i)):=c2 rfl rfl rs;rw[QX];refine(congrArg (λo=>m3 o _) e1).trans ?_;show aA (Vi (iL (ZV m λi=>G0 m (OA m E) D i%E i i)) (iL (ZV m λi=>E i i)))=_;rw[JM];congr 1;refine av λi c=>?_;have c:=aU.mp c;rw[rI i c,T i c]
  ·rintro i l st B ⟨F,H,M,rfl⟩;have c:i<m:=by simpa using(aS.mp B).1
   rw[aZ,bO c] at B;cases B;have g0:=fQ (s i) (f i c);have gl:eA (s i) (r i)<=2^17:=aX (cz (f i c) (iJ _ _)) (P i c);have op:=Hf (s:=s i) (f i c);have O:Tv (s i) (r i)<=2^17:=aX (Nat.div_le_self _ _) (P i c);have g1:=fQ (Sn s r i) op;have N:eA (Sn s r i) (Tv (s i) (r i))<=2^17:=aX (cz op (iJ _ _)) O;have nl:=g i (by omega);have sm:∀{x:Nat},x<=2^17->(((x:Nat):Int)).natAbs<2^18:=λ{x} h=>by omega
   refine⟨_,rfl,WL (Zr (vP (a:=((Tv (s i) (r i):Nat):Int)) ?_)) (MR (Zr (vP (a:=((Sn s r (i+1):Nat):Int)) ?_)) ⟨_,_,_,rfl⟩)⟩
   ·rw[show Tv (s i) (r i)=r i/eA (s i) (r i) from rfl,<-fdN];exact vC (C:=WC) (op:=jB) rfl (c2 rfl rfl (W4 _ _)) (Zdy g0 gl _)
   ·rw[show Sn s r (i+1)=Sn s r i*Tv (s i) (r i)/eA (Sn s r i) (Tv (s i) (r i)) from rfl,<-fdN,kC];exact vC (C:=WC) (op:=jB) (vC (C:=CMulW) (op:=(· * ·)) rfl rfl (GL (G:=18) (sm nl) (sm O) (by omega) (by omega))) (c2 rfl rfl (W4 _ _)) (Zdy g1 N _)
  ·rintro st ⟨F,H,M,rfl⟩;rw[aP,cL];exact Wf (vP rfl) rfl
 ·rw[<-rI i (by omega)];refine gq.mpr (t (aN _) λj y=>?_);refine gq.mp ?_;rw[rI i (by omega),rI j y];exact d.d3 j i i y (by omega) (by omega) (by omega) (by omega)
 ·rw[JQ ok A hd U,<-PM.image d (λj=>Zp D (j+1)) (k:Int),ML λi c=>f i c]
  have p:∀i,i<m->(r i∣k*s i↔E i i∣(k:Int)*sN m (λj=>E i (m+j)*Zp D (j+1))):=λi c=>by
   rw[<-gq,kC,rI i c,T i c];have e:sN m (λj=>E i (m+j)*Zp D (j+1))=G0 m (OA m E) D i:=rfl;rw[e];have Z:=Int.emod_add_mul_ediv (G0 m (OA m E) D i) (E i i);generalize G0 m (OA m E) D i=S at Z ⊢;have e2:(k:Int)*S=(k:Int)*(S%E i i)+E i i*((k:Int)*(S/E i i)):=by rw[<-cu,<-gL,Z]
   rw[e2];exact⟨λh=>Int.dvd_add h (mF _ _),λh=>by have:=Int.dvd_sub h (mF (E i i) ((k:Int)*(S/E i i)));rwa [Int.add_sub_cancel] at this⟩
  exact⟨λh i c=>(p i c).mp (h i c),λh i c=>(p i c).mpr (h i c)⟩
end
noncomputable def UP(c:Int):Int:=if c%5=4 then c*c%(2*10^20+1)-10^20 else c.fdiv 5%13-6
theorem JR(c:Int):(UP c).natAbs<=10^20:=by
 unfold UP;split
 ·have a:=dX (c*c) (show(2*10^20+1:Int)≠0 by decide);have b:=dF (c*c) (show(0:Int)<2*10^20+1 by decide);omega
 ·have a:=dX (c.fdiv 5) (show(13:Int)≠0 by decide);have b:=dF (c.fdiv 5) (show(0:Int)<13 by decide);omega
theorem BE{d:List Int}(A:d.length<=63)(H:∀n∈d,n.natAbs.log2<=1048576){n:Nat}(T:1<=n)(S:n<=4):∃P:List Int,Pk [.cst (iL d),.int (n:Int)]=aA (pP P)/\P.length=n/\P.sum=0/\∀h,h<n->(Zp P h).natAbs<=10^21:=by
 suffices g:YH LI (ZC 6 [.cst (iL d),.int (n:Int)]) λv=>∃P:List Int,v=pP P/\P.length=n/\P.sum=0/\∀h,h<n->(Zp P h).natAbs<=10^21 by obtain⟨v,e,P,rfl,r⟩:=Sh g;exact⟨P,e,r⟩
 have p:∀s:ZE,Zi Oh (eC (.int 10)) (eC (.int 20)) s=aA (.int (10^20)):=λs=>vC (a:=10) (b:=20) (C:=MV) (op:=λi j=>i^j.toNat) rfl rfl (by decide);refine ZS (Zr (v:=.lst (iL (0::([]:List Int)))) rfl) (UI (Zdn (m:=1) (n:=n) (λi st=>∃(t:List Int) (B w x:Option PV),st=[aA (.cst (iL d)),aA (.int (n:Int)),aA (.lst (iL (0::t))),B,w,x]/\t.length+1=i/\∀h,h<t.length->(Zp t h).natAbs<=10^20) rfl rfl ⟨[],none,none,none,rfl,rfl,λh u=>by simp at u⟩ ?_) ?_)
 ·rintro k st G Q ⟨t,B,w,x,rfl,lt,o⟩;have N:=LU H (13+k);obtain⟨c,E⟩:∃c,c=Yl d (13+k):=⟨_,rfl⟩;rw[<-E] at N;have I:Z3 [.cst (iL d),.int ((13:Int)+(k:Int))]=aA (.int c):=by have:=XG A (k:=13+k) (by omega);rw[<-E] at this;exact this
  have F:∀D:Option PV,xB (Zi (XZ aB) (Zi Xq (Za 4) (eC (.int 5))) (eC (.int 4))) [aA (.cst (iL d)),aA (.int (n:Int)),aA (.lst (iL (0::t))),aA (.int (k:Int)),aA (.int c),D]=aA (decide (c%5=4)):=λD=>xb (Dy (vmd (b:=5) rfl rfl) rfl);refine WL (Zr (c2 rfl (vad rfl rfl) I)) (WL (Zr (vP (vsb (vmd (b:=13) (vC (C:=WC) (op:=jB) (a:=c) (b:=5) rfl rfl ⟨by decide,by decide +kernel⟩) rfl) rfl))) (EX (R:=λs=>s=[aA (.cst (iL d)),aA (.int (n:Int)),aA (.lst (iL (0::t))),aA (.int (k:Int)),aA (.int c),aA (.int (UP c))]) (IK (F _) (λz=>?_) λz=>?_) ?_))
  ·have z:=of_decide_eq_true z;refine MR (Zr (vP (a:=UP c) ?_)) rfl;unfold UP;rw[nZ z];exact vI (vC (C:=λ_ j=>0<j) (op:=(· % ·)) (vC (C:=CMulW) (op:=(· * ·)) rfl rfl ⟨by omega,by omega⟩) (vI (vC (C:=CMulW) (op:=(· * ·)) rfl (p _) ⟨by decide +kernel,by decide +kernel⟩) rfl) (by decide)) (p _)
  ·have z:=of_decide_eq_false z;refine MR rfl ?_;unfold UP;rw[ng z];rfl
  ·rintro s rfl;refine MR (Ba PV.int (L:=0::t) (y:=UP c) (vP rfl) rfl (by simp;omega)) ⟨t++[UP c],_,_,_,rfl,by simp;omega,λh u=>?_⟩;rw[bJ,fC] at u;by_cases q:h<t.length
   ·have:Zp (t++[UP c]) h=Zp t h:=by simp[Zp,aJ,ao q]
    rw[this];exact o h q
   ·have e:h=t.length:=by omega
    have:Zp (t++[UP c]) h=UP c:=by simp[Zp,aJ,e]
    rw[this];exact JR c
 ·rintro st ⟨t,B,w,x,rfl,lt,o⟩;have J:(0::t:List Int).sum=t.sum:=by rw[g8];omega
  refine ZS (Zba (k:=0) (l:=0::t) (a:=0-t.sum) rfl (vsb rfl (c1 rfl (by rw[SQ,J]))) rfl (by simp)) (Wf (JE (c1 rfl (Y0 _))) ⟨(0::t).set 0 (0-t.sum),rfl,by simp;omega,by rw[lU,g8];omega,λh u=>?_⟩);rw[lU]
  cases h with
  | zero=>
   show(0-t.sum).natAbs<=_;rw[MF];have:=JI (f:=Zp t) (M:=10^20) (n:=t.length) o;have O:t.length*10^20<=3*10^20:=dH _ (by omega);omega
  | succ h=>
   have:Zp ((0-t.sum)::t) (h+1)=Zp t h:=by simp[Zp]
   rw[this];have:=o h (by omega);omega
theorem Dt{x:Int}(h:x.natAbs<2^200):Lz (.int x)=aC:=by refine decide_eq_true ?_;have:=Nd h (by omega);omega
theorem JS(t:Int):XA [.exf "NoTotal" (.int t)]=aA (.bl aB):=by
 have k:∀cs:List a0,decide (("NoTotal" : a0)∈cs)=aB->SY (K2 "NoTotal" cs) (Za 0) [aA (.exf "NoTotal" (.int t))]=aA (.bl aB):=λcs h=>by show lX PV.bl (K2 "NoTotal" cs "NoTotal")=_;unfold K2;rw[nZ rfl,h];rfl
 exact YZ (sq (gof (xb (k _ (by decide +kernel)))) (ret (ep (k _ (by decide +kernel)))))
theorem Du{W:List (List Int)}{D:List Int}(c:D.sum≠0)(b:D.sum.natAbs<2^200):Y7 [wP W,pP D]=aA (("NoTotal" : nI),PV.int D.sum):=by
 show LA (yIf _ (Ur "NoTotal" _) Dx) Q7 Dx (ZC 7 [wP W,pP D])=_;have a:Zc YF [Za 1] (ZC 7 [wP W,pP D])=aA (.int D.sum):=c1 rfl (LR D)
 have t:xB (Zi (XZ aC) (Zc YF [Za 1]) (eC (.int 0))) (ZC 7 [wP W,pP D])=aA aC:=xb (o2 a rfl (by
  rw[Ul];show aA (PV.bl (!decide (D.sum=0)))=_;rw[decide_eq_false c];rfl))
 have:yIf (xB (Zi (XZ aC) (Zc YF [Za 1]) (eC (.int 0)))) (Ur "NoTotal" (Zc YF [Za 1])) Dx (ZC 7 [wP W,pP D])=aA (("NoTotal" : nI),PV.int D.sum):=by unfold yIf;rw[t];show Ur "NoTotal" (Zc YF [Za 1]) _=_;unfold Ur;rw[a,aT,nZ (Dt b)]
 unfold LA;rw[this]
theorem Hh(t:Int):Vl [.int t]=aA (.bl aC):=by simp[Vl,O0,Yy,ZC]
theorem JT{W:List (List Int)}{D:List Int}(i:D.sum≠0)(d:D.sum.natAbs<2^200):Uu [wP W,pP D]=aA (.bl aC):=by
 have r:=Du (W:=W) i d;have c:∀b a:Option PV,∀f:XS,Ph Y7 [Za 0,Za 1] 4 f [aA (wP W),aA (pP D),b,a,none]=(f [aA (wP W),aA (pP D),b,a,aA (.exf "NoTotal" (.int D.sum))]).map (BZ 4):=λb a f=>by unfold Ph;rw[show RU [Za 0,Za 1] [aA (wP W),aA (pP D),b,a,none]=aA [wP W,pP D] from rfl,aT,r];rfl
 have or:∀{f g:XS}{s:ZE}{o:MP},f s=aA o->sOr f g s=aA o:=λ{f g s o} h=>by unfold sOr;rw[h]
 have f1:Iy "NoTotal" (Za 4) [aA (wP W),aA (pP D),aA .non,aA (.bl aB),aA (.exf "NoTotal" (.int D.sum))]=aA (.int D.sum):=by show(if("NoTotal" : nI) = "NoTotal"/\Lz (.int D.sum)=aC then aA (PV.int D.sum) else none)=_;rw[nZ ⟨rfl,Dt d⟩]
 have e:RS (SY (tbM "NoTotal" "NoTotal") (Za 4)) (RS (SY (tbW "NoTotal") (Za 4)) (HA (Zc XA [Za 4]))) [aA (wP W),aA (pP D),aA (.int D.sum),aA (.bl aB),aA (.exf "NoTotal" (.int D.sum))]=aA (.bl aC):=by
  refine(ea (p:=aC) (p2:=aC) ?_ ((ea (p:=aC) (p2:=aC) ?_ ?_).trans rfl)).trans rfl
  ·show lX PV.bl (tbM "NoTotal" "NoTotal" "NoTotal")=_;unfold tbM;rw[nZ rfl];rfl
  ·show lX PV.bl (tbW "NoTotal" "NoTotal")=_;unfold tbW;rw[nZ rfl];rfl
  ·have:Zc XA [Za 4] [aA (wP W),aA (pP D),aA (.int D.sum),aA (.bl aB),aA (.exf "NoTotal" (.int D.sum))]=aA (.bl aB):=c1 rfl (JS _);show lX _ (xB (Zc XA [Za 4]) _)=_;rw[xb this];rfl
 refine YZ (sq (Zr rfl) (sq (Zr rfl) (sq (or ((c _ _ _).trans (by rw[Zr (ep f1)];rfl))) (sq (or ((c _ _ _).trans (by rw[Zr (ep e)];rfl))) (ret (ep ?_))))));exact(ea (p:=aC) (p2:=aC) (c1 rfl (Hh _)) ((ea (p:=aC) (p2:=aC) ((Dy rfl (c1 rfl (Zam D))).trans (by rw[decide_eq_true rfl])) rfl).trans rfl)).trans rfl
theorem mulL{k:Int}{P:List Int}{f:XE}{s:ZE}{i:Nat}(c : -(2^64)<k/\k<2^64)(e:P.length<=100)(q:f s=aA (pP P))(b:(s[i]?).join=aA (.int k)):Zc ZN [Zu 1 [i] (TV f) (.one 0) Zy (Zi WA (Za 1) (Za 0))] s=aA (pP (P.map λx=>k*x)):=by refine c1 (a:=.lst (iL (P.map λx=>k*x))) ?_ (Y0 _);refine P6 (λx=>k*x) (QY q) (by omega) λx d=>⟨[aA (.int x),aA (.int k)],?_,rfl,vC (C:=CMul) (op:=(· * ·)) rfl rfl (FT c)⟩;show aA (List.set [none,(s[i]?).join] 0 (aA (PV.int x)))=_;rw[b];rfl
theorem Zfo{f:XE}{s:ZE}{v:PV}(q:f s=aA v):QJ [f] s=aA (.tup [v]):=by rw[Ll,ZA,q];rfl
theorem Ob{k:Int}{P:List Int}{h:Nat}(a:h<P.length):Zp (P.map λx=>k*x) h=k*Zp P h:=by rw[L7,Ya a]
theorem law_true(u:List Int)(w:u.length<=63)(F:∀n∈u,n.natAbs.log2<=1048576):D_law [.cst (iL u)]=aA (.bl aC):=by
 obtain⟨W,eW,ok,cn,h4⟩:=ET w (mo:=4) (by omega) (by omega);have hp:=ok.pos;obtain⟨m,hm⟩:∃m,W.length=m+1:=⟨W.length-1,by omega⟩;obtain⟨P,eP,lP,sP,bP⟩:=BE w F (n:=W.length) hp h4;have b29:(10:Nat)^21<=10^29:=by decide
 obtain⟨E,q,X,eR,eX,x4,q0,q17,ql,q1,e1,qd⟩:=Ds (D:=P) ok cn h4 hm lP sP λh r=>aX (bP h r) b29;obtain⟨Z,N⟩:∃Z:List Int,Z=ZV W.length λ_=>0:=⟨_,rfl⟩;have lZ:Z.length=W.length:=by rw[N,ZL]
 have zZ:∀h,h<W.length->Zp Z h=0:=λh r=>by rw[N,YO r]
 have bM:∀k:Nat,k<=2^17->∀h,h<W.length->(Zp (P.map λx=>(k:Int)*x) h).natAbs<=2^208:=λk hk h r=>by rw[Ob (by omega),dk,lT];refine aX (dS hk (bP h r)) (by decide)
 have bZ:∀h,h<W.length->(Zp Z h).natAbs<=2^208:=λh r=>by rw[zZ h r];exact dj _
 -- k times the purse comes to noughts just where the round divides k
 have H:∀k:Nat,k<=2^17->(q∣k/\∃O,O.length=W.length/\Z=ZG W (P.map λx=>(k:Int)*x) O/\Y3 [wP W,pP (P.map λx=>(k:Int)*x),pP Z]=aA (pP (ZI O)))\/(¬q∣k/\Y3 [wP W,pP (P.map λx=>(k:Int)*x),pP Z]=aA .non):=λk hk=>by
  have B:(P.map λx=>(k:Int)*x).length=W.length:=by rw[aP];exact lP
  have G:q∣k↔∃Y:Nat->Int,∀h,h<W.length->Zp Z h=Zp (P.map λx=>(k:Int)*x) h+gN W Y h:=by rw[qd k];exact⟨λ⟨Y,U⟩=>⟨Y,λh r=>by rw[zZ h r,Ob (by omega),U h r]⟩,λ⟨Y,U⟩=>⟨Y,λh r=>by have:=U h r;rw[zZ h r,Ob (by omega)] at this;exact this.symm⟩⟩
  rcases GU ok cn B lZ (bM k hk) bZ with⟨O,lO,L,eO⟩ | ⟨eN,hn⟩
  ·refine .inl ⟨G.mpr ⟨Zp O,λh r=>?_⟩,O,lO,L,eO⟩;rw[L,UM (by omega)]
  ·exact .inr ⟨λz=>hn (G.mp z),eN⟩
 have dq:∃O,O.length=W.length/\Z=ZG W (P.map λx=>(q:Int)*x) O/\Y3 [wP W,pP (P.map λx=>(q:Int)*x),pP Z]=aA (pP (ZI O)):=by
  rcases H q q17 with⟨_,h⟩ | ⟨h,_⟩
  ·exact h
  ·exact absurd (Nat.dvd_refl q) h
 obtain⟨O,lO,L,eO⟩:=dq;have B:(P.map λx=>(q:Int)*x).length=W.length:=by rw[aP];exact lP
 have lL:(ZI O).length=W.length:=by rw[Yf];exact lO
 have J:Qf [wP W,pP (P.map λx=>(q:Int)*x),pP (ZI O)]=aA (pP Z):=by
  have hsh:ZG W (P.map λx=>(q:Int)*x) (ZI O)=ZG W (P.map λx=>(q:Int)*x) O:=GA (- X2 O) B λi hi=>by rw[WI (l:=O) (by omega)];omega
  rw[L,<-hsh];exact Dg ok B (Ae B) (Ae lL)
 have qb : -(2^64)<(q:Int)/\(q:Int)<2^64:=by omega
 -- the last number of the row
 obtain⟨V,hV⟩:∃V:List Int,V=1::ZV m (λi=>E i i):=⟨_,rfl⟩
 have y:∃z:Int,ZJ (pP V) (.int (-1))=aA (.int z)/\z%(q:Int)=0:=by
  have lV:V.length=m+1:=by rw[hV,bp,ZL]
  refine⟨Zp V m,?_,?_⟩
  ·show So (iL V) (-1)=_;unfold So;have:Nj (iL V).length (-1)=aA m:=by rw[aP,lV];unfold Nj;rw[ng (by omega),nZ (by omega)];congr 1;omega
   rw[this,aT,QT (by omega)]
  ·cases m with
   | zero=>
    have:q=1:=q1 rfl;subst this;exact Int.emod_one _
   | succ j=>
    have:Zp V (j+1)=E j j:=by rw[hV];show Zp (ZV (j+1) λi=>E i i) j=_;exact YO (by omega)
    rw[this];exact Int.emod_eq_zero_of_dvd (ql j rfl)
 obtain⟨z,ez,zq⟩:=y
 -- the other purse
 obtain⟨mo,hmo⟩:∃mo:Int,mo=1+((GP (Yl u 21)).natAbs:Int):=⟨_,rfl⟩;have ob:=GQ (Yl u 21);obtain⟨d,S⟩:∃d:Int,d=1-2*((W.length:Int)%2):=⟨_,rfl⟩;have A:d=1\/d = -1:=by omega
 obtain⟨Q,hQ⟩:∃Q:List Int,Q=P.take m++[Zp P m+mo*d]:=⟨_,rfl⟩
 have sQ:Q.sum=mo*d:=by
  have e:P=P.take m++[Zp P m]:=by
   have h1:m<P.length:=by omega
   have:=kG m P;rw[List.drop_eq_getElem_cons h1,List.drop_of_length_le (by omega)] at this;have h2:Zp P m=P[m]:=by simp[Zp,aJ,aL h1]
   rw[h2];exact this.symm
  have s1:(P.take m).sum+Zp P m=0:=by
   have:(P.take m++[Zp P m]).sum=0:=by rw[<-e];exact sP
   rw[i8,g8,List.sum_nil] at this;omega
  rw[hQ,i8,g8,List.sum_nil];omega
 have M:Q.sum≠0:=by rw[sQ];rcases A with h | h<;>rw[h]<;>omega
 have T:Q.sum.natAbs<2^200:=by rw[sQ];rcases A with h | h<;>rw[h]<;>omega
 have ref:=JT (W:=W) M T;have c20:=XG w (k:=20) (by omega);have c21:=XG w (k:=21) (by omega);have I:=JP (LU F 21)
 -- the text
 refine LX (ZS (Zr (c2 rfl rfl eW)) (ZS (Zr (vP (c1 rfl E4))) (ZS (Zr (c2 rfl rfl eP)) (ZS (Zr (c2 rfl rfl eR)) (ZS (Zr (v:=pP V) (JE (o2 (a:=pP [1]) rfl (o2 (c1 rfl eX) rfl x4) ?_))) (ZS (gof ?_) (ZS (Zr (v:=pP Z) (JE (o2 (a:=.tup [.int 0]) rfl rfl ?_))) (ZS (Zr (JE (mulL qb (by omega) rfl rfl))) (ZS (Zr (c3 rfl rfl rfl eO)) (ZS (gof ?_) (UI (R:=λs=>∃x9,s=[aA (.cst (iL u)),aA (wP W),aA (.int (W.length:Int)),aA (pP P),aA (.int (q:Int)),aA (pP V),aA (pP Z),aA (pP (P.map λx=>(q:Int)*x)),aA (pP (ZI O)),x9,none,none]) ?_ ?_)))))))))))
 ·rw[My (by rw[fC,ZL];omega),hV];rfl
 ·refine kL (xo (p:=aB) (p2:=aB) (xn (xb (c1 rfl (Hh _)))) (kL (xo (p:=aB) (p2:=aB) (xb (kL (o2 rfl rfl rfl) ?_)) (xb (kL (o2 (vmd (a:=z) (b:=(q:Int)) (o2 rfl (un1 rfl rfl) ez) rfl) rfl (Ul aC _ 0)) ?_))) rfl)) rfl
  ·show aA (PV.bl (decide ((q:Int)<1)))=_;rw[decide_eq_false (by omega)]
  ·rw[zq];rfl
 ·rw[Dn hp (by omega),N]
 ·exact(xo (p:=aB) (p2:=aB) rfl (neq (c3 rfl rfl rfl J) rfl)).trans rfl
 ·refine IK (xb (vgt (a:=q) (b:=1) rfl rfl)) (λg=>?_) λg=>MR rfl ⟨none,rfl⟩;have g:=of_decide_eq_true g;obtain⟨v,hv,ev⟩:=Wr (Yl u 20) (t:=8) (m:=q-1) (by omega) (by omega);have nd:¬q∣v+1:=λh=>by have:=cz (by omega) h;omega
  have eN:Y3 [wP W,pP (P.map λx=>((v+1:Nat):Int)*x),pP Z]=aA .non:=by
   rcases H (v+1) (by omega) with⟨h,_⟩ | ⟨_,h⟩
   ·exact absurd h nd
   ·exact h
  refine WL (Zr (v:=.int ((v+1:Nat):Int)) (vP ((vad (a:=1) (b:=(v:Int)) rfl (c3 (b:=.int ((8:Nat):Int)) (c:=.int ((q-1:Nat):Int)) (c2 rfl rfl c20) rfl ((vsb rfl rfl).trans (by congr 2;omega)) ev)).trans (by congr 2;omega)))) (MR (gof ?_) ⟨_,rfl⟩);have:=mulL (k:=((v+1:Nat):Int)) (P:=P) (f:=Za 3) (s:=[aA (.cst (iL u)),aA (wP W),aA (.int (W.length:Int)),aA (pP P),aA (.int (q:Int)),aA (pP V),aA (pP Z),aA (pP (P.map λx=>(q:Int)*x)),aA (pP (ZI O)),aA (.int ((v+1:Nat):Int)),none,none]) (i:=9) (by omega) (by omega) rfl rfl;have e:Zc Y3 [Za 1,Zc ZN [Zu 1 [9] (TV (Za 3)) (.one 0) Zy (Zi WA (Za 1) (Za 0))],Za 6] [aA (.cst (iL u)),aA (wP W),aA (.int (W.length:Int)),aA (pP P),aA (.int (q:Int)),aA (pP V),aA (pP Z),aA (pP (P.map λx=>(q:Int)*x)),aA (pP (ZI O)),aA (.int ((v+1:Nat):Int)),none,none]=aA .non:=c3 rfl this rfl eN;refine xb ?_;unfold SE;exact(congrArg (λo=>m3 o (Fx aC)) e).trans rfl
 ·rintro s ⟨x9,rfl⟩;refine ZS (Zr (v:=.int mo) (vP ((vad (a:=1) (b:=((GP (Yl u 21)).natAbs:Int)) rfl (c1 (c1 (c2 rfl rfl c21) I) (JN _))).trans (by rw[hmo])))) (ZS (Zr (v:=pP Q) (JE (o2 (a:=pP (P.take m)) (b:=pP [Zp P m+mo*d]) (IJ rfl ((vsb rfl rfl).trans (by congr 2;omega)) (by omega)) ?_ ?_))) (Wf (ep ?_) rfl))
  ·have a1:Zi ZJ (Za 3) (Zi Y5 (Za 2) (eC (.int 1))) [aA (.cst (iL u)),aA (wP W),aA (.int (W.length:Int)),aA (pP P),aA (.int (q:Int)),aA (pP V),aA (pP Z),aA (pP (P.map λx=>(q:Int)*x)),aA (pP (ZI O)),x9,aA (.int mo),none]=aA (.int (Zp P m)):=o2 (b:=.int (m:Int)) rfl ((vsb rfl rfl).trans (by congr 2;omega)) (Xy (l:=P) (k:=m) (by omega));have a2:Zi Y5 (eC (.int 1)) (Zi WA (eC (.int 2)) (Zi Xq (Za 2) (eC (.int 2)))) [aA (.cst (iL u)),aA (wP W),aA (.int (W.length:Int)),aA (pP P),aA (.int (q:Int)),aA (pP V),aA (pP Z),aA (pP (P.map λx=>(q:Int)*x)),aA (pP (ZI O)),x9,aA (.int mo),none]=aA (.int d):=by rw[S];exact vsb rfl (vC (C:=CMul) (op:=(· * ·)) rfl (vmd (b:=2) rfl rfl) (FT (by decide)))
   have a3:=vad a1 (vC (C:=CMul) (op:=(· * ·)) (show Za 10 _=aA (.int mo) from rfl) a2 (.inr (by omega)));exact Zfo a3
  ·rw[My (by rw[bV,fC];omega),hQ]
  ·exact(ea (p:=aC) (p2:=aC) (c2 rfl rfl ref) ((Dy (c2 rfl rfl eR) rfl).trans (by rw[decide_eq_true rfl]))).trans rfl
end PW
namespace PW
open PySem L2 VL
section
open PySem.Spec PyProof.Rows VX
variable {P:au} {w:bc} {K:aD} {mg:a0->Option aE} {base:bH}
abbrev Wy:bS:=Zdj 0 (X5 9)
theorem JU{C f fI:aH}{e:eU}(m:Fun K "__init__" "NoTotal.__init__" Wy fI e)(d:exiIn K C veT "ValueError.__new__" fI=aC)(o:BInit K f "ValueError.__init__")(l:mg "PurseError" = aA (.ref f))(n:bN K (.ref C) "__setattr__" = aA (aA (.builtin "object.__setattr__")))(ve:veOver K C=aC)(tk:md K C "total" = aA none)(j:(jZ K C).any (·.hasDict)=aC) :
  Te P w K mg base OI 1 fI e ["self","total"] (spI C "total"):=
 m.ok (k:=0) (N:=["self","total"]) ⟨rfl,rfl,rfl,by decide +kernel,rfl,by decide +kernel,by decide +kernel⟩ (λ_ _ _ _ h=>h.1) λg A c s H vs Q E i h=>by refine⟨_,Tz (Wk (Ec (pl:=?pl) F.excBase_ValueError o d rfl l rfl (Z4 (pv 0) (Z4 (En i (pv 1)) Xv)))) (R0 (CB d n ve tk j rfl (pv 0) (pv 1))),?_⟩;exact HY (a:="self") (b:="total") h
end
theorem all_mk{P:au}{w:bc}{K:aD}{h:bH}{mg:a0->Option aE}{fa:aH}(X:K.In h)(G:h.Ns az mg)(hfa:mg "law" = aA (.ref fa))(B:XY mg)
  (d0:Def K mg "_law_cell" Pu)
  (d1:Def K mg "_law_part" Pw)
  (d2:Def K mg "_law_tie" N8)
  (d3:Def K mg "_law_web" N9)
  (d4:Def K mg "_law_flat" Px)
  (d5:Def K mg "ties_at" Rc)
  (d6:Def K mg "row_of" Py)
  (d7:Def K mg "square_without" XC)
  (d8:Def K mg "square_of" UB)
  (d9:Def K mg "unit_row" Tq)
  (d10:Def K mg "block_of" Tr)
  (d11:Def K mg "rows_to_clear" Wa)
  (d12:Def K mg "less" Jd)
  (d13:Def K mg "cleared_below" Wb)
  (d14:Def K mg "turned_over" Vb)
  (d15:Def K mg "crossed_out" Vc)
  (d16:Def K mg "unfit_row" UC)
  (d17:Def K mg "part_found" VV)
  (d18:Def K mg "divided" Rk)
  (d19:Def K mg "row_by_column" Wc)
  (d20:Def K mg "row_times" UD)
  (d21:Def K mg "multiplied" VZ)
  (d22:Def K mg "parts" Mg)
  (d23:Def K mg "total" Mh)
  (d24:Def K mg "by_row" PF)
  (d25:Def K mg "rests" Mi)
  (d26:Def K mg "common_divisor" XD)
  (d27:Def K mg "round_of" V0)
  (d28:Def K mg "reduced" Rr)
  (d29:Def K mg "evened" PH)
  (d30:Def K mg "solved_below" WG)
  (d31:Def K mg "nearing" Rt)
  (d32:Def K mg "gain" Jj)
  (d33:Def K mg "run" EA)
  (d34:Def K mg "in_debt" Ru)
  (d35:Def K mg "borrowing" UE)
  (d36:Def K mg "plus" Jm)
  (d37:Def K mg "least" Mm)
  (d38:Def K mg "ties_to" Rv)
  (d39:Def K mg "house_to_burn" Wd)
  (d40:Def K mg "burnt" Mn)
  (d41:Def K mg "settle" PJ)
  (d42:Def K mg "minus" Mo)
  (d43:Def K mg "alike" Mp)
  (d44:Def K mg "_law_whole" Rx)
  (d45:Def K mg "_law_other" Ry)
  (d46:Def K mg "_law_refused" UG)
  (d47:Def K mg "_law_run" Mr)
  (d48:Def K mg "_law_often" Rz)
  (d49:Def K mg "law" EH)
  {CNoWeb CApart CNoText CNoOrder CTooMany CNotSettled CNoTree CNoTotal CNoEnds CNoRow CNoName Cb fW:aH} {odW anW:Option aH} {slW:Array (Option aE)} {kVW dcW pmW cdW ctW:aE}
  (qNoWeb:b6 K az "NoWeb" = aA (aA (.ref CNoWeb)))
  (qApart:b6 K az "Apart" = aA (aA (.ref CApart)))
  (qNoText:b6 K az "NoText" = aA (aA (.ref CNoText)))
  (qNoOrder:b6 K az "NoOrder" = aA (aA (.ref CNoOrder)))
  (qTooMany:b6 K az "TooMany" = aA (aA (.ref CTooMany)))
  (qNotSettled:b6 K az "NotSettled" = aA (aA (.ref CNotSettled)))
  (qNoTree:b6 K az "NoTree" = aA (aA (.ref CNoTree)))
  (qNoTotal:b6 K az "NoTotal" = aA (aA (.ref CNoTotal)))
  (qNoEnds:b6 K az "NoEnds" = aA (aA (.ref CNoEnds)))
  (qNoRow:b6 K az "NoRow" = aA (aA (.ref CNoRow)))
  (qNoName:b6 K az "NoName" = aA (aA (.ref CNoName)))
  (qB:b6 K az "PurseError" = aA (aA (.ref Cb)))
  (xB:dM K Cb "BaseException" = aC)
  (g1:l4 K (.ref Cb) "__getattribute__" = aA (aA (.builtin "type.__getattribute__")))
  (g2:PySem.W.readsIn K Cb (.type "type")=aC)
  (g3:PySem.W.findCls K (.ref Cb) (.type "type") "__init__" = aA (.val (.builtin "ValueError.__init__")))
  (iW:bN K (.ref CNoTotal) "__init__" = aA (aA (.ref fW)))
  (lW:K.lookup fW=aA ⟨.type "function",odW,.func (cC "__init__" "NoTotal.__init__" (YE Wy) (ZY Wy) (Ze Wy) .none kVW dcW pmW anW cdW ctW),slW⟩)
  (cW:cZ K cdW "NoTotal.__init__" = aC)
  (kW:eV K (.ref fW)=aC)
  (eW:VX.exiIn K CNoTotal VX.veT "ValueError.__new__" fW=aC)
  (sW:bN K (.ref CNoTotal) "__setattr__" = aA (aA (.builtin "object.__setattr__")))
  (vW:VX.veOver K CNoTotal=aC)
  (uW:md K CNoTotal "total" = aA none)
  (hW:(jZ K CNoTotal).any (·.hasDict)=aC)
  (bW:VX.belowIn K CNoTotal Cb=aC)
  (nW:bN K (.ref CNoTotal) "total" = aA none)
  (x1W:dM K CNoTotal "BaseException" = aC)
  (x4W:bN K (.ref CNoTotal) "__getattribute__" = aA (aA (.builtin "BaseException.__getattribute__")))
  (x5W:bN K (.ref CNoTotal) "__getattr__" = aA none)
  (x6W:bN K (.ref CNoTotal) "__class__" = aA (aA (.builtin "object.__class__")))
  (x7W:iR K CNoTotal (.type "object")=aA aC)
  (x8W:aw K (.ref CNoTotal) (.type "ValueError")=aA aC)
  (tNoWebW:aw K (.ref CNoTotal) (.ref CNoWeb)=aA aB)
  (tApartW:aw K (.ref CNoTotal) (.ref CApart)=aA aB)
  (tNoTextW:aw K (.ref CNoTotal) (.ref CNoText)=aA aB)
  (tNoOrderW:aw K (.ref CNoTotal) (.ref CNoOrder)=aA aB)
  (tTooManyW:aw K (.ref CNoTotal) (.ref CTooMany)=aA aB)
  (tNotSettledW:aw K (.ref CNoTotal) (.ref CNotSettled)=aA aB)
  (tNoTreeW:aw K (.ref CNoTotal) (.ref CNoTree)=aA aB)
  (tNoTotalW:aw K (.ref CNoTotal) (.ref CNoTotal)=aA aC)
  (tNoEndsW:aw K (.ref CNoTotal) (.ref CNoEnds)=aA aB)
  (tNoRowW:aw K (.ref CNoTotal) (.ref CNoRow)=aA aB)
  (tNoNameW:aw K (.ref CNoTotal) (.ref CNoName)=aA aB)
  (sbW:VX.belowIn K CNoTotal CNoTotal=aC)
  : ∃fd:eU,(∀(s:aI)(u:aE),k9 s fd ⟨[u],[]⟩ [("_law_script_here",u)])/\∀base:bH,K.In base->base.Ns az mg->Te P w K mg base OI 8 fa fd ["_law_script_here"] (YS K D_law 1):=by
 have mB:=cU X G qB;have BI:VX.BInit K Cb "ValueError.__init__":=⟨g1,g2,g3⟩;have FW:Fun K "__init__" "NoTotal.__init__" Wy fW _:=Fi (st:=Wy) lW cW kW
 have QW:∀base:bH,VX.QF "NoTotal" P w K mg base CNoTotal Cb:=λbase=>
  ⟨qNoTotal,cU X G qNoTotal,⟨fW,_,_,eW,lW,rfl,FW.binds (λ_ _ _ _ _ _ us hl=>match us,hl with | [_,_],_=>rfl),JU FW eW BI mB sW vW uW hW⟩,⟨qNoTotal,⟨x4W,x5W,x6W,x7W,x1W⟩,nW,hW⟩,bW,λcx hc=>by
   unfold VX.nms at hc;simp only[aa,dG,or_false] at hc;rcases hc with rfl | rfl | rfl | rfl | rfl | rfl | rfl | rfl | rfl | rfl | rfl
   ·exact⟨CNoWeb,cU X G qNoWeb,tNoWebW⟩
   ·exact⟨CApart,cU X G qApart,tApartW⟩
   ·exact⟨CNoText,cU X G qNoText,tNoTextW⟩
   ·exact⟨CNoOrder,cU X G qNoOrder,tNoOrderW⟩
   ·exact⟨CTooMany,cU X G qTooMany,tTooManyW⟩
   ·exact⟨CNotSettled,cU X G qNotSettled,tNotSettledW⟩
   ·exact⟨CNoTree,cU X G qNoTree,tNoTreeW⟩
   ·exact⟨CNoTotal,cU X G qNoTotal,tNoTotalW⟩
   ·exact⟨CNoEnds,cU X G qNoEnds,tNoEndsW⟩
   ·exact⟨CNoRow,cU X G qNoRow,tNoRowW⟩
   ·exact⟨CNoName,cU X G qNoName,tNoNameW⟩,x8W⟩
 refine FL d49 hfa (λ_ _ _ _ _ _ _=>rfl) λbase f fd _ _ F=>?_;have Q:VX.Q3 "NoTotal" P w K mg base CNoTotal Cb:=⟨mB,xB,QW base,sbW⟩;have C_m_cell:Uv P w K mg base:=Gm d0 B;have C_l_part:Se P w K mg base:=Gn d1 B;have C_l_tie:=Et (P:=P) (w:=w) (base:=base) d2 B;have C_l_web:N1 P w K mg base:=Eu d3 B C_m_cell C_l_part C_l_tie;have C_l_flat:Pn P w K mg base:=Gp d4 B C_m_cell;have C_ties_at:S4 P w K mg base:=Jc d5 B;have C_row_of:Po P w K mg base:=Gr d6 B C_ties_at;have C_square_without:YY P w K mg base:=Sf d7 B C_row_of;have C_square_of:Uw P w K mg base:=Mc d8 B C_square_without;have C_unit_row:To P w K mg base:=LO d9 B;have C_block_of:Tp P w K mg base:=LP d10 B C_unit_row;have C_rows_to_clear:X6 P w K mg base:=Rh d11 B;have C_less:N2 P w K mg base:=CY d12 B;have C_cleared_below:X7 P w K mg base:=Rj d13 B C_rows_to_clear C_less;have C_turned_over:W9 P w K mg base:=PB d14 B;have C_crossed_out:Va P w K mg base:=PD d15 B C_cleared_below C_turned_over;have C_unfit_row:Ux P w K mg base:=Md d16 B;have C_part_found:VQ P w K mg base:=Oo d17 B C_crossed_out C_unfit_row C_less;have C_divided:S5 P w K mg base:=Jf d18 B;have C_row_by_column:X8 P w K mg base:=Rq d19 B;have C_row_times:Uy P w K mg base:=Mf d20 B C_row_by_column;have C_multiplied:VR P w K mg base:=Ot d21 B C_row_times;have C_parts:Qh P w K mg base:=Ew d22 B C_square_of C_block_of C_part_found C_divided C_multiplied;have C_total:Qi P w K mg base:=Ey d23 B;have C_by_row:Pp P w K mg base:=Gu d24 B;have C_rests:N3 P w K mg base:=Ez d25 B C_by_row;have C_common_divisor:XB P w K mg base:=Sg d26 B;have C_round_of:VU P w K mg base:=LQ d27 B C_total C_parts C_rests C_common_divisor;have X_round_of:=Mj (P:=P) (w:=w) (base:=base) d27 B Q C_total;have C_reduced:S6 P w K mg base:=Jh d28 B;have C_evened:Pq P w K mg base:=Gv d29 B C_reduced;have C_solved_below:WE P w K mg base:=RY d30 B C_evened;have C_nearing:S7 P w K mg base:=Ji d31 B C_solved_below C_square_without;have C_gain:K9 P w K mg base:=C0 d32 B;have C_run:Es P w K mg base:=Za2 d33 B C_gain;have C_in_debt:S8 P w K mg base:=Jl d34 B;have C_borrowing:Uz P w K mg base:=Ml d35 B;have C_plus:Ja P w K mg base:=C2 d36 B;have C_least:Qj P w K mg base:=EB d37 B;have C_ties_to:S9 P w K mg base:=Jo d38 B;have C_house_to_burn:X9 P w K mg base:=Rw d39 B C_ties_to;have C_burnt:N4 P w K mg base:=EC d40 B C_house_to_burn;have C_settle:Pr P w K mg base:=Gw d41 B C_nearing C_run C_in_debt C_borrowing C_plus C_burnt C_least;have C_minus:N5 P w K mg base:=EE d42 B;have C_alike:N6 P w K mg base:=EF d43 B C_settle C_least C_minus;have C_l_whole:U0 P w K mg base:=Jq d44 B;have C_l_other:=Js (P:=P) (w:=w) (base:=base) d45 B  Q;have C_l_refused:UA P w K mg base:=Mq d46 B C_round_of C_l_other C_l_whole Q X_round_of;have C_l_run:N7 P w K mg base:=EG d47 B;have C_m_often:Ra P w K mg base:=Ju d48 B;exact Za3 F B C_l_web C_l_flat C_round_of C_parts C_l_whole C_alike C_l_run C_l_part C_m_cell C_m_often C_l_refused
end PW
namespace PySem.W.Fast
def tw8559425622386493430:=()
def tw13390030037639208613:=()
def tw5187464601173531147:=()
def tw3941807594198547752:=()
def tw11719039306269759840:=()
def tw10016487210935995107:=()
def tw13116482342710766801:=()
def tw711103874628892650:=()
def tw9646229729933763611:=()
def tw7070216728183962218:=()
def tw13033189192723613519:=()
def tw16322002317784107380:=()
def tw12879455961795339426:=()
def tw12297880160626992330:=()
def tw6086311043112511634:=()
def tw11676177552721556099:=()
def tw14214747776857563126:=()
def tw15445563857347861558:=()
def tw6644393053471267923:=()
def tw10972436856471818896:=()
def tw10973164976533976653:=()
def tw15701564101641774246:=()
def tw13987553501389745380:=()
def tw3421965379603001755:=()
def tw5039611766260626885:=()
def tw6297859814821463075:=()
def tw2941001384696980627:=()
def tw12951480027866104290:=()
def tw7597941220322196220:=()
def tw13266432701197315560:=()
def tw9013041628081364320:=()
def tw5284098152816008088:=()
def tw11077713814339020466:=()
def tw17183905457007457798:=()
def tw4493646130342324178:=()
def tw16785956791244746109:=()
def tw6873790831251253251:=()
def tw10416306459208574844:=()
def tw8518226198242612543:=()
def tw5867251881939714092:=()
def tw2134119614256843520:=()
def tw6285842792699252186:=()
def tw1723271464105775814:=()
def tw3501311040966091753:=()
def tw8549457018722054359:=()
def tw967051970575665157:=()
def tw4829892470060433445:=()
def tw10979331274645060260:=()
def tw17218385026286513147:=()
def tw5786813562151481934:=()
def tw16468101856746145372:=()
def tw6348751501834167850:=()
def tw13230553594739193723:=()
def tw11183498134350196338:=()
def tw10591753385612920892:=()
def tw10974993634957626850:=()
def tw1249306511724182308:=()
def tw8506281270845796410:=()
def tw16909813096025979416:=()
def tw3713183983539038500:=()
def tw11431559542598656016:=()
def tw3858641463419895019:=()
def tw5393400416574515876:=()
def tw16834300557526217375:=()
def tw10121038539605018025:=()
def tw11588158877938262163:=()
def tw2205539874449739550:=()
def tw15467820087887760711:=()
def tw15167983848460580071:=()
def tw13982870013415807681:=()
def tw15761682059756415332:=()
def tw5982487116950729329:=()
def tw8515500236161675954:=()
def tw8938002793734052205:=()
def tw12850883777465699220:=()
def tw578210154292687393:=()
def tw3882139959550026591:=()
def tw14313987957970599893:=()
def tw9900574450900291067:=()
def tw7529517614341929453:=()
def tw18187862299894058011:=()
def tw15204352983507678337:=()
def tw3380813960563999237:=()
def tw4726313789554635847:=()
def tw2233213098728032342:=()
def tw3947837798952309950:=()
def tw13151948593459963918:=()
def tw1275837860444195482:=()
def tw11227778873971442800:=()
def tw12736198224656504123:=()
def tw3988886272445603527:=()
def tw528828594443748694:=()
def tw11874349048113819374:=()
def tw3206112202480622736:=()
def tw49749790208570989:=()
def tw18387964460531645536:=()
def tw17095918738120262142:=()
def tw12857800136058948572:=()
def tw12232277075628926977:=()
def tw2827115993327553031:=()
def tw7191068486636337139:=()
def tw6586464573260712435:=()
def tw6952464777055605605:=()
def tw14192485905426821502:=()
def tw5557392060219788415:=()
def tw1985610148348548774:=()
def tw8362681920716433200:=()
def tw1114846951464272332:=()
def tw538830432261456065:=()
def tw16356334643965928509:=()
def tw4599352699766443104:=()
def tw17678434922334779916:=()
def tw8809129188854234015:=()
def tw10863353186010630711:=()
def tw7631080866226897721:=()
def tw18265262342519623771:=()
def tw1522848557140102924:=()
def tw6698260775711755150:=()
def tw5402113956884282042:=()
def tw4474483160315846905:=()
def tw2717932560749062168:=()
def tw15791769263062135793:=()
def tw9339890296911548568:=()
def tw6421045220714265758:=()
def tw674647128021682960:=()
def tw1262505532017492606:=()
def tw14674314976761060493:=()
def tw9342552630373646347:=()
def tw8766810671061995069:=()
def tw12660828111014412862:=()
def tw7732801947022188743:=()
def tw7998174199218332520:=()
def tw8826277513116970725:=()
def tw10059006427302171177:=()
def tw4626595491928024126:=()
def tw15247393293421328833:=()
def tw4045860459470821971:=()
def tw17075343029666373857:=()
def tw583029045625263159:=()
def tw17626597567802654578:=()
def tw18029531428097728145:=()
def tw6700311541609888994:=()
def tw1275121467828927369:=()
def tw1919043220744876938:=()
def tw17046179620136157493:=()
def tw1365246035129547641:=()
def tw510573140045035462:=()
def tw9658897537616034116:=()
def tw14352271329554640421:=()
def tw14687768404163218749:=()
def tw2329702699993957398:=()
end PySem.W.Fast
open PySem PySem.W PyProof.Rows
set_option maxRecDepth 100000 in
set_option maxHeartbeats 0 in
theorem PySem.Challenge.cw_purseweb_k67_whole_rounds_holds : PySem.Challenge.rw_purseweb_k67_whole_rounds.Holds := by
 w_on;o_law;k_head;(case hw=>w_witness2)
 k_fill
 refine VL.law_walkB (l:=jh) (D:=PW.D_law) (x:="_law_script_here") 8 rfl rfl ⟨rfl,by decide,by decide,rfl⟩ (λw=>VL.noLam (by kernel_rfl)) PW.law_true (λw h Y=>PySem.W.kIn_of Y) ?F
 case F=>
  intro w mg fa h KX G hmg
  refine' PW.all_mk KX G hmg ?B ?d0 ?d1 ?d2 ?d3 ?d4 ?d5 ?d6 ?d7 ?d8 ?d9 ?d10 ?d11 ?d12 ?d13 ?d14 ?d15 ?d16 ?d17 ?d18 ?d19 ?d20 ?d21 ?d22 ?d23 ?d24 ?d25 ?d26 ?d27 ?d28 ?d29 ?d30 ?d31 ?d32 ?d33 ?d34 ?d35 ?d36 ?d37 ?d38 ?d39 ?d40 ?d41 ?d42 ?d43 ?d44 ?d45 ?d46 ?d47 ?d48 ?d49 ?qNoWeb ?qApart ?qNoText ?qNoOrder ?qTooMany ?qNotSettled ?qNoTree ?qNoTotal ?qNoEnds ?qNoRow ?qNoName ?qB ?xB ?g1 ?g2 ?g3 ?iW ?lW ?cW ?kW ?eW ?sW ?vW ?uW ?hW ?bW ?nW ?x1W ?x4W ?x5W ?x6W ?x7W ?x8W ?tNoWebW ?tApartW ?tNoTextW ?tNoOrderW ?tTooManyW ?tNotSettledW ?tNoTreeW ?tNoTotalW ?tNoEndsW ?tNoRowW ?tNoNameW ?sbW
  case B=>constructor<;>(refine PySem.W.mg_none_of KX G ?_;k_is)
  case d0 | d1 | d2 | d3 | d4 | d5 | d6 | d7 | d8 | d9 | d10 | d11 | d12 | d13 | d14 | d15 | d16 | d17 | d18 | d19 | d20 | d21 | d22 | d23 | d24 | d25 | d26 | d27 | d28 | d29 | d30 | d31 | d32 | d33 | d34 | d35 | d36 | d37 | d38 | d39 | d40 | d41 | d42 | d43 | d44 | d45 | d46 | d47 | d48 | d49=>(refine' L2.def_mk KX G ?a ?l ?c ?k;(case a=>k_is);(case l=>k_is);(case c=>k_is);(case k=>k_is))
  (case qNoWeb=>k_is)
  (case qApart=>k_is)
  (case qNoText=>k_is)
  (case qNoOrder=>k_is)
  (case qTooMany=>k_is)
  (case qNotSettled=>k_is)
  (case qNoTree=>k_is)
  (case qNoTotal=>k_is)
  (case qNoEnds=>k_is)
  (case qNoRow=>k_is)
  (case qNoName=>k_is)
  (case qB=>k_is)
  (case xB=>kernel_rfl)
  (case g1=>kernel_rfl)
  (case g2=>kernel_rfl)
  (case g3=>kernel_rfl)
  (case iW=>k_is)
  (case lW=>k_is)
  (case cW=>k_is)
  (case kW=>k_is)
  (case eW=>kernel_rfl)
  (case sW=>k_is)
  (case vW=>kernel_rfl)
  (case uW=>kernel_rfl)
  (case hW=>kernel_rfl)
  (case bW=>kernel_rfl)
  (case nW=>k_is)
  (case x1W=>kernel_rfl)
  (case x4W=>k_is)
  (case x5W=>k_is)
  (case x6W=>k_is)
  (case x7W=>k_is)
  (case x8W=>kernel_rfl)
  (case tNoWebW=>kernel_rfl)
  (case tApartW=>kernel_rfl)
  (case tNoTextW=>kernel_rfl)
  (case tNoOrderW=>kernel_rfl)
  (case tTooManyW=>kernel_rfl)
  (case tNotSettledW=>kernel_rfl)
  (case tNoTreeW=>kernel_rfl)
  (case tNoTotalW=>kernel_rfl)
  (case tNoEndsW=>kernel_rfl)
  (case tNoRowW=>kernel_rfl)
  (case tNoNameW=>kernel_rfl)
  (case sbW=>kernel_rfl)
