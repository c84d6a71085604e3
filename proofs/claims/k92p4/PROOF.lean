import PyProof.Rows.All
import Wide.All
import OpenK.AllK
import Wide.FinOn
import Lean
import PyProof.EqAt
import PyProof.EqKinds
import PyProof.TupleCall
import PyProof.NeKinds
import PyProof.ListMulRoad
import PyProof.WalkInts
import PyProof.ListRange
import KE.KRevIter
import KE.KSortTup
import KE.KDictSum
import PyProof.Rows.SortWalk
import PyProof.ExcInit
import PyProof.InstStoreFacts
import OpenK.KMake
import OpenK.KCls
import PyProof.FString2
import PyProof.TupleOfSeq
import KE.KUnpack
import PySem.Challenge.RW_purseweb_k92_whole_two_roads_to_alike
open Option renaming some → aA,bind_some → aY,isSome_iff_exists → cA,map_some → fJ,getD_none → kO,bind → k3,none → lH,some → ax
open Bool renaming false → aB,true → aC,false_ne_true → bO,and_eq_true → ba,eq_iff_iff → f9
open List renaming getD_eq_getElem?_getD → aD,range → aF,getElem?_eq_getElem → aG,length_map → aM,getElem?_eq_some_iff → aQ,size_toArray → aR,mem_range → aS,mem_cons_of_mem → aT,getElem?_map → aU,replicate → aV,getElem?_append_left → aZ,mem_cons_self → aa,mem_cons → af,mem_singleton → ah,mem_append_right → aj,map_congr_left → ao,all_eq_true → ar,length_append → au,length_take → ay,getElem?_append_right → bH,getElem?_range → bI,length_drop → bK,getElem?_set → bQ,nodup_cons → bU,getElem?_replicate → bV,getElem?_eq_none → bX,lookup_cons → bY,mem_append → b6,take_of_length_le → b7,mem_map → bc,mem_append_left → bg,length_range → bu,mem_of_getElem? → cE,length_cons → cH,length_set → cS,map_append → cT,nodup_nil → cg,ext_getElem? → dE,map_map → dF,length_replicate → dI,getElem?_drop → dM,not_mem_nil → dN,getElem_mem → dO,getElem?_take_of_lt → dQ,replicate_succ → dh,length_pos_iff → di,getElem_of_mem → dj,length_singleton → eH,append_nil → eK,mem_iff_getElem → eU,map_cons → eV,take_length → fA,any_eq_true → fC,flatten_cons → fL,nodup_append → fM,mem_of_mem_take → fO,length_eq_zero_iff → gE,any_eq_false → gH,append_assoc → gO,drop_eq_nil_of_le → gQ,drop_zero → gU,take_succ_eq_append_getElem → gV,filter_cons → g6,length → g9,mem_filter → gj,range_succ → gn,filterMap_cons → gq,getElem?_zip_eq_some → iK,mem_of_find?_eq_some → iM,all_cons → iT,set_eq_of_length_le → iU,map_take → iX,map_drop → iY,getElem?_set_self → ig,of_mem_zip → jE,getElem?_set_ne → jK,take_zero → jT,mem_of_mem_drop → jU,mem_filterMap → jc,foldl → jf,zip_cons_cons → ji,find?_eq_none → jl,take_sublist → jx,all_map → kC,map_set → kD,map → kE,getElem_inj → kL,sum_append → k4,find?_some → k6,take_left' → k7,take_succ → ko,range_add → kq,take_nil → kr,drop_nil → ku,sum_cons → ky
open PySem.W renaming Frag → aE,kia_one → cQ,codeIn → cz,kitOne → dC,fnOf → dD,keepIn → gL,cellsFrom_some → ik,nsIn → iu,instObj → jC,lookIn → jN,kitx_list → jt,kitx_dict → ju,plainGet → kM,findIn → kf
open PySem.Heap renaming get?_push_of_some → aH,lt_size → aW,get?_push_size → ag,size_push → cG,SameBut → cj,get?_update_other → ip,get?_update_self → jJ,ExtBut → kX
open PySem renaming Value → aI,Addr → aL,wpAny_bind → aN,Shared → aO,starEach → aX,wpAny_pure → ak,Str → aq,Expr → az,wpAny → bJ,Program → b9,foldedSetIterable → bj,Heap → bp,Stmt → bq,Around → cL,World → cW,wpAny_truthy_bool → cX,wpAny_field → cY,behindInMarks → c9,mainGlobals → cq,wpAny_mono → dA,mem_of_lookup → dH,bootBuiltins → dP,binaryOp → dU,wpAny_callSpecial?_slot → dY,wpAny_newObj_type → dZ,Obj → df,Scope → dw,NameKind → dy,wpAny_seqItems → dz,wpAny_setField_rec → eD,wpAny_passesOwn → eJ,FuncData → eh,compareOp → fK,IsPair → fN,Pos → fS,wpAny_call_entry → fU,wpAny_comprehension_free → f7,wpAny_ite_false → fj,backTo → fu,call_meets → gA,sliceBounds → gD,cLine → gJ,wpAny_updateSeq_pair → gg,wpAny_execs_nil → gk,wpAny_loadPart' → gm,swapsWith → gy,cellsFrom → gz,assignEach → hV,wpAny_Call_Name_kw → hW,newFunctionEnv → iA,wpAny_binaryOp_repeat_ref → iI,wpAny_holding → iR,wpAny_onRaise → iS,bindArgs → i6,noFill_tuple_add → i7,codeAny → ij,typeIs_int → ir,letOwnedTupleGo → jD,IsZip → jF,wpAny_isTrue_Compare1 → jI,rawInt → jL,sizeLine_eq → jM,recursionLimit → jO,compEnvC → jQ,PassesOwn → jZ,notedBy → j1,Builtin → j2,wpAny_standAt → j8,seq_tuple_add → j9,builtinsNs → ja,wpAny_pyIter_tuple → jb,IsPart → jd,BindsTo → jv,codeAny_mono → jw,concat_meets → jy,seqIndex_neg → jz,callerA → kA,Env → kK,pushCells → kQ,CmpOp → kU,seqIndex_of → kW,wpAny_letGo → kY,getItem → kb,isTrue → kd,wpAny_Name → ke,bindL → kg,bindC → kh,wpAny_rule → kj,Within → kz,pyNext → lF,Result → lG
open Nat renaming le_refl → aJ,le_trans → aP,lt_of_lt_of_le → a9,lt_of_le_of_lt → av,ne_of_lt → bC,le_mul_of_pos_right → br,mul_le_mul_left → cI,one_le_two_pow → cO,lt_irrefl → cP,le_of_lt → cU,min_eq_left → ck,mul_le_mul_right → cu,pow_lt_pow_right → cw,le_of_dvd → cy,mul_le_mul → dG,zero_le → dW,gcd → dc,mul_assoc → du,gcd_pos_of_pos_right → eZ,le_add_right → el,mul_comm → fF,pow_succ → fH,mod_lt → fR,ne_of_gt → fT,mod_eq_of_lt → fV,le_succ_of_le → gR,gcd_dvd_right → gX,lt_succ_self → gZ,sub_zero → gu,not_lt → iB,dvd_trans → i5,min_eq_right → i8,le_succ → jR,add_le_add_right → jW,one_le_pow → jX,add_left_cancel → j5,lt_of_le_of_ne → jn,div_mul_cancel → jo,mod_eq_sub_mod → jr,lt_succ_of_lt → kB,lt_trichotomy → kF,mul_left_comm → kG,dvd_mul_right → kH,add_mul → kZ,strongRecOn → k5,div_add_mod → k8
open Option.some renaming inj → aw
open Int renaming mul_comm → bG,mul_assoc → bh,mul_zero → bz,neg_mul → cC,zero_mul → cD,natAbs_dvd_natAbs → cJ,toNat_natCast → cK,mul_nonneg → cN,dvd_zero → cV,mul_left_comm → cZ,fdiv_eq_ediv_of_nonneg → dB,natAbs_mul → dX,le_refl → dk,mul_sub → dt,mul_fdiv_cancel_left → eY,mul_le_mul_of_nonneg_left → fD,lt_or_gt_of_ne → fG,mul_add → fP,one_mul → fQ,le_of_mul_le_mul_left → fW,natCast_dvd_natCast → gG,fdiv → gS,dvd_refl → gW,mul_le_mul_of_nonneg_right → g7,mul_one → g8,emod_nonneg → gp,add_zero → gs,le_of_lt → gv,sub_zero → gw,zero_dvd → gx,not_lt → iC,natCast_nonneg → iD,natAbs_neg → iE,emod_lt_of_pos → iG,eq_of_mul_eq_mul_left → iN,mul_neg_of_neg_of_pos → iO,mul_neg → iP,natAbs_sub_le → iQ,lt_mul_ediv_self_add → iZ,dvd_mul_of_dvd_right → i0,eq_ofNat_of_zero_le → ic,fmod_nonneg_of_pos → jB,natCast_mul → jH,add_mul → jS,mul_ediv_self_le → jV,toNat_of_nonneg → j6,fmod_lt_of_pos → jm,natAbs_natCast → jq,dvd_mul_right → kI,neg_fdiv_neg → kR,natCast_ediv → kS,natCast_emod → kT
open Ne renaming symm → bN
open PySem.NameKind renaming free → bW,cell → cB
open Classical renaming byContradiction → bb,axiomOfChoice → gF
open PySem.F renaming plainAttrs_list → cM,slot_list_append → dR,type_list_append → dS,args_tuple_add_2 → fZ,entry_tuple_add → gC,slot_tuple_add → gM,slot_list_insert → iV,type_list_insert → iW
open PyProof.Rows renaming callWith_type1 → cx,slot_tuple_getitem → e7,envOfC → gY,AllBare → ie,subscriptTail_builtinR → il,Constant_none → j7,floordiv_int → js
open True renaming intro → dJ
open PySem.Builtin.Slice renaming slicePlaces → eI,sliceAdjust → iH
open PySem.PassesOwn renaming never → eQ
open False renaming elim → fE
open ForInStep renaming yield → fI
open Array renaming length_toList → fX,toList_append → j3,toList → lC
open PySem.Builtin.Int renaming intBits → fY
open PySem.Builtin.List renaming listTooLong → f6
open Eq renaming trans → gP
open PySem.Challenge renaming pw_purseweb_k92_whole_two_roads_to_alike → gh,rw_purseweb_k92_whole_two_roads_to_alike → gi
open PySem.Calls renaming Name_function_global → hU
open PySem.Builtin.SmallTypes renaming nextOf → iJ
open PySem.W.WData renaming weightAll → i9,int → kP
open PySem.SeqAt renaming EqAt → jA
open PySem.SeqAt.EqAt renaming same → jG,of_refs → jj
open Or renaming inr → jP,inl → jg
open PySem.Value renaming int → jY,ref → kJ,type → kc
open PySem.Heap.SameBut renaming update → j4
open PySem.Obj renaming mapSeq → je,data_mapFields → jh
open PyProof.Rows.IsTup renaming new → kN
open Sum renaming inl → k9,inr → ka
open PySem.Shared renaming heap → lI
open PySem.PylongRoom renaming of → lJ
theorem lQ.{u}{c:Prop}{h:Decidable c}(b:c){a:Sort u}{t e:a}:ite c t e=t:=if_pos b
theorem lU.{u}{c:Prop}{h:Decidable c}(b:Not c){a:Sort u}{t e:a}:ite c t e=e:=if_neg b
noncomputable section
set_option Elab.async false
set_option linter.all false
set_option maxRecDepth 100000
namespace L2
open PySem PySem.Spec PyProof.Rows
abbrev Of:=Sum Int aq
noncomputable def CG:Of->aI->Bool
 | .inl k,v=>aI.isInt k v
 | .inr x,v=>aI.isStrOf x v
noncomputable def Zcj(w:cW):Of->Int
 | .inl k=>hashInt k
 | .inr x=>hashStr w x
theorem Yr:∀{k:Of}{v:aI},CG k v=aC->(∃i t,k=k9 i/\v=jY i t)\/(∃x t,k=ka x/\v=aI.str x t)
 | .inl i,v,h=>by obtain⟨t,e⟩:=aI.isInt_shape h;exact .inl ⟨i,t,rfl,e⟩
 | .inr x,v,h=>by obtain⟨t,e⟩:=aI.isStrOf_shape h;exact .inr ⟨x,t,rfl,e⟩
theorem Bi(a b:Int):decide ((k9 a:Of)=k9 b)=(a==b):=by grind
theorem Bj(a b:aq):decide ((ka a:Of)=ka b)=decide (a=b):=by simp
theorem Bk(a:Int)(b:aq):decide ((k9 a:Of)=ka b)=aB:=decide_eq_false (λq=>nomatch q)
theorem Bm(a:aq)(b:Int):decide ((ka a:Of)=k9 b)=aB:=decide_eq_false (λq=>nomatch q)
noncomputable def Ji(prog:b9)(w:cW):PySem.KeyKind prog w Of where
 is:=CG
 hash:=Zcj w
 inj:=λv a b ha hb=>by
  rcases Yr ha with⟨i,t,rfl,rfl⟩ | ⟨x,t,rfl,rfl⟩
  ·rcases Yr hb with⟨j,u,rfl,e⟩ | ⟨y,u,rfl,e⟩
   ·injection e with e1 _;rw[e1]
   ·exact nomatch e
  ·rcases Yr hb with⟨j,u,rfl,e⟩ | ⟨y,u,rfl,e⟩
   ·exact nomatch e
   ·injection e with e1 _;rw[e1]
 byValue:=λk v h=>by rcases Yr h with⟨i,t,rfl,rfl⟩ | ⟨x,t,rfl,rfl⟩<;>rfl
 pyHash:=λhv h=>by
  rcases Yr hv with⟨i,t,rfl,rfl⟩ | ⟨x,t,rfl,rfl⟩
  ·exact wpAny_pyHash_int h
  ·exact wpAny_pyHash_str h
 eqBool:=λhu hv h=>by
  rcases Yr hu with⟨i,t,rfl,rfl⟩ | ⟨x,t,rfl,rfl⟩
  ·rcases Yr hv with⟨j,u,rfl,rfl⟩ | ⟨y,u,rfl,rfl⟩
   ·rw[Bi] at h;exact wpAny_eqBool_int h
   ·rw[Bk] at h;exact jA.int_str i t y u _ _ _ _ h
  ·rcases Yr hv with⟨j,u,rfl,rfl⟩ | ⟨y,u,rfl,rfl⟩
   ·rw[Bm] at h;exact jA.str_int x t j u _ _ _ _ h
   ·rw[Bj] at h;exact wpAny_eqBool_str h
 «strs»:=λk x t v h=>by
  rcases Yr h with⟨i,u,rfl,e⟩ | ⟨y,u,rfl,e⟩
  ·exact nomatch e
  ·injection e with e1 _;subst e1;cases v<;>rfl
inductive V where
 | non | bl (b:Bool) | int (i:Int) | str (x:aq) | byt (b:Array UInt8) | flt (b:UInt64) | ref (a:aL) | ty (n:String)
 deriving DecidableEq
noncomputable def RelV:V->aI->Prop
 | .non,u=>u=aI.none
 | .bl b,u=>u=aI.bool b
 | .int i,u=>∃t,u=jY i t
 | .str x,u=>∃t,u=aI.str x t
 | .byt b,u=>∃t,u=aI.bytes b t
 | .flt b,u=>∃t,u=aI.float b t
 | .ref a,u=>u=kJ a
 | .ty n,u=>u=kc n
abbrev Vals:List V->List aI->Prop:=Paired RelV
theorem Vals.length{b:List V}{a:List aI}(r:Vals b a):b.length=a.length:=Paired.length r
theorem Vals.get:∀{xs:List V}{us:List aI}{i:Nat}{x:V},Vals xs us->xs[i]?=aA x->∃u,us[i]?=aA u/\RelV x u
 | _,_,_,_,.nil,e=>by simp at e
 | _,_,0,_,.cons r _,e=>by simp at e;subst e;exact⟨_,rfl,r⟩
 | _,_,i+1,x,.cons _ t,e=>by obtain⟨u,b,a⟩:=Vals.get (i:=i) (x:=x) t (by simpa using e);exact⟨u,by simpa using b,a⟩
theorem Vals.set{x:V}{u:aI}(r:RelV x u):∀{xs:List V}{us:List aI}(i:Nat),Vals xs us->Vals (xs.set i x) (us.set i u)
 | _,_,_,.nil=>.nil
 | _,_,0,.cons _ t=>.cons r t
 | _,_,i+1,.cons q t=>.cons q (Vals.set r i t)
theorem Vals.append:∀{xs ys:List V}{us ws:List aI},Vals xs us->Vals ys ws->Vals (xs++ys) (us++ws)
 | _,_,_,_,.nil,s=>s
 | _,_,_,_,.cons r t,s=>.cons r (Vals.append t s)
theorem Vals.take:∀{xs:List V}{us:List aI}(n:Nat),Vals xs us->Vals (xs.take n) (us.take n)
 | _,_,0,_=>.nil
 | _,_,_+1,.nil=>.nil
 | _,_,n+1,.cons r t=>.cons r (Vals.take n t)
theorem Vals.drop:∀{xs:List V}{us:List aI}(n:Nat),Vals xs us->Vals (xs.drop n) (us.drop n)
 | _,_,0,r=>r
 | _,_,_+1,.nil=>.nil
 | _,_,n+1,.cons _ t=>Vals.drop n t
noncomputable def Bn:Option V->Option aI->Prop
 | some v,aA u=>RelV v u
 | none,none=>True
 | _,_=>False
noncomputable def KV{κ:Type}:List (κ×V)->List (κ×aI)->Prop:=Paired λ(p:κ×V) (q:κ×aI)=>p.1=q.1/\RelV p.2 q.2
noncomputable def kV:Of->V
 | .inl i=>.int i
 | .inr x=>.str x
inductive HO where
 /-- a list -/
 | lst (xs:List V)
 /-- a tuple (never changes) -/
 | tup (xs:List V)
 /-- a dict whose keys are ints and texts;one whose keys are tuples of ints and texts (the empty one is both) -/
 | dK (l6:List (Of×V)) | dT (l6:List (List Of×V))
 /-- a set of ints: lK members,lK size -/
 | set (S:Int->Bool) (n:Nat)
 /-- an instance of the class at C,lK dict at dx,lK attributes -/
 | ins (C dx:aL) (fs:List (aq×V))
 /-- the dict of the instance at x -/
 | own (x:aL)
 /-- the dict of an exception -/
 | xd (fs:List (aq×V))
 /-- a bound method,f of x -/
 | met (f x:aL)
 /-- a range object lo,lo+1,.. below hi -/
 | rng (lo hi:Int)
 /-- a thing that is known to the object (the script;a dict while a loop walks it): read,never written while it is so -/
 | frz (o:df) (u:HO)
 /-- a code object's table -/
 | tbl (ps:Array aI)
 /-- any other thing,by what is aC of lK one object (a def of one's own: SetO a S n:=HO.ext λh=>..) -/
 | ext (φ:bp->Prop)
abbrev Hp:=aL->Option HO
noncomputable def upd(H:Hp)(a:aL)(o:HO):Hp:=λb=>if b=a then aA o else H b
theorem Zx{H:Hp}{a:aL}{o:HO}:upd H a o a=aA o:=by unfold upd;rw[lQ rfl]
theorem upd_ne{H:Hp}{a b:aL}{o:HO}(h:b≠a):upd H a o b=H b:=by unfold upd;rw[lU h]
theorem Zy{H:Hp}{a b:aL}{o:HO}(h:H a=aA o)(c:H b=none):a≠b:=by grind
noncomputable def Ip(x:aq):Bool:=x=="tree_of" || x=="still_by" || x=="made_of"
noncomputable def Zck(x:aq):aq:=x++".<locals>."++"<lambda>"
noncomputable def Ga(o:df)(q:aq):Prop:=∃vs t,o.data = .fields vs/\vs[1]?=aA (.str q t)
noncomputable def Zae(q:aq)(H:Hp)(ps:List aI):Prop:=TriplesOk ps/\∀pos v,codeAmong pos ps=aA v->∃c o,v = .ref c/\H c=aA (.frz o (.own 0))/\Ga o q
theorem QF{h:bp}{T:aI}{a:Array aI}{n:Nat}{o:df}(e:(h.push { cls:=T,data:=.seq a n }).get? h.objs.size=aA o):o.dict=none:=by rw[ag _ rfl] at e;cases e;rfl
section
variable (P:b9) (w:cW)
noncomputable def ObjOk(H:Hp)(h:bp)(a:aL):HO->Prop
 | .lst xs=>xs.length<=sizeLine/\∃(lK:List aI) (n:Nat),Vals xs lK/\h.get? a=aA { cls:=.type "list",data:=.seq lK.toArray n }
 | .tup xs=>(xs.length<=sizeLine/\∀o,h.get? a=aA o->o.dict=none)/\∃lK:List aI,Vals xs lK/\IsTup h a lK.toArray
 | .dK l6=>l6.length<=sizeLine/\(a==sysModules)=aB/\∃vs,KV l6 vs/\h.DictOf (Ji P w) a vs
 | .dT l6=>l6.length<=sizeLine/\(a==sysModules)=aB/\∃xs:List (List Of×aL×aI),
   Paired (λ(p:List Of×V) (q:List Of×aL×aI)=>p.1=q.1/\H q.2.1=aA (.tup (p.1.map kV))/\RelV p.2 q.2.2) l6 xs/\
   ∃o es ep,h.get? a=aA o/\o.ExactDict/\o.data = .dict es ep/\es.toList=xs.map (entryOfKey (tupleKind (Ji P w)))/\(xs.map (·.1)).Nodup
 | .set S n=>h.SetOf (intKind P w) a S n
 | .ins C dx fs=>H dx=aA (.own a)/\fs.length<=1000/\dx≠a/\h.get? a=aA (jC C dx)/\
   ∃mA,h.Ns1 dx mA/\(∀f,Bn (fs.lookup f) (mA f))/\kz mA (fs.map (·.1))
 | .own _=>∃o,h.get? a=aA o
 | .xd fs=>∃mA,h.Ns1 a mA/\∀f,Bn (fs.lookup f) (mA f)
 | .rng lo hi=>∃t u v,h.get? a=aA { cls:=.type "range",data:=.fields #[.int lo t,.int hi u,.int 1 v] }
 | .frz o u=>h.get? a=aA o/\ObjOk H h a u
 | .tbl ps=>∃(q:aq) (t:Tok) (ps':Array aI),ps[0]?=aA (.str q t)/\h.get? a=aA { cls:=.none,data:=.fields ps' }/\Zae q H ps'.toList
 | .met f x=>h.get? a=aA (PySem.W.methodObj (.ref f) (.ref x))
 | .ext φ=>φ h/\(∃o,h.get? a=aA o)/\∀h1 h2:bp,φ h1->(∀o,h1.get? a=aA o->h2.get? a=aA o)->φ h2
noncomputable def HOk(H:Hp)(h:bp):Prop:=∀a o,H a=aA o->ObjOk P w H h a o
end
section
variable {P:b9} {w:cW} {H H':Hp} {h h':bp} {a:aL} {o:HO}
theorem ObjOk.lt(x:ObjOk P w H h a o):a<h.objs.size:=by
 cases o with
 | lst xs=>obtain⟨_,_,_,_,e⟩:=x;exact aW e
 | tup xs=>obtain⟨_,_,_,p⟩:=x;exact p.lt
 | dK l6=>obtain⟨_,_,_,_,o,_,_,e,_⟩:=x;exact aW e
 | dT l6=>obtain⟨_,_,_,_,o,_,_,e,_⟩:=x;exact aW e
 | set S n=>obtain⟨o,_,_,_,e,_⟩:=x;exact aW e
 | ins C dx fs=>obtain⟨_,_,_,e,_⟩:=x;exact aW e
 | own y=>obtain⟨_,e⟩:=x;exact aW e
 | xd fs=>obtain⟨_,⟨_,_,_,e,_⟩,_⟩:=x;exact aW e
 | rng lo hi=>obtain⟨_,_,_,e⟩:=x;exact aW e
 | frz ob u=>obtain⟨e,_⟩:=x;exact aW e
 | tbl ps=>obtain⟨_,_,_,_,e,_⟩:=x;exact aW e
 | met f y=>exact aW (show h.get? a=aA _ from x)
 | ext φ=>obtain⟨_,⟨_,e⟩,_⟩:=x;exact aW e
theorem Paired.mapP{c d:Type}{F G:c->d->Prop}:∀{l₁:List c}{l₂:List d},Paired F l₁ l₂->(∀a b,F a b->G a b)->Paired G l₁ l₂
 | _,_,.nil,_=>.nil
 | _,_,.cons r t,f=>.cons (f _ _ r) (Paired.mapP t f)
theorem ObjOk.stay(x:ObjOk P w H h a o)(k:∀b u,(b=a\/H b=aA (.own a))->h.get? b=aA u->h'.get? b=aA u)
  (F:∀b,H b=aA (.own a)->H' b=aA (.own a)) (D:∀b j,H b=aA (.tup j)->H' b=aA (.tup j)) (E:∀b u,H b=aA (.frz u (.own 0))->H' b=aA (.frz u (.own 0))):ObjOk P w H' h' a o:=by
 induction o with
 | lst j=>obtain⟨z,A,n,r,e⟩:=x;exact⟨z,A,n,r,k _ _ (.inl rfl) e⟩
 | tup j=>obtain⟨z,A,r,g,e,c⟩:=x;exact⟨⟨z.1,λo q=>by rw[k _ _ (.inl rfl) e] at q;cases q;exact z.2 _ e⟩,A,r,g,k _ _ (.inl rfl) e,c⟩
 | dK l6=>obtain⟨z,y,vs,r,g,i,ep,e,c⟩:=x;exact⟨z,y,vs,r,g,i,ep,k _ _ (.inl rfl) e,c⟩
 | dT l6=>
  obtain⟨z,y,j,r,g,i,ep,e,c⟩:=x;exact⟨z,y,j,Paired.mapP r λp q z=>⟨z.1,D _ _ z.2.1,z.2.2⟩,g,i,ep,k _ _ (.inl rfl) e,c⟩
 | set S n=>obtain⟨g,i,ep,t,e,c⟩:=x;exact⟨g,i,ep,t,k _ _ (.inl rfl) e,c⟩
 | ins C dx fs=>
  obtain⟨d,z,ne,e,m,⟨l,i,ep,s,c⟩,r⟩:=x;exact⟨F _ d,z,ne,k _ _ (.inl rfl) e,m,⟨l,i,ep,k _ _ (.inr d) s,c⟩,r⟩
 | own y=>obtain⟨g,e⟩:=x;exact⟨g,k _ _ (.inl rfl) e⟩
 | xd fs=>obtain⟨m,⟨l,i,ep,e,c⟩,r⟩:=x;exact⟨m,⟨l,i,ep,k _ _ (.inl rfl) e,c⟩,r⟩
 | rng lo hi=>obtain⟨t,u,v,e⟩:=x;exact⟨t,u,v,k _ _ (.inl rfl) e⟩
 | frz g u ih=>obtain⟨e,q⟩:=x;exact⟨k _ _ (.inl rfl) e,ih q⟩
 | tbl ps=>
  obtain⟨q,t,B,G,e,J,N⟩:=x;refine⟨q,t,B,G,k a _ (.inl rfl) e,J,λpos v I=>?_⟩;obtain⟨c,o,L,s,M⟩:=N pos v I;exact⟨c,o,L,E c o s,M⟩
 | met f y=>
  have e:=x;exact k a _ (.inl rfl) e
 | ext φ=>obtain⟨p,⟨o,e⟩,st⟩:=x;exact⟨st _ _ p λo q=>k _ _ (.inl rfl) q,⟨o,k _ _ (.inl rfl) e⟩,st⟩
theorem HOk.lt(x:HOk P w H h)(e:H a=aA o):a<h.objs.size:=(x a o e).lt
theorem HOk.fresh(x:HOk P w H h)(e:h.objs.size<=a):H a=none:=by
 cases q:H a with
 | none=>rfl
 | some u=>exact absurd (a9 (x.lt q) e) (cP _)
theorem HOk.kept(x:HOk P w H h)(k:∀b u,h.get? b=aA u->h'.get? b=aA u):HOk P w H h':=λa o e=>
 (x a o e).stay (λb u _ q=>k b u q) (λ_ q=>q) (λ_ _ q=>q) λ_ _ q=>q
theorem HOk.laid(x:HOk P w H h)(k:∀b u,h.get? b=aA u->h'.get? b=aA u)(g:h.objs.size<=a)(new:ObjOk P w (upd H a o) h' a o):HOk P w (upd H a o) h':=λb u e=>by
 have d:=x.fresh g;by_cases f:b=a
 ·subst f;rw[Zx] at e;cases e;exact new
 ·rw[upd_ne f] at e;exact(x b u e).stay (λc v _ q=>k c v q) (λc q=>by rw[upd_ne (Zy q d)];exact q) (λc i q=>by rw[upd_ne (Zy q d)];exact q) λc u q=>by rw[upd_ne (Zy q d)];exact q
end
noncomputable def Rd(H:Hp)(a:aL)(u:HO):Prop:=H a=aA u\/∃o,H a=aA (.frz o u)
theorem Rd.ok{P:b9}{w:cW}{H:Hp}{h:bp}{a:aL}{u:HO}(r:Rd H a u)(x:HOk P w H h):ObjOk P w H h a u:=by
 rcases r with r | ⟨o,r⟩
 ·exact x a u r
 ·obtain⟨_,q⟩:=x a _ r;exact q
noncomputable def U8:Option HO->Prop
 | some (.lst _)=>True
 | some (.dK _)=>True
 | some (.dT _)=>True
 | some (.set _ _)=>True
 | some (.ins _ _ _)=>True
 | some (.ext _)=>True
 | _=>False
section
variable {P:b9} {w:cW} {H:Hp} {h h':bp} {x e:aL} {o':HO}
theorem HOk.write(ok:HOk P w H h)(f:U8 (H x))(n:e=x\/H e=aA (.own x))(k:∀b u,b≠e->h.get? b=aA u->h'.get? b=aA u)(m:∃u,h'.get? e=aA u)
  (new:ObjOk P w (upd H x o') h' x o'):HOk P w (upd H x o') h':=λb u q=>by
 have d:∀c y,H c=aA (.own y)->c≠x:=λc y r z=>by subst z;rw[r] at f;exact f
 have g:∀c l,H c=aA (.tup l)->c≠x:=λc l r z=>by subst z;rw[r] at f;exact f
 by_cases j:b=x
 ·subst j;rw[Zx] at q;cases q;exact new
 ·rw[upd_ne j] at q;by_cases a:b=e
  ·have o:H b=aA (.own x):=by
    rcases n with z | z
    ·exact absurd (a.trans z) j
    ·rw[a];exact z
   rw[q] at o;cases o;obtain⟨v,p⟩:=m;exact⟨v,by rw[a];exact p⟩
  ·refine(ok b u q).stay (λc v i r=>k c v ?_ r) (λc r=>by rw[upd_ne (d c b r)];exact r) (λc l r=>by rw[upd_ne (g c l r)];exact r) λc v r=>by rw[upd_ne (λz=>by subst z;rw[r] at f;exact f)];exact r
   rcases i with rfl | i
   ·exact a
   ·rintro rfl;rcases n with z | z
    ·exact d c b i z
    ·rw[i] at z;cases z;exact j rfl
end
structure Un(fs ex:List aL)(H H':Hp)(h h':bp):Prop where
 keep:∀b o,h.get? b=aA o->H b=none->b∉fs->b∉ex->h'.get? b=aA o
 slot:∀b o,h.get? b=aA o->H b=none->b∈fs->b∉ex->∃sl,h'.get? b=aA { o with slots:=sl }
 free:∀b o,h.get? b=aA o->H b=none->b∉ex->H' b=none
 there:∀b o,h.get? b=aA o->b∉ex->∃o',h'.get? b=aA o'
 tups:∀b xs,H b=aA (.tup xs)->H' b=aA (.tup xs)
 frzs:∀b o u,H b=aA (.frz o u)->H' b=aA (.frz o u)
 tbls:∀b ps,H b=aA (.tbl ps)->∃more,H' b=aA (.tbl (ps++more))
section
variable {fs fs' ex ex':List aL} {H H1 H2:Hp} {h h1 h2 h':bp} {a x e:aL} {o:HO}
theorem Un.any(u:Un fs ex H H1 h h1){b:aL}{a:df}(q:h.get? b=aA a)(n:H b=none)(c:b∉ex):∃sl,h1.get? b=aA { a with slots:=sl }:=by
 by_cases d:b∈fs
 ·exact u.slot b a q n d c
 ·exact⟨a.slots,u.keep b a q n d c⟩
theorem Un.kept(k:∀b u,h.get? b=aA u->h'.get? b=aA u):Un fs ex H H h h':=
 ⟨λb a q _ _ _=>k b a q,λb a q _ _ _=>⟨a.slots,k b a q⟩,λ_ _ _ n _=>n,λb a q _=>⟨a,k b a q⟩,λ_ _ q=>q,λ_ _ _ q=>q,λ_ c q=>⟨#[],by rw[q];simp⟩⟩
theorem Un.refl:Un fs ex H H h h:=Un.kept λ_ _ q=>q
theorem Un.laid(k:∀b u,h.get? b=aA u->h'.get? b=aA u)(d:h.objs.size<=a)(c:H a=none):Un fs ex H (upd H a o) h h' where
 keep:=λb u q _ _ _=>k b u q
 slot:=λb u q _ _ _=>⟨u.slots,k b u q⟩
 free:=λb u q n _=>by rw[upd_ne (bC (a9 (aW q) d))];exact n
 there:=λb u q _=>⟨u,k b u q⟩
 tups:=λb e q=>by rw[upd_ne (Zy q c)];exact q
 frzs:=λb u e q=>by rw[upd_ne (Zy q c)];exact q
 tbls:=λb f q=>⟨#[],by rw[upd_ne (Zy q c),q];simp⟩
theorem Un.write(c:U8 (H x))(m:e=x\/H e=aA (.own x))(k:∀b u,b≠e->h.get? b=aA u->h'.get? b=aA u)(f:∃u,h'.get? e=aA u):Un fs ex H (upd H x o) h h':=by
 have g:∀b,H b=none->b≠x:=λb n z=>by subst z;rw[n] at c;exact c
 have i:∀b,H b=none->b≠e:=λb n z=>by
  subst z;rcases m with r | r
  ·exact g b n r
  ·rw[n] at r;cases r
 have d:∀b u,H b=aA u->¬U8 (aA u)->b≠x:=λb u q j z=>by subst z;rw[q] at c;exact j c
 refine⟨λb u q n _ _=>k b u (i b n) q,λb u q n _ _=>⟨u.slots,k b u (i b n) q⟩,λb u q n _=>by rw[upd_ne (g b n)];exact n,λb u q _=>?_,
  λb l q=>by rw[upd_ne (d b _ q λz=>z)];exact q,λb u l q=>by rw[upd_ne (d b _ q λz=>z)];exact q,λb p q=>⟨#[],by rw[upd_ne (d b _ q λz=>z),q];simp⟩⟩
 by_cases a:b=e
 ·subst a;exact f
 ·exact⟨u,k b u a q⟩
end
noncomputable def TabsH(K:aE)(mg:aq->Option aI)(base:bp)(H:Hp):Prop:=∀(q:aq)(c:aL),Ip q=aC->cz K (.ref c) q=aC->
 ∃Pt ps t,PySem.W.CodeHd base c Pt/\H Pt=aA (.tbl ps)/\ps[0]?=aA (.str (Zck q) t)/\base.BuiltinsAt mg Pt
theorem TabsH.un{K:aE}{j:aq->Option aI}{a:bp}{fs l:List aL}{H g:Hp}{h p:bp}(t:TabsH K j a H)(u:Un fs l H g h p):TabsH K j a g:=λq c o m=>by
 obtain⟨f,d,tk,v,w,e,s⟩:=t q c o m;obtain⟨i,k⟩:=u.tbls f d w
 have b:0<d.size:=by
  cases z:d.size with
  | zero=>rw[Array.getElem?_eq_none (by omega)] at e;cases e
  | succ n=>omega
 exact⟨f,_,tk,v,k,by rw[Array.getElem?_append_left b];exact e,s⟩
noncomputable def trk(h:bp)(H:Hp):List aL:=(aF h.objs.size).filter λa=>(H a).isSome
noncomputable def Ng(h:bp)(H:Hp):bp:=PySem.W.hideAll h (trk h H)
theorem Iq(h:bp)(H:Hp):(Ng h H).objs.size=h.objs.size:=PySem.W.hideAll_size _ _
theorem Gb{h:bp}{H:Hp}{b:aL}{o:df}(e:h.get? b=aA o)(n:H b=none):(Ng h H).get? b=aA o:=
 PySem.W.hideAll_get _ e λa=>by have q:=(gj.mp a).2;rw[n] at q;simp at q
theorem Ex{h:bp}{H:Hp}{b:aL}{o:df}(e:(Ng h H).get? b=aA o):h.get? b=aA o/\H b=none:=by
 have a:=PySem.W.of_hideAll (trk h H) e;refine⟨a,?_⟩
 cases q:H b with
 | none=>rfl
 | some x=>
  have c:b∈trk h H:=gj.mpr ⟨aS.mpr (aW a),by simp[q]⟩;have z:(Ng h H).get? b=none:=PySem.W.hideAll_none (trk h H) c;rw[z] at e;cases e
noncomputable def Ey(g h:bp)(L:aL):List (aL×df):=(aF h.objs.size).filterMap λa=>if a=L\/(g.get? a).isSome=aC then none else(h.get? a).map λo=>(a,o)
noncomputable def Yg(g h:bp)(L d:aL):List (aL×df):=(Ey g h L).filter λp=>decide (p.1≠d)
structure Mod(K:aE)(mg:aq->Option aI)(base:bp):Prop where
 kin:K.In base
 glob:base.Ns cq mg
 blt:∃mb,base.Ns ja mb/\∀x:aq,x≠"__name__"->mb x=dP x
 nolimit:base.NoLimit
 seer:base.NoSeer
structure Cx where
 prog:b9
 w:cW
 K:aE
 mg:aq->Option aI
 base:bp
 A:cL
 N:List aq
 s₀:aO
 H₀:Hp
 env:kK
 outer:List kK
 stack:List kK
 ex:List aL
 fn:aq->Bool
 calm:Bool
 pn:List (aL×df)
 xe:aI->aO->Prop
noncomputable def LP(l:List kK):List aL:=l.filterMap (·.frame)
abbrev Cx.fs(X:Cx):List aL:=LP X.outer
noncomputable def Vis(sc:dw)(x:aq):Prop:=sc.names.lookup x=aA .local\/sc.names.lookup x=aA .cell\/sc.names.lookup x=aA .free
noncomputable def Ez(sc:dw)(x:aq):Prop:=sc.names.lookup x=aA .local\/sc.names.lookup x=aA .cell
noncomputable def Zcl(env:kK)(h:bp)(m:aq->Option aI)(x:aq)(u:aI):Prop:=
 (env.kindOf x=aA .local/\m x=aA u)\/((env.kindOf x=aA .cell\/env.kindOf x=aA .free)/\∃c,env.cells.lookup x=aA c/\h.IsCell c (aA u))
structure Cx.Ok(X:Cx):Prop where
 mod:Mod X.K X.mg X.base
 kind:X.env.scope.kind = .function
 glob:X.env.globals=cq
 blt:X.env.builtins=ja
 above:X.s₀.heap.objs.size<=X.env.locals
 inj:∀x y c,X.env.cells.lookup x=aA c->X.env.cells.lookup y=aA c->x=y
 has:∀x,(X.env.kindOf x=aA .cell\/X.env.kindOf x=aA .free)->∃c,X.env.cells.lookup x=aA c
 cab:∀x c,X.fn x=aC->X.env.cells.lookup x=aA c->X.s₀.heap.objs.size<=c
 hd:X.calm=aC->X.A.handled=none
 frames:X.A.frames=aA X.stack
 stk:X.stack=X.outer\/(X.stack=X.env::X.outer/\X.env.frame=aA X.env.locals)
 exf:∀b∈X.ex,b≠X.env.locals/\∀x c,X.env.cells.lookup x=aA c->c≠b
 bs:∀b o,X.base.get? b=aA o->X.s₀.heap.get? b=aA o/\X.H₀ b=none
 bsz:X.base.objs.size<=X.s₀.heap.objs.size
 noex:∀b o,X.base.get? b=aA o->b∉X.ex
 exfs:∀b∈X.ex,b∉X.fs
 funs:X.s₀.heap.FunFrames X.base X.outer
 frf:∀b∈X.fs,X.H₀ b=none
 tab:TabsH X.K X.mg X.base X.H₀
 cod:∀q:aq,X.env.func≠none->X.env.qual=q++".<locals>."->Ip q=aC->cz X.K X.env.code q=aC
structure Inv(X:Cx)(l4:List (aL×df))(σ:List (Option V))(H:Hp)(s:aO):Prop where
 ok:X.Ok
 os:s.os=X.s₀.os
 bare:ie s.gens
 base:Un X.fs X.ex X.H₀ H X.s₀.heap s.heap
 loc:∃m,s.heap.Ns X.env.locals m/\∀(i:Nat)(x:aq)(v:V),X.N[i]?=aA x->σ[i]?=aA (aA v)->Vis X.env.scope x->∃u,RelV v u/\Zcl X.env s.heap m x u
 cell:∀x c,X.env.cells.lookup x=aA c->∃v,s.heap.IsCell c v
 free:H X.env.locals=none
 freeC:∀x c,X.env.cells.lookup x=aA c->H c=none
 pin:∀p∈X.pn++l4,s.heap.get? p.1=aA p.2/\H p.1=none/\p.1≠X.env.locals/\p.1∉X.fs/\∀v,p.2.data≠.cell v
 hok:HOk X.prog X.w H s.heap
 len:σ.length=X.N.length
section
variable {X:Cx} {l4:List (aL×df)} {σ:List (Option V)} {H H':Hp} {s:aO} {h':bp}
theorem Cx.Ok.nofr(ok:X.Ok){b:aL}{o:df}(e:X.base.get? b=aA o):b∉X.fs:=λa=>by have:=(ok.funs.mem a).1;rw[e] at this;cases this
theorem Inv.bs(I:Inv X l4 σ H s):∀b o,X.base.get? b=aA o->s.heap.get? b=aA o/\H b=none:=λb o e=>
 ⟨I.base.keep b o (I.ok.bs b o e).1 (I.ok.bs b o e).2 (I.ok.nofr e) (I.ok.noex b o e),I.base.free b o (I.ok.bs b o e).1 (I.ok.bs b o e).2 (I.ok.noex b o e)⟩
theorem Inv.bk(I:Inv X l4 σ H s):∀b o,X.base.get? b=aA o->s.heap.get? b=aA o:=λb o e=>(I.bs b o e).1
theorem Inv.mod(I:Inv X l4 σ H s):Mod X.K X.mg X.base:=I.ok.mod
theorem Inv.kIn(I:Inv X l4 σ H s):X.K.In s.heap:=I.ok.mod.kin.keeps I.bk
theorem Inv.nolimit(I:Inv X l4 σ H s):s.heap.NoLimit:=I.ok.mod.nolimit.keeps I.bk
theorem Inv.fr(I:Inv X l4 σ H s):∃m,Fr X.base X.env.locals s.heap m:=
 let⟨m,a,_⟩:=I.loc
 ⟨m,a,I.bk,aP I.ok.bsz I.ok.above⟩
theorem Inv.lt(I:Inv X l4 σ H s):X.env.locals<s.heap.objs.size:=let⟨_,a,_⟩:=I.loc;a.lt
theorem Inv.sz(I:Inv X l4 σ H s):X.s₀.heap.objs.size<=s.heap.objs.size:=aP I.ok.above (cU I.lt)
theorem Inv.nofs(I:Inv X l4 σ H s){a:aL}(h:s.heap.objs.size<=a):a∉X.fs:=λc=>by obtain⟨_,o,b,_⟩:=I.ok.funs.mem c;exact absurd (a9 (aW b) (aP I.sz h)) (cP _)
theorem Inv.cne(I:Inv X l4 σ H s):∀x c,X.env.cells.lookup x=aA c->c≠X.env.locals:=λx c e z=>by obtain⟨v,o,d,f⟩:=I.cell x c e;obtain⟨m,⟨h,g,ep,a,b,_⟩,_⟩:=I.loc;rw[z,a] at d;cases d;rw[b] at f;cases f
theorem Inv.funs(I:Inv X l4 σ H s):s.heap.FunFrames X.base X.outer:=by
 have all:∀(l:List kK),(∀b∈LP l,b∈X.fs)->X.s₀.heap.FunFrames X.base l->s.heap.FunFrames X.base l:=by
  intro l
  induction l with
  | nil=>intro _ _;trivial
  | cons env r ih=>
   intro f i;obtain⟨m,⟨L,o,a,h,g,k⟩,j⟩:=i;have d:L∈X.fs:=f L (by unfold LP;rw[gq,a];exact aa);obtain⟨n,e⟩:=I.base.slot L o g (I.ok.frf L d) d λz=>I.ok.exfs L z d;exact⟨m,⟨L,_,a,h,e,k⟩,ih (λb c=>f b (by unfold LP;rw[gq,a];exact aT _ c)) j⟩
 exact all X.outer (λ_ c=>c) I.ok.funs
theorem Inv.stack(I:Inv X l4 σ H s):s.heap.FunFrames X.base X.stack:=by
 rcases I.ok.stk with e | ⟨e,a⟩
 ·rw[e];exact I.funs
 ·rw[e];obtain⟨m,b,_⟩:=I.loc;refine .cons (by rw[I.ok.kind];decide) a b ?_ I.funs;exact bp.get?_none_of_le (aP I.ok.bsz I.ok.above)
theorem Inv.stkSub(I:Inv X l4 σ H s):∀b∈LP X.stack,b∈X.env.locals::X.fs:=λb a=>by
 rcases I.ok.stk with e | ⟨e,c⟩
 ·rw[e] at a;exact aT _ a
 ·rw[e] at a;unfold LP at a;rw[gq,c] at a;exact a
theorem Inv.stkFree(I:Inv X l4 σ H s):∀b∈LP X.stack,H b=none:=λb a=>by
 rcases af.mp (I.stkSub b a) with e | a
 ·rw[e];exact I.free
 ·obtain⟨_,o,c,_⟩:=I.ok.funs.mem a;exact I.base.free b o c (I.ok.frf b a) λz=>I.ok.exfs b z a
theorem Inv.step{U:Array GenState}{t':Nat}{d':Drawn}{ch:List aL}(I:Inv X l4 σ H s)
  (g:∀b∈ch,(b∈X.ex\/X.s₀.heap.objs.size<=b)/\b≠X.env.locals/\(∀x c,X.env.cells.lookup x=aA c->c≠b)/\∀p∈X.pn++l4,p.1≠b)
  (h:∀b o,b≠X.env.locals->b∉X.fs->b∉ch->s.heap.get? b=aA o->H b=none->h'.get? b=aA o)
  (y:∀b o,b≠X.env.locals->b∈X.fs->b∉ch->s.heap.get? b=aA o->H b=none->∃R,h'.get? b=aA { o with slots:=R }) (free:∀b o,b∉ch->s.heap.get? b=aA o->H b=none->H' b=none)
  (B:∀b o,b∉ch->s.heap.get? b=aA o->∃J,h'.get? b=aA J)
  (E:∀b A,H b=aA (.tup A)->H' b=aA (.tup A)) (M:∀b o u,H b=aA (.frz o u)->H' b=aA (.frz o u)) (G:∀b N,H b=aA (.tbl N)->∃more,H' b=aA (.tbl (N++more)))
  (Z:∀m,s.heap.Ns X.env.locals m->h'.Ns X.env.locals m) (Q:HOk X.prog X.w H' h') (hg:ie U) :
  Inv X l4 σ H' { s with heap:=h',gens:=U,drawn:=d',toks:=t' }:=by
 have F:∀b o,X.s₀.heap.get? b=aA o->b≠X.env.locals:=λb o e=>bC (a9 (aW e) I.ok.above)
 have t:∀b o,X.s₀.heap.get? b=aA o->b∉X.ex->b∉ch:=λb o e a C=>by
  rcases(g b C).1 with z | z
  ·exact a z
  ·exact absurd (a9 (aW e) z) (cP _)
 have j:∀x c,X.env.cells.lookup x=aA c->∀v,s.heap.IsCell c v->h'.IsCell c v:=λx c e v ⟨o,D,O⟩=>by
  have f:=λz=>(g c z).2.2.1 x c e rfl;by_cases T:c∈X.fs
  ·obtain⟨R,q⟩:=y c o (I.cne x c e) T f D (I.freeC x c e);exact⟨_,q,O⟩
  ·exact⟨o,h c o (I.cne x c e) T f D (I.freeC x c e),O⟩
 refine⟨I.ok,I.os,hg,⟨λb o e n C a=>?_,λb o e n C a=>?_,λb o e n a=>?_,λb o e a=>?_,λb A e=>E b A (I.base.tups b A e),λb o A e=>M b o A (I.base.frzs b o A e),λb N e=>?_⟩,?_,λx c e=>?_,?_,λx c e=>?_,λp W=>?_,Q,I.len⟩
 ·exact h b o (F b o e) C (t b o e a) (I.base.keep b o e n C a) (I.base.free b o e n a)
 ·obtain⟨R,w⟩:=I.base.slot b o e n C a;obtain⟨P,L⟩:=y b _ (F b o e) C (t b o e a) w (I.base.free b o e n a);exact⟨P,L⟩
 ·obtain⟨J,w⟩:=I.base.there b o e a;exact free b J (t b o e a) w (I.base.free b o e n a)
 ·obtain⟨J,w⟩:=I.base.there b o e a;exact B b J (t b o e a) w
 ·obtain⟨Y,w⟩:=I.base.tbls b N e;obtain⟨m2,L⟩:=G b _ w;exact⟨Y++m2,by rw[L,Array.append_assoc]⟩
 ·obtain⟨m,hn,hl⟩:=I.loc;refine⟨m,Z m hn,λi x v w L e3=>?_⟩;obtain⟨u,r,l⟩:=hl i x v w L e3;refine⟨u,r,?_⟩;rcases l with l | ⟨k,c,e,z⟩
  ·exact .inl l
  ·exact .inr ⟨k,c,e,j x c e _ z⟩
 ·obtain⟨v,z⟩:=I.cell x c e;exact⟨v,j x c e v z⟩
 ·obtain⟨m,⟨o,_,_,D,_⟩,_⟩:=I.loc;exact free _ o (λz=>(g _ z).2.1 rfl) D I.free
 ·obtain⟨v,o,D,O⟩:=I.cell x c e;exact free c o (λz=>(g c z).2.2.1 x c e rfl) D (I.freeC x c e)
 ·obtain⟨e,n,ne,S,d⟩:=I.pin p W;have f:=λz=>(g p.1 z).2.2.2 p W rfl;exact⟨h p.1 p.2 ne S f e n,free p.1 p.2 f e n,ne,S,d⟩
theorem Inv.un{t':Nat}(I:Inv X l4 σ H s)(u:Un X.fs [] H H' s.heap h')(f:HOk X.prog X.w H' h'):Inv X l4 σ H' { s with heap:=h',toks:=t' }:=by
 obtain⟨m,⟨o,l,ep,h,r⟩,_⟩:=id I.loc;obtain⟨t,k⟩:=u.any h I.free (by simp)
 exact I.step (ch:=[]) (λ_ z=>nomatch z) (λb o _ g _ e n=>u.keep b o e n g (by simp)) (λb o _ g _ e n=>u.slot b o e n g (by simp)) (λb o _ e n=>u.free b o e n (by simp)) (λb o _ e=>u.there b o e (by simp)) u.tups u.frzs u.tbls (λq j=>by
  obtain⟨p,c,d,a,i⟩:=j;rw[h] at a;cases a;exact⟨_,c,d,k,i⟩) f I.bare
theorem Inv.call{l:Array GenState}{t':Nat}{v:Drawn}{ch:List aL}(I:Inv X l4 σ H s)(u:Un (LP X.stack) ch H H' s.heap h')(i:HOk X.prog X.w H' h')(w:ie l)
  (f:∀b∈ch,(b∈X.ex\/X.s₀.heap.objs.size<=b)/\b≠X.env.locals/\(∀x c,X.env.cells.lookup x=aA c->c≠b)/\∀p∈X.pn++l4,p.1≠b) :
  Inv X l4 σ H' { s with heap:=h',gens:=l,drawn:=v,toks:=t' }:=by
 obtain⟨m,⟨o,A,ep,k,r⟩,_⟩:=id I.loc;obtain⟨D,j⟩:=u.any k I.free λz=>(f _ z).2.1 rfl
 exact I.step f (λb o j t a e n=>u.keep b o e n (λz=>(af.mp (I.stkSub b z)).elim j t) a) (λb o _ _ a e n=>u.any e n a) (λb o a e n=>u.free b o e n a) (λb o a e=>u.there b o e a) u.tups u.frzs u.tbls (λC y=>by
  obtain⟨B,g,h,d,q⟩:=y;rw[k] at d;cases d;exact⟨_,g,h,j,q⟩) i w
theorem Inv.turned{t':Nat}{a:aL}(I:Inv X l4 σ H s)(k:∀b o,b≠a->s.heap.get? b=aA o->h'.get? b=aA o)(i:H a=none)(g:a≠X.env.locals)
  (t:a∈X.ex\/X.s₀.heap.objs.size<=a) (l:∀x c,X.env.cells.lookup x=aA c->c≠a) (w:∀p∈X.pn++l4,p.1≠a):Inv X l4 σ H { s with heap:=h',toks:=t' }:=by
 have f:∀b u,H b=aA u->b≠a:=λb u e z=>by rw[z,i] at e;cases e
 refine I.step (ch:=[a]) (λb A=>?_) (λb o _ _ d e _=>k b o (λz=>d (by simp[z])) e) (λb o _ _ d e _=>⟨o.slots,k b o (λz=>d (by simp[z])) e⟩) (λ_ _ _ _ n=>n)
  (λb o d e=>⟨o,k b o (λz=>d (by simp[z])) e⟩) (λ_ _ e=>e) (λ_ _ _ e=>e) (λb B e=>⟨#[],by rw[e];simp⟩) (λm y=>?_) (λb u e=>?_) I.bare
 ·have e:b=a:=by simpa using A
  subst e;exact⟨t,g,l,w⟩
 ·obtain⟨o,j,ep,h,r⟩:=y;exact⟨o,j,ep,k _ o (bN g) h,r⟩
 ·refine(I.hok b u e).stay (λc v d q=>k c v ?_ q) (λ_ q=>q) (λ_ _ q=>q) λ_ _ q=>q;rcases d with z | z
  ·rw[z];exact f b u e
  ·exact f c _ z
theorem Inv.tok(I:Inv X l4 σ H s)(t:Nat):Inv X l4 σ H { s with toks:=t }:=I.un Un.refl I.hok
theorem Inv.kept{t':Nat}(I:Inv X l4 σ H s)(k:∀b u,s.heap.get? b=aA u->h'.get? b=aA u):Inv X l4 σ H { s with heap:=h',toks:=t' }:=I.un (Un.kept k) (I.hok.kept k)
theorem Inv.laid{a:aL}{o:HO}{t':Nat}(I:Inv X l4 σ H s)(k:∀b u,s.heap.get? b=aA u->h'.get? b=aA u)(c:s.heap.objs.size<=a)(new:ObjOk X.prog X.w (upd H a o) h' a o) :
  Inv X l4 σ (upd H a o) { s with heap:=h',toks:=t' }:=I.un (Un.laid k c (I.hok.fresh c)) (I.hok.laid k c new)
theorem Inv.write{x e:aL}{o:HO}{t':Nat}(I:Inv X l4 σ H s)(c:U8 (H x))(d:e=x\/H e=aA (.own x))(k:∀b u,b≠e->s.heap.get? b=aA u->h'.get? b=aA u)(a:∃u,h'.get? e=aA u)
  (new:ObjOk X.prog X.w (upd H x o) h' x o):Inv X l4 σ (upd H x o) { s with heap:=h',toks:=t' }:=I.un (Un.write c d k a) (I.hok.write c d k a new)
theorem Inv.weak{a:List (Option V)}(I:Inv X l4 σ H s)(d:a.length=σ.length)(w:∀(i:Nat) v,a[i]?=aA (aA v)->σ[i]?=aA (aA v)):Inv X l4 a H s:=
 ⟨I.ok,I.os,I.bare,I.base,let⟨m,c,b⟩:=I.loc;⟨m,c,λi x v e f g=>b i x v e (w i v f) g⟩,I.cell,I.free,I.freeC,I.pin,I.hok,d.trans I.len⟩
theorem Inv.pins_of{a:List (aL×df)}(I:Inv X l4 σ H s)(h:∀p∈a,s.heap.get? p.1=aA p.2/\H p.1=none/\p.1≠X.env.locals/\p.1∉X.fs/\∀v,p.2.data≠.cell v):Inv X a σ H s:=
 ⟨I.ok,I.os,I.bare,I.base,I.loc,I.cell,I.free,I.freeC,λp b=>(b6.mp b).elim (λz=>I.pin p (bg _ z)) (h p),I.hok,I.len⟩
theorem MF{N:List aq}(c:N.Nodup){i j:Nat}{x:aq}(a:N[i]?=aA x)(b:N[j]?=aA x):i=j:=by obtain⟨g,d⟩:=aQ.mp a;obtain⟨f,e⟩:=aQ.mp b;exact(kL c).mp (d.trans e.symm)
theorem Ir{M:Model}{A:cL}{E:aI->aO->Prop}{i:Nat}{x:aq}{v:V}{u:aI}{Q:Unit->aO->Prop}(I:Inv X l4 σ H s)(hN:X.N.Nodup)(P:X.N[i]?=aA x)(w:Ez X.env.scope x)(r:RelV v u)
  (h:∀s',Inv X l4 (σ.set i (aA v)) H s'->(∃a,cj a s.heap s'.heap/\(a=X.env.locals\/X.env.cells.lookup x=aA a))->Q () s') (hf:X.fn x=aC\/X.env.scope.names.lookup x=aA .local:=by first | exact .inl rfl | exact .inr rfl | assumption):bJ M A (storeName X.env x u) Q E s:=by
 obtain⟨m,hn,hl⟩:=id I.loc;have S:(X.env.scope.kind==.class || (X.env.scope.kind==.module&&X.env.locals != X.env.globals))=aB:=by rw[I.ok.kind];rfl
 have D:i<σ.length:=by rw[I.len];exact(aQ.mp P).1
 have cne:=I.cne
 have l:∀{a:aL}{N:bp},(∃o,s.heap.get? a=aA o/\H a=none)->cj a s.heap N->HOk X.prog X.w H N:=λ{a N} ha f b ob e=>by
  obtain⟨_,_,B⟩:=ha;refine(I.hok b ob e).stay (λc Y t q=>(f.2 c ?_).trans q) (λ_ q=>q) (λ_ _ q=>q) λ_ _ q=>q;rintro rfl;rcases t with rfl | t
  ·rw[B] at e;cases e
  ·rw[B] at t;cases t
 rcases w with F | F
 ·refine wpAny_storeName_local F hn (λN hn' f=>?_) S;obtain⟨oL,_,_,hoL,_⟩:=id hn;refine h _ ⟨I.ok,I.os,I.bare,⟨λb o e n L w=>?_,λb o e n L w=>?_,I.base.free,λb o e w=>?_,I.base.tups,I.base.frzs,I.base.tbls⟩,⟨_,hn',λj y v' g C e3=>?_⟩,λy c e=>?_,I.free,I.freeC,λp hp=>?_,l ⟨oL,hoL,I.free⟩ f,by simpa using I.len⟩ ⟨_,f,.inl rfl⟩
  ·exact(f.2 b (bC (a9 (aW e) I.ok.above))).trans (I.base.keep b o e n L w)
  ·obtain⟨sl,g⟩:=I.base.slot b o e n L w;exact⟨sl,(f.2 b (bC (a9 (aW e) I.ok.above))).trans g⟩
  ·obtain⟨o',g⟩:=I.base.there b o e w;exact⟨o',(f.2 b (bC (a9 (aW e) I.ok.above))).trans g⟩
  ·by_cases J:j=i
   ·subst J;rw[P] at g;cases g;rw[ig D] at C;cases C;exact⟨u,r,.inl ⟨F,by simp⟩⟩
   ·rw[jK (bN J)] at C;obtain⟨u',Z,q⟩:=hl j y v' g C e3;refine⟨u',Z,?_⟩;rcases q with⟨k,e⟩ | ⟨k,c,e,z⟩
    ·refine .inl ⟨k,?_⟩;have:y≠x:=λe=>J (MF hN g (e▸P));simp[this,e]
    ·exact .inr ⟨k,c,e,z.sameBut f (cne y c e)⟩
  ·obtain⟨Y,z⟩:=I.cell y c e;exact⟨Y,z.sameBut f (cne y c e)⟩
  ·obtain⟨e,n,ne,nf,d⟩:=I.pin p hp;exact⟨(f.2 p.1 ne).trans e,n,ne,nf,d⟩
 ·have G:X.fn x=aC:=by
   rcases hf with z | z
   ·exact z
   ·rw[z] at F;cases F
  obtain⟨c,t⟩:=I.ok.has x (.inl F);obtain⟨Y,z⟩:=I.cell x c t;refine wpAny_storeName_cell I.ok.kind F t z (λN R f=>?_);obtain⟨oc,U,T⟩:=id z;refine h { s with heap:=N } ⟨I.ok,I.os,I.bare,⟨λb o e n L w=>?_,λb o e n L w=>?_,I.base.free,λb o e w=>?_,I.base.tups,I.base.frzs,I.base.tbls⟩,⟨m,hn.sameBut f (bN (cne x c t)),λj y v' g C e3=>?_⟩,λy W e=>?_,I.free,I.freeC,λp hp=>?_,l ⟨oc,U,I.freeC x c t⟩ f,by simpa using I.len⟩ ⟨c,f,.inr t⟩
  ·exact(f.2 b (bC (a9 (aW e) (I.ok.cab x c G t)))).trans (I.base.keep b o e n L w)
  ·obtain⟨sl,g⟩:=I.base.slot b o e n L w;exact⟨sl,(f.2 b (bC (a9 (aW e) (I.ok.cab x c G t)))).trans g⟩
  ·obtain⟨o',g⟩:=I.base.there b o e w;exact⟨o',(f.2 b (bC (a9 (aW e) (I.ok.cab x c G t)))).trans g⟩
  ·by_cases J:j=i
   ·subst J;rw[P] at g;cases g;rw[ig D] at C;cases C;exact⟨u,r,.inr ⟨.inl F,c,t,R⟩⟩
   ·rw[jK (bN J)] at C;obtain⟨u',Z,q⟩:=hl j y v' g C e3;refine⟨u',Z,?_⟩;rcases q with q | ⟨k,W,e,z'⟩
    ·exact .inl q
    ·refine .inr ⟨k,W,e,z'.sameBut f ?_⟩;rintro rfl;exact J (MF hN g (I.ok.inj _ _ _ e t▸P))
  ·by_cases O:W=c
   ·subst O;exact⟨_,R⟩
   ·obtain⟨w2,z2⟩:=I.cell y W e;exact⟨w2,z2.sameBut f O⟩
  ·obtain⟨e,n,ne,nf,d⟩:=I.pin p hp;refine⟨(f.2 p.1 ?_).trans e,n,ne,nf,d⟩;intro q;rw[q,U] at e;have q':oc=p.2:=aw e;exact d Y (by rw[<-q'];exact T)
theorem QG{M:Model}{A:cL}{E:aI->aO->Prop}{i:Nat}{x:aq}{v:V}{u:aI}{Q:Unit->aO->Prop}(I:Inv X l4 σ H s)(d:X.N.Nodup)(c:X.N[i]?=aA x)(e:Ez X.env.scope x)(r:RelV v u)
  (h:∀a,Inv X l4 (σ.set i (aA v)) H a->Q () a) (b:X.fn x=aC\/X.env.scope.names.lookup x=aA .local:=by first | exact .inl rfl | exact .inr rfl | assumption):bJ M A (storeName X.env x u) Q E s:=
 Ir I d c e r (λa f _=>h a f) b
theorem Inv.call'{a:aO}{ch:List aL}(I:Inv X l4 σ H s)(h:a.os=s.os)(u:Un (LP X.stack) ch H H' s.heap a.heap)(d:HOk X.prog X.w H' a.heap)(g:ie a.gens)
  (f:∀b∈ch,(b∈X.ex\/X.s₀.heap.objs.size<=b)/\b≠X.env.locals/\(∀x c,X.env.cells.lookup x=aA c->c≠b)/\∀p∈X.pn++l4,p.1≠b):Inv X l4 σ H' a:=by
 obtain⟨j,i,l,t',k⟩:=a;have e:=h;subst e;exact I.call u d g f
end
abbrev XK:=aI->Option aL->Hp->Prop
abbrev St:=List (Option V)
abbrev VK:=V->Hp->Prop
abbrev TE:=St->Hp->VK->Prop
abbrev TT:=St->Hp->(Bool->Hp->Prop)->Prop
abbrev TA:=St->Hp->(List V->Hp->Prop)->Prop
structure YQ where
 nx:St->Hp->Prop
 rt:VK
 bk:St->Hp->Prop:=λ_ _=>False
 ct:St->Hp->Prop:=λ_ _=>False
abbrev TS:=YQ->St->Hp->Prop
noncomputable def EP(X:Cx)(l4:List (aL×df))(σ:St)(Q:VK)(u:aI)(s':aO):Prop:=∃v H',Inv X l4 σ H' s'/\RelV v u/\Q v H'
noncomputable def TP(X:Cx)(l4:List (aL×df))(σ:St)(Q:Bool->Hp->Prop)(b:Bool)(s':aO):Prop:=∃H',Inv X l4 σ H' s'/\Q b H'
noncomputable def AP(X:Cx)(l4:List (aL×df))(σ:St)(Q:List V->Hp->Prop)(us:List aI)(s':aO):Prop:=∃vs H',Inv X l4 σ H' s'/\Vals vs us/\Q vs H'
noncomputable def SP(X:Cx)(l4:List (aL×df))(D:YQ)(f:Flow)(s':aO):Prop:=
 match f with
 | .next=>∃σ' H',Inv X l4 σ' H' s'/\D.nx σ' H'
 | .brk=>∃σ' H',Inv X l4 σ' H' s'/\D.bk σ' H'
 | .cont=>∃σ' H',Inv X l4 σ' H' s'/\D.ct σ' H'
 | .ret u=>∃v σ' H',Inv X l4 σ' H' s'/\RelV v u/\D.rt v H'
noncomputable def PE(X:Cx)(e:az)(t:TE):Prop:=
 ∀(l4:List (aL×df))(s:aO)(σ:St)(H:Hp)(Q:VK),Inv X l4 σ H s->t σ H Q->bJ (model X.prog X.w) X.A (eval e X.env) (EP X l4 σ Q) X.xe s
noncomputable def PT(X:Cx)(e:az)(t:TT):Prop:=
 ∀(l4:List (aL×df))(s:aO)(σ:St)(H:Hp)(Q:Bool->Hp->Prop),Inv X l4 σ H s->t σ H Q->bJ (model X.prog X.w) X.A (kd e X.env (eval e X.env)) (TP X l4 σ Q) X.xe s
noncomputable def PW(X:Cx)(e:az)(t:TT):Prop:=
 ∀(whole:Sem aI)(l4:List (aL×df))(s:aO)(σ:St)(H:Hp)(Q:Bool->Hp->Prop),Inv X l4 σ H s->t σ H Q->bJ (model X.prog X.w) X.A (kd e X.env whole) (TP X l4 σ Q) X.xe s
theorem PW.pt{X:Cx}{e:az}{t:TT}(h:PW X e t):PT X e t:=h _
noncomputable def PA(X:Cx)(es:List az)(t:TA):Prop:=
 ∀(pos:fS)(l4:List (aL×df))(s:aO)(σ:St)(H:Hp)(Q:List V->Hp->Prop),Inv X l4 σ H s->t σ H Q->bJ (model X.prog X.w) X.A (spliced (fu pos (aX es X.env))) (AP X l4 σ Q) X.xe s
noncomputable def PS(X:Cx)(st:bq)(t:TS):Prop:=
 ∀(l4:List (aL×df))(s:aO)(σ:St)(H:Hp)(D:YQ),Inv X l4 σ H s->t D σ H->bJ (model X.prog X.w) X.A (exec st X.env) (SP X l4 D) X.xe s
noncomputable def PSs(X:Cx)(st:List bq)(t:TS):Prop:=
 ∀(l4:List (aL×df))(s:aO)(σ:St)(H:Hp)(D:YQ),Inv X l4 σ H s->t D σ H->bJ (model X.prog X.w) X.A (execs st X.env) (SP X l4 D) X.xe s
theorem YW{b:Type}{t:Sem b}{Q c:b->aO->Prop}{M:Model}{A:cL}{E:aI->aO->Prop}{s:aO}(h:bJ M A t Q E s)(d:∀a s,Q a s->c a s):bJ M A t c E s:=dA h d λ_ _ x=>x
section
variable {X:Cx}
theorem bin{a b:az}{k l:TE}(q:PE X a k)(B:PE X b l){i:List (aL×df)}{s:aO}{d:St}{H:Hp}{R:V->V->Hp->Prop}(I:Inv X i d H s)(h:k d H λx j=>l d j λy c=>R x y c)
  {m:Type} {Q:m->aO->Prop} {f:aI->aI->Sem m}
  (n:∀v u s2 x y c,Inv X i d c s2->RelV x v->RelV y u->R x y c->bJ (model X.prog X.w) X.A (f v u) Q X.xe s2) :
  bJ (model X.prog X.w) X.A (eval a X.env) (λv e=>bJ (model X.prog X.w) X.A (eval b X.env) (λu g=>bJ (model X.prog X.w) X.A (f v u) Q X.xe g) X.xe e) X.xe s:=by
 refine YW (q i s d H _ I h) λv s1 ⟨x,j,w,A,p⟩=>?_;refine YW (B i s1 d j _ w p) λu s2 ⟨y,c,z,o,t⟩=>?_;exact n v u s2 x y c z A o t
noncomputable def Nh(i:Nat):TE:=λσ H Q=>∃v,σ[i]?=aA (aA v)/\Q v H
noncomputable def tC(v:V):TE:=λ_ H Q=>Q v H
theorem Bp{i:Nat}{x:aq}{pos:fS}(q:X.N[i]?=aA x)(o:Vis X.env.scope x)(f:(x==("__debug__" : aq))=aB:=by decide)(g:(x==("__classdict__" : aq))=aB:=by decide):PE X (.Name x pos) (Nh i):=by
 intro p s t H Q I h;obtain⟨v,e,h⟩:=h;obtain⟨m,k,n⟩:=I.loc;obtain⟨u,r,l⟩:=n i x v q e o;have d:EP X p t Q u s:=⟨v,H,I,r,h⟩;rcases l with⟨b,w⟩ | ⟨b,c,j,a⟩
 ·exact ke (wpAny_loadName_local I.ok.kind b k w d) f
 ·rcases b with b | b
  ·exact ke (wpAny_loadName_cell I.ok.kind b j a d) f
  ·exact ke (wpAny_loadName_free I.ok.kind b j a d g) f
theorem Bq{i j pos}:PE X (.Constant (.int i) j pos) (tC (.int i)):=λ_ _ _ H _ I h=>wpAny_Constant_int ⟨.int i,H,I.tok _,⟨_,rfl⟩,h⟩
theorem Zaf{b j pos}:PE X (.Constant (.bool b) j pos) (tC (.bl b)):=λ_ _ _ H _ I h=>Constant_bool ⟨.bl b,H,I,rfl,h⟩
theorem Br{j pos}:PE X (.Constant .none j pos) (tC .non):=λ_ _ _ H _ I h=>j7 ⟨.non,H,I,rfl,h⟩
noncomputable def Gl(X:Cx)(x:aq):Prop:=X.env.kindOf x=aA .globalImplicit
theorem EA{E:aI->aO->Prop}{b:List (aL×df)}{s:aO}{e:St}{H:Hp}{x:aq}{u:aI}{pos:fS}{Q:aI->aO->Prop}(I:Inv X b e H s)(a:Gl X x)(c:X.mg x=aA u)(h:Q u s)
  (d:(x==("__debug__" : aq))=aB:=by decide):bJ (model X.prog X.w) X.A (eval (.Name x pos) X.env) Q E s:=
 hU I.ok.kind a (Calls.loadGlobal_global (by rw[I.ok.glob];exact I.mod.glob.keeps I.bk) c h) d
theorem Tf{E:aI->aO->Prop}{d:List (aL×df)}{s:aO}{g:St}{H:Hp}{x:aq}{u:aI}{pos:fS}{Q:aI->aO->Prop}(I:Inv X d g H s)(i:Gl X x)(j:X.mg x=none)(b:dP x=aA u)(h:Q u s)
  (a:x≠"__name__":=by decide) (c:(x==("__debug__" : aq))=aB:=by decide):bJ (model X.prog X.w) X.A (eval (.Name x pos) X.env) Q E s:=by
 obtain⟨k,f,e⟩:=I.mod.blt;exact hU I.ok.kind i (Calls.loadGlobal_builtin (by rw[I.ok.glob];exact I.mod.glob.keeps I.bk) j (by rw[I.ok.blt];exact f.keeps I.bk) ((e x a).trans b) h) c
theorem EB{x:aq}{v:V}{u:aI}{pos:fS}(a:Gl X x)(b:X.mg x=none)(c:dP x=aA u)(r:RelV v u)(d:x≠"__name__":=by decide)(e:(x==("__debug__" : aq))=aB:=by decide):PE X (.Name x pos) (tC v):=
 λ_ _ _ H _ I h=>Tf I a b c ⟨v,H,I,r,h⟩ d e
variable {a b:az} {ta tb:TE} {pos:fS}
noncomputable def PC(X:Cx)(op:kU)(a b:az)(t:TE):Prop:=
 ∀(l4:List (aL×df))(s:aO)(σ:St)(H:Hp)(Q:VK),Inv X l4 σ H s->t σ H Q->
  bJ (model X.prog X.w) X.A (eval a X.env) (λv s₁=>bJ (model X.prog X.w) X.A (eval b X.env) (λu s₂=>bJ (model X.prog X.w) X.A (fK op v u) (EP X l4 σ Q) X.xe s₂) X.xe s₁) X.xe s
theorem MG(b:az){op:kU}(h:op≠.In)(a:op≠.NotIn):c9 op b=aB:=by
 have c:(op==kU.In)=aB:=by cases op<;>first | rfl | exact absurd rfl h
 have d:(op==kU.NotIn)=aB:=by cases op<;>first | rfl | exact absurd rfl a
 cases b<;>simp[c9,c,d]
noncomputable def Zag(ta:TE):TE:=λσ H Q=>ta σ H λx H1=>Q (.bl (decide (x = .non))) H1
noncomputable def CH(ta:TE):TE:=λσ H Q=>ta σ H λx H1=>Q (.bl (!decide (x = .non))) H1
theorem RelV.none_iff{x:V}{v:aI}(r:RelV x v):(v==aI.none)=decide (x = .non):=by
 cases x with
 | non=>cases r;rfl
 | bl _=>cases r;rfl
 | int _=>obtain⟨t,rfl⟩:=r;rfl
 | str _=>obtain⟨t,rfl⟩:=r;rfl
 | byt _=>obtain⟨t,rfl⟩:=r;rfl
 | flt _=>obtain⟨t,rfl⟩:=r;rfl
 | ref _=>cases r;rfl
 | ty _=>cases r;rfl
theorem Gd{j pos'}(i:PE X a ta):PC X .Is a (.Constant .none j pos') (Zag ta):=by intro c s g H Q I h;refine YW (i c s g H _ I h) λv s1 ⟨x,d,e,b,f⟩=>?_;exact j7 (is_none_gen ⟨.bl _,d,e,by rw[b.none_iff];rfl,f⟩)
theorem EC{j pos'}(i:PE X a ta):PC X .IsNot a (.Constant .none j pos') (CH ta):=by intro c s g H Q I h;refine YW (i c s g H _ I h) λv s1 ⟨x,d,e,b,f⟩=>?_;exact j7 (isnot_none_gen ⟨.bl _,d,e,by rw[b.none_iff];rfl,f⟩)
noncomputable def tB(t:TE):TT:=λσ H Q=>t σ H λx H1=>∃c,x = .bl c/\Q c H1
theorem Bt{op:kU}{t:TE}(h:PC X op a b t)(e:c9 op b=aB:=by first | exact MG _ (by decide) (by decide) | rfl):PE X (.Compare a [op] [b] pos) t:=λd s f H Q I c=>wpAny_Compare1 (h d s f H Q I c) e
theorem Ge{op:kU}{t:TE}(h:PC X op a b t)(e:c9 op b=aB:=by first | exact MG _ (by decide) (by decide) | rfl):PT X (.Compare a [op] [b] pos) (tB t):=by intro j s m H Q I i;refine jI (YW (h j s m H _ I i) λv s1 e=>YW e λu s2 k=>YW k λc o ⟨x,g,l,n,f⟩=>?_) e;obtain⟨d,rfl,q⟩:=f;cases n;exact cX ⟨g,l,q⟩
theorem Bw{e:az}{t:TE}(h:PE X e t)(b:∀whole,kd e X.env whole=(do let v <-whole;standAt e.pos;holding [v] (truthy v)):=by intro _;rfl):PT X e (tB t):=by intro g s j H Q I f;refine isTrue_plain (YW (h g s j H _ I f) λv s1 ⟨x,c,i,k,a⟩=>?_) (b _);obtain⟨d,rfl,q⟩:=a;cases k;exact cX ⟨c,i,q⟩
variable {tA tB':TT} {Yg:List az}
noncomputable def Zah(t u:TT):TT:=λσ H Q=>t σ H λc H1=>if c=aC then u σ H1 Q else Q aB H1
noncomputable def tOr(t u:TT):TT:=λσ H Q=>t σ H λc H1=>if c=aC then Q aC H1 else u σ H1 Q
noncomputable def Zcm(t:TT):TT:=λσ H Q=>t σ H λc H1=>Q (!c) H1
theorem ED(f:PT X a tA):PW X (.BoolOp .And [a] pos) tA:=by
 intro g b s d H Q I h;refine isTrue_and (YW (f b s d H Q I h) λc s1 e=>?_)
 cases c with
 | true=>exact isTrue_and_nil e
 | false=>exact e
theorem Bx(f:PT X a tA):PW X (.BoolOp .Or [a] pos) tA:=by
 intro g b s d H Q I h;refine isTrue_or (YW (f b s d H Q I h) λc s1 e=>?_)
 cases c with
 | false=>exact isTrue_or_nil e
 | true=>exact e
theorem By(l:PT X a tA)(k:PW X (.BoolOp .And (b::Yg) pos) tB'):PW X (.BoolOp .And (a::b::Yg) pos) (Zah tA tB'):=by
 intro j d s i H Q I h;refine isTrue_and (YW (l d s i H _ I h) λc s1 ⟨e,f,g⟩=>?_)
 cases c with
 | true=>exact k j d s1 i e Q f g
 | false=>exact⟨e,f,g⟩
theorem Zai(l:PT X a tA)(k:PW X (.BoolOp .Or (b::Yg) pos) tB'):PW X (.BoolOp .Or (a::b::Yg) pos) (tOr tA tB'):=by
 intro j d s i H Q I h;refine isTrue_or (YW (l d s i H _ I h) λc s1 ⟨e,f,g⟩=>?_)
 cases c with
 | true=>exact⟨e,f,g⟩
 | false=>exact k j d s1 i e Q f g
theorem Bz(f:PT X a tA):PT X (.UnaryOp .Not a pos) (Zcm tA):=by intro b s e H Q I h;exact isTrue_not (f b s e H (λc d=>Q (!c) d) I h)
noncomputable def Zaj(ta tb:TE):TE:=λσ H Q=>ta σ H λx H1=>∃c,x = .bl c/\if c=aC then tb σ H1 Q else Q (.bl aB) H1
noncomputable def Zcn(ta tb:TE):TE:=λσ H Q=>ta σ H λx H1=>∃c,x = .bl c/\if c=aC then Q (.bl aC) H1 else tb σ H1 Q
noncomputable def Zak(ta:TE):TE:=λσ H Q=>ta σ H λx H1=>∃c,x = .bl c/\Q (.bl (!c)) H1
theorem BA{op}{t:TE}(h:PE X a t):PE X (.BoolOp op [a] pos) t:=λc s d H Q I b=>BoolOp_one (h c s d H Q I b)
theorem BB(l:PE X a ta)(k:PE X (.BoolOp .And (b::Yg) pos) tb):PE X (.BoolOp .And (a::b::Yg) pos) (Zaj ta tb):=by
 intro e s i H Q I h;refine BoolOp_and (YW (l e s i H _ I h) λv s1 ⟨x,f,g,j,d⟩=>?_);obtain⟨c,rfl,d⟩:=d;cases j;refine cX ?_
 cases c with
 | true=>exact k e s1 i f Q g d
 | false=>exact⟨.bl aB,f,g,rfl,d⟩
theorem Zal(l:PE X a ta)(k:PE X (.BoolOp .Or (b::Yg) pos) tb):PE X (.BoolOp .Or (a::b::Yg) pos) (Zcn ta tb):=by
 intro e s i H Q I h;refine BoolOp_or (YW (l e s i H _ I h) λv s1 ⟨x,f,g,j,d⟩=>?_);obtain⟨c,rfl,d⟩:=d;cases j;refine cX ?_
 cases c with
 | false=>exact k e s1 i f Q g d
 | true=>exact⟨.bl aC,f,g,rfl,d⟩
theorem BC(j:PE X a ta):PE X (.UnaryOp .Not a pos) (Zak ta):=by intro e s i H Q I h;refine UnaryOp_ (YW (j e s i H _ I h) λv s1 ⟨x,f,g,d,b⟩=>?_);obtain⟨c,rfl,b⟩:=b;cases d;exact not_of (cX ⟨.bl (!c),f,g,rfl,b⟩)
noncomputable def tIf(t:TT)(ta tb:TE):TE:=λσ H Q=>t σ H λc H1=>if c=aC then ta σ H1 Q else tb σ H1 Q
theorem Gg{c:az}(l:PT X c tA)(m:PE X a ta)(k:PE X b tb):PE X (.IfExp c a b pos) (tIf tA ta tb):=by
 intro e s f H Q I h;refine wpAny_IfExp (YW (l e s f H _ I h) λd s1 ⟨g,i,j⟩=>?_)
 cases d with
 | true=>exact m e s1 f g Q i j
 | false=>exact k e s1 f g Q i j
end
noncomputable def SqL(K:aE)(H:Hp)(a:aL)(xs:List V):Prop:=
 Rd H a (.lst xs)\/
  ∃(o:df) (lK:Array aI) (n:Nat),K.lookup a=aA o/\o.cls = .type "list"/\o.dict=none/\o.data = .seq lK n/\lK.size<=sizeLine/\Vals xs lK.toList
noncomputable def SqT(K:aE)(H:Hp)(a:aL)(xs:List V):Prop:=
 Rd H a (.tup xs)\/
  ∃(o:df) (lK:Array aI) (n:Nat),K.lookup a=aA o/\o.cls = .type "tuple"/\o.data = .seq lK n/\lK.size<=sizeLine/\Vals xs lK.toList
noncomputable def Zco:aI->Option V
 | .none=>aA .non
 | .bool b=>aA (.bl b)
 | .int i _=>aA (.int i)
 | .str x _=>aA (.str x)
 | .bytes b _=>aA (.byt b)
 | .float b _=>aA (.flt b)
 | .ref a=>aA (.ref a)
 | .type n=>aA (.ty n)
 | _=>none
theorem RelV.abs{x:V}{u:aI}(r:RelV x u):Zco u=aA x:=by
 cases x with
 | non=>cases r;rfl
 | bl _=>cases r;rfl
 | int _=>obtain⟨t,rfl⟩:=r;rfl
 | str _=>obtain⟨t,rfl⟩:=r;rfl
 | byt _=>obtain⟨t,rfl⟩:=r;rfl
 | flt _=>obtain⟨t,rfl⟩:=r;rfl
 | ref _=>cases r;rfl
 | ty _=>cases r;rfl
theorem RelV.inj{x y:V}{u:aI}(r:RelV x u)(q:RelV y u):x=y:=aw (r.abs.symm.trans q.abs)
theorem Vals.inj:∀{xs ys:List V}{us:List aI},Vals xs us->Vals ys us->xs=ys
 | _,_,_,.nil,.nil=>rfl
 | _,_,_,.cons r t,.cons r' t'=>by rw[r.inj r',Vals.inj t t']
section
variable {X:Cx} {l4:List (aL×df)} {σ:St} {H:Hp} {s:aO} {a:aL} {xs ys:List V}
theorem SqL.of{K:aE}(h:H a=aA (.lst xs)):SqL K H a xs:=.inl (.inl h)
theorem SqT.of{K:aE}(h:H a=aA (.tup xs)):SqT K H a xs:=.inl (.inl h)
theorem Inv.list(I:Inv X l4 σ H s)(h:SqL X.K H a xs):∃b:List aI,Vals xs b/\PlainL s.heap a b.toArray/\xs.length<=sizeLine:=by
 rcases h with h | ⟨o,b,n,d,g,f,c,i,r⟩
 ·obtain⟨z,b,n,r,e⟩:=h.ok I.hok;exact⟨b,r,⟨_,n,e,rfl,rfl,rfl⟩,z⟩
 ·refine⟨b.toList,r,⟨o,n,I.kIn a o d,g,f,by simpa using c⟩,?_⟩;have e:=r.length;simp only[fX] at e;omega
theorem Inv.tuple(I:Inv X l4 σ H s)(h:SqT X.K H a xs):∃b:List aI,Vals xs b/\IsTup s.heap a b.toArray/\xs.length<=sizeLine:=by
 rcases h with h | ⟨o,b,n,d,f,c,g,r⟩
 ·obtain⟨z,b,r,p⟩:=h.ok I.hok;exact⟨b,r,p,z.1⟩
 ·refine⟨b.toList,r,⟨o,I.kIn a o d,f,n,by simpa using c⟩,?_⟩;have e:=r.length;simp only[fX] at e;omega
theorem Inv.list_inj(I:Inv X l4 σ H s)(h:SqL X.K H a xs)(i:SqL X.K H a ys):xs=ys:=by
 obtain⟨j,r,⟨o,n,e,_,_,d⟩,_⟩:=I.list h;obtain⟨b,g,⟨l,k,c,_,_,f⟩,_⟩:=I.list i;rw[e] at c;cases c;rw[d] at f;injection f with d1 _
 have:j=b:=by simpa using congrArg lC d1
 subst this;exact r.inj g
theorem Inv.tuple_inj(I:Inv X l4 σ H s)(h:SqT X.K H a xs)(i:SqT X.K H a ys):xs=ys:=by
 obtain⟨j,r,⟨o,e,_,n,d⟩,_⟩:=I.tuple h;obtain⟨b,g,⟨l,c,_,k,f⟩,_⟩:=I.tuple i;rw[e] at c;cases c;rw[d] at f;injection f with d1 _
 have:j=b:=by simpa using congrArg lC d1
 subst this;exact r.inj g
end
abbrev Cx.wish(X:Cx)(E:aI->aO->Prop):Cx:={ X with xe:=E }
abbrev Cx.nox(X:Cx):Cx:=X.wish λ_ _=>False
theorem Cx.Ok.wish{X:Cx}(ok:X.Ok)(E:aI->aO->Prop):(X.wish E).Ok:=
 ⟨ok.mod,ok.kind,ok.glob,ok.blt,ok.above,ok.inj,ok.has,ok.cab,ok.hd,ok.frames,ok.stk,ok.exf,ok.bs,ok.bsz,ok.noex,ok.exfs,ok.funs,ok.frf,ok.tab,ok.cod⟩
theorem Cx.Ok.unwish{X:Cx}{E:aI->aO->Prop}(ok:(X.wish E).Ok):X.Ok:=
 ⟨ok.mod,ok.kind,ok.glob,ok.blt,ok.above,ok.inj,ok.has,ok.cab,ok.hd,ok.frames,ok.stk,ok.exf,ok.bs,ok.bsz,ok.noex,ok.exfs,ok.funs,ok.frf,ok.tab,ok.cod⟩
section
variable {X:Cx} {l4:List (aL×df)} {σ:St} {H:Hp} {s:aO} {E:aI->aO->Prop}
theorem Inv.wish(I:Inv X l4 σ H s)(E:aI->aO->Prop):Inv (X.wish E) l4 σ H s:=⟨I.ok.wish E,I.os,I.bare,I.base,I.loc,I.cell,I.free,I.freeC,I.pin,I.hok,I.len⟩
theorem Inv.unwish(I:Inv (X.wish E) l4 σ H s):Inv X l4 σ H s:=⟨I.ok.unwish,I.os,I.bare,I.base,I.loc,I.cell,I.free,I.freeC,I.pin,I.hok,I.len⟩
theorem SP.unwish{D:YQ}{f:Flow}{c:aO}(h:SP (X.wish E) l4 D f c):SP X l4 D f c:=by
 cases f with
 | next=>obtain⟨a,b,I,q⟩:=h;exact⟨a,b,I.unwish,q⟩
 | brk=>obtain⟨a,b,I,q⟩:=h;exact⟨a,b,I.unwish,q⟩
 | cont=>obtain⟨a,b,I,q⟩:=h;exact⟨a,b,I.unwish,q⟩
 | ret u=>obtain⟨v,a,b,I,r,q⟩:=h;exact⟨v,a,b,I.unwish,r,q⟩
theorem PSs.nox{st:List bq}{t:TS}(h:PSs X.nox st t):PSs X st t:=λb s c H D I a=>
 dA (h b s c H D (I.wish _) a) (λ_ _ q=>q.unwish) λ_ _ z=>fE z
end
section
variable {X:Cx} {st:bq} {Yg:List bq} {t u:TS} {e:az} {te:TE} {pos:fS}
noncomputable def CI:TS:=λD σ H=>D.nx σ H
noncomputable def Zcp(t u:TS):TS:=λD σ H=>t { D with nx:=u D } σ H
theorem EE:PSs X [] CI:=λ_ _ a H _ I h=>gk ⟨a,H,I,h⟩
theorem MH(e:PS X st t)(d:PSs X Yg u):PSs X (st::Yg) (Zcp t u):=by
 intro b s g H D I h;refine wpAny_execs_cons (YW (e b s g H { D with nx:=u D } I h) λf s1 q=>?_)
 cases f with
 | next=>
  obtain⟨a,i,c,q⟩:=q;exact d b s1 a i D c q
 | ret v=>exact q
 | brk=>exact q
 | cont=>exact q
theorem EF(b:PS X st t):PSs X [st] t:=by
 intro a s c H D I h;refine wpAny_execs_cons (YW (b a s c H D I h) λf s1 q=>?_)
 cases f with
 | next=>exact gk q
 | ret v=>exact q
 | brk=>exact q
 | cont=>exact q
theorem Inv.quiet{a:List (aL×df)}{b:St}{H:Hp}{s:aO}(I:Inv X a b H s):interactive X.env=aB:=by simp[interactive,I.ok.kind]
noncomputable def Gh(te:TE):TS:=λD σ H=>te σ H λ_ H1=>D.nx σ H1
theorem VF(i:PE X e te)(b:gy e none pos.line X.env=pure aB:=by rfl):PS X (.Expr e pos) (Gh te):=by intro c s a H D I h;exact wpAny_Expr_any (YW (i c s a H _ I h) λv s1 ⟨x,d,f,j,g⟩=>⟨a,d,f,g⟩) I.quiet b
noncomputable def Zcq(te:TE):TS:=λD σ H=>te σ H D.rt
theorem LQ(i:PE X e te):PS X (.Return (aA e) pos) (Zcq te):=by intro c s a H D I h;exact wpAny_Return_some (YW (i c s a H _ I h) λv s1 ⟨x,d,f,b,g⟩=>⟨x,a,d,f,b,g⟩)
noncomputable def Zcr(c:TT)(t u:TS):TS:=λD σ H=>c σ H λb H1=>if b=aC then t D σ H1 else u D σ H1
theorem Zam{c:az}{a b:List bq}{k:TT}(m:PT X c k)(l:PSs X a t)(n:PSs X b u):PS X (.If c a b pos) (Zcr k t u):=by
 intro e s f H D I h;refine wpAny_If (YW (m e s f H _ I h) λd s1 ⟨i,j,g⟩=>?_)
 cases d with
 | true=>exact l e s1 f i D j g
 | false=>exact n e s1 f i D j g
end
abbrev TG:=V->St->Hp->(St->Hp->Prop)->Prop
abbrev CJ:=List V->St->Hp->(St->Hp->Prop)->Prop
noncomputable def PG(X:Cx)(target:az)(t:TG):Prop:=
 ∀(l4:List (aL×df))(s:aO)(σ:St)(H:Hp)(v:V)(u:aI)(Q:St->Hp->Prop),Inv X l4 σ H s->RelV v u->t v σ H Q->
  bJ (model X.prog X.w) X.A (assign target X.env u) (λ_ s'=>∃σ' H',Inv X l4 σ' H' s'/\Q σ' H') X.xe s
noncomputable def PGs(X:Cx)(ts:List az)(t:CJ):Prop:=
 ∀(l4:List (aL×df))(s:aO)(σ:St)(H:Hp)(vs:List V)(us:List aI)(Q:St->Hp->Prop),Inv X l4 σ H s->Vals vs us->t vs σ H Q->
  bJ (model X.prog X.w) X.A (assignInOrder ((hV ts X.env).map (·.2)) us) (λ_ s'=>∃σ' H',Inv X l4 σ' H' s'/\Q σ' H') X.xe s
abbrev BD:=V->V->V->Hp->(Hp->Prop)->Prop
noncomputable def Zan(X:Cx)(t:BD):Prop:=
 ∀(l4:List (aL×df))(s:aO)(σ:St)(H:Hp)(o i v:V)(ov iv u:aI)(Q:Hp->Prop),Inv X l4 σ H s->RelV o ov->RelV i iv->RelV v u->t o i v H Q->
  bJ (model X.prog X.w) X.A (setItem ov iv u) (λ_ s'=>∃H',Inv X l4 σ H' s'/\Q H') X.xe s
section
variable {X:Cx} {pos:fS}
noncomputable def TQ(i:Nat):TG:=λv σ H Q=>Q (σ.set i (aA v)) H
theorem Qh{i:Nat}{x:aq}(d:X.N.Nodup)(c:X.N[i]?=aA x)(e:Ez X.env.scope x)(b:X.fn x=aC\/X.env.scope.names.lookup x=aA .local:=by first | exact .inl rfl | exact .inr rfl | assumption):PG X (.Name x pos) (TQ i):=by intro f s j H v u Q I r h;exact wpAny_assign_Name (QG I d c e r (λg a=>⟨_,H,a,h⟩) b)
noncomputable def Zao:CJ:=λvs σ H Q=>vs=[]/\Q σ H
noncomputable def CK(t:TG)(u:CJ):CJ:=λvs σ H Q=>∃v r,vs=v::r/\t v σ H λσ' H'=>u r σ' H' Q
theorem Yh:PGs X [] Zao:=by intro c s a H vs b Q I r h;obtain⟨e,h⟩:=h;subst e;cases r;exact assignInOrder_nil ⟨a,H,I,h⟩
theorem Zu{e:az}{a:List az}{t:TG}{u:CJ}(j:PG X e t)(i:PGs X a u)
  (g:(hV (e::a) X.env).map (·.2)=assign e X.env::(hV a X.env).map (·.2):=by rfl):PGs X (e::a) (CK t u):=by
 intro c s l H vs n Q I r h;obtain⟨v,o,m,h⟩:=h;subst m
 cases r with
 | cons r rr=>
  rw[g];refine assignInOrder_cons (YW (j c s l H _ _ _ I r h) λ_ s1 ⟨b,f,k,d⟩=>?_);exact i c s1 b f _ _ Q k rr d
noncomputable def Zap(K:aE)(n:Nat)(t:CJ):TG:=λv σ H Q=>∃a xs,v = .ref a/\SqT K H a xs/\xs.length=n/\t xs σ H Q
theorem YF{c:List az}{k:Nat}{t:CJ}{n:Nat}(p:X.calm=aC)(h:PGs X c t)
  (l:(hV c X.env).length=n:=by rfl) (f:(hV c X.env).findIdx? (·.1)=none:=by rfl):PG X (.Tuple c k pos) (Zap X.K n t):=by
 intro q s y H v u Q I r d;obtain⟨a,A,z,w,m,d⟩:=d;subst z;cases r;obtain⟨D,g,i,B⟩:=I.tuple w;refine assign_Tuple_tuple (I.ok.hd p) i (by simp[l,<-m,g.length]) f λC j=>?_;have x:=I.kept (t':=s.toks) λb o e=>j b o (bC (aW e)) e;exact h q _ y H A _ Q x (by simpa using g) d
noncomputable def BE(to ti:TE)(t:BD):TG:=λv σ H Q=>to σ H λo H1=>ti σ H1 λi H2=>t o i v H2 λH3=>Q σ H3
theorem WH{o i:az}{e f:TE}{t:BD}(k:PE X o e)(j:PE X i f)(w:Zan X t)
  (E:∀v,assign (.Subscript o i pos) X.env v=(do
   let a <-holding [v] (eval o X.env);let b <-holding [v,a] (eval i X.env)
   standAt pos
   holding [v,a,b] (setItem a b v)
   release [v,a,b] []):=by intro _;rfl):PG X (.Subscript o i pos) (BE e f t):=by
 intro d s c H v u Q I r h;refine aN (iR (YW (k d s c H _ I h) λa s1 ⟨x,m,B,D,l⟩=>?_));refine aN (iR (YW (j d s1 c m _ B l) λb s2 ⟨y,z,C,g,A⟩=>?_));refine aN (j8 (aN (iR (YW (w d s2 c z x y v a b u _ C D g r A) λ_ F ⟨n,q,p⟩=>?_))));exact wpAny_release ⟨c,n,q,p⟩
noncomputable def LR(te:TE)(g:TG):TS:=λD σ H=>te σ H λx H1=>g x σ H1 D.nx
theorem WI{a e:az}{d:TE}{g:TG}(i:PE X e d)(p:PG X a g)(l:swapsWithSole [a] e pos.line X.env=pure aB:=by rfl)(k:swappedStores [a] e X.env=pure none:=by rfl)
  (m:(hV [a] X.env).map (·.2)=[assign a X.env]:=by rfl):PS X (.Assign [a] e pos) (LR d g):=by
 intro b s c H D I h;refine wpAny_Assign_stores (YW (i b s c H _ I h) λv s1 ⟨x,j,n,o,f⟩=>?_) l k;rw[m];exact YW (p b s1 c j x v _ n o f) λ_ s2 q=>q
theorem BF{i:Nat}{x:aq}{e:az}{b:TE}{a:fS}(p:X.N.Nodup)(d:X.N[i]?=aA x)(f:Ez X.env.scope x)(j:PE X e b)(l:gy e (aA (.Name x a)) pos.line X.env=pure aB:=by rfl)(c:X.fn x=aC\/X.env.scope.names.lookup x=aA .local:=by first | exact .inl rfl | exact .inr rfl | assumption) :
  PS X (.Assign [.Name x a] e pos) (LR b (TQ i)):=by
 intro m s q H D I h;refine wpAny_Assign_Name (YW (j m s q H _ I h) λv s1 ⟨y,k,n,t,g⟩=>?_) l;exact QG n p d f t (λs2 o=>⟨_,k,o,g⟩) c
end
section
variable {X:Cx} {pos:fS}
noncomputable def BG(c:TT)(tb:TS):TS:=λD σ H=>∃W:Nat->St->Hp->Prop,(∃m,W m σ H)/\∀m σ H,W m σ H->
 c σ H λb H1=>if b=aC then ∃N:St->Hp->Prop,(∀σ' H',N σ' H'->∃m',m'<m/\W m' σ' H')/\tb { D with nx:=N,ct:=N,bk:=D.nx } σ H1 else D.nx σ H1
theorem Gi{c:az}{e:List bq}{z:TT}{u:TS}(A:jZ (model X.prog X.w) X.A X.env X.xe)(F:PT X c z)(M:PSs X e u):PS X (.While c e [] pos) (BG z u):=by
 intro o s L H D I h;obtain⟨W,⟨C,B⟩,Uc⟩:=h;refine wpAny_While (codeAny_whileLoop (λn E=>∃σ' H',Inv X o σ' H' E/\W n σ' H') ?_ C ⟨L,H,I,B⟩);rintro n s1 ⟨d,t,J,G⟩;refine eJ A (YW (F o s1 d t _ J (Uc n d t G)) λb s2 ⟨w,x,j⟩=>?_)
 cases b with
 | true=>
  obtain⟨N,y,j⟩:=j;refine eJ A (YW (M o s2 d w _ x j) λf O i=>?_)
  cases f with
  | next=>
   obtain⟨a,g,k,m⟩:=i;obtain⟨p,q,l⟩:=y a g m;exact⟨p,q,a,g,k,l⟩
  | cont=>
   obtain⟨a,g,k,m⟩:=i;obtain⟨p,q,l⟩:=y a g m;exact⟨p,q,a,g,k,l⟩
  | brk=>exact i
  | ret v=>exact i
 | false=>
  exact gk ⟨d,w,x,j⟩
end
structure It where
 go:Nat->Hp->Prop
 yld:Nat->Hp->V->Hp->Prop
 stop:Nat->Hp->Prop
noncomputable def VG(X:Cx)(l4:List (aL×df))(H:Hp)(b:aL):Prop:=
 H b=none/\b≠X.env.locals/\b∉X.fs/\(b∈X.ex\/X.s₀.heap.objs.size<=b)/\(∀x c,X.env.cells.lookup x=aA c->c≠b)/\∀p∈X.pn++l4,p.1≠b
theorem Inv.fpOk{X:Cx}{d:List (aL×df)}{i:St}{H f:Hp}{s:aO}{b:aL}(I:Inv X d i H s)(a:s.heap.objs.size<=b)(h:f b=none):VG X d f b:=by
 refine⟨h,fT (a9 I.lt a),I.nofs a,.inr (aP I.sz a),λx c e z=>?_,λp g z=>?_⟩
 ·obtain⟨v,q⟩:=I.cell x c e;exact absurd (a9 q.lt (by rw[z];exact a)) (cP _)
 ·exact absurd (a9 (aW (I.pin p g).1) (by rw[z];exact a)) (cP _)
structure Ni(P:b9)(w:cW)(K:aE)(tg:az)(J:It)(fp:List aL)(it:aL)(tn:Nat->bp->Prop):Prop where
 mem:it∈fp
 obj:∀i h,tn i h->∀b∈fp,∃o,h.get? b=aA o/\∀v,o.data≠.cell v
 keep:∀i h h',tn i h->(∀b∈fp,∀o,h.get? b=aA o->h'.get? b=aA o)->tn i h'
 item:∀(X:Cx),X.prog=P->X.w=w->X.K=K->X.calm=aC->∀(i:Nat)(l4:List (aL×df))(s:aO)(σ:St)(H:Hp)(E:aI->aO->Prop),Inv X l4 σ H s->(∀b∈fp,VG X l4 H b)->tn i s.heap->J.go i H->
  bJ (model P w) X.A (lF (.ref it)) (λr s1=>∃u,r=aA u/\
   bJ (model P w) X.A (jD tg (.ref it) u) (λ_ s2=>∃x H',Inv X l4 σ H' s2/\RelV x u/\J.yld i H x H'/\tn (i+1) s2.heap/\∀b∈fp,H' b=none) E s1) E s
 done:∀(X:Cx),X.prog=P->X.w=w->X.K=K->X.calm=aC->∀(i:Nat)(l4:List (aL×df))(s:aO)(σ:St)(H:Hp)(E:aI->aO->Prop),Inv X l4 σ H s->(∀b∈fp,VG X l4 H b)->tn i s.heap->J.stop i H->
  bJ (model P w) X.A (lF (.ref it)) (λr s1=>r=none/\Inv X l4 σ H s1) E s
 self:∀(A:cL)(i:Nat)(s:aO)(Q:aI->aO->Prop)(E:aI->aO->Prop),tn i s.heap->Q (.ref it) s->bJ (model P w) A (pyIter (.ref it)) Q E s
abbrev TI:=St->Hp->(It->Hp->Prop)->Prop
noncomputable def PIE(X:Cx)(l4:List (aL×df))(σ:St)(tg:az)(R:It->Hp->Prop)(itv:aI)(s2:aO):Prop:=
 ∃(it:aL) (fp:List aL) (tn:Nat->bp->Prop) (J:It) (H':Hp),itv = .ref it/\Inv X l4 σ H' s2/\Ni X.prog X.w X.K tg J fp it tn/\tn 0 s2.heap/\(∀b∈fp,VG X l4 H' b)/\R J H'
noncomputable def PI(X:Cx)(tg iter:az)(wi:TI):Prop:=
 ∀(l4:List (aL×df))(s:aO)(σ:St)(H:Hp)(R:It->Hp->Prop),Inv X l4 σ H s->wi σ H R->
  bJ (model X.prog X.w) X.A (eval iter X.env) (λv s1=>bJ (model X.prog X.w) X.A (pyIter v) (PIE X l4 σ tg R) X.xe s1) X.xe s
theorem Gj{M:Model}{A:cL}{E:aI->aO->Prop}{s:aO}{c:az}{b:aL}{u:aI}{o:df}{n:String}{vs:Array aI}{Q:Unit->aO->Prop}(e:s.heap.get? b=aA o)(g:o.cls = .type n)(f:o.data = .fields vs)
    (d:["enumerate","zip","dict_itemiterator","dict_reverseitemiterator","odict_iterator","itertools.zip_longest","itertools.pairwise"].contains n=aB) (a:Q () s):bJ M A (jD c (.ref b) u) Q E s:=by
  cases c<;>first
    | exact ak a
    | (cases u<;>first
        | exact ak a
        | (refine aN (wpAny_load e ?_)
           rw[g,f];show bJ M A (if(["enumerate","zip","dict_itemiterator","dict_reverseitemiterator","odict_iterator","itertools.zip_longest","itertools.pairwise"].contains n&&vs[0]?==aA (jL _))=aC then _ else _) Q E s;rw[lU (by intro h;rw[d] at h;cases h)];exact ak a))
noncomputable def Itl(K:aE)(a:aL):It:=
 ⟨λi H=>∃xs x,SqL K H a xs/\xs[i]?=aA x,λi H x H'=>H'=H/\∀xs,SqL K H a xs->xs[i]?=aA x,λi H=>∃xs,SqL K H a xs/\xs.length<=i⟩
noncomputable def Itt(K:aE)(a:aL):It:=
 ⟨λi H=>∃xs x,SqT K H a xs/\xs[i]?=aA x,λi H x H'=>H'=H/\∀xs,SqT K H a xs->xs[i]?=aA x,λi H=>∃xs,SqT K H a xs/\xs.length<=i⟩
noncomputable def Itr(lo:Int)(n:Nat):It:=⟨λi _=>i<n,λi H x H'=>H'=H/\x = .int (lo+i),λi _=>n<=i⟩
theorem Iu{P:b9}{w:cW}{K:aE}{T:az}(a f:aL):Ni P w K T (Itl K a) [f] f (λi h=>h.IsListIter f a i) where
 mem:=by simp
 obj:=λi h st b g=>by
  have e:b=f:=by simpa using g
  subst e;obtain⟨o,e,c,d⟩:=st;exact⟨o,e,λv z=>by rw[d] at z;cases z⟩
 keep:=λi h L st k=>st.at λo e=>k f (by simp) o e
 item:=by intro X C B A J i R s W H E I l st G;subst C B A;obtain⟨xs,x,m,t⟩:=G;obtain⟨Z,n,p,Q⟩:=I.list m;obtain⟨u,S,Y⟩:=n.get t;obtain⟨F,f1,f2,y,q,D⟩:=l f (by simp);refine wpAny_pyNext_list_item st p.isList (by simpa using S) λL j N=>?_;have U:=I.turned (t':=s.toks) (λb o g e=>(N.2 b g).trans e) F f1 y q D;obtain⟨o,e,c,d⟩:=id j;exact⟨u,rfl,Gj e c d rfl ⟨x,H,U,Y,⟨rfl,λys M=>by rw[I.list_inj M m];exact t⟩,j,λb g=>(l b g).1⟩⟩
 done:=by intro X C B A J i R s W H E I l st G;subst C B A;obtain⟨xs,m,t⟩:=G;obtain⟨Z,n,p,Q⟩:=I.list m;obtain⟨F,f1,f2,y,q,D⟩:=l f (by simp);have hl:=n.length;exact wpAny_pyNext_list_end (I.ok.hd J) st p.isList (by simp;omega) λL O=>⟨rfl,I.turned (λb o g e=>O b o g e) F f1 y q D⟩
 self:=λ_ _ _ _ _ st h=>wpAny_pyIter_listiter st h
theorem LS{P:b9}{w:cW}{K:aE}{T:az}(a f:aL):Ni P w K T (Itt K a) [f] f (λi h=>h.IsTupleIter f a i) where
 mem:=by simp
 obj:=λi h st b g=>by
  have e:b=f:=by simpa using g
  subst e;obtain⟨o,e,c,d⟩:=st;exact⟨o,e,λv z=>by rw[d] at z;cases z⟩
 keep:=λi h L st k=>st.at λo e=>k f (by simp) o e
 item:=by intro X C B A J i R s W H E I l st G;subst C B A;obtain⟨xs,x,m,t⟩:=G;obtain⟨Z,n,p,Q⟩:=I.tuple m;obtain⟨u,S,Y⟩:=n.get t;obtain⟨F,f1,f2,y,q,D⟩:=l f (by simp);refine wpAny_pyNext_tuple_item st (p) (by simpa using S) λL j N=>?_;have U:=I.turned (t':=s.toks) (λb o g e=>(N.2 b g).trans e) F f1 y q D;obtain⟨o,e,c,d⟩:=id j;exact⟨u,rfl,Gj e c d rfl ⟨x,H,U,Y,⟨rfl,λys M=>by rw[I.tuple_inj M m];exact t⟩,j,λb g=>(l b g).1⟩⟩
 done:=by intro X C B A J i R s W H E I l st G;subst C B A;obtain⟨xs,m,t⟩:=G;obtain⟨Z,n,p,Q⟩:=I.tuple m;obtain⟨F,f1,f2,y,q,D⟩:=l f (by simp);have hl:=n.length;exact wpAny_pyNext_tuple_end (I.ok.hd J) st (p) (by simp;omega) λL O=>⟨rfl,I.turned (λb o g e=>O b o g e) F f1 y q D⟩
 self:=λ_ _ _ _ _ st h=>wpAny_pyIter_tupleiter st h
theorem LU{P:b9}{w:cW}{K:aE}{G:az}(a:aL)(lo:Int)(n:Nat):Ni P w K G (Itr lo n) [a] a (λi h=>IsRangeIter h a (lo+(i:Nat)*1) ((n:Int)-(i:Nat)) 1) where
 mem:=by simp
 obj:=λi h st b c=>by
  have e:b=a:=by simpa using c
  subst e
  exact⟨_,st,λv z=>by
   have L:=z;cases L⟩
 keep:=λi h p st k=>k a (by simp) _ st
 item:=by intro X A y x l i B s C H E I f st u;subst A y x;obtain⟨q,f1,f2,j,g,m⟩:=f a (by simp);have W:=Walks.range (prog:=X.prog) (w:=X.w) (I.ok.hd l) a lo 1 n;refine W.item i s _ _ u st λv p tk D d kk=>?_;obtain⟨t,rfl⟩:=D;have J:Inv X B C H { s with heap:=p,toks:=tk }:=I.turned (λb o c e=>kk b o (by simpa using c) e) q f1 j g m;refine⟨_,rfl,Gj d rfl rfl rfl ⟨.int (lo+i),H,J,⟨t,?_⟩,⟨rfl,rfl⟩,d,λb c=>(f b c).1⟩⟩;rw[g8]
 done:=by intro X A y x l i B s C H E I f st u;obtain⟨q,f1,f2,j,g,m⟩:=f a (by simp);exact wpAny_pyNext_range_end (I.ok.hd l) st (by have:n<=i:=u;omega) λp F=>⟨rfl,I.turned (λb o c e=>F b o c e) q f1 j g m⟩
 self:=λ_ _ _ _ _ st h=>wpAny_pyIter_rangeiter st h
section
variable {X:Cx} {tg:az}
noncomputable def Zar(K:aE)(tl:TE):TI:=λσ H R=>tl σ H λx H1=>∃a,x = .ref a/\(∃xs,SqL K H1 a xs)/\R (Itl K a) H1
noncomputable def Zct(K:aE)(tl:TE):TI:=λσ H R=>tl σ H λx H1=>∃a,x = .ref a/\(∃xs,SqT K H1 a xs)/\R (Itt K a) H1
theorem EG{l:az}{d:TE}(f:PE X l d):PI X tg l (Zar X.K d):=by
 intro j s m H R I h;refine YW (f j s m H _ I h) λv s1 ⟨x,i,c,n,g⟩=>?_;obtain⟨a,e,⟨z,k⟩,q⟩:=g;subst e;cases n;obtain⟨y,u,p,w⟩:=c.list k;refine wpAny_pyIter_list p.isList ?_;refine⟨s1.heap.objs.size,[s1.heap.objs.size],_,_,i,rfl,c.kept λb o e=>aH _ e,Iu a _,⟨_,ag _ rfl,rfl,rfl⟩,λb t=>?_,q⟩;have e:b=s1.heap.objs.size:=by simpa using t
 subst e;exact c.fpOk (aJ _) (c.hok.fresh (aJ _))
theorem BH{l:az}{d:TE}(f:PE X l d):PI X tg l (Zct X.K d):=by
 intro j s m H R I h;refine YW (f j s m H _ I h) λv s1 ⟨x,i,c,n,g⟩=>?_;obtain⟨a,e,⟨z,k⟩,q⟩:=g;subst e;cases n;obtain⟨y,u,p,w⟩:=c.tuple k;refine jb (p) ?_;refine⟨s1.heap.objs.size,[s1.heap.objs.size],_,_,i,rfl,c.kept λb o e=>aH _ e,LS a _,⟨_,ag _ rfl,rfl,rfl⟩,λb t=>?_,q⟩;have e:b=s1.heap.objs.size:=by simpa using t
 subst e;exact c.fpOk (aJ _) (c.hok.fresh (aJ _))
theorem MI{c:List (aL×df)}{f:St}{H:Hp}{s:aO}{R:It->Hp->Prop}{E:aI->aO->Prop}{lo a:Int}{t u v:Tok}{tk:Nat}(I:Inv X c f H s)(h : -(2^62)<=lo)(g:lo<2^62)(i : -(2^62)<=a)(l:a<2^62)
  (q:R (Itr lo (a-lo).toNat) H):bJ (model X.prog X.w) X.A (pyIter (.ref s.heap.objs.size)) (PIE X c f tg R) E { s with heap:=s.heap.push { cls:=.type "range",data:=.fields #[.int lo t,.int a u,.int 1 v] },toks:=tk }:=by
 refine wpAny_pyIter_range (IsRange.new ..) (small_one h g i l) ?_;have d:Inv X c f H { s with heap:=s.heap.push { cls:=.type "range",data:=.fields #[.int lo t,.int a u,.int 1 v] },toks:=tk }:=I.kept λb o e=>aH _ e
 refine⟨(s.heap.push { cls:=.type "range",data:=.fields #[.int lo t,.int a u,.int 1 v] }).objs.size,[(s.heap.push { cls:=.type "range",data:=.fields #[.int lo t,.int a u,.int 1 v] }).objs.size],_,_,H,rfl,
  d.kept λb o e=>aH _ e,LU _ lo (a-lo).toNat,?_,λb m=>?_,q⟩
 ·have j:lo+((0:Nat):Int)*1=lo:=by simp
  have k:(((a-lo).toNat:Nat):Int)-((0:Nat):Int)=j2.Range.rangeSize lo a 1:=by rw[rangeSize_one];split<;>omega
  rw[j,k];exact ag _ rfl
 ·have e:b=(s.heap.push { cls:=.type "range",data:=.fields #[.int lo t,.int a u,.int 1 v] }).objs.size:=by simpa using m
  subst e;exact d.fpOk (aJ _) (d.hok.fresh (aJ _))
noncomputable def Zas(ta:TA):TI:=λσ H R=>ta σ H λvs H1=>∃j:Int,vs=[.int j]/\-(2^62)<=j/\j<2^62/\R (Itr 0 j.toNat) H1
noncomputable def Zat(ta:TA):TI:=λσ H R=>ta σ H λvs H1=>∃i j:Int,vs=[.int i,.int j]/\(-(2^62)<=i/\i<2^62/\-(2^62)<=j/\j<2^62)/\R (Itr i (j-i).toNat) H1
theorem Iv{a:az}{c:TA}{p pos:fS}(n:Gl X "range")(o:X.mg "range" = none)(d:PA X [a] c)(f:aX [a] X.env=[(aB,eval a X.env)]:=by rfl):PI X tg (.Call (.Name "range" p) [a] [] pos) (Zas c):=by
 intro g s l H R I h;refine Call_ (Tf I n o boot_range (cx (YW (d pos g s l H _ I h) λv s1 ⟨vs,u,k,m,b⟩=>?_) f rfl));obtain⟨j,e,b,i,q⟩:=b;subst e
 cases m with
 | cons r rr=>
  cases rr;obtain⟨t,rfl⟩:=r;exact call_range_1 (MI k (by omega) (by omega) b i (by simpa using q))
theorem Iw{a b:az}{f:TA}{p pos:fS}(x:Gl X "range")(y:X.mg "range" = none)(g:PA X [a,b] f)(m:aX [a,b] X.env=[(aB,eval a X.env),(aB,eval b X.env)]:=by rfl)(c:aX [b] X.env=[(aB,eval b X.env)]:=by rfl) :
  PI X tg (.Call (.Name "range" p) [a,b] [] pos) (Zat f):=by
 intro n s v H R I h;refine Call_ (Tf I x y boot_range (cx (YW (g pos n s v H _ I h) λA s1 ⟨vs,z,u,w,d⟩=>?_) (by rw[m,c]) (by rw[c];rfl)));obtain⟨i,j,e,⟨d,o,l,k⟩,q⟩:=d;subst e
 cases w with
 | cons r rr=>
  cases rr with
  | cons r' rr=>
   cases rr;obtain⟨t,rfl⟩:=r;obtain⟨t',rfl⟩:=r';exact call_range_2 (MI u d o l k q)
noncomputable def Zcu(wi:TI)(g:TG)(tb:TS):TS:=λD σ H=>wi σ H λJ H1=>∃W:Nat->Nat->St->Hp->Prop,(∃m,W 0 m σ H1)/\∀i m σ H,W i m σ H->
 (J.stop i H/\D.nx σ H)\/(J.go i H/\∃N:St->Hp->Prop,(∀σ' H',N σ' H'->∃m',m'<m/\W (i+1) m' σ' H')/\∀x H',J.yld i H x H'->g x σ H' λσ2 H2=>tb { D with nx:=N,ct:=N,bk:=D.nx } σ2 H2)
noncomputable def Sq(fp:List aL)(h:bp):List (aL×df):=fp.filterMap λb=>(h.get? b).map λo=>(b,o)
theorem VH{a:List aL}{h:bp}{b:aL}{o:df}(c:b∈a)(e:h.get? b=aA o):(b,o)∈Sq a h:=jc.mpr ⟨b,c,by rw[e];rfl⟩
theorem Iy{a:List aL}{h:bp}{p:aL×df}(d:p∈Sq a h):p.1∈a/\h.get? p.1=aA p.2:=by
 obtain⟨b,f,e⟩:=jc.mp d
 cases q:h.get? b with
 | none=>rw[q] at e;cases e
 | some o=>
  rw[q] at e;have c:=aw e;subst c;exact⟨f,q⟩
theorem Inv.pinned{a:List (aL×df)}{g:St}{H:Hp}{s:aO}{c:List aL}(I:Inv X a g H s)(j:∀b∈c,VG X a H b)(k:∀b∈c,∃o,s.heap.get? b=aA o/\∀v,o.data≠.cell v):Inv X (a++Sq c s.heap) g H s:=
 I.pins_of λp i=>(b6.mp i).elim (λz=>I.pin p (aj _ z)) λz=>by obtain⟨h,e⟩:=Iy z;obtain⟨l,f1,f2,_⟩:=j p.1 h;obtain⟨o,f,d⟩:=k p.1 h;rw[e] at f;cases f;exact⟨e,l,f1,f2,d⟩
theorem Inv.unpinned{a c:List (aL×df)}{b:St}{H:Hp}{s:aO}(I:Inv X (a++c) b H s):Inv X a b H s:=I.pins_of λp d=>I.pin p (aj _ (bg _ d))
theorem BI{l:az}{w:List bq}{Y:TI}{g:TG}{tb:TS}{pos:fS}(B:jZ (model X.prog X.w) X.A X.env X.xe)(hc:X.calm=aC)(hi:PI X tg l Y)(hg:PG X tg g)(q:PSs X w tb)
  (hs:∀x,bj l X.env x=pure x:=by intro _;rfl):PS X (.For tg l w [] pos) (Zcu Y g tb):=by
 intro y s σ H D I h;refine wpAny_For (YW (hi y s σ H _ I h) λv s1 h1=>YW h1 λitv s2 h2=>?_) hs;obtain⟨it,G,Z,J,H2,e,I2,T,M,f2,W,⟨m0,w0⟩,Uc⟩:=h2;subst e
 -- what stays aC of the iterator's objects through the loop
 have p:∀{H':Hp},(∀b∈G,H' b=none)->∀b∈G,VG X y H' b:=λhn b q=>⟨hn b q,(f2 b q).2⟩;refine codeAny_forLoop_any (λn s'=>∃i σ' H',Inv X y σ' H' s'/\Z i s'.heap/\(∀b∈G,H' b=none)/\W i n σ' H') ?_ m0 ⟨0,σ,H2,I2,M,λb q=>(f2 b q).1,w0⟩;rintro n s3 ⟨i,j,L,I3,E,C,w3⟩;rcases Uc i n j L w3 with⟨A,qn⟩ | ⟨go,N,hN,step⟩
 ·refine eJ B (YW (T.done X rfl rfl rfl hc i y s3 j L X.xe I3 (p C) E A) λr s4 ⟨O,I4⟩=>?_);subst O;exact gk ⟨j,L,I4,qn⟩
 ·refine eJ B (YW (T.item X rfl rfl rfl hc i y s3 j L X.xe I3 (p C) E go) λr s4 ⟨u,O,h4⟩=>?_);subst O;refine eJ B (YW h4 λ_ s5 ⟨x,U,I5,r5,y5,z,P⟩=>?_);have Q:=I5.pinned (p P) (T.obj _ _ z);refine eJ B (YW (hg _ s5 j U x u _ Q r5 (step x U y5)) λ_ s6 ⟨R,H6,I6,q6⟩=>?_);refine eJ B (YW (q _ s6 R H6 _ I6 q6) λf S t=>?_);have again:∀{a:St}{k:Hp},Inv X (y++Sq G s5.heap) a k S->N a k->∃m,m<n/\∃i σ' H',Inv X y σ' H' S/\Z i S.heap/\(∀b∈G,H' b=none)/\W i m σ' H':=λ{a k} c F=>by obtain⟨m',hm,w7⟩:=hN a k F;refine⟨m',hm,i+1,a,k,c.unpinned,T.keep _ _ _ z λb q o e=>(c.pin (b,o) (aj _ (aj _ (VH q e)))).1,λb q=>?_,w7⟩;obtain⟨o,e,d⟩:=T.obj _ _ z b q;exact(c.pin (b,o) (aj _ (aj _ (VH q e)))).2.1
  cases f with
  | next=>obtain⟨a,k,c,F⟩:=t;exact again c F
  | cont=>obtain⟨a,k,c,F⟩:=t;exact again c F
  | brk=>obtain⟨a,k,c,t⟩:=t;exact⟨a,k,c.unpinned,t⟩
  | ret v=>obtain⟨x7,a,k,c,r7,t⟩:=t;exact⟨x7,a,k,c.unpinned,r7,t⟩
end
abbrev R2:=V->V->Hp->VK->Prop
noncomputable def TN(X:Cx)(f:aI->aI->Sem aI)(r:R2):Prop:=
 ∀(l4:List (aL×df))(s:aO)(σ:St)(H:Hp)(x y:V)(v u:aI)(Q:VK),Inv X l4 σ H s->RelV x v->RelV y u->r x y H Q->
  bJ (model X.prog X.w) X.A (f v u) (EP X l4 σ Q) X.xe s
noncomputable def UnR(X:Cx)(f:aI->Sem aI)(r:V->Hp->VK->Prop):Prop:=
 ∀(l4:List (aL×df))(s:aO)(σ:St)(H:Hp)(x:V)(v:aI)(Q:VK),Inv X l4 σ H s->RelV x v->r x H Q->
  bJ (model X.prog X.w) X.A (f v) (EP X l4 σ Q) X.xe s
noncomputable def XA(X:Cx)(f:aI)(r:List V->Hp->VK->Prop):Prop:=
 ∀(l4:List (aL×df))(s:aO)(σ:St)(H:Hp)(xs:List V)(us:List aI)(Q:VK),Inv X l4 σ H s->Vals xs us->r xs H Q->
  bJ (model X.prog X.w) X.A (call f us) (EP X l4 σ Q) X.xe s
noncomputable def Zcw(X:Cx)(r:V->Hp->(Bool->Hp->Prop)->Prop):Prop:=
 ∀(l4:List (aL×df))(s:aO)(σ:St)(H:Hp)(x:V)(v:aI)(Q:Bool->Hp->Prop),Inv X l4 σ H s->RelV x v->r x H Q->
  bJ (model X.prog X.w) X.A (truthy v) (TP X l4 σ Q) X.xe s
noncomputable def A8(r:R2)(ta tb:TE):TE:=λσ H Q=>ta σ H λx H1=>tb σ H1 λy H2=>r x y H2 Q
noncomputable def tUn(r:V->Hp->VK->Prop)(ta:TE):TE:=λσ H Q=>ta σ H λx H1=>r x H1 Q
noncomputable def rI(C:Int->Int->Prop)(g:Int->Int->V):R2:=λx y H Q=>∃i j,x = .int i/\y = .int j/\C i j/\Q (g i j) H
noncomputable def CM(g:Int->Int->V):R2:=λx y H Q=>∃i j,x = .int i/\y = .int j/\Q (g i j) H
noncomputable def rU(g:Int->V):V->Hp->VK->Prop:=λx H Q=>∃i,x = .int i/\Q (g i) H
section
variable {X:Cx} {a b c:az} {ta tb tc:TE} {pos:fS}
theorem BJ(n:PE X a ta)(w:PE X b tb){i:List (aL×df)}{s:aO}{d:St}{H:Hp}{R:V->V->Hp->Prop}(I:Inv X i d H s)
  (h:ta d H λx j=>tb d j λy c=>R x y c) {Q:aI->aO->Prop} {f:aI->aI->Sem aI}
  (k:∀v u s2 x y c,Inv X i d c s2->RelV x v->RelV y u->R x y c->bJ (model X.prog X.w) X.A (f v u) Q X.xe s2) :
  bJ (model X.prog X.w) X.A (eval a X.env) (λv e=>bJ (model X.prog X.w) X.A (eval b X.env) (λu g=>bJ (model X.prog X.w) X.A (f v u) Q X.xe g) X.xe e) X.xe s:=by
 refine YW (n i s d H _ I h) λv s1 ⟨x,j,p,t,m⟩=>?_;refine YW (w i s1 d j _ p m) λu s2 ⟨y,c,q,l,o⟩=>?_;exact k v u s2 x y c q t l o
theorem Gk{op:Operator}{r:R2}(c:TN X (dU op) r)(d:PE X a ta)(l:PE X b tb):PE X (.BinOp a op b pos) (A8 r ta tb):=by intro f s k H Q I h;exact wpAny_BinOp (BJ d l I h λv u s2 x y g j e i q=>c f s2 k g x y v u Q j e i q)
theorem Zau{op:UnaryOp}{r:V->Hp->VK->Prop}(f:UnR X (unaryOp op) r)(j:PE X a ta):PE X (.UnaryOp op a pos) (tUn r ta):=by intro b s c H Q I h;exact UnaryOp_ (YW (j b s c H _ I h) λv s1 ⟨x,e,g,d,i⟩=>f b s1 c e x v Q g d i)
theorem BK{f:aI->aI->Sem aI}{C:Int->Int->Prop}{g:Int->Int->Int}
  (rule:∀(i j:Int)(t u:Tok)(s:aO)(Q:aI->aO->Prop)(E:aI->aO->Prop),C i j->Q (.int (g i j) s.toks) { s with toks:=s.toks+1 }->bJ (model X.prog X.w) X.A (f (.int i t) (.int j u)) Q E s) :
  TN X f (rI C λi j=>.int (g i j)):=by
 intro d s e H x y v u Q I a c h;obtain⟨i,j,rfl,rfl,b,q⟩:=h;obtain⟨t,rfl⟩:=a;obtain⟨t',rfl⟩:=c;exact rule i j t t' s _ _ b ⟨.int (g i j),H,I.tok _,⟨_,rfl⟩,q⟩
theorem Zav{f:aI->aI->Sem aI}{g:Int->Int->Int}
  (rule:∀(i j:Int)(t u:Tok)(s:aO)(Q:aI->aO->Prop)(E:aI->aO->Prop),Q (.int (g i j) s.toks) { s with toks:=s.toks+1 }->bJ (model X.prog X.w) X.A (f (.int i t) (.int j u)) Q E s) :
  TN X f (CM λi j=>.int (g i j)):=by
 intro c s d H x y v u Q I a b h;obtain⟨i,j,rfl,rfl,q⟩:=h;obtain⟨t,rfl⟩:=a;obtain⟨t',rfl⟩:=b;exact rule i j t t' s _ _ ⟨.int (g i j),H,I.tok _,⟨_,rfl⟩,q⟩
theorem Zaw{f:aI->aI->Sem aI}{g:Int->Int->Bool}
  (rule:∀(i j:Int)(t u:Tok)(s:aO)(Q:aI->aO->Prop)(E:aI->aO->Prop),Q (.bool (g i j)) s->bJ (model X.prog X.w) X.A (f (.int i t) (.int j u)) Q E s) :
  TN X f (CM λi j=>.bl (g i j)):=by
 intro c s d H x y v u Q I a b h;obtain⟨i,j,rfl,rfl,q⟩:=h;obtain⟨t,rfl⟩:=a;obtain⟨t',rfl⟩:=b;exact rule i j t t' s _ _ ⟨.bl (g i j),H,I,rfl,q⟩
noncomputable def Gm(i j:Int):Prop:=0<j/\j<1073741824
noncomputable def CN(i j:Int):Prop:=j≠0/\j.natAbs<1073741824
noncomputable def Gn(i j:Int):Prop:=0<=j/\j<=1000000/\i.natAbs<2^64
noncomputable def CMul(i j:Int):Prop:=(-(2^64)<i/\i<2^64)\/(-(2^64)<j/\j<2^64)
theorem CMul.ok{i j:Int}(h:CMul i j):IntMulOk i j:=by
 rcases h with⟨b,a⟩ | ⟨b,a⟩
 ·exact .of_left (intBits_le_64 b a)
 ·exact .of_right (intBits_le_64 b a)
theorem BL:TN X (dU .Add) (CM λi j=>.int (i+j)):=Zav λ_ _ _ _ _ _ _ q=>add_int q
theorem BM:TN X (dU .Sub) (CM λi j=>.int (i-j)):=Zav λ_ _ _ _ _ _ _ q=>sub_int q
theorem BN:TN X (dU .Mult) (rI CMul λi j=>.int (i*j)):=BK λ_ _ _ _ _ _ _ a q=>mul_int q a.ok
theorem EH:TN X (dU .FloorDiv) (rI Gm λi j=>.int (i/j)):=BK λi j _ _ _ _ _ a q=>by have c:=a.1;have b:=a.2;exact js (by omega) (by rw[dB i (by omega)];exact q) (.inl (PyProof.noPylong_small (by omega)))
theorem BO:TN X (dU .Mod) (rI (λ_ j=>0<j) λi j=>.int (i%j)):=BK λi j _ _ _ _ _ a q=>by exact mod_int' (by omega) (by rw[Int.fmod_eq_emod_of_nonneg i (by omega)];exact q)
theorem EI:TN X (dU .Mod) (rI (λ_ j=>j≠0) λi j=>.int (i.fmod j)):=BK λ_ _ _ _ _ _ _ a q=>mod_int' a q
theorem BP:TN X (dU .Pow) (rI Gn λi j=>.int (i^j.toNat)):=BK λ_ _ _ _ _ _ _ a q=>pow_int_small a.1 a.2.1 a.2.2 q
theorem unI{f:aI->Sem aI}{g:Int->Int}
  (rule:∀(i:Int)(t:Tok)(s:aO)(Q:aI->aO->Prop)(E:aI->aO->Prop),Q (.int (g i) s.toks) { s with toks:=s.toks+1 }->bJ (model X.prog X.w) X.A (f (.int i t)) Q E s) :
  UnR X f (rU λi=>.int (g i)):=by
 intro b s c H x v Q I a h;obtain⟨i,rfl,q⟩:=h;obtain⟨t,rfl⟩:=a;exact rule i t s _ _ ⟨.int (g i),H,I.tok _,⟨_,rfl⟩,q⟩
theorem BQ:UnR X (unaryOp .USub) (rU λi=>.int (-i)):=unI λ_ _ _ _ _ q=>neg_int q
end
section
variable {X:Cx} {a b c:az} {ta tb tc:TE} {pos:fS}
theorem CO:TN X (fK .Lt) (CM λi j=>.bl (decide (i<j))):=Zaw λ_ _ _ _ _ _ _ q=>lt_int q
theorem CP:TN X (fK .Gt) (CM λi j=>.bl (decide (j<i))):=Zaw λ_ _ _ _ _ _ _ q=>gt_int q
theorem Uq(b:az){op:kU}(h:op≠.In:=by decide)(a:op≠.NotIn:=by decide):c9 op b=aB:=by
 have c:(op==kU.In)=aB:=by cases op<;>first | rfl | exact absurd rfl h
 have d:(op==kU.NotIn)=aB:=by cases op<;>first | rfl | exact absurd rfl a
 cases b<;>simp[c9,c,d]
theorem EJ{op:kU}{r:R2}(c:TN X (fK op) r)(d:PE X a ta)(m:PE X b tb)(l:c9 op b=aB):PE X (.Compare a [op] [b] pos) (A8 r ta tb):=by intro f s k H Q I h;exact wpAny_Compare1 (BJ d m I h λv u s2 x y g j e i q=>c f s2 k g x y v u Q j e i q) l
noncomputable def Jj(t:TE):TT:=λσ H Q=>t σ H λx H'=>∃k,x = .bl k/\Q k H'
theorem EK{op:kU}{r:R2}(i:TN X (fK op) r)(m:PE X a ta)(E:PE X b tb)(D:c9 op b=aB):PT X (.Compare a [op] [b] pos) (Jj (A8 r ta tb)):=by
 intro d s f H Q I h
 refine jI (YW (m d s f H _ I h) λv s1 ⟨x,n,A,C,l⟩=>YW (E d s1 f n _ A l) λu s2 ⟨y,t,B,g,w⟩=>
  YW (i d s2 f t x y v u _ B C g w) λc F ⟨z,o,q,j,k,e,p⟩=>?_) D
 subst e;cases j;exact cX ⟨o,q,p⟩
noncomputable def Zcx(K:aE)(x:V)(H:Hp)(k:Bool):Prop:=
 match x with
 | .non=>k=aB
 | .bl b=>k=b
 | .int i=>k=(i != 0)
 | .str y=>y.length<=sizeLine/\k=((y.length:Int) != 0)
 | .byt y=>y.size<=sizeLine/\k=((y.size:Int) != 0)
 | .ref p=>(∃xs,SqL K H p xs/\k = !xs.isEmpty)\/(∃xs,SqT K H p xs/\k = !xs.isEmpty)\/∃l6,H p=aA (.dK l6)/\k = !l6.isEmpty
 | _=>False
theorem LV{b:Type}{a:List (b×V)}{vs:List (b×aI)}(r:KV a vs):(!vs.isEmpty) = !a.isEmpty:=by cases r<;>rfl
theorem QH{a:List V}{b:List aI}(r:Vals a b):(!b.toArray.isEmpty) = !a.isEmpty:=by cases r<;>simp
theorem Nj:(sizeLine:Nat)<2^63:=by rw[jM];decide
theorem tru_ok:Zcw X (λx H Q=>∃k,Zcx X.K x H k/\Q k H):=by
 intro A s B H x v Q I d h;obtain⟨k,e,q⟩:=h;have z:=jM
 cases x with
 | non=>
  cases d;have a:=e;subst a;exact truthy_none ⟨H,I,q⟩
 | bl b=>
  cases d;have a:=e;subst a;exact cX ⟨H,I,q⟩
 | int i=>
  obtain⟨t,rfl⟩:=d;have a:=e;subst a;exact PySem.P.truthy_int ⟨H,I,q⟩
 | str y=>
  obtain⟨t,rfl⟩:=d;obtain⟨l,a⟩:=e;subst a;exact PySem.P.truthy_str (by omega) ⟨H,I.tok _,q⟩
 | byt y=>
  obtain⟨t,rfl⟩:=d;obtain⟨l,a⟩:=e;subst a;exact PySem.W.truthy_bytes (by omega) ⟨H,I.tok _,q⟩
 | ref p=>
  cases d;have a:=e;rcases a with⟨u,f,a⟩ | ⟨u,f,a⟩ | ⟨w,f,a⟩
  ·subst a;obtain⟨o,r,g,j⟩:=I.list f;have c:=r.length;exact wpAny_truthy_list g.isList (by simp only[aR];omega) ⟨H,I.tok _,by rw[QH r];exact q⟩
  ·subst a;obtain⟨o,r,g,j⟩:=I.tuple f;have c:=r.length;exact truthy_tuple g (by simp only[aR];omega) ⟨H,I.tok _,by rw[QH r];exact q⟩
  ·subst a;obtain⟨j,n,vs,r,m⟩:=I.hok p _ f;have c:=Paired.length r;exact wpAny_truthy_dict n m (by omega) ⟨H,I.tok _,by rw[LV r];exact q⟩
 | _=>exact(e).elim
theorem Ur{x:V}{a:List aI}(r:Vals [x] a):∃u,a=[u]/\RelV x u:=by
 cases r with
 | cons r1 r2=>cases r2;exact⟨_,rfl,r1⟩
theorem CQ{x y:V}{a:List aI}(r:Vals [x,y] a):∃u w',a=[u,w']/\RelV x u/\RelV y w':=by
 cases r with
 | cons r1 r2=>
  cases r2 with
  | cons r3 r4=>cases r4;exact⟨_,_,rfl,r1,r3⟩
theorem MJ:XA X (.builtin "abs") (λa H Q=>∃i,a=[.int i]/\Q (.int (if i<0 then -i else i)) H):=by intro c s d H a b Q I r h;obtain⟨i,rfl,q⟩:=h;obtain⟨u,rfl,t,rfl⟩:=Ur r;exact call_abs_int λu tk=>⟨.int (if i<0 then -i else i),H,I.tok _,⟨_,rfl⟩,q⟩
theorem Iz(c:X.calm=aC):XA X (.builtin "max") (λb H Q=>∃i j,b=[.int i,.int j]/\Q (.int (if j>i then j else i)) H):=by
 intro f s l H b e Q I r h;obtain⟨i,j,rfl,q⟩:=h;obtain⟨u,d,rfl,⟨t,rfl⟩,⟨t',rfl⟩⟩:=CQ r;refine max_two_ints (I.ok.hd c) λg tk k=>⟨_,H,I.kept k,?_,q⟩;by_cases a:j>i
 ·rw[lQ a,lQ a];exact⟨_,rfl⟩
 ·rw[lU a,lU a];exact⟨_,rfl⟩
theorem IA:XA X (.type "int") (λa H Q=>(∃i,a=[.int i]/\Q (.int i) H)\/∃k,a=[.bl k]/\Q (.int (if k then 1 else 0)) H):=by
 intro d s e H a c Q I r h;rcases h with⟨i,rfl,q⟩ | ⟨k,rfl,q⟩
 ·obtain⟨u,rfl,t,rfl⟩:=Ur r;exact call_int_int ⟨.int i,H,I,⟨_,rfl⟩,q⟩
 ·obtain⟨u,rfl,b⟩:=Ur r;cases b;exact call_int_bool ⟨.int (if k then 1 else 0),H,I.tok _,⟨_,rfl⟩,q⟩
noncomputable def Zax(K:aE)(x:V)(H:Hp)(n:Nat):Prop:=
 match x with
 | .str y=>y.length<=sizeLine/\n=y.length
 | .byt y=>y.size<=sizeLine/\n=y.size
 | .ref p=>(∃xs,SqL K H p xs/\n=xs.length)\/∃xs,SqT K H p xs/\n=xs.length
 | _=>False
theorem Gp:XA X (.builtin "len") (λc H Q=>∃x n,c=[x]/\Zax X.K x H n/\Q (.int n) H):=by
 intro v s w H c o Q I r h;obtain⟨x,n,rfl,e,q⟩:=h;obtain⟨u,rfl,g⟩:=Ur r;have m:=jM
 cases x with
 | str y=>
  obtain⟨t,rfl⟩:=g;obtain⟨j,b⟩:=e;subst b;exact len_str (by omega) ⟨.int _,H,I.tok _,⟨_,rfl⟩,q⟩
 | byt y=>
  obtain⟨t,rfl⟩:=g;obtain⟨j,b⟩:=e;subst b;exact PySem.W.len_bytes (by omega) ⟨.int _,H,I.tok _,⟨_,rfl⟩,q⟩
 | ref p=>
  cases g;have b:=e;rcases b with⟨c,f,b⟩ | ⟨c,f,b⟩
  ·subst b;obtain⟨l,d,i,k⟩:=I.list f;have a:=d.length;exact Calls.call_len_list i.isList (by simp only[aR];omega) ⟨.int c.length,H,I.tok _,⟨_,by simp only[aR];rw[a]⟩,q⟩
  ·subst b;obtain⟨l,d,i,k⟩:=I.tuple f;have a:=d.length;exact len_tuple i (by simp only[aR];omega) ⟨.int c.length,H,I.tok _,⟨_,by simp only[aR];rw[a]⟩,q⟩
 | _=>exact(e).elim
end
structure ObjM(h:bp)(x dx C:aL)(mA:aq->Option aI):Prop where
 obj:h.get? x=aA (jC C dx)
 ns:h.Ns1 dx mA
 ne:dx≠x
theorem IB{h:bp}{g:aL}{f:aq->Option aI}(n:h.Ns1 g f):∃od,h.get? g=aA od/\∀b,jN b od=aA (f b):=by
 obtain⟨o,d,ep,j,k,m,_,p⟩:=n;refine⟨o,j,λb=>?_⟩;have e:=p b;unfold nsFind findBy at e;rw[<-Array.find?_toList] at e;unfold jN;rw[k]
 dsimp only
 split
 ·rename_i y q;rw[q] at e;exact congrArg aA e
 ·rename_i q;rw[q] at e;have a:d.toList.any (·.refKey)=aB:=by rw[gH];intro y i;obtain⟨z,t,c⟩:=m y (Array.mem_toList_iff.mp i);simp[DictEntry.refKey,c]
  have l:¬d.toList.any (·.refKey)=aC:=by rw[a];exact bO
  rw[lU l];exact congrArg aA e
theorem ObjM.look{h:bp}{x b C:aL}{c:aq->Option aI}(I:ObjM h x b C c):∃a,PySem.W.InstAt h x (jC C b) C (aA a)/\∀name,jN name a=aA (c name):=
 let⟨a,d,e⟩:=IB I.ns
 ⟨a,⟨I.obj,rfl,rfl,d⟩,e⟩
section
variable {P:b9} {w:cW} {H H':Hp} {h h':bp} {a C dx:aL} {fs fs':List (aq×V)}
theorem EL(c:HOk P w H h)(e:H a=aA (.ins C dx fs)):∃b,ObjM h a dx C b/\(∀f,Bn (fs.lookup f) (b f))/\kz b (fs.map (·.1))/\fs.length<=1000/\H dx=aA (.own a):=by obtain⟨d,z,ne,g,b,n,r,q⟩:=(c a _ e);exact⟨b,⟨g,n,ne⟩,r,q,z,d⟩
end
structure Cls(K:aE)(C:aL):Prop where
 pg:kM K C aq.empty=aC
 hd:PySem.W.hasDictIn K C=aC
 po:PySem.W.plainOver K C=aC
 sa:kf K (.ref C) "__setattr__" = aA (aA (.builtin "object.__setattr__"))
theorem Cls.get{K:aE}{C:aL}(c:Cls K C)(f:aq):kM K C f=aC:=c.pg
section
variable {X:Cx} {l4:List (aL×df)} {σ:St} {H:Hp} {s:aO} {A:cL} {E:aI->aO->Prop} {Q:aI->aO->Prop} {c:aI} {b:Bool}
inductive TyOf(K:aE)(H:Hp):V->aI->Prop where
 | non:TyOf K H .non (.type "NoneType")
 | bl (x:Bool):TyOf K H (.bl x) (.type "bool")
 | int (i:Int):TyOf K H (.int i) (.type "int")
 | str (x:aq):TyOf K H (.str x) (.type "str")
 | flt (x:UInt64):TyOf K H (.flt x) (.type "float")
 | lst {a:aL} {xs:List V} (e:H a=aA (.lst xs)):TyOf K H (.ref a) (.type "list")
 | frz {a:aL} {o:df} {xs:List V} (e:H a=aA (.frz o (.lst xs))):TyOf K H (.ref a) (.type "list")
 | tup {a:aL} {xs:List V} (e:H a=aA (.tup xs)):TyOf K H (.ref a) (.type "tuple")
 | dK {a:aL} {l6:List (Of×V)} (e:H a=aA (.dK l6)):TyOf K H (.ref a) (.type "dict")
 | dT {a:aL} {l6:List (List Of×V)} (e:H a=aA (.dT l6)):TyOf K H (.ref a) (.type "dict")
 | ins {a C dx:aL} {fs:List (aq×V)} (e:H a=aA (.ins C dx fs)) (cl:Cls K C) (ha:kf K (.ref C) "__class__" = aA (aA (.builtin "object.__class__")))
   (hn:PySem.W.specialIn K (.builtin "object.__class__") "__get__" = aA (aA (.builtin "getset_descriptor.__get__"))) (htk:PySem.W.takesIn K (.builtin "object.__class__")=aA aC)
   (hm:PySem.W.mroIn K C (.type "object")=aA aC):TyOf K H (.ref a) (.ref C)
theorem IC{x:V}{u t:aI}(I:Inv X l4 σ H s)(d:RelV x u)(ty:TyOf X.K H x t)(e:dC X.K t c=aA b)(h:∀tk,Q (.bool b) { s with toks:=tk }) :
  bJ (model X.prog X.w) A (call (.builtin "isinstance") [u,c]) Q E s:=by
 cases ty with
 | non=>cases (d);exact cQ PySem.W.kitx_none I.kIn dJ e (λz=>nomatch z) h
 | bl y=>cases (d);exact cQ PySem.W.kitx_bool I.kIn dJ e (λz=>nomatch z) h
 | int i=>obtain⟨t,q⟩:=(d);cases q;exact cQ PySem.W.kitx_int I.kIn dJ e (λz=>nomatch z) h
 | str y=>obtain⟨t,q⟩:=(d);cases q;exact cQ PySem.W.kitx_str I.kIn dJ e (λz=>nomatch z) h
 | flt y=>obtain⟨t,q⟩:=(d);cases q;exact cQ PySem.W.kitx_float I.kIn dJ e (λz=>nomatch z) h
 | @lst a j ea=>
  cases (d);obtain⟨_,_,n,_,f⟩:=(I.hok a _ ea);exact cQ jt I.kIn ⟨_,f,rfl⟩ e (λz=>nomatch z) h
 | @frz a ob j ea=>
  cases (d);obtain⟨_,_,_,n,_,f⟩:=(I.hok a _ ea);exact cQ jt I.kIn ⟨_,f,rfl⟩ e (λz=>nomatch z) h
 | @tup a j ea=>
  cases (d);obtain⟨_,_,_,p⟩:=(I.hok a _ ea);obtain⟨o,f,g,_⟩:=p;exact cQ PySem.W.kitx_tuple I.kIn ⟨o,f,g⟩ e (λz=>nomatch z) h
 | @dK a l6 ea=>
  cases (d);obtain⟨_,_,vs,_,p⟩:=(I.hok a _ ea);obtain⟨o,k,ep,f,g,_⟩:=p;exact cQ ju I.kIn ⟨o,f,g.1⟩ e (λz=>nomatch z) h
 | @dT a l6 ea=>
  cases (d);obtain⟨_,_,j,_,o,k,ep,f,g,_⟩:=(I.hok a _ ea);exact cQ ju I.kIn ⟨o,f,g.1⟩ e (λz=>nomatch z) h
 | @ins a C dx fs ea cl ha hn htk hm=>
  cases (d);obtain⟨m,O,_⟩:=EL I.hok ea;obtain⟨l,J,_⟩:=O.look;exact cQ (PySem.W.kitx_own (cl.get _) cl.hd ha hn htk hm) I.kIn J e (λz=>nomatch z) h
end
structure Room(k:Nat)(A:cL):Prop where
 hd:A.handled=none
 dp:A.depth+3*k+5<jO
 un:A.units+16*k+200<gJ
 gd:A.guards=aA []
theorem Room.mono{j k:Nat}{A:cL}(r:Room k A)(h:j<=k):Room j A:=⟨r.hd,by have:=r.dp;omega,by have:=r.un;omega,r.gd⟩
theorem Room.deeper{k:Nat}{A:cL}(r:Room (k+1) A)(env:kK):Room k (A.deeper env):=
 ⟨r.hd,by have:=r.dp;show A.depth+1+3*k+5<_;omega,by have:=r.un;show A.units+3+16*k+200<_;omega,r.gd⟩
theorem Room.depth{k:Nat}{A:cL}(r:Room k A):A.depth<jO:=by have:=r.dp;omega
theorem Room.units{k:Nat}{A:cL}(r:Room k A):A.units+64<gJ:=by have:=r.un;omega
noncomputable def EM:TA:=λ_ H Q=>Q [] H
noncomputable def OE(ta:TE)(tr:TA):TA:=λσ H Q=>ta σ H λx H1=>tr σ H1 λxs H2=>Q (x::xs) H2
section
variable {X:Cx} {e:az} {es:List az} {te:TE} {t:TA} {pos:fS}
theorem Vb:PA X [] EM:=λ_ _ _ _ H Q I h=>Calls.spliced_nil ⟨[],H,I,.nil,h⟩
theorem YY(g:PE X e te)(f:PA X es t)(j:aX (e::es) X.env=(aB,eval e X.env)::aX es X.env:=by rfl):PA X (e::es) (OE te t):=by intro pos a s b H Q I h;rw[j];refine Calls.spliced_cons (YW (g a s b H _ I h) λu s1 ⟨x,i,m,o,d⟩=>?_);exact YW (f pos a s1 b i _ m d) λq s2 ⟨p,k,n,c,l⟩=>⟨x::p,k,n,.cons o c,l⟩
noncomputable def Zay(t:TA):TE:=λσ H Q=>t σ H λxs H1=>xs.length<=sizeLine/\∀p,H1 p=none->Q (.ref p) (upd H1 p (.tup xs))
noncomputable def Zcy(t:TA):TE:=λσ H Q=>t σ H λxs H1=>xs.length<=sizeLine/\∀p,H1 p=none->Q (.ref p) (upd H1 p (.lst xs))
theorem LW{x1}(h:PA X es t):PE X (.Tuple es x1 pos) (Zay t):=by intro g s j H Q I i;refine wpAny_Tuple_spliced (YW (h pos g s j H _ I i) λf s1 ⟨k,d,a,r,z,q⟩=>⟨by rw[<-r.length];exact z,?_⟩);have c:=a.hok.fresh (aJ _);refine⟨.ref s1.heap.objs.size,upd d s1.heap.objs.size (.tup k),a.laid (λb u e=>aH _ e) (aJ _) ?_,rfl,q _ c⟩;exact⟨⟨z,λo e=>QF e⟩,f,r,⟨_,ag _ rfl,rfl,_,rfl⟩⟩
theorem Gq(h:PA X es t):PE X (.List es pos) (Zcy t):=by intro g s j H Q I i;refine wpAny_List_spliced (YW (h pos g s j H _ I i) λf s1 ⟨k,d,a,r,z,q⟩=>⟨by rw[<-r.length];exact z,?_⟩);have c:=a.hok.fresh (aJ _);refine⟨.ref s1.heap.objs.size,upd d s1.heap.objs.size (.lst k),a.laid (λb u e=>aH _ e) (aJ _) ?_,rfl,q _ c⟩;exact⟨z,f,0,r,ag _ rfl⟩
end
abbrev Sp:=List V->Hp->VK->XK->Prop
abbrev EN:=List kK->Hp->aO->XK->aI->aO->Prop
structure EO(P:b9)(w:cW)(K:aE)(mg:aq->Option aI)(base:bp)(A:cL)(outer:List kK)(s:aO)(H:Hp):Prop where
 frames:A.frames=aA outer
 mod:Mod K mg base
 bs:∀b o,base.get? b=aA o->s.heap.get? b=aA o/\H b=none
 bsz:base.objs.size<=s.heap.objs.size
 funs:s.heap.FunFrames base outer
 frf:∀b∈LP outer,H b=none
 tab:TabsH K mg base H
 hok:HOk P w H s.heap
 bare:ie s.gens
noncomputable def CE(outer:List kK)(P:b9)(w:cW)(H:Hp)(s:aO)(Q:VK)(u:aI)(s':aO):Prop:=
 ∃v H',s'.os=s.os/\ie s'.gens/\Un (LP outer) [] H H' s.heap s'.heap/\HOk P w H' s'.heap/\RelV v u/\Q v H'
noncomputable def CR(CX:EN)(outer:List kK)(P:b9)(w:cW)(H:Hp)(s:aO)(Q:VK)(E:XK)(r:lG)(s':aO):Prop:=
 match r with
 | .ok (.ret u)=>CE outer P w H s Q u s'
 | .ok _=>False
 | .error e=>CX outer H s E e s'
structure RY(P:b9)(w:cW)(K:aE)(mg:aq->Option aI)(base:bp)(CX:EN)(k:Nat)(f:aL)(fd:eh)(ps:List aq)(sp:Sp):Prop where
 len:∀vs H Q E,sp vs H Q E->vs.length=ps.length
 run:∀(A:cL)(outer:List kK)(s:aO)(H:Hp)(args:Args)(us:List aI)(vs:List V)(Q:VK)(E:XK),Room k A->EO P w K mg base A outer s H->jv s fd args (ps.zip us)->Vals vs us->sp vs H Q E->
  ij (model P w) A (.call (.ref f) args) (CR CX outer P w H s Q E) s
section
variable {X:Cx} {l4:List (aL×df)} {σ:St} {H:Hp} {s s':aO}
theorem Inv.env0(I:Inv X l4 σ H s):EO X.prog X.w X.K X.mg X.base X.A X.stack s H:=
 ⟨I.ok.frames,I.ok.mod,I.bs,aP I.ok.bsz I.sz,I.stack,I.stkFree,I.ok.tab.un I.base,I.hok,I.bare⟩
theorem Inv.after{Q:VK}{u:aI}(I:Inv X l4 σ H s)(h:CE X.stack X.prog X.w H s Q u s'):EP X l4 σ Q u s':=by obtain⟨v,f,os,a,un,c,r,q⟩:=h;obtain⟨i,g,d,t,e⟩:=s';obtain rfl:=os;exact⟨v,f,I.call un c a (λb z=>absurd z (by simp)),r,q⟩
end
noncomputable def CS(sp:Sp)(dvs:List V)(E:XK)(t:TA):TE:=λσ H Q=>t σ H λvs H1=>sp (vs++dvs) H1 Q E
noncomputable def Binds(K:aE)(fd:eh)(ps:List aq)(ds:List aI):Prop:=
 ∀(s:aO)(us:List aI),K.In s.heap->(us++ds).length=ps.length->jv s fd ⟨us,[]⟩ (ps.zip (us++ds))
theorem Binds.all{K:aE}{c:eh}{b:List aq}(h:∀a:List aI,a.length=b.length->i6 c ⟨a,[]⟩=pure (b.zip a)):Binds K c b []:=λs a _ d=>by rw[eK] at d ⊢;exact .of_eq (h a d)
noncomputable def LX(CX:EN)(X:Cx)(E:XK):Prop:=∀(l4:List (aL×df))(σ:St)(H:Hp)(s:aO)(e:aI)(s':aO),Inv X l4 σ H s->CX X.stack H s E e s'->X.xe e s'
section
variable {X:Cx} {CX:EN} {k:Nat} {f C:aL} {fd:eh} {ps:List aq} {sp:Sp} {dvs:List V} {ds:List aI} {E:XK} {x m:aq} {p pos apos:fS} {e o:az} {es:List az} {ta:TE} {t:TA}
theorem BR{c:List (aL×df)}{d:St}{H:Hp}{s:aO}{Q:VK}{a:List aI}{vs:List V}(F:RY X.prog X.w X.K X.mg X.base CX k f fd ps sp)(l:Room k X.A)(o:Binds X.K fd ps ds)(n:Vals dvs ds)(i:LX CX X E)
  (I:Inv X c d H s) (r:Vals vs a) (h:sp (vs++dvs) H Q E):bJ (model X.prog X.w) X.A (call (.ref f) a) (EP X c d Q) X.xe s:=by
 have g:=r.append n;have j:(a++ds).length=ps.length:=by rw[<-g.length];exact F.len _ _ _ _ h
 refine wpAny_call (jw (F.run X.A X.stack s H ⟨a,[]⟩ (a++ds) (vs++dvs) Q E l I.env0 (o s a I.kIn j) g h) λr m b=>?_)
 cases r with
 | error e=>exact i c d H s e m I b
 | ok fl=>
  cases fl with
  | ret u=>exact I.after b
  | next=>exact fE b
  | brk=>exact fE b
  | cont=>exact fE b
theorem ER(F:RY X.prog X.w X.K X.mg X.base CX k f fd ps sp)(g:Room k X.A)(u:Gl X x)(v:X.mg x=aA (.ref f))(m:gL X.K (.ref f)=aC)(w:Binds X.K fd ps ds)(l:Vals dvs ds)(d:LX CX X E)
  (j:PA X (e::es) t) (a:(x==("__debug__" : aq))=aB:=by decide) (i:aX (e::es) X.env=(aB,eval e X.env)::aX es X.env:=by rfl) (b:(fu pos (aX es X.env)).any (·.1)=aB:=by rfl) :
  PE X (.Call (.Name x p) (e::es) [] pos) (CS sp dvs E t):=by
 intro n s o H Q I h;refine hW (EA I u v ?_ a);refine PySem.W.callWith_K I.ok.mod.kin m (YW (j pos n s o H _ I h) λz s1 ⟨vs,y,c,r,q⟩=>⟨c.kIn,?_⟩) i b;exact BR F g w l d c r q
end
structure Zq(N P:List aq)(sc:dw):Prop where
 kind:sc.kind = .function
 co:sc.isCoroutine=aB
 gen:sc.isGenerator=aB
 nd:N.Nodup
 pre:N.take P.length=P
 par:∀x∈P,sc.names.lookup x=aA .local\/sc.names.lookup x=aA .cell
 nofree:∀y∈sc.names,y.2≠.free
theorem OF{kindOf:aq->Option dy}{x:aq}:∀{binds:List (aq×aI)}{m:aq->Option aI},(∀v,(x,v)∉binds)->kg kindOf binds m x=m x
 | [],_,_=>rfl
 | (n,v)::r,m,h=>by
  unfold kg;rw[OF λw a=>h w (aT _ a)];split
  ·have:x≠n:=by rintro rfl;exact h v aa
   simp[this]
  ·rfl
theorem OG{kindOf:aq->Option dy}{x:aq}:∀{binds:List (aq×aI)}{m:aq->Option aI},(∀v,(x,v)∉binds)->kh kindOf binds m x=m x
 | [],_,_=>rfl
 | (n,v)::r,m,h=>by
  unfold kh;rw[OG λw a=>h w (aT _ a)];split
  ·rfl
  ·have:x≠n:=by rintro rfl;exact h v aa
   simp[this]
theorem OH{kindOf:aq->Option dy}{x:aq}{v:aI}:∀{P:List aq}{vs:List aI}{i:Nat}{m:aq->Option aI},P.Nodup->P[i]?=aA x->vs[i]?=aA v->kindOf x=aA .local->
  kg kindOf (P.zip vs) m x=aA v
 | [],_,_,_,_,h,_,_=>by simp at h
 | _::_,[],_,_,_,_,h,_=>by simp at h
 | p::P,w::vs,0,m,nd,h1,h2,hk=>by simp at h1 h2;subst h1;subst h2;show kg kindOf ((p,w)::P.zip vs) m p=_;unfold kg;rw[OF λv a=>(bU.mp nd).1 (jE a).1,lQ hk];simp
 | p::P,w::vs,i+1,m,nd,h1,h2,hk=>by show kg kindOf ((p,w)::P.zip vs) m x=_;unfold kg;exact OH (i:=i) (bU.mp nd).2 (by simpa using h1) (by simpa using h2) hk
theorem OI{kindOf:aq->Option dy}{x:aq}{v:aI}:∀{P:List aq}{vs:List aI}{i:Nat}{m:aq->Option aI},P.Nodup->P[i]?=aA x->vs[i]?=aA v->kindOf x≠aA .local->
  kh kindOf (P.zip vs) m x=aA v
 | [],_,_,_,_,h,_,_=>by simp at h
 | _::_,[],_,_,_,_,h,_=>by simp at h
 | p::P,w::vs,0,m,nd,h1,h2,hk=>by simp at h1 h2;subst h1;subst h2;show kh kindOf ((p,w)::P.zip vs) m p=_;unfold kh;rw[OG λv a=>(bU.mp nd).1 (jE a).1,lU hk];simp
 | p::P,w::vs,i+1,m,nd,h1,h2,hk=>by show kh kindOf ((p,w)::P.zip vs) m x=_;unfold kh;exact OI (i:=i) (bU.mp nd).2 (by simpa using h1) (by simpa using h2) hk
noncomputable def start(N:List aq)(vs:List V):St:=vs.map aA++aV (N.length-vs.length) none
noncomputable def QI(CX:EN)(P:b9)(w:cW)(K:aE)(mg:aq->Option aI)(base:bp)(N:List aq)(qual:aq)(scope:dw)(f:aL)(cd:aI)(A:cL)(outer:List kK)(s:aO)(H:Hp)(E:XK):Cx where
 prog:=P
 w:=w
 K:=K
 mg:=mg
 base:=base
 A:=A.deeper (gY qual scope s.heap.objs.size f cd)
 N:=N
 s₀:=s
 H₀:=H
 env:=gY qual scope s.heap.objs.size f cd
 outer:=outer
 stack:=gY qual scope s.heap.objs.size f cd::outer
 ex:=[]
 calm:=aC
 fn:=λ_=>aC
 pn:=[]
 xe:=λe s'=>bJ (model P w) (A.deeper (gY qual scope s.heap.objs.size f cd)) (leaving (gY qual scope s.heap.objs.size f cd) e) (λ_ s''=>CX outer H s E e s'') (λe' s''=>CX outer H s E e' s'') s'
theorem MK{a:dw}{n:Nat}{x:aq}(h:a.names.lookup x=aA .cell):∃c,(gz n a.names []).lookup x=aA c:=by have q:=ik a.names n [] (.inl h);exact cA.mp q
theorem ES{a b c:aq}(h:a++c=b++c):a=b:=by
 obtain⟨a⟩:=a;obtain⟨b⟩:=b;have d:a++c.cps=b++c.cps:=congrArg aq.cps h;have f:a.toList++c.cps.toList=b.toList++c.cps.toList:=by rw[<-j3,<-j3,d]
 have e:=Array.toList_inj.mp (List.append_cancel_right f);rw[e]
theorem ID{R:EN}{P:b9}{w:cW}{K:aE}{M:aq->Option aI}{n:bp}{N B:List aq}{g:aq}{d:dw}{f:aL}{F:aI}{A:cL}{j:List kK}{s s1:aO}{H:Hp}{E:XK}{J:List aI}{vs:List V}
  (L:cz K F g=aC) (S:Zq N B d) (W:A.handled=none) (m:EO P w K M n A j s H) (Z:vs.length=B.length) (r:Vals vs J)
  (x:InCallC s s.heap.objs.size (kg (gY g d s.heap.objs.size f F).kindOf (B.zip J) λ_=>none) (gz (s.heap.objs.size+1) d.names []) (kh (gY g d s.heap.objs.size f F).kindOf (B.zip J) λ_=>none) s1) :
  Inv (QI R P w K M n N g d f F A j s H E) [] (start N vs) H s1:=by
 have Y:B.length<=N.length:=by have:=congrArg g9 S.pre;rw[ay] at this;omega
 obtain⟨I,tk,rfl,Q⟩:=x.done;have t:∀b:aL,b∉(QI R P w K M n N g d f F A j s H E).ex:=λb z=>absurd (show b∈([]:List aL) from z) (by simp)
 refine⟨⟨m.mod,S.kind,rfl,rfl,aJ _,λy z c I l=>?_,λy o=>?_,λy c _ h=>?_,λ_=>W,cL.frames_deeper m.frames,.inr ⟨rfl,rfl⟩,λb z=>absurd z (t b),m.bs,m.bsz,λb _ _=>t b,λb z=>absurd z (t b),m.funs,m.frf,m.tab,λq _ X _=>by rw[<-ES X];exact L⟩,
  rfl,m.bare,Un.kept Q,⟨_,x.toInCall.ns,λi y v I l h3=>?_⟩,λy c h=>⟨_,x.cell y c h⟩,m.hok.fresh (aJ _),λy c h=>?_,λp D=>absurd (show p∈([]:List (aL×df)) from D) (by simp),m.hok.kept Q,?_⟩
 ·exact name_of_addr x.apart (dH I) (dH l)
 ·have o:=o;rcases o with o | o
  ·exact MK o
  ·exact absurd rfl (S.nofree _ (dH o))
 ·exact cU (x.above y c (dH h))
 ·have G:i<vs.length:=by
   unfold start at l;by_cases G:i<vs.length
   ·exact G
   ·rw[bH (by simpa using G)] at l;rw[bV] at l;split at l<;>cases l
  have U:vs[i]?=aA v:=by
   unfold start at l;rw[aZ (by simpa using G),aU] at l
   cases e:vs[i]? with
   | none=>rw[e] at l;cases l
   | some a=>rw[e] at l;cases l;rfl
  obtain⟨u,O,T⟩:=r.get U;have D:B[i]?=aA y:=by rw[<-S.pre,dQ (by omega)];exact I
  have C:B.Nodup:=by rw[<-S.pre];exact S.nd.sublist (jx _ _)
  refine⟨u,T,?_⟩;rcases S.par y (cE D) with k | k
  ·exact .inl ⟨k,OH C D O k⟩
  ·obtain⟨c,e⟩:=MK k;refine .inr ⟨.inl k,c,e,?_⟩;have q:=x.cell y c e;rw[OI C D O (by show d.names.lookup y≠_;rw[k];decide)] at q;exact q
 ·exact m.hok.fresh (cU (x.above y c (dH h)))
 ·unfold start;show _=N.length;rw[au,aM,dI];omega
theorem Y9{O:EN}{P:b9}{w:cW}{K:aE}{T:aq->Option aI}{i:bp}{k:Nat}{f:aL}{p d:aq}{h:Arguments}{j:List bq}{a:dw}{dV kV L pm g ct oc:aI}{an od:Option aL}
  {Z:Array (Option aI)} {N R:List aq} {Y:Sp} (lk:K.lookup f=aA ⟨oc,od,.func (dD p d h j a dV kV L pm an g ct),Z⟩) (M:cz K g d=aC) (S:Zq N R a)
  (len:∀vs H Q E,Y vs H Q E->vs.length=R.length)
  (B:∀(A:cL)(c:List kK)(s:aO)(H:Hp)(vs:List V)(Q:VK)(E:XK),Room k (A.deeper (gY d a s.heap.objs.size f g))->Y vs H Q E->
   ∃t,PSs (QI O P w K T i N d a f g A c s H E) j t/\t { nx:=λ_ m=>Q .non m,rt:=Q } (start N vs) H) :
  RY P w K T i O (k+1) f (dD p d h j a dV kV L pm an g ct) R Y:=by
 refine⟨len,λA c s H args us vs Q E W F hb r G=>?_⟩;have hl:=len _ _ _ _ G;have KX:=F.mod.kin.keeps λb o e=>(F.bs b o e).1;have lim:=F.mod.nolimit.keeps λb o e=>(F.bs b o e).1
 have z:∀y∈R.zip us,a.names.lookup y.1=aA .local\/(a.names.lookup y.1=aA .cell/\((gz (s.heap.objs.size+1) a.names []).lookup y.1).isSome=aC):=λ⟨n,v⟩ hy=>by
  rcases S.par n (jE hy).1 with q | q
  ·exact .inl q
  ·exact .inr ⟨q,ik _ _ _ (.inl q)⟩
 refine codeAny_call_function W.depth (KX _ _ lk) rfl S.co S.gen rfl (PySem.W.codeRec_of KX M) (hb _ _ _ _ ?_);refine wpAny_newFunctionEnv_cells S.kind z λenv he s1 x=>?_;subst he;refine⟨lim.keeps x.toInCall.keep,codeAny_func ?_⟩;obtain⟨t,ht,hq⟩:=B A c s H vs Q E (W.deeper _) G;have I:Inv (QI O P w K T i N d a f g A c s H E) [] (start N vs) H s1:=ID M S W.hd F hl r x;refine dA (ht [] s1 (start N vs) H _ I hq) (λfl X C=>?_) λe X C=>C
 have D:∀{l:St}{m:Hp}{v:V}{u:aI},Inv (QI O P w K T i N d a f g A c s H E) [] l m X->RelV v u->Q v m->CE c P w H s Q u X:=
  λ{l m v u} J U q=>⟨v,m,J.os,J.bare,J.base,J.hok,U,q⟩
 cases fl with
 | ret u=>
  obtain⟨v,l,m,J,U,q⟩:=C;exact D J U q
 | next=>
  obtain⟨l,m,J,q⟩:=C;exact D (v:=V.non) J rfl q
 | brk=>
  obtain⟨_,_,_,q⟩:=C;exact fE q
 | cont=>
  obtain⟨_,_,_,q⟩:=C;exact fE q
section
variable {X:Cx} {x:aq} {p pos:fS} {e:az} {es:List az} {t:TA} {id T:String} {r:List V->Hp->VK->Prop}
noncomputable def tCB(r:List V->Hp->VK->Prop)(t:TA):TE:=λσ H Q=>t σ H λvs H1=>r vs H1 Q
theorem Gr(m:XA X (.builtin id) r)(u:Gl X x)(v:X.mg x=none)(l:dP x=aA (.builtin id))(j:PA X (e::es) t)(f:x≠"__name__":=by decide)(a:(x==("__debug__" : aq))=aB:=by decide)
  (i:aX (e::es) X.env=(aB,eval e X.env)::aX es X.env:=by rfl) (b:(fu pos (aX es X.env)).any (·.1)=aB:=by rfl):PE X (.Call (.Name x p) (e::es) [] pos) (tCB r t):=by
 intro c s d H Q I h;refine hW (Tf I u v l ?_ f a);exact PyProof.Rows.callWith_builtin1 (YW (j pos c s d H _ I h) λn s1 ⟨vs,k,o,q,g⟩=>m c s1 d k vs n Q o q g) i b
theorem OJ(m:XA X (.type T) r)(u:Gl X x)(v:X.mg x=none)(l:dP x=aA (.type T))(j:PA X (e::es) t)(f:x≠"__name__":=by decide)(a:(x==("__debug__" : aq))=aB:=by decide)
  (i:aX (e::es) X.env=(aB,eval e X.env)::aX es X.env:=by rfl) (b:(fu pos (aX es X.env)).any (·.1)=aB:=by rfl):PE X (.Call (.Name x p) (e::es) [] pos) (tCB r t):=by
 intro c s d H Q I h;refine hW (Tf I u v l ?_ f a);exact cx (YW (j pos c s d H _ I h) λn s1 ⟨vs,k,o,q,g⟩=>m c s1 d k vs n Q o q g) i b
end
end L2
namespace HT
open PySem PyProof.Rows
section
variable {prog:b9} {w:cW} {A:cL} {E:aI->aO->Prop} {s:aO}
theorem cat_tup{t b:aL}{vs a:List aI}{Q:aI->aO->Prop}(x:IsTup s.heap t vs.toArray)(y:IsTup s.heap b a.toArray)(q:vs≠[])
  (D:a=[]->Q (.ref t) s) (C:a≠[]->Q (.ref s.heap.objs.size) { s with heap:=s.heap.push { cls:=.type "tuple",data:=.seq (vs++a).toArray } })
  (k:vs.length+a.length<=sizeLine):bJ (model prog w) A (dU .Add (.ref t) (.ref b)) Q E s:=by
 obtain⟨⟨j,o,g,v⟩,h,B,n,z⟩:=id x;obtain⟨⟨p,f,data2,d⟩,c,l,u,m⟩:=id y;subst B z l m;have e:vs.toArray++a.toArray=(vs++a).toArray:=by simp
 by_cases i:a=[]
 ·exact jy ⟨_,h,rfl⟩ ⟨_,c,rfl⟩ i7 j9 gM gC (fZ _ _)
   (tuple_addW1 t b vs.toArray a.toArray n u o f v d (by simpa using q) (by simp[i])) ⟨h,c,D i⟩
 ·refine jy ⟨_,h,rfl⟩ ⟨_,c,rfl⟩ i7 j9 gM gC (fZ _ _)
   (tuple_addW2 t b vs.toArray a.toArray n u o f v d (by simpa using q) (by simpa using i) (by rw[aR];exact k)) ⟨h,c,?_⟩
  rw[e];exact C i
noncomputable def sIx(n d:Nat):Option Int->Nat
 | none=>d
 | some v=>if v<0 then(v+(n:Int)).toNat else min v.toNat n
theorem sIx_none(n d:Nat):sIx n d none=d:=rfl
theorem sIx_nat(n d k:Nat):sIx n d (aA (k:Int))=min k n:=rfl
theorem Jk(v:Int)(n d:Nat):(if v<0 then max (v+(n:Int)) 0 else min v (n:Int))=((sIx n d (aA v):Nat):Int):=by
 show(if v<0 then max (v+(n:Int)) 0 else min v (n:Int))=(((if v<0 then(v+(n:Int)).toNat else min v.toNat n):Nat):Int);by_cases a:v<0
 ·simp only[lQ a];omega
 ·simp only[lU a];omega
theorem LY(lo a:Option Int)(n:Nat):iH lo a 1 (n:Int)=(((sIx n 0 lo:Nat):Int),((sIx n n a:Nat):Int)):=by
 refine Prod.ext ?_ ?_
 ·cases lo with
  | none=>rfl
  | some v=>exact Jk v n 0
 ·cases a with
  | none=>rfl
  | some v=>exact Jk v n n
theorem LZ(i j:Nat):eI (i:Int) (j:Int) 1=j-i:=by
 unfold eI;split<;>omega
theorem QJ{v:aI}{o:Option Int}{Q:Option Int->aO->Prop}(p:jd v o)(h:Q o s):bJ (model prog w) A (j2.Slice.slicePartIndex v) Q E s:=by
 cases p with
 | none=>exact slicePart_none h
 | int i t=>exact slicePart_int h
theorem Sr{e:aL}{d f:aI}{lo c:Option Int}{n:Nat}{Q:Int×Int×Nat->aO->Prop}(g:s.heap.IsSliceOf e d f .none)(i:jd d lo)(k:jd f c)
  (h:Q (((sIx n 0 lo:Nat):Int),1,sIx n n c-sIx n 0 lo) s):bJ (model prog w) A (j2.Slice.sliceApplied (.ref e) (pure (n:Int))) Q E s:=by
 obtain⟨os,a,j,b⟩:=id g;refine aN (aN (cY a b rfl (aN (cY a b rfl (aN (cY a b rfl (ak ?_)))))));refine aN (slicePart_none ?_);refine aN (QJ i (aN (QJ k (aN (ak ?_)))));show bJ _ _ (match iH lo c 1 (n:Int) with | (lo,c)=>pure (lo,(1:Int),eI lo c 1)) _ _ s;rw[LY lo c n];show bJ _ _ (pure (((sIx n 0 lo:Nat):Int),(1:Int),eI ((sIx n 0 lo:Nat):Int) ((sIx n n c:Nat):Int) 1)) _ _ s;rw[LZ];exact ak h
theorem Gs(a:Array aI)(i k:Nat):((aF k).filterMap λ(m:Nat)=>a[((i:Int)+(m:Int)*1).toNat]?).toArray=((a.toList.drop i).take k).toArray:=by
 have e:(λ(m:Nat)=>a[((i:Int)+(m:Int)*1).toNat]?)=λm=>a[i+m]?:=by
  funext m;have:((i:Int)+(m:Int)*1).toNat=i+m:=by omega
  rw[this]
 rw[e];have:=pick_run a i k;rw[List.filterMap_map] at this;have b:((λx=>a[x]?) ∘ λx=>i+x)=λm=>a[i+m]?:=rfl;rw[b] at this;rw[this]
theorem getItem_tuple_cut{t j:aL}{a:Array aI}{k l:aI}{lo c:Option Int}{Q:aI->aO->Prop}(d:IsTup s.heap t a)(m:s.heap.IsSliceOf j k l .none)(p:jd k lo)(v:jd l c)
  (u:¬(sIx a.size 0 lo=0/\sIx a.size a.size c=a.size))
  (h:Q (.ref s.heap.objs.size) { s with heap:=s.heap.push { cls:=.type "tuple",data:=.seq ((a.toList.drop (sIx a.size 0 lo)).take (sIx a.size a.size c-sIx a.size 0 lo)).toArray } })
  (o:a.size<=sizeLine):bJ (model prog w) A (kb (.ref t) (.ref j)) Q E s:=by
 have b:sizeOk (.seq ((a.toList.drop (sIx a.size 0 lo)).take (sIx a.size a.size c-sIx a.size 0 lo)).toArray):=by show((a.toList.drop (sIx a.size 0 lo)).take (sIx a.size a.size c-sIx a.size 0 lo)).toArray.size<=sizeLine;rw[aR,ay,bK,fX];omega
 obtain⟨os,i,g,n⟩:=id m;have f:s.TypeIs (.ref j) "slice":=⟨os,i,g⟩;unfold kb
 try with_reducible refine iR ?_
 first | refine aN (ak ?_) | skip
 refine aN (wpAny_sequenceKey d.typeIs rfl ?_)
 refine aN (dY d.typeIs e7
  (fU e7 d.typeIs entry_tuple_getitem ?_ (args_tuple_getitem _ _)))
 show bJ _ _ (j2.Tuple.tupleItemsOf (.ref t) >>= _) _ _ s;refine aN (tupleItemsOf_ d ?_);refine aN (wpAny_typeOf f ?_);refine aN (Sr m p v ?_);have e:¬((((sIx a.size 0 lo:Nat):Int)==0&&(1:Int)==1&&(sIx a.size a.size c-sIx a.size 0 lo)==a.size)=aC):=by intro q;rw[ba,ba] at q;have x:=eq_of_beq q.1.1;have y:=eq_of_beq q.2;exact u ⟨by omega,by omega⟩
 show bJ _ _ (if(((sIx a.size 0 lo:Nat):Int)==0&&(1:Int)==1&&(sIx a.size a.size c-sIx a.size 0 lo)==a.size)=aC then _ else _) _ _ s;rw[lU e,Gs]
 first
  | exact aN (dZ (ak ⟨_,rfl,ak h⟩) b)
  | exact aN (dZ (aN (ak (ak ⟨_,rfl,ak h⟩))) b)
  | exact aN (aN (dZ (ak (ak ⟨_,rfl,ak h⟩)) b))
  | exact aN (aN (dZ (ak ⟨_,rfl,ak h⟩) b))
end
end HT
namespace L2
open PySem PySem.Spec PyProof.Rows
abbrev TO:=St->Hp->(Option Int->Hp->Prop)->Prop
noncomputable def PO(X:Cx)(e:Option az)(t:TO):Prop:=
 ∀(l4:List (aL×df))(s:aO)(σ:St)(H:Hp)(Q:Option Int->Hp->Prop),Inv X l4 σ H s->t σ H Q->
  bJ (model X.prog X.w) X.A (evalPart e X.env) (λu s'=>∃o H',Inv X l4 σ H' s'/\jd u o/\Q o H') X.xe s
noncomputable def ET:TO:=λ_ H Q=>Q none H
noncomputable def Zaz(t:TE):TO:=λσ H Q=>t σ H λx H1=>∃i,x = .int i/\Q (aA i) H1
section
variable {X:Cx} {e:az} {te:TE} {lo hi:Option az} {tl th:TO} {pos p2:fS}
theorem EU:PO X none ET:=by intro a s b H Q I h;exact ak ⟨none,H,I,.none,h⟩
theorem EV(h:PE X e te):PO X (aA e) (Zaz te):=by intro c s j H Q I a;refine YW (h c s j H _ I a) λu s1 ⟨x,d,f,b,g⟩=>?_;obtain⟨i,rfl,q⟩:=g;obtain⟨t,rfl⟩:=b;exact⟨aA i,d,f,.int i t,q⟩
noncomputable def SlR(X:Cx)(r:V->Option Int->Option Int->Hp->VK->Prop):Prop:=
 ∀(l4:List (aL×df))(s:aO)(σ:St)(H:Hp)(x:V)(v vl vu:aI)(lo hi:Option Int)(sl:aL)(Q:VK),Inv X l4 σ H s->RelV x v->s.heap.IsSliceOf sl vl vu .none->jd vl lo->jd vu hi->r x lo hi H Q->
  ∃T id,typeLookup (.type T) "__getitem__" = pure (aA (.builtin id))/\s.TypeIs v T/\bJ (model X.prog X.w) X.A (kb v (.ref sl)) (EP X l4 σ Q) X.xe s
noncomputable def tSl(r:V->Option Int->Option Int->Hp->VK->Prop)(te:TE)(tl th:TO):TE:=λσ H Q=>te σ H λx H1=>tl σ H1 λl H2=>th σ H2 λu H3=>r x l u H3 Q
theorem ML{r:V->Option Int->Option Int->Hp->VK->Prop}(o:SlR X r)(p:PE X e te)(m:PO X lo tl)(A:PO X hi th):PE X (.Subscript e (.Slice lo hi none p2) pos) (tSl r te tl th):=by intro a s c H Q I h;refine Subscript_ (YW (p a s c H _ I h) λv s1 ⟨x,t,D,G,n⟩=>?_);refine wpAny_Slice (YW (m a s1 c t _ D n) λf s2 ⟨l,B,E,z,C⟩=>YW (A a s2 c B _ E C) λg d ⟨u,i,y,F,w⟩=>?_);refine ak ?_;have L:Inv X a c i { d with heap:=d.heap.push { cls:=.type "slice",data:=.fields #[f,g,.none] } }:=y.kept λb M q=>aH _ q;obtain⟨T,id,k,j,J⟩:=o a { d with heap:=d.heap.push { cls:=.type "slice",data:=.fields #[f,g,.none] } } c i x v f g l u d.heap.objs.size Q L G (bp.IsSliceOf.new ..) z F w;exact tail_any j k J rfl
noncomputable def IE(xs:List V)(lo hi:Option Int):List V:=(xs.drop (HT.sIx xs.length 0 lo)).take (HT.sIx xs.length xs.length hi-HT.sIx xs.length 0 lo)
theorem RM(a:List V)(lo b:Option Int):(IE a lo b).length<=a.length:=by unfold IE;rw[ay,bK];omega
noncomputable def Zc0(K:aE):V->Option Int->Option Int->Hp->VK->Prop:=λx lo hi H Q=>∃a xs,x = .ref a/\SqT K H a xs/\
 ¬(HT.sIx xs.length 0 lo=0/\HT.sIx xs.length xs.length hi=xs.length)/\∀p,H p=none->Q (.ref p) (upd H p (.tup (IE xs lo hi)))
theorem BS:SlR X (Zc0 X.K):=by
 intro z s A H x v w y lo g B Q I k n l p h;obtain⟨a,d,rfl,j,m,q⟩:=h;cases k;obtain⟨t,r,f,i⟩:=I.tuple j;have c:t.toArray.size=d.length:=by rw[aR];exact r.length.symm
 refine⟨"tuple",_,e7.lookup,f.typeIs,?_⟩;refine HT.getItem_tuple_cut f n l p (by rw[c];exact m) ?_ (by rw[c];exact i);rw[c];refine⟨.ref s.heap.objs.size,_,I.laid (λb u q=>aH _ q) (aJ _) ?_,rfl,q _ (I.hok.fresh (aJ _))⟩;exact⟨⟨aP (RM d lo g) i,λo e=>QF e⟩,_,(r.drop (HT.sIx d.length 0 lo)).take (HT.sIx d.length d.length g-HT.sIx d.length 0 lo),kN _ _⟩
noncomputable def Za0(K:aE):R2:=λx y H Q=>∃a b xs ys,x = .ref a/\y = .ref b/\SqT K H a xs/\SqT K H b ys/\xs≠[]/\xs.length+ys.length<=sizeLine/\
 (ys=[]->Q (.ref a) H)/\(ys≠[]->∀p,H p=none->Q (.ref p) (upd H p (.tup (xs++ys))))
theorem Vals.nil_iff{b:List V}{a:List aI}(r:Vals b a):a=[]↔b=[]:=by
 cases r with
 | nil=>simp
 | cons _ _=>simp
theorem EW:TN X (dU .Add) (Za0 X.K):=by intro B s C H x y v u Q I l n h;obtain⟨a,b,F,D,rfl,rfl,k,t,i,g,j,m⟩:=h;cases l;cases n;obtain⟨E,d,p,_⟩:=I.tuple k;obtain⟨f,c,p2,_⟩:=I.tuple t;refine HT.cat_tup p p2 (λz=>i (d.nil_iff.mp z)) (λz=>⟨.ref a,H,I,rfl,j (c.nil_iff.mp z)⟩) (λz=>?_) (by rw[<-d.length,<-c.length];exact g);refine⟨.ref s.heap.objs.size,_,I.laid (λb A q=>aH _ q) (aJ _) ?_,rfl,m (λw=>z (c.nil_iff.mpr w)) _ (I.hok.fresh (aJ _))⟩;exact⟨⟨by rw[au];exact g,λo e=>QF e⟩,_,d.append c,kN _ _⟩
end
noncomputable def MM(n:Nat)(i:Int):Option Nat:=if 0<=i then(if i<n then aA i.toNat else none) else if -(n:Int)<=i then aA (i+n).toNat else none
noncomputable def RN{α:Type}(xs:List α)(i:Int):Option α:=(MM xs.length i).bind λj=>xs[j]?
theorem Jl{n:Nat}{i:Int}{j:Nat}(h:MM n i=aA j):seqIndex? i n=aA j/\j<n/\-(n:Int)<=i/\i<n:=by
 unfold MM at h;by_cases b:0<=i
 ·rw[lQ b] at h;by_cases a:i<n
  ·rw[lQ a] at h;have e:=aw h;exact⟨by rw[kW b a,e],by omega,by omega,a⟩
  ·rw[lU a] at h;cases h
 ·rw[lU b] at h;by_cases a : -(n:Int)<=i
  ·rw[lQ a] at h;have e:=aw h;exact⟨by rw[jz (by omega) a,e],by omega,a,by omega⟩
  ·rw[lU a] at h;cases h
theorem Nk{b:Type}{a:List b}{i:Int}{v:b}(h:RN a i=aA v):∃j,seqIndex? i a.length=aA j/\a[j]?=aA v/\j<a.length/\-(a.length:Int)<=i/\i<a.length:=by
 unfold RN at h
 cases e:MM a.length i with
 | none=>rw[e] at h;cases h
 | some j=>
  rw[e] at h;obtain⟨c,d,g,f⟩:=Jl e;exact⟨j,c,h,d,g,f⟩
theorem VJ{b:Type}{a:List b}{j:Nat}{v:b}(h:a[j]?=aA v):RN a (j:Int)=aA v:=by
 have c:=(aQ.mp h).1;have e:MM a.length (j:Int)=aA j:=by unfold MM;rw[lQ (by omega),lQ (by omega)];simp
 unfold RN;rw[e];exact h
noncomputable def Nl(b:az):Prop:=∀o i,subscripted b aB o i=operate [o,i] (kb o i)
noncomputable def IxR(X:Cx)(r:R2):Prop:=
 ∀(value slice:az)(l4:List (aL×df))(s:aO)(σ:St)(H:Hp)(x y:V)(v u:aI)(Q:VK),Inv X l4 σ H s->RelV x v->RelV y u->r x y H Q->
  subscripted slice aB v u=operate [v,u] (kb v u)->bJ (model X.prog X.w) X.A (subscriptTail value slice v u) (EP X l4 σ Q) X.xe s
noncomputable def MtR(X:Cx)(id:String)(r:V->List V->Hp->VK->Prop):Prop:=
 ∀(l4:List (aL×df))(s:aO)(σ:St)(H:Hp)(x:V)(xs:List V)(v:aI)(us:List aI)(Q:VK),Inv X l4 σ H s->RelV x v->Vals xs us->r x xs H Q->
  bJ (model X.prog X.w) X.A (call (.builtin id) (v::us)) (EP X l4 σ Q) X.xe s
section
variable {X:Cx} {a b:az} {ta tb:TE} {pos:fS}
theorem IxR.or{r c:R2}(h:IxR X r)(j:IxR X c):IxR X (λx y H Q=>r x y H Q\/c x y H Q):=by
 intro b a f s i H x y v u Q I d g q e;rcases q with q | q
 ·exact h b a f s i H x y v u Q I d g q e
 ·exact j b a f s i H x y v u Q I d g q e
theorem MN{r:R2}(c:IxR X r)(d:PE X a ta)(m:PE X b tb)(f:Nl b):PE X (.Subscript a b pos) (A8 r ta tb):=by intro g s l H Q I h;exact Subscript_ (BJ d m I h λv u s2 x y i k e j q=>c a b g s2 l i x y v u Q k e j q (f _ _))
noncomputable def BU(K:aE):R2:=λx y H Q=>∃p xs i v,x = .ref p/\y = .int i/\SqL K H p xs/\RN xs i=aA v/\Q v H
noncomputable def Za1(K:aE):R2:=λx y H Q=>∃p xs i v,x = .ref p/\y = .int i/\SqT K H p xs/\RN xs i=aA v/\Q v H
noncomputable def Za2:R2:=λx y H Q=>∃z i c,x = .str z/\y = .int i/\z.length<=sizeLine/\RN z.cps.toList i=aA c/\Q (.str ⟨#[c]⟩) H
theorem ix_list:IxR X (BU X.K):=by
 intro f d B s F H x y v u Q I A E h k;obtain⟨p,O,i,z,rfl,rfl,C,n,q⟩:=h;cases A;obtain⟨t,rfl⟩:=E;obtain⟨J,r,c,M⟩:=I.list C;obtain⟨j,b,D,N,G,o⟩:=Nk n;obtain⟨w,g,ZV⟩:=r.get D;have m:=r.length;have L:=Nj;have a:EP X B F Q w s:=⟨z,H,I,ZV,q⟩;by_cases l:0<=i
 ·have e:i.toNat=j:=by rw[kW l o] at b;exact aw b
  exact item_listR c.isList l (by omega) (by rw[e];simpa using g) a k
 ·have e:(i+(J.toArray.size:Int)).toNat=j:=by rw[jz (by omega) G] at b;rw[aR,<-m];exact aw b
  exact il c.isList.typeIs slot_list_getitem.lookup
   (wpAny_getItem_list_neg c.isList (by omega) (by rw[aR]<;>omega) (by omega) (by rw[e];simpa using g) ⟨rfl,a⟩) k
theorem ix_tup:IxR X (Za1 X.K):=by
 intro b a m s C H x y v u Q I k B h l;obtain⟨p,M,i,z,rfl,rfl,n,g,q⟩:=h;cases k;obtain⟨t,rfl⟩:=B;obtain⟨L,r,d,F⟩:=I.tuple n;obtain⟨j,o,A,G,J,E⟩:=Nk g;obtain⟨w,e,ZV⟩:=r.get A;have f:=r.length;have D:=Nj;have c:EP X m C Q w s:=⟨z,H,I,ZV,q⟩
 exact il d.typeIs slot_tuple_getitem.lookup
  (getItem_tuple d (by omega) (by omega) (by rw[aR,<-f];exact o) (by simpa using e) ⟨rfl,c⟩) l
theorem BV:IxR X Za2:=by
 intro b a C s D H x y v u Q I k n h l;obtain⟨z,i,c,rfl,rfl,B,f,q⟩:=h;obtain⟨t,rfl⟩:=k;obtain⟨t',rfl⟩:=n;obtain⟨j,d,m,E,w,g⟩:=Nk f;have e:z.cps.toList.length=z.length:=by simp[aq.length]
 rw[e] at d w g;have A:=Nj
 exact tail_any (typeIs_str s z t) slot_str_getitem.lookup (getItem_str (by
  have o:decide (i < -(2^63:Int))=aB:=decide_eq_false (by omega);have p:decide (i ≥ 2^63)=aB:=decide_eq_false (by omega);rw[o,p,Bool.or_false]) (by rw[d];simpa using m) ⟨.str ⟨#[c]⟩,H,I.tok _,⟨_,rfl⟩,q⟩) l
noncomputable def rIx(K:aE):R2:=λx y H Q=>BU K x y H Q\/Za1 K x y H Q\/Za2 x y H Q
theorem BW:IxR X (rIx X.K):=ix_list.or (ix_tup.or BV)
theorem L0(a:List aI)(n j:Nat)(u:aI):je (·.setIfInBounds j u) { cls:=.type "list",data:=.seq a.toArray n }={ cls:=.type "list",data:=.seq (a.set j u).toArray n }:=by simp[je]
theorem Inv.lst{c:List (aL×df)}{d:St}{H:Hp}{s:aO}{p:aL}{b:List V}(I:Inv X c d H s)(h:H p=aA (.lst b)) :
  ∃(a:List aI) (n:Nat),Vals b a/\s.heap.get? p=aA { cls:=.type "list",data:=.seq a.toArray n }/\b.length<=sizeLine:=by
 obtain⟨z,a,n,r,e⟩:=I.hok p _ h;exact⟨a,n,r,e,z⟩
theorem Inv.lstUpd{i:List (aL×df)}{j:St}{H:Hp}{s:aO}{p:aL}{m c:List V}{k a:List aI}{n d:Nat}{f:df->df}(I:Inv X i j H s)(h:H p=aA (.lst m))
  (l:s.heap.get? p=aA { cls:=.type "list",data:=.seq k.toArray n }) (g:f { cls:=.type "list",data:=.seq k.toArray n }={ cls:=.type "list",data:=.seq a.toArray d }) (r:Vals c a) (o:c.length<=sizeLine) (t:Nat) :
  Inv X i j (upd H p (.lst c)) { s with heap:=s.heap.update p f,toks:=t }:=by
 have e:(s.heap.update p f).get? p=aA { cls:=.type "list",data:=.seq a.toArray d }:=by rw[jJ f l (by rw[g]<;>rfl),g]
 refine I.write (by rw[h];trivial) (.inl rfl) (λb u v q=>(ip _ _ (bN v)).trans q) ⟨_,e⟩ ?_;exact⟨o,a,d,r,e⟩
noncomputable def Gu:V->V->V->Hp->(Hp->Prop)->Prop:=λo i v H Q=>∃p xs k j,o = .ref p/\i = .int k/\H p=aA (.lst xs)/\MM xs.length k=aA j/\Q (upd H p (.lst (xs.set j v)))
theorem YR:Zan X Gu:=by
 intro E s J H o i v D G u Q I A y x h;obtain⟨p,L,k,j,rfl,rfl,w,B,q⟩:=h;cases A;obtain⟨t,rfl⟩:=y;obtain⟨l,n,r,b,z⟩:=I.lst w;obtain⟨a,F,f,g⟩:=Jl B;have c:=r.length;have C:=Nj
 have e:=
  I.lstUpd w b (L0 l n j u) (r.set x j) (by rw[cS];exact z) s.toks
 by_cases m:0<=k
 ·have d:k.toNat=j:=by rw[kW m g] at a;exact aw a
  exact PySem.W.ki_setAt b m (by omega) (by rw[aR,<-c];exact g) (by rw[d];exact⟨_,e,q⟩)
 ·have d:(k+(l.toArray.size:Int)).toNat=j:=by rw[jz (by omega) f] at a;rw[aR,<-c];exact aw a
  exact PySem.W.ki_setBack b (by omega) (by rw[aR,<-c];exact f) (by omega) (by rw[d];exact⟨_,e,q⟩)
theorem Nm(lo a:Option Int)(n:Nat):(gD lo a none n).1=((HT.sIx n 0 lo:Nat):Int)/\(gD lo a none n).2.1=((HT.sIx n n a:Nat):Int)/\(gD lo a none n).2.2=1:=by
 refine⟨?_,?_,rfl⟩
 ·cases lo with
  | none=>simp[gD,HT.sIx]
  | some i=>
   simp only[gD,HT.sIx,kO];by_cases h:i<0
   ·simp only[h,if_true]<;>omega
   ·simp only[h,if_false]<;>omega
 ·cases a with
  | none=>simp[gD,HT.sIx]
  | some i=>
   simp only[gD,HT.sIx,kO];by_cases h:i<0
   ·simp only[h,if_true]<;>omega
   ·simp only[h,if_false]<;>omega
theorem Oh(a:List aI)(lo b:Option Int):slicePick a.toArray lo b none=((a.drop (HT.sIx a.length 0 lo)).take (HT.sIx a.length a.length b-HT.sIx a.length 0 lo)).toArray:=by
 obtain⟨d,c,e⟩:=Nm lo b a.toArray.size;unfold slicePick;rw[d,c,e];simp only[sliceRange_one,pick_run]<;>rfl
noncomputable def Zc1(K:aE):V->Option Int->Option Int->Hp->VK->Prop:=λx lo hi H Q=>∃a xs,x = .ref a/\SqL K H a xs/\∀p,H p=none->Q (.ref p) (upd H p (.lst (IE xs lo hi)))
theorem EX:SlR X (Zc1 X.K):=by intro t s u H x v o p lo f y Q I i k j m h;obtain⟨a,d,rfl,g,q⟩:=h;cases i;obtain⟨w,r,e,l⟩:=I.list g;have c:=r.length;refine⟨"list",_,slot_list_getitem.lookup,e.isList.typeIs,?_⟩;refine wpAny_getItem_list_slice e.isList k j m .none (by simp) ?_ (by rw[aR]<;>omega);rw[Oh,<-c];refine⟨.ref s.heap.objs.size,_,I.laid (λb n q=>aH _ q) (aJ _) ?_,rfl,q _ (I.hok.fresh (aJ _))⟩;exact⟨aP (RM d lo f) l,_,0,(r.drop (HT.sIx d.length 0 lo)).take (HT.sIx d.length d.length f-HT.sIx d.length 0 lo),ag _ rfl⟩
theorem Wt:XA X (.type "list") (λz H Q=>∃p g,z=[.ref p]/\(SqL X.K H p g\/SqT X.K H p g)/\∀l,H l=none->Q (.ref l) (upd H l (.lst g))):=by
 intro B s C H z D Q I r h;obtain⟨p,g,rfl,m,q⟩:=h;obtain⟨u,rfl,A⟩:=Ur r;cases A
 have t:∀(c:List aI),Vals g c->g.length<=sizeLine->∀(a:bp)(f:Nat),(∀b o',s.heap.get? b=aA o'->a.get? b=aA o')->
   a.get? s.heap.objs.size=aA { cls:=.type "list",dict:=none,data:=.seq c.toArray f,slots:=#[] }->EP X B C Q (.ref s.heap.objs.size) { s with heap:=a }:=λc d k a f j e=>
  ⟨.ref s.heap.objs.size,_,I.laid j (aJ _) (show ObjOk X.prog X.w _ a _ (.lst g) from⟨k,c,f,d,e⟩),rfl,q _ (I.hok.fresh (aJ _))⟩
 rcases m with m | m
 ·obtain⟨c,d,w,k⟩:=I.list m;have i:=d.length;obtain⟨o,v,y,n,x⟩:=w.isList;exact call_list_seq p (.inl rfl) v y x (λa f j e=>t c d k a f j e) (by simp only[aR]<;>omega)
 ·obtain⟨c,d,w,k⟩:=I.tuple m;have i:=d.length;obtain⟨o,v,y,n,x⟩:=w;exact call_list_seq p (.inr rfl) v y x (λa f j e=>t c d k a f j e) (by simp only[aR]<;>omega)
theorem Zn:XA X (.type "tuple") (λm H Q=>∃p a,m=[.ref p]/\((SqL X.K H p a/\∀l,H l=none->Q (.ref l) (upd H l (.tup a)))\/(SqT X.K H p a/\Q (.ref p) H))):=by
 intro y s z H m x Q I r h;obtain⟨p,a,rfl,h⟩:=h;obtain⟨u,rfl,t⟩:=Ur r;cases t;rcases h with⟨f,q⟩ | ⟨f,q⟩
 ·obtain⟨k,c,d,i⟩:=I.list f;have g:=c.length;refine call_tuple_list d.isList (λv n=>?_) (by simp only[aR]<;>omega);have j:=I.kept (t':=s.toks) n
  have w:=
   j.laid (t':=s.toks) (λb o e=>aH _ e) (aJ _) (show ObjOk X.prog X.w _ _ _ (.tup a) from⟨⟨i,λo e=>QF e⟩,k,c,kN _ _⟩)
  exact⟨.ref v.objs.size,_,w,rfl,q _ (j.hok.fresh (aJ _))⟩
 ·obtain⟨k,c,d,i⟩:=I.tuple f;exact call_tuple_same d ⟨.ref p,H,I,rfl,q⟩
noncomputable def tyV(K:aE)(T:String)(x:V)(H:Hp):Prop:=match x with
 | .str _=>T = "str"
 | .int _=>T = "int"
 | .ref p=>(T = "list"/\∃xs,SqL K H p xs)\/(T = "tuple"/\∃o,K.lookup p=aA o/\o.cls = .type "tuple"/\o.dict=none)\/
   (T = "dict"/\((∃l6,H p=aA (.dK l6))\/∃l6,H p=aA (.dT l6)))\/(T = "set"/\∃S n,H p=aA (.set S n))\/(T = "tuple"/\∃xs,H p=aA (.tup xs))
 | _=>False
theorem BX{m:List (aL×df)}{u:St}{H:Hp}{s:aO}{T:String}{x:V}{v:aI}(I:Inv X m u H s)(r:RelV x v)(ty:tyV X.K T x H) :
  s.TypeIs v T/\∀a,v = .ref a->∃ob,s.heap.get? a=aA ob/\ob.dict=none:=by
 cases x with
 | str z=>
  obtain⟨t,rfl⟩:=r;cases (ty);exact⟨typeIs_str s z t,λ_ e=>nomatch e⟩
 | int i=>
  obtain⟨t,rfl⟩:=r;cases (ty);exact⟨ir s i t,λ_ e=>nomatch e⟩
 | ref p=>
  cases r;rcases ty with⟨rfl,y,q⟩ | ⟨rfl,o,b,l,g⟩ | ⟨rfl,b⟩ | ⟨rfl,S,n,b⟩ | ⟨rfl,y,b⟩;rotate_left 4
  ·obtain⟨z,w,_,o,h,f,_⟩:=(I.hok p _ b);refine⟨⟨o,h,f⟩,λa e=>?_⟩;cases e;exact⟨o,h,z.2 o h⟩
  ·obtain⟨w,_,j,_⟩:=I.list q;refine⟨j.isList.typeIs,λa e=>?_⟩;cases e;obtain⟨o,n,e,c,g,_⟩:=j;exact⟨o,e,g⟩
  ·refine⟨⟨o,I.kIn p o b,l⟩,λa e=>?_⟩;cases e;exact⟨o,I.kIn _ o b,g⟩
  ·have z:∃o,s.heap.get? p=aA o/\o.ExactDict:=by
    rcases b with⟨k,b⟩ | ⟨k,b⟩
    ·obtain⟨_,_,_,_,o,_,_,e,d,_⟩:=I.hok p _ b;exact⟨o,e,d⟩
    ·obtain⟨_,_,_,_,o,_,_,e,d,_⟩:=I.hok p _ b;exact⟨o,e,d⟩
   obtain⟨o,e,d⟩:=z;refine⟨⟨o,e,d.1⟩,λa f=>?_⟩;cases f;exact⟨o,e,d.2.1⟩
  ·obtain⟨o,_,_,_,e,d,_⟩:=I.hok p _ b;refine⟨⟨o,e,d.1⟩,λa f=>?_⟩;cases f;exact⟨o,e,d.2.1⟩
 | _=>exact fE ty
noncomputable def tBM(K:aE)(T:String)(r:V->List V->Hp->VK->Prop)(to:TE)(t:TA):TE:=λσ H Q=>to σ H λx H1=>tyV K T x H1/\t σ H1 λxs H2=>r x xs H2 Q
variable {o e:az} {es:List az} {to:TE} {t:TA} {name:aq} {apos cpos:fS} {T id:String} {r:V->List V->Hp->VK->Prop}
theorem QK(y:PlainAttrs T)(f:Slot T name id)(j:typeOf (.builtin id)=pure (.type "method_descriptor"))(G:MtR X id r)(p:PE X o to)(u:PA X (e::es) t)
  (b:attributeBase o name X.env (eval o X.env)=eval o X.env:=by rfl)
  (d:((fu cpos (aX (e::es) X.env)).all (λx=>!x.1)&&(backToKw cpos (keywordEach [] X.env)).all (λx=>x.1.isSome)
   &&decide ((e::es).length+([]:List Keyword).length+(if([]:List Keyword).isEmpty then 0 else 1)<30))=aC:=by rfl)
  (c:(apos.endLine==cpos.line)=aC:=by rfl) (z:aX (e::es) X.env=(aB,eval e X.env)::aX es X.env:=by rfl) (a:(fu cpos (aX es X.env)).any (·.1)=aB:=by rfl) :
  PE X (.Call (.Attribute o name apos) (e::es) [] cpos) (tBM X.K T r to t):=by
 intro g s i H Q I h;refine wpAny_Call_method_late b d c rfl (YW (p g s i H _ I h) λv s1 ⟨x,w,l,m,ty,q⟩=>?_);obtain⟨C,B⟩:=BX l m ty;refine⟨T,id,y,f,j,C,B,?_⟩;have k:=u cpos g s1 i w _ l q;rw[z] at k ⊢;refine Calls.callWith_builtin (by show(aB || (fu cpos (aX es X.env)).any (·.1))=aB;rw[a]<;>rfl) (Calls.evalArgs_plain ?_);exact YW k λA s2 ⟨vs,D,F,n,E⟩=>G g s2 i D x vs v A Q F m n E
end
noncomputable def MtM(X:Cx)(id:String)(r:V->List V->Hp->VK->Prop):Prop:=
 ∀(l4:List (aL×df))(s:aO)(σ:St)(H:Hp)(x:V)(xs:List V)(v:aI)(us:List aI)(Q:VK),Inv X l4 σ H s->RelV x v->Vals xs us->r x xs H Q->
  bJ (model X.prog X.w) X.A (call (.builtin id) (v::us)) (EP X l4 σ Q) X.xe s
theorem Vals.one:∀{x:V}{us:List aI},Vals [x] us->∃u,us=[u]/\RelV x u
 | _,_,.cons r .nil=>⟨_,rfl,r⟩
theorem Vals.two:∀{x y:V}{us:List aI},Vals [x,y] us->∃u v,us=[u,v]/\RelV x u/\RelV y v
 | _,_,_,.cons r (.cons q .nil)=>⟨_,_,rfl,r,q⟩
theorem Vals.dropLast{b:List V}{a:List aI}(h:Vals b a):Vals b.dropLast a.dropLast:=by
 induction h with
 | nil=>exact .nil
 | cons r t ih=>
  cases t with
  | nil=>exact .nil
  | cons q t'=>exact .cons r ih
theorem Vals.rep{b:List V}{a:List aI}(h:Vals b a):∀k:Nat,Vals (aV k b).flatten (aV k a).flatten
 | 0=>.nil
 | k+1=>by rw[dh,dh,fL,fL];exact Vals.append h (Vals.rep h k)
theorem Ss(a:List aI):∀(k:Nat)(acc:List aI),
  jf (λc b=>c++b) acc.toArray (aV k a.toArray)=(acc++(aV k a).flatten).toArray
 | 0,acc=>by simp
 | k+1,acc=>by
  have e:acc.toArray++a.toArray=(acc++a).toArray:=by simp
  have d:(acc++a)++(aV k a).flatten=acc++(aV (k+1) a).flatten:=by rw[dh,fL,gO]
  rw[<-d,<-Ss a k (acc++a),<-e,dh,List.foldl_cons]
section
variable {X:Cx} {l4:List (aL×df)} {σ:St} {H:Hp} {s:aO} {l b:aL} {xs ys zs:List V}
theorem Inv.lset{b a:List aI}{n:Nat}{f:Array aI->Array aI}{t':Nat}(I:Inv X l4 σ H s)(c:H l=aA (.lst xs))
  (e:s.heap.get? l=aA { cls:=.type "list",data:=.seq b.toArray n }) (d:f b.toArray=a.toArray) (j:Vals ys a) (g:ys.length<=sizeLine) :
  Inv X l4 σ (upd H l (.lst ys)) { s with heap:=s.heap.update l (je f),toks:=t' }:=by
 have q:=PySem.IsL.update e f;rw[d] at q;refine I.write (by rw[c];exact trivial) (.inl rfl) (λk u i h=>(ip s.heap (je f) (bN i)).trans h) ⟨_,q⟩ ?_;exact⟨g,a,_,j,q⟩
theorem Inv.lnew{a:List aI}{t':Nat}(I:Inv X l4 σ H s)(c:Vals ys a)(b:ys.length<=sizeLine) :
  Inv X l4 σ (upd H s.heap.objs.size (.lst ys)) { s with heap:=s.heap.push { cls:=.type "list",data:=.seq a.toArray },toks:=t' }:=
 I.laid (λ_ _ q=>aH _ q) (aJ _) ⟨b,a,0,c,ag _ rfl⟩
theorem Inv.fresh(I:Inv X l4 σ H s):H s.heap.objs.size=none:=I.hok.fresh (aJ _)
theorem Inv.lstM(I:Inv X l4 σ H s)(b:H l=aA (.lst xs)):xs.length<=sizeLine/\∃(a:List aI) (n:Nat),Vals xs a/\xs.length=a.length/\s.heap.get? l=aA { cls:=.type "list",data:=.seq a.toArray n }:=by obtain⟨z,a,n,r,e⟩:=I.hok l _ b;exact⟨z,a,n,r,r.length,e⟩
theorem MO{n:Nat}(h:n<=sizeLine):f6 n=aB:=by exact decide_eq_false (by omega)
end
section
variable {X:Cx}
noncomputable def Jm:V->List V->Hp->VK->Prop:=λx vs H Q=>∃l xs y,x = .ref l/\vs=[y]/\H l=aA (.lst xs)/\xs.length<sizeLine/\Q .non (upd H l (.lst (xs++[y])))
theorem Vp:MtM X "list.append" Jm:=by intro k s m H x vs v i Q I c b h;obtain⟨l,o,y,rfl,rfl,a,j,q⟩:=h;cases c;obtain⟨u,rfl,d⟩:=b.one;obtain⟨z,f,n,r,g,e⟩:=I.lstM a;refine gA F.slot_list_append ⟨_,e,rfl⟩ F.entry_list_append (F.args_list_append_2 _ _) (PySem.list_append l f.toArray n u (by rw[aR];omega)) ⟨e,?_⟩;refine⟨.non,_,I.lset a e (by simp) (r.append (.cons d .nil)) ?_,rfl,q⟩;rw[au,eH];omega
noncomputable def EY:V->List V->Hp->VK->Prop:=λx vs H Q=>∃l b xs zs,x = .ref l/\vs=[.ref b]/\H l=aA (.lst xs)/\H b=aA (.lst zs)/\xs.length+zs.length<=sizeLine/\Q .non (upd H l (.lst (xs++zs)))
theorem mt_extend:MtM X "list.extend" EY:=by
 intro D s G H x vs v B Q I m j h;obtain⟨l,b,J,A,rfl,rfl,g,k,C,q⟩:=h;cases m;obtain⟨u,rfl,p⟩:=j.one;cases p;obtain⟨z,d,n,r,y,e⟩:=I.lstM g;obtain⟨E,a,o,i,w,t⟩:=I.lstM k;have f:d.toArray.size+a.toArray.size<=sizeLine:=by rw[aR,aR];omega
 have c:¬(!d.toArray.isEmpty&&f6 (d.toArray.size+a.toArray.size))=aC:=by rw[MO f,Bool.and_false];exact bO
 refine gA F.slot_list_extend ⟨_,e,rfl⟩ F.entry_list_extend (F.args_list_extend_2 _ _)
  (AutoSeq1.list_extend_list_list_0 l d.toArray n b a.toArray o c (by omega) (by omega)) ⟨e,t,?_⟩
 refine⟨.non,_,I.lset g e (by simp) (r.append i) ?_,rfl,q⟩;rw[au];omega
noncomputable def Za3:R2:=λx y H Q=>∃l b xs zs,x = .ref l/\y = .ref b/\H l=aA (.lst xs)/\H b=aA (.lst zs)/\xs.length+zs.length<=sizeLine/\∀p,H p=none->Q (.ref p) (upd H p (.lst (xs++zs)))
theorem Gv:TN X (dU .Add) Za3:=by
 intro w s C H x y v u Q I g j h;obtain⟨l,b,D,p,rfl,rfl,i,f,t,q⟩:=h;cases g;cases j;obtain⟨z,c,n,r,o,e⟩:=I.lstM i;obtain⟨B,a,A,d,m,k⟩:=I.lstM f;refine PySem.P.add_list e k ?_ (by rw[aR,aR];omega);have ea:c.toArray++a.toArray=(c++a).toArray:=by simp
 rw[ea];exact⟨.ref _,_,I.lnew (r.append d) (by rw[au];omega),rfl,q _ I.fresh⟩
noncomputable def Zc5:R2:=λx y H Q=>∃l k xs,x = .ref l/\y = .int k/\H l=aA (.lst xs)/\-(2^63)<=k/\k<2^63/\xs.length*k.toNat<=sizeLine/\
 ∀p,H p=none->Q (.ref p) (upd H p (.lst (aV k.toNat xs).flatten))
theorem Nn{b:Type}(a:List b)(k:Nat):(aV k a).flatten.length=k*a.length:=by simp
theorem BY:TN X (dU .Mult) Zc5:=by
 intro L s M H x y v u Q I A J h;obtain⟨l,k,N,rfl,rfl,C,E,D,j,q⟩:=h;cases A;obtain⟨t,rfl⟩:=J;obtain⟨z,b,n,r,w,e⟩:=I.lstM C;have f:b.toArray.size*k.toNat<=sizeLine:=by rw[aR,<-w];exact j
 have i:¬b.toArray.size*k.toNat>(2^63-1)/8:=by
  have:(sizeLine:Nat)<=(2^63-1)/8:=by decide
  omega
 have d:¬(!Builtin.List.listFitsIndex k)=aC:=by rw[fitsIndex_both E D];exact bO
 have c:¬f6 (b.toArray.size*k.toNat)=aC:=by rw[MO f];exact bO
 have g:jf (λp o=>p++o) #[] (aV (if b.toArray.isEmpty=aC then 0 else k.toNat) b.toArray)=(aV k.toNat b).flatten.toArray:=by
  have G:=λm=>by have:=Ss b m [];rw[List.nil_append] at this;exact this
  rw[G]
  cases b with
  | nil=>simp
  | cons a r'=>rw[lU (by simp)]
 refine iI rfl ⟨_,e,rfl⟩ (λB=>ir B k t) noFill_list_mul F.fills_int_mul F.slot_int_rmul repeat_list F.slot_int_index.lookup
  (gA F.slot_int_rmul (ir s k t) F.entry_int_rmul (F.args_int_rmul_2 _ _) (int___rmul___int_list k t l b.toArray n)
   ⟨e,rfl,⟨_,e,rfl⟩,gA F.slot_list_mul ⟨_,e,rfl⟩ F.entry_list_mul (F.args_list_mul_2 _ _) (AutoListH.list___mul___list_int_3 l b.toArray n k t d i c) ⟨e,?_⟩⟩)
 rw[g];exact⟨.ref _,_,I.lnew (r.rep k.toNat) (by rw[Nn,fF];exact j),rfl,q _ I.fresh⟩
end
end L2
namespace Att
open PySem PySem.W PySem.Calls PyProof.Rows
theorem R0{P:Params}{h:bp}:∀(c:List Int)(vs:List aI),WellAll P h vs (c.map kP)->IntsAre vs c:=by
 intro c
 induction c with
 | nil=>
  intro vs w;cases w;exact .nil
 | cons n c ih=>
  intro vs w
  cases w with
  | cons a b=>
   cases a;exact .cons _ _ (ih _ b)
theorem script_of{l:OpenLaw}{n:Nat}(o:l.most=aA n){P:Params}{h:bp}{b:List WData}{e:List aI}
  (f:l.row.toRowW.claim.pre b=aC) (k:WellAll P h e b) :
  ∃a vs c,e=[kJ a]/\b=[WData.list (c.map kP)]/\h.get? a=aA { cls:=.type "list",data:=.seq vs.toArray }/\IntsAre vs c/\c.length<=n:=by
 have m:=(pre_splitW f).1;have p:=(pre_splitW f).2;obtain⟨d,r,rfl,s,q⟩:=hasAllW_cons m;obtain rfl:=hasAllW_nil q;obtain⟨u,rfl,t⟩:=hasW_list s;obtain⟨c,rfl⟩:=items_int t
 have g:c.length<=n:=by
  have i:(WTm.not (.lt (.lit (.int (n:Int))) (.len (.arg 0)))).holds [] { args:=[.list (c.map .int)] }=aC:=by have i:=(holds_andW p).1;rw[o] at i;exact i
  have j:=condW_of i (w_not (w_lt w_lit (w_len_list (w_arg rfl))))
  first
   | (rw[decide_eq_true q'] at j;exact absurd j rfl)
   | (simp at j;omega)
 cases k with
 | cons w1 w2=>
  cases w2
  cases w1 with
  | list ho hall=>exact⟨_,_,c,rfl,rfl,ho,R0 c _ hall,g⟩
theorem post_true(l:OpenLaw)(a:List WData):l.row.toRowW.claim.post a (.bool aC) a=aC:=
 postW_of
  (show WShape.has [] (.bool aC) .bool=aC by first | rfl | decide | simp[WShape.arms])
  (w_eq_bool (w_res rfl) w_lit) rfl
end Att
namespace L2
open PySem PySem.Spec PyProof.Rows
theorem OK:∀{vs:List aI}{ns:List Int},IntsAre vs ns->Vals (ns.map V.int) vs
 | _,_,.nil=>.nil
 | _,_,.cons n t h=>.cons ⟨t,rfl⟩ (OK h)
noncomputable def BZ(H:Hp):Prop:=∀b,H b=none\/∃o xs,H b=aA (.frz o (.lst xs))
theorem law_call{P:b9}{w:cW}{K:aE}{J W:aq->Option aI}{CX:EN}{k:Nat}{fa a:aL}{fd:eh}{x:aq}{sp:Sp}{f:aO}{vs:List aI}{O:List Int}
  (E:∀(q:aq)(c:aL),Ip q=aC->cz K (.ref c) q=aC->False) (KX:K.In f.heap) (L:f.heap.Ns cq J) (j:f.heap.Ns ja W) (N:∀x:aq,x≠"__name__"->W x=dP x) (C:f.heap.NoLimit) (l:f.heap.NoSeer) (hg:f.gens = #[])
  (Q:f.heap.get? a=aA { cls:=.type "list",data:=.seq vs.toArray }) (hi:IntsAre vs O) (hl:O.length<=sizeLine) (hr:Room k kA)
  (F:∀base:bp,K.In base->base.Ns cq J->RY P w K J base CX k fa fd [x] sp) (B:∀(s:aO)(u:aI),jv s fd ⟨[u],[]⟩ [(x,u)])
  (Z:∀H:Hp,BZ H->SqL K H a (O.map V.int)->sp [.ref a] H (λv _=>v = .bl aC) λ_ _ _=>False)
  (hCX:∀H e p,CX [] H f (λ_ _ _=>False) e p->False) :
  ij (model P w) kA (.call (.ref fa) ⟨[.ref a],[]⟩) (λr p=>r = .ok (.ret (.bool aC))/\OldK f.heap p.heap/\p.os=f.os/\ie p.gens) f:=by
 have rv:=OK hi;have S:=hi.length
 -- from an abstract heap in which nothing but the script may be tracked
 have A:∀H:Hp,BZ H->SqL K H a (O.map V.int)->HOk P w H f.heap->(∀b,H b≠none->b=a)->(H a≠none->K.lookup a=none)->
   ij (model P w) kA (.call (.ref fa) ⟨[.ref a],[]⟩) (λr p=>r = .ok (.ret (.bool aC))/\OldK f.heap p.heap/\p.os=f.os/\ie p.gens) f:=by
  intro H hO hS I hA hK;have g:∀{b:aL}{o:df},f.heap.get? b=aA o->H b=none->(Ng f.heap H).get? b=aA o:=λe n=>Gb e n
  have noA:∀{b:aL}{o:df}{D:Array DictEntry}{ep:Nat},f.heap.get? b=aA o->o.data = .dict D ep->H b=none:=λ{b o D ep} e d=>by
   cases q:H b with
   | none=>rfl
   | some u=>
    have R:b=a:=hA b (by rw[q];simp);subst R;rw[Q] at e;cases e;have d':Data.seq vs.toArray _=Data.dict D ep:=d;cases d'
  have i:∀{b:aL}{m:aq->Option aI},f.heap.Ns b m->(Ng f.heap H).Ns b m:=λ{b m} ⟨o,D,ep,e,d,r⟩=>⟨o,D,ep,g e (noA e d),d,r⟩
  have T:K.In (Ng f.heap H):=λb o e=>g (KX b o e) (by
   cases q:H b with
   | none=>rfl
   | some u=>
    have R:b=a:=hA b (by rw[q];simp);subst R;rw[hK (by rw[q];simp)] at e;cases e)
  have hbm:∀{b:aL}{o:df},f.heap.get? b=aA o->o.cls = .type "module"->H b=none:=λ{b o} e d=>by
   cases q:H b with
   | none=>rfl
   | some u=>
    have R:b=a:=hA b (by rw[q];simp);subst R;rw[Q] at e;cases e;injection d with d
    exact absurd d (by decide)
  have hM:Mod K J (Ng f.heap H):=⟨T,i L,⟨W,i j,N⟩,let⟨Y,y,t⟩:=C;⟨Y,i y,t⟩,⟨let⟨Y,y,t⟩:=l.statics;⟨Y,i y,t⟩,let⟨mm,y,t⟩:=l.mods;⟨mm,i y,t⟩,⟨W,i j,N⟩,let⟨X,bm,ob,y,t,h3,h4,h5⟩:=l.main;⟨X,bm,ob,i y,t,g h3 (hbm h3 h4),h4,h5⟩⟩⟩;have e0:EO P w K J (Ng f.heap H) kA [] f H:=⟨rfl,hM,λb o e=>Ex e,Nat.le_of_eq (Iq _ _),trivial,λb j=>absurd (show b∈([]:List aL) from j) (by simp),λq c y t=>(E q c y t).elim,I,.of_eq hg⟩;refine jw ((F _ T (i L)).run kA [] f H ⟨[.ref a],[]⟩ [.ref a] [.ref a] _ _ hr e0 (B f (.ref a)) (.cons rfl .nil) (Z H hO hS)) λr p h=>?_
  cases r with
  | error e=>exact(hCX H e p h).elim
  | ok fl=>
   cases fl with
   | next=>exact fE h
   | brk=>exact fE h
   | cont=>exact fE h
   | ret u=>
    obtain⟨v,H',os,M,un,U,r',q⟩:=h;have q':v = .bl aC:=q;subst q';obtain rfl:u=aI.bool aC:=r';refine⟨rfl,OldK.of_keep λb o e=>?_,os,M⟩
    cases q:H b with
    | none=>exact un.keep b o e q (by intro z;exact absurd (show b∈([]:List aL) from z) (by simp)) (by simp)
    | some u=>
     rcases hO b with z | ⟨ob,xs,z⟩
     ·rw[q] at z;cases z
     ·have z2:=un.frzs b ob _ z;obtain⟨e1,_⟩:=I b _ z;obtain⟨e2,_⟩:=U b _ z2;rw[e] at e1;cases e1;exact e2
 cases hk:K.lookup a with
 | some o=>
  -- the script is one of the module's own objects
  have e:=KX a o hk;rw[Q] at e;cases e;refine A (λ_=>none) (λ_=>.inl rfl) (.inr ⟨_,vs.toArray,_,hk,rfl,rfl,rfl,by rw[aR,S];exact hl,by simpa using rv⟩) (λb u z=>by have G:(none:Option HO)=aA u:=z;cases G) (λb z=>absurd rfl z) λz=>absurd rfl z
 | none=>
  refine A (λb=>if b=a then aA (.frz { cls:=.type "list",data:=.seq vs.toArray } (.lst (O.map V.int))) else none) (λb=>?_) (.inl (.inr ⟨{ cls:=.type "list",data:=.seq vs.toArray },lQ rfl⟩)) (λb u z=>?_) (λb z=>?_) λ_=>hk
  ·by_cases j:b=a
   ·exact .inr ⟨_,_,lQ j⟩
   ·exact .inl (lU j)
  ·by_cases j:b=a
   ·have G:=(lQ j).symm.trans z;cases G;subst j;exact⟨Q,by rw[aM];exact hl,vs,_,rv,Q⟩
   ·have G:=(lU j).symm.trans z;cases G
  ·by_cases j:b=a
   ·exact j
   ·exact absurd (lU j) z
noncomputable def XZ(s:bq):Arguments:=match s with
 | .FunctionDef _ a _ _ _ _ _ _ _ _=>a
 | _=>{ posonlyargs:=[],args:=[],vararg:=none,kwonlyargs:=[],kw_defaults:=[],kwarg:=none,defaults:=[] }
noncomputable def Yv(s:bq):List bq:=match s with
 | .FunctionDef _ _ b _ _ _ _ _ _ _=>b
 | _=>[]
noncomputable def Zf(s:bq):dw:=match s with
 | .FunctionDef _ _ _ _ _ _ sc _ _ _=>sc
 | _=>{ kind:=.function,names:=[],isGenerator:=aB,isCoroutine:=aB }
abbrev L3:EN:=λ_ _ _ _ _ _=>False
abbrev E0:XK:=λ_ _ _=>False
theorem Za4{X:Cx}:LX L3 X E0:=λ_ _ _ _ _ _ _ h=>h.elim
structure Fun(K:aE)(x qual:aq)(st:bq)(f:aL)(fd:eh):Prop where
 ex:∃(oc:aI) (od:Option aL) (kV doc pm:aI) (an:Option aL) (cdv ct:aI) (osl:Array (Option aI)),
  fd=dD x qual (XZ st) (Yv st) (Zf st) .none kV doc pm an cdv ct/\K.lookup f=aA ⟨oc,od,.func fd,osl⟩/\cz K cdv qual=aC
 kp:gL K (.ref f)=aC
section
variable {P:b9} {w:cW} {K:aE} {mg:aq->Option aI} {base:bp}
theorem Fun.ok{x b:aq}{st:bq}{f:aL}{l:eh}{N i:List aq}{k:Nat}{g:Sp}(F:Fun K x b st f l)(S:Zq N i (Zf st))(len:∀vs H Q E,g vs H Q E->vs.length=i.length)
  (d:∀(c:aI)(A:cL)(a:List kK)(s:aO)(H:Hp)(vs:List V)(Q:VK)(E:XK),Room k (A.deeper (gY b (Zf st) s.heap.objs.size f c))->g vs H Q E->
   ∃t,PSs (QI L3 P w K mg base N b (Zf st) f c A a s H E).nox (Yv st) t/\t { nx:=λ_ n=>Q .non n,rt:=Q } (start N vs) H):RY P w K mg base L3 (k+1) f l i g:=by
 obtain⟨B,y,kV,p,v,z,c,ct,o,rfl,u,j⟩:=F.ex;refine Y9 u j S len λA a s H vs Q E m e=>?_;obtain⟨t,h,q⟩:=d c A a s H vs Q E m e;exact⟨t,h.nox,q⟩
theorem Fun.binds{x a:aq}{st:bq}{f:aL}{i:eh}{g:List aq}(F:Fun K x a st f i)
  (h:∀(kV b d:aI)(e:Option aL)(c ct:aI)(us:List aI),us.length=g.length->i6 (dD x a (XZ st) (Yv st) (Zf st) .none kV b d e c ct) ⟨us,[]⟩=pure (g.zip us)):Binds K i g []:=by
 obtain⟨m,l,kV,b,d,e,c,ct,j,rfl,n,k⟩:=F.ex;exact .all (h kV b d e c ct)
theorem B1{x a:aq}{st:bq}{f:aL}{i:aI}{j g:Option aL}{e:Array (Option aI)}{kV d h b ct:aI}(l:K.lookup f=aA ⟨i,j,.func (dD x a (XZ st) (Yv st) (Zf st) .none kV d h g b ct),e⟩)
  (c:cz K b a=aC) (k:gL K (.ref f)=aC):Fun K x a st f (dD x a (XZ st) (Yv st) (Zf st) .none kV d h g b ct):=⟨⟨i,j,kV,d,h,g,b,ct,e,rfl,l,c⟩,k⟩
end
section
variable {X:Cx}
theorem pv(i:Nat){x:aq}{pos:fS}(b:X.N[i]?=aA x:=by rfl)(d:Vis X.env.scope x:=by first | exact jg rfl | exact jP (jg rfl) | exact jP (jP rfl))(c:(x==("__debug__" : aq))=aB:=by decide)
  (a:(x==("__classdict__" : aq))=aB:=by decide):PE X (.Name x pos) (Nh i):=Bp b d c a
end
theorem Za5{A B:Prop}(h:B):if aB=aC then A else B:=by rw[lU bO];exact h
theorem Za6{A B:Prop}(h:A):if aC=aC then A else B:=by rw[lQ rfl];exact h
noncomputable def Same(H H':Hp):Prop:=∀b o,H b=aA o->H' b=aA o
theorem Same.refl(H:Hp):Same H H:=λ_ _ h=>h
theorem Same.trans{H e d:Hp}(a:Same H e)(b:Same e d):Same H d:=λc o h=>b c o (a c o h)
theorem Same.free{H a:Hp}(e:Same H a){l:aL}(h:a l=lH):H l=lH:=by
 cases q:H l with
 | none=>rfl
 | some o=>
  rw[e l o q] at h;cases h
end L2
set_option maxHeartbeats 4000000
namespace L2
open PySem PySem.Spec PyProof.Rows
noncomputable def X1(cells:List (aq×aL)):List (aq×dy)->List (aq×aL)->List (aq×aL)
 | [],acc=>acc
 | (n,k)::r,acc=>X1 cells r (if(k==bW)=aC then(n,(cells.lookup n).getD 0)::acc else acc)
theorem U9{env:kK}:∀(names:List (aq×dy))(acc:List (aq×aL)),(∀y∈names,y.2 = .free->(env.cells.lookup y.1).isSome=aC)->
  (forIn (m:=Sem) names acc λ(x:aq×dy) (e:List (aq×aL))=>
   match x with
   | (name,kind)=>if(kind==bW)=aC then do
     let c <-cellOf env name
     pure (fI ((name,c)::e))
    else pure (fI e))=pure (X1 env.cells names acc)
 | [],acc,_=>rfl
 | (n,k)::r,acc,h=>by
  rw[List.forIn_cons];have d:=λa=>U9 r a λy g=>h y (aT _ g)
  cases hk:(k==bW) with
  | true=>
   have f:=h (n,k) aa (by simpa using hk);obtain⟨c,b⟩:=cA.mp f;have b:env.cells.lookup n=aA c:=b;have i:cellOf env n=pure c:=by unfold cellOf;rw[b]
   dsimp only
   rw[hk,lQ rfl,i];refine gP (d ((n,c)::acc)) ?_;show _=pure (X1 env.cells r (if(k==bW)=aC then(n,(env.cells.lookup n).getD 0)::acc else acc));rw[lQ hk,b];rfl
  | false=>
   dsimp only
   rw[hk,lU bO];refine gP (d acc) ?_;show _=pure (X1 env.cells r (if(k==bW)=aC then(n,(env.cells.lookup n).getD 0)::acc else acc));rw[lU (by rw[hk];exact bO)]
theorem Vc{a:dw}{env:kK}(h:∀y∈a.names,y.2 = .free->(env.cells.lookup y.1).isSome=aC):closureFor a env=pure (X1 env.cells a.names []):=by
 have e:=U9 a.names [] h;unfold closureFor
 dsimp only
 rw[e];rfl
theorem Vq{cells:List (aq×aL)}{x:aq}{c:aL}:∀(names:List (aq×dy))(acc:List (aq×aL)),(∀y∈names,y.2 = .free->(cells.lookup y.1).isSome=aC)->(acc.lookup x=aA c->cells.lookup x=aA c)->
  (X1 cells names acc).lookup x=aA c->cells.lookup x=aA c
 | [],_,_,h,e=>h e
 | (n,k)::r,acc,hf,h,e=>by
  refine Vq r _ (λy g=>hf y (aT _ g)) ?_ e;intro q;by_cases b:(k==bW)=aC
  ·rw[lQ b,bY] at q
   cases hx:x==n with
   | true=>
    rw[hx] at q;have f:x=n:=by simpa using hx
    obtain⟨d,a⟩:=cA.mp (hf (n,k) aa (by simpa using b));have a:cells.lookup n=aA d:=a;rw[a] at q;rw[f,a];exact q
   | false=>rw[hx] at q;exact h q
  ·rw[lU b] at q;exact h q
theorem QL{cells:List (aq×aL)}{x:aq}:∀(names:List (aq×dy))(acc:List (aq×aL)),(acc.lookup x).isSome=aC->((X1 cells names acc).lookup x).isSome=aC
 | [],_,h=>h
 | (n,k)::r,acc,h=>by
  refine QL r _ ?_;split
  ·rw[bY];split<;>simp_all
  ·exact h
theorem Vr{cells:List (aq×aL)}{x:aq}:∀(names:List (aq×dy))(acc:List (aq×aL)),(x,bW)∈names->((X1 cells names acc).lookup x).isSome=aC
 | (n,k)::r,acc,h=>by
  rcases af.mp h with e | h
  ·cases e;refine QL r _ ?_;rw[lQ (by decide),bY];simp
  ·exact Vr r _ h
structure CompScope(N:List aq)(around scope:dw)(own fr:List aq)(ix:List Nat):Prop where
 kind:scope.kind = .function
 nocell:∀y∈scope.names,y.2≠.cell
 names:∀y∈scope.names,y.2 = .local->scope.names.lookup y.1=aA .local
 frees:∀y∈scope.names,y.2 = .free->(around.names.lookup y.1=aA .cell\/around.names.lookup y.1=aA .free)
 slots:fr.map aA=ix.map (λi=>N[i]?)
 outs:∀x∈fr,(x,bW)∈scope.names
 apart:∀x∈fr,scope.names.lookup x≠aA .local
noncomputable def ZM(X:Cx)(N':List aq)(scope:dw)(cl:List (aq×aL))(C:aL)(s:aO)(H:Hp)(ex:List aL):Cx:=
 { X with N:=N',s₀:=s,H₀:=H,env:=jQ scope cl C X.env,outer:=X.stack,ex:=ex,fn:=λ_=>aB,pn:=[],xe:=λ_ _=>False }
noncomputable def ZX(n:Nat)(ix:List Nat)(σ:St):St:=aV n none++ix.map (λi=>(σ[i]?).join)
theorem YZ{env:kK}{x:aq}:∀{names:List (aq×dy)}{k:dy},names.lookup x=aA k->
  (names.map λ(n,k)=>if(k==bW&&env.scope.kind==.function&&env.kindOf n==aA .cell) then(n,cB) else(n,k)).lookup x =
   aA (if(k==bW&&env.scope.kind==.function&&env.kindOf x==aA .cell)=aC then cB else k)
 | [],_,h=>by simp at h
 | (n,k')::r,k,h=>by
  show List.lookup x ((if(k'==bW&&env.scope.kind==.function&&env.kindOf n==aA .cell)=aC then(n,cB) else(n,k'))::_)=_
  cases hx:x==n with
  | true=>
   simp only[bY,hx] at h;cases h;have e:x=n:=by simpa using hx
   subst e;split
   ·simp[bY]
   ·simp[bY]
  | false=>
   simp only[bY,hx] at h;split
   ·simp only[bY,hx];exact YZ h
   ·simp only[bY,hx];exact YZ h
theorem Wu{env:kK}{x:aq}:∀{names:List (aq×dy)}{k':dy},
  (names.map λ(n,k)=>if(k==bW&&env.scope.kind==.function&&env.kindOf n==aA .cell) then(n,cB) else(n,k)).lookup x=aA k'->∃k,names.lookup x=aA k
 | [],_,h=>by simp at h
 | (n,k0)::r,k',h=>by
  have h:List.lookup x ((if(k0==bW&&env.scope.kind==.function&&env.kindOf n==aA .cell)=aC then(n,cB) else(n,k0))::_)=aA k':=h
  cases hx:x==n with
  | true=>exact⟨k0,by simp[bY,hx]⟩
  | false=>
   have:∃k,r.lookup x=aA k:=by
    apply Wu (env:=env) (k':=k');split at h<;>simpa [bY,hx] using h
   obtain⟨k,e⟩:=this;exact⟨k,by simp[bY,hx,e]⟩
section
variable {X:Cx} {l4:List (aL×df)} {σ:St} {H:Hp} {s:aO} {own fr:List aq} {ix:List Nat} {scope:dw}
theorem CompScope.clos(S:CompScope X.N X.env.scope scope own fr ix)(I:Inv X l4 σ H s):∀y∈scope.names,y.2 = .free->(X.env.cells.lookup y.1).isSome=aC:=λy a b=>by obtain⟨c,e⟩:=I.ok.has y.1 (S.frees y a b);rw[e];rfl
end
theorem Np{prog:b9}{w:cW}{A:cL}{R:lG->aO->Prop}{s:aO}{E a B:az}{D:List az}{p:dw}{pos:fS}{C z:aI}{env:kK}(I:Nat->aO->Prop)
  (Uc:∀n s,I n s->bJ (model prog w) A (lF C) (λr d=>match r with
   | none=>R (.ok .next) d
   | some v=>bJ (model prog w) A (jD a C v) (λ_ b=>bJ (model prog w) A (assign a env v) (λ_ l=>
     bJ (model prog w) A (forIn D aC λc r=>if r=aC then do let ok <-kd c env (eval c env);pure (fI ok) else pure (fI r)) (λok g=>
      if ok=aC then bJ (model prog w) A (eval E env) (λx j=>
       bJ (model prog w) A (call (.builtin "list.append") [z,x]) (λ_ o=>∃m,m<n/\I m o) (j1 (model prog w) A env λe f=>R (.error e) f) j) (j1 (model prog w) A env λe f=>R (.error e) f) g
      else ∃m,m<n/\I m g) (j1 (model prog w) A env λe f=>R (.error e) f) l) (j1 (model prog w) A env λe f=>R (.error e) f) b) (j1 (model prog w) A env λe f=>R (.error e) f) d) (j1 (model prog w) A env λe f=>R (.error e) f) s)
  (n:Nat) (h:I n s) :
  ij (model prog w) A (.compLoop (.ListComp E [⟨a,B,D,0⟩] p pos) 0 C z env) R s:=by
 refine codeAny_loop rfl I (λn s F=>?_) n h;refine wpAny_noted ?_;refine aN (j8 (aN (dA (Uc n s F) (λr d h₁=>?_) λ_ _ i=>i)))
 cases r with
 | none=>exact ak h₁
 | some v=>
  refine aN (dA h₁ (λ_ b q=>?_) λ_ _ i=>i);refine aN (dA q (λ_ l y=>aN (dA y (λok g k=>?_) λ_ _ i=>i)) λ_ _ i=>i)
  cases ok with
  | false=>exact ak ⟨rfl,k⟩
  | true=>
   exact aN (aN (dA k (λx j u=>aN (dA u (λ_ o t=>ak (ak ⟨rfl,t⟩)) λ_ _ i=>i)) λ_ _ i=>i))
noncomputable def L4(X:Cx)(l8:List az)(t:TT):Prop:=
 ∀(l4:List (aL×df))(s:aO)(σ:St)(H:Hp)(Q:Bool->Hp->Prop),Inv X l4 σ H s->t σ H Q->
  bJ (model X.prog X.w) X.A (forIn l8 aC λc r=>if r=aC then do let ok <-kd c X.env (eval c X.env);pure (fI ok) else pure (fI r)) (TP X l4 σ Q) X.xe s
noncomputable def Za7:TT:=λ_ H Q=>Q aC H
theorem EZ{X:Cx}:L4 X [] Za7:=λ_ _ _ H _ I h=>wpAny_tests_nil ⟨H,I,h⟩
theorem E4{X:Cx}{c:az}{t:TT}(h:PT X c t):L4 X [c] t:=λa s d H Q I b=>wpAny_tests_one (h a s d H Q I b)
noncomputable def Za8(n:Nat)(ix:List Nat)(g:TG)(tt:TT)(te:TE)(σ:St)(Q:VK)(J:It)(H1:Hp):Prop:=
 ∃W:Nat->Nat->List V->Hp->Prop,(∃m,W 0 m [] H1)/\∀i m ys H,W i m ys H->ys.length<=sizeLine/\
  ((J.stop i H/\∀p,H p=none->Q (.ref p) (upd H p (.lst ys)))\/
   (J.go i H/\∃N:List V->Hp->Prop,(∀ys' H',N ys' H'->∃m',m'<m/\W (i+1) m' ys' H')/\
    ∀x H',J.yld i H x H'->g x (ZX n ix σ) H' λσ2 H2=>σ2.drop n=(ZX n ix σ).drop n/\tt σ2 H2 λb H3=>if b=aC then te σ2 H3 λy H4=>N (ys++[y]) H4 else N ys H3))
noncomputable def QM(n:Nat)(ix:List Nat)(wi:TI)(g:TG)(tt:TT)(te:TE):TE:=λσ H Q=>wi σ H λJ H1=>Za8 n ix g tt te σ Q J H1
theorem IF{n:Nat}{ix:List Nat}{c a:St}(d:a.drop n=(ZX n ix c).drop n):∀(i:Nat) v,(ZX n ix c)[i]?=aA (aA v)->a[i]?=aA (aA v):=λi v e=>by
 by_cases b:i<n
 ·unfold ZX at e;rw[aZ (by simpa using b),bV] at e;rw[lQ b] at e;cases e
 ·have q:=congrArg (λl=>l[i-n]?) d;simp only[dM] at q;rw[show n+(i-n)=i by omega] at q;rw[q];exact e
section
variable {X:Cx} {tg l9 iter:az} {l8:List az} {scope:dw} {pos:fS} {own fr:List aq} {ix:List Nat} {wi:TI} {g:TG} {tt:TT} {te:TE}
theorem Gw{Y:List (aL×df)}{B:St}{F:Hp}{s2:aO}{G:List aL}{h₁:bp}{tk:Nat}{C:aL}(S:CompScope X.N X.env.scope scope own fr ix)(d:Inv X Y B F s2)(f2:∀b∈G,VG X Y F b)(R:∀b∈G,b<s2.heap.objs.size)
  (N:s2.heap.objs.size<=C) (U:h₁.Ns C λ_=>none) (s:∀b o,s2.heap.get? b=aA o->h₁.get? b=aA o) :
  Inv (ZM X (own++fr) scope (X1 X.env.cells scope.names []) C s2 F G) [] (ZX own.length ix B) F { s2 with heap:=h₁,toks:=tk }:=by
 have cs:=S.clos d;have sub:∀x c,(X1 X.env.cells scope.names []).lookup x=aA c->X.env.cells.lookup x=aA c:=λx c e=>Vq scope.names [] cs (λh=>by simp at h) e;have J:=d.stkSub
 have L:(ZM X (own++fr) scope (X1 X.env.cells scope.names []) C s2 F G).Ok:=by
  refine⟨d.ok.mod,S.kind,d.ok.glob,d.ok.blt,N,λx y c t f=>d.ok.inj x y c (sub x c t) (sub y c f),λx hx=>?_,λx c h _=>?_,d.ok.hd,d.ok.frames,.inl rfl,λb A=>⟨?_,λx c e=>?_⟩,d.bs,?_,λb o e A=>?_,λb A z=>?_,d.stack,d.stkFree,d.ok.tab.un d.base,λ_ z=>absurd rfl z⟩
  ·-- the cells of the block's free names
   have P:(x,bW)∈scope.names:=by
    have:∃k',(relabel scope X.env).names.lookup x=aA k'/\(k' = .cell\/k' = .free):=by
     rcases hx with h | h
     ·exact⟨_,h,.inl rfl⟩
     ·exact⟨_,h,.inr rfl⟩
    obtain⟨k',e,O⟩:=this;obtain⟨k,D⟩:=Wu e;have Q:=YZ (env:=X.env) D;have e:(scope.names.map λ(n,k)=>if(k==bW&&X.env.scope.kind==.function&&X.env.kindOf n==aA .cell) then(n,cB) else(n,k)).lookup x=aA k':=e;rw[Q] at e;have m:=dH D
    cases k with
    | free=>exact m
    | cell=>exact absurd rfl (S.nocell _ m)
    | _=>simp at e;subst e;rcases O with z | z<;>cases z
   exact cA.mp (Vr _ _ P)
  ·cases h
  ·-- G differs from the frame
   exact bC (a9 (R b A) N)
  ·exact(f2 b A).2.2.2.2.1 x c (sub x c e)
  ·exact aP d.ok.bsz d.sz
  ·rcases(f2 b A).2.2.2.1 with z | z
   ·exact d.ok.noex b o e z
   ·exact absurd (a9 (aW (d.ok.bs b o e).1) z) (cP _)
  ·rcases af.mp (J b z) with e | e
   ·exact(f2 b A).2.1 e
   ·exact(f2 b A).2.2.1 e
 have sl:fr.length=ix.length:=by simpa using congrArg g9 S.slots
 refine⟨L,rfl,d.bare,Un.kept s,⟨_,U,λi x v t f g=>?_⟩,λx c e=>?_,d.hok.fresh N,λx c e=>d.freeC x c (sub x c e),λp hp=>absurd (show p∈([]:List (aL×df)) from hp) (by simp),d.hok.kept s,?_⟩
 ·-- a name of the def around
  have t:(own++fr)[i]?=aA x:=t;have H:¬i<own.length:=λH=>by unfold ZX at f;rw[aZ (by simpa using H),bV,lQ H] at f;cases f
  rw[bH (by omega)] at t;unfold ZX at f;rw[bH (by simpa using H),dI,aU] at f
  cases ej:ix[i-own.length]? with
  | none=>rw[ej] at f;cases f
  | some j=>
   rw[ej] at f;have f:(B[j]?).join=aA v:=by simpa using f
   have f:B[j]?=aA (aA v):=by
    cases q:B[j]? with
    | none=>rw[q] at f;cases f
    | some z=>rw[q] at f;exact congrArg aA f
   have hN:X.N[j]?=aA x:=by have q:=congrArg (λl=>l[i-own.length]?) S.slots;simp only[aU,t,ej] at q;exact(aw q).symm
   have hm:=S.outs x (cE t);have Z:=S.frees _ hm rfl;obtain⟨m,hn,hl⟩:=d.loc;obtain⟨u,r,l⟩:=hl j x v hN f (by rcases Z with k | k;exact .inr (.inl k);exact .inr (.inr k));refine⟨u,r,?_⟩;rcases l with⟨k,_⟩ | ⟨_,c,hc,w⟩
   ·have k:X.env.scope.names.lookup x=aA .local:=k;rcases Z with q | q<;>rw[k] at q<;>cases q
   ·obtain⟨c',E⟩:=cA.mp (Vr _ [] hm);have ec:=sub x c' E;rw[hc] at ec;cases ec;refine .inr ⟨?_,c,E,?_⟩
    ·have g:=g;rcases g with g | g
     ·obtain⟨W,D⟩:=Wu g;have Q:=YZ (env:=X.env) D;have g:(scope.names.map λ(n,k)=>if(k==bW&&X.env.scope.kind==.function&&X.env.kindOf n==aA .cell) then(n,cB) else(n,k)).lookup x=aA .local:=g;rw[Q] at g
      have T:W = .local:=by
       cases W<;>simp at g ⊢
       split at g<;>cases g
      subst T;exact absurd D (S.apart x (cE t))
     ·exact g
    ·obtain⟨o,I,M⟩:=w;exact⟨o,s _ _ I,M⟩
 ·obtain⟨v,o,I,M⟩:=d.cell x c (sub x c e);exact⟨v,o,s _ _ I,M⟩
 ·show(ZX own.length ix B).length=(own++fr).length;unfold ZX;rw[au,dI,aM,au,sl]
noncomputable def Mz(fv:aq->Bool)(X:Cx)(N':List aq)(scope:dw)(cl:List (aq×aL))(C:aL)(s:aO)(H:Hp)(ex:List aL):Cx:=
 { X with N:=N',s₀:=s,H₀:=H,env:=jQ scope cl C X.env,outer:=X.stack,ex:=ex,fn:=fv,pn:=[],xe:=λ_ _=>False }
theorem OL{fv:aq->Bool}{N:List aq}{cl:List (aq×aL)}{kk:Nat}{C D:aL}{h₁:bp}{tk:Nat}{l4:List (aL×df)}{σ:St}{w:Hp}{s2:aO}{k:List aL}{it:aL}{tn:Nat->bp->Prop}{J:It}{Fin:List V->Hp->Prop}{RR:aI->aL->lG->aO->Prop}
  (E:X.calm=aC) (hg:PG (Mz fv X N scope cl C s2 w k) tg g) (ht:L4 (Mz fv X N scope cl C s2 w k) l8 tt) (he:PE (Mz fv X N scope cl C s2 w k) l9 te)
  (I2:Inv X l4 σ w s2) (T:Ni X.prog X.w X.K tg J k it tn) (st2:tn 0 s2.heap) (f2:∀b∈k,VG X l4 w b)
  {W:Nat->Nat->List V->Hp->Prop} {m0:Nat} (w0:W 0 m0 [] w)
  (Uc:∀i m f H,W i m f H->f.length<=sizeLine/\
   ((J.stop i H/\Fin f H)\/
    (J.go i H/\∃N:List V->Hp->Prop,(∀ys' j,N ys' j->∃m',m'<m/\W (i+1) m' ys' j)/\
     ∀x j,J.yld i H x j->g x (ZX kk ix σ) j λσ2 w=>σ2.drop kk=(ZX kk ix σ).drop kk/\tt σ2 w λb t=>if b=aC then te σ2 t λy H4=>N (f++[y]) H4 else N f t)))
  (hRR:∀(D C:aL)(oC:df)(m:aq->Option aI)(L:aO)(j:Hp)(f:List V),Inv X (l4++[(C,oC)]) σ (upd j D (.lst f)) L->L.heap.get? C=aA oC->L.heap.Ns C m->VG X l4 (upd j D (.lst f)) C->j D=none->Fin f j->RR (.ref D) C (.ok .next) L)
  (hfp:∀b∈k,b<s2.heap.objs.size) (hC:@Eq Nat C (D+1)) (hDD:@Eq Nat s2.heap.objs.size D) (old:∀b o,s2.heap.get? b=aA o->h₁.get? b=aA o) (hacc:h₁.get? D=aA { cls:=.type "list",data:=.seq ([]:List aI).toArray 0 })
  (I0:∀tk,Inv (Mz fv X N scope cl C s2 w k) [] (ZX kk ix σ) w { s2 with heap:=h₁,toks:=tk }) (hcl:∀x c,cl.lookup x=aA c->c≠D) :
  ij (model X.prog X.w) X.A (.compStart (.ListComp l9 [⟨tg,iter,l8,0⟩] scope pos) 0 (.ref it) (.ref D) (jQ scope cl C X.env)) (RR (.ref D) C) { s2 with heap:=h₁,toks:=tk }:=by
 have hDC:@Ne Nat D C:=by omega
 have h:∀b,b<s2.heap.objs.size->b≠C/\b≠D:=λb a=>by rw[hDD] at a;exact⟨bC (by omega),bC a⟩
 have Z:ij (model X.prog X.w) X.A (.compLoop (.ListComp l9 [⟨tg,iter,l8,0⟩] scope pos) 0 (.ref it) (.ref D) (jQ scope cl C X.env)) (RR (.ref D) C) { s2 with heap:=h₁,toks:=tk }:=by
  generalize s:Mz fv X N scope cl C s2 w k=Y at I0 hg ht he
  have G:∀{j:Hp}{pn:List (aL×df)},(∀b∈k,j b=none)->(∀p∈pn,∀b∈k,p.1≠b)->∀b∈k,VG Y pn j b:=λ{j pn} hn B b a=>by
   subst s;refine⟨hn b a,(h b (hfp b a)).1,λz=>?_,.inl a,λx c e=>?_,λp hp'=>B p hp' b a⟩
   ·exact(I0 0).ok.exfs b a z
   ·exact((I0 0).ok.exf b a).2 x c e
  have dfp:=λb a=>bN (h b (hfp b a)).2;have O:∀x c,Y.env.cells.lookup x=aA c->c≠D:=by subst s;exact hcl
  have hfsD:D∉Y.fs:=λz=>by subst s;obtain⟨_,o,ho,_⟩:=(I0 0).ok.funs.mem z;have:=aW ho;have:D<s2.heap.objs.size:=this;exact cP _ (Nat.lt_of_lt_of_eq this hDD)
  have eL:Y.env.locals=C:=by subst s;rfl
  have eS:Y.s₀=s2:=by subst s;rfl
  have eP:Y.pn=[]:=by subst s;rfl
  refine Np (λn L=>∃i f A F j,Inv Y [] (ZX kk ix σ) j L/\tn i L.heap/\(∀b∈k,j b=none)/\L.heap.get? D=aA { cls:=.type "list",data:=.seq A F }/\Vals f A.toList/\j D=none/\W i n f j) ?_ m0
   ⟨0,[],#[],0,w,I0 _,T.keep _ _ _ st2 λb _ o e=>old b o e,λb a=>(f2 b a).1,hacc,.nil,I2.hok.fresh (by omega),w0⟩
  rintro n s3 ⟨i,f,A,F,t,I3,st3,fr3,oD,vD,nD,w3⟩;obtain⟨hlen,P⟩:=Uc i n f t w3;have hsize:A.size<=sizeLine:=by have:=vD.length;simp only[fX] at this;omega
  have pD:Inv Y [(D,{ cls:=.type "list",data:=.seq A F })] (ZX kk ix σ) t s3:=I3.pins_of λp B=>by rw[ah.mp B];exact⟨oD,nD,by rw[eL];exact hDC,hfsD,λv z=>by cases z⟩
  have YP:Y.prog=X.prog:=by subst s;rfl
  have Yw:Y.w=X.w:=by subst s;rfl
  have YK:Y.K=X.K:=by subst s;rfl
  have YA:Y.A=X.A:=by subst s;rfl
  have Yx:Y.xe=λ_ _=>False:=by subst s;rfl
  have Ye:Y.env=jQ scope cl C X.env:=by subst s;rfl
  have ne1:∀p∈[((D,{ cls:=.type "list",data:=.seq A F }):aL×df)],∀b∈k,p.1≠b:=λp B b a=>by rw[ah.mp B];exact dfp b a
  rcases P with⟨stop,qn⟩ | ⟨go,N,hN,step⟩
  ·have d:=T.done Y YP Yw YK (by subst s;exact E) i _ s3 _ t (j1 (model X.prog X.w) X.A (jQ scope cl C X.env) λe L=>RR (.ref D) C (.error e) L) pD (G fr3 ne1) st3 stop;rw[YA] at d;refine YW d λr s4 ⟨hr,I4⟩=>?_;subst hr;obtain⟨oD4,l,_⟩:=I4.pin (D,_) (by rw[eP];exact aa);obtain⟨m,hn,_⟩:=I4.loc;rw[eL] at hn;obtain⟨oC,es,ep,hoC,hdC,hrest⟩:=id hn;have R:t C=none:=by have:=I4.free;rw[eL] at this;exact this
   have un:Un (LP X.stack) k w t s2.heap s4.heap:=by have:=I4.base;subst s;exact this
   have lt2:∀b o,s2.heap.get? b=aA o->b≠D:=λb o e=>(h b (aW e)).2
   have un':Un (LP X.stack) k w (upd t D (.lst f)) s2.heap s4.heap:=by
    refine⟨un.keep,un.slot,λb o e n hx=>?_,un.there,λb xs e=>?_,λb o u e=>?_,λb ps e=>?_⟩
    ·rw[upd_ne (lt2 b o e)];exact un.free b o e n hx
    ·have q:=un.tups b xs e;rw[upd_ne (Zy q l)];exact q
    ·have q:=un.frzs b o u e;rw[upd_ne (Zy q l)];exact q
    ·obtain⟨more,q⟩:=un.tbls b ps e;exact⟨more,by rw[upd_ne (Zy q l)];exact q⟩
   have hok4:HOk X.prog X.w t s4.heap:=by have:=I4.hok;rw[YP,Yw] at this;exact this
   have hok':HOk X.prog X.w (upd t D (.lst f)) s4.heap:=λb u q=>by
    by_cases a:b=D
    ·subst a;rw[Zx] at q;cases q;exact⟨hlen,A.toList,F,vD,by simpa using oD4⟩
    ·rw[upd_ne a] at q;exact(hok4 b u q).stay (λc v _ z=>z) (λc z=>by rw[upd_ne (Zy z l)];exact z) (λc xs z=>by rw[upd_ne (Zy z l)];exact z) λc u z=>by rw[upd_ne (Zy z l)];exact z
   have os4:s4.os=s2.os:=by rw[I4.os,eS]
   have I5:=I2.call' os4 un' hok' I4.bare λb a=>⟨(f2 b a).2.2.2.1,(f2 b a).2.1,(f2 b a).2.2.2.2.1,(f2 b a).2.2.2.2.2⟩;have CL:C≠X.env.locals:=λz=>by exact(h _ I2.lt).1 z.symm
   have U:VG X l4 (upd t D (.lst f)) C:=I2.fpOk (by omega) (by rw[upd_ne (bN hDC)];exact R);refine hRR D C oC m s4 t f (I5.pins_of λp B=>?_) hoC hn U l qn;rcases b6.mp B with z | z
   ·exact I5.pin p (aj _ z)
   ·rw[ah.mp z];exact⟨hoC,U.1,U.2.1,U.2.2.1,λv z=>by rw[hdC] at z;cases z⟩
  ·have d:=T.item Y YP Yw YK (by subst s;exact E) i _ s3 _ t (λ_ _=>False) pD (G fr3 ne1) st3 go;rw[YA] at d;refine dA d (λr s4 ⟨u,hr,h4⟩=>?_) λ_ _ z=>z.elim;subst hr;refine dA h4 (λ_ s5 ⟨x,H5,I5,r5,y5,st5,fr5⟩=>?_) λ_ _ z=>z.elim;have I5':=I5.pinned (G fr5 ne1) (T.obj _ _ st5);have a6:=hg _ s5 _ H5 x u _ I5' r5 (step x H5 y5);rw[YP,Yw,YA,Ye,Yx] at a6;refine dA a6 (λ_ s6 ⟨S,H6,I6,dr,q6⟩=>?_) λ_ _ z=>z.elim;have a7:=ht _ s6 S H6 _ I6 q6;rw[YP,Yw,YA,Ye,Yx] at a7;refine dA a7 (λok s7 ⟨H7,I7,q7⟩=>?_) λ_ _ z=>z.elim
   have back:∀{M:Hp}{I:aO},Inv Y ([((D,{ cls:=.type "list",data:=.seq A F }):aL×df)]++Sq k s5.heap) S M I->
     I.heap.get? D=aA { cls:=.type "list",data:=.seq A F }/\M D=none/\tn (i+1) I.heap/\(∀b∈k,M b=none):=λ{M I} Q=>by
    obtain⟨e1,e2,_⟩:=Q.pin (D,{ cls:=.type "list",data:=.seq A F }) (by simp);refine⟨e1,e2,T.keep _ _ _ st5 λb a o e=>(Q.pin (b,o) (by rw[eP];exact aT _ (VH a e))).1,λb a=>?_⟩;obtain⟨o,e,_⟩:=T.obj _ _ st5 b a;exact(Q.pin (b,o) (by rw[eP];exact aT _ (VH a e))).2.1
   have unp:∀{M:Hp}{I:aO},Inv Y ([((D,{ cls:=.type "list",data:=.seq A F }):aL×df)]++Sq k s5.heap) S M I->Inv Y [] (ZX kk ix σ) M I:=λ{M I} Q=>
    (Q.pins_of λp B=>absurd B (by simp)).weak (by
     have e1:=(I0 0).len;have e2:=Q.len;rw[e1,e2]) (IF dr)
   cases ok with
   | false=>
    obtain⟨e1,e2,e3,e4⟩:=back I7;obtain⟨m',hm,w7⟩:=hN _ _ q7;exact⟨m',hm,i+1,f,A,F,H7,unp I7,e3,e4,e1,vD,e2,w7⟩
   | true=>
    have a8:=he _ s7 S H7 _ I7 q7;rw[YP,Yw,YA,Ye,Yx] at a8;refine dA a8 (λyv I ⟨y,M,Q,ry,q8⟩=>?_) λ_ _ z=>z.elim;obtain⟨e1,e2,e3,e4⟩:=back Q;obtain⟨m',hm,w8⟩:=hN _ _ q8;refine append_at e1 (λh9 hs9 hD9=>?_) hsize;have I9:=(unp Q).turned (t':=I.toks) (λb o a e=>hs9.extBut b o a e) e2 (by rw[eL];exact hDC) (.inr (by rw[eS];omega)) O (λp B=>absurd (show p∈([]:List (aL×df)) by rw[eP] at B;exact B) (by simp));refine⟨m',hm,i+1,f++[y],A.push yv,F+1,M,I9,T.keep _ _ _ e3 λb a o e=>hs9.extBut b o (bN (dfp b a)) e,e4,hD9,?_,e2,w8⟩;rw[Array.toList_push];exact vD.append (.cons ry .nil)
 exact codeAny_compStart_list Z (T.self X.A 0 _ _ _ (T.keep _ _ _ st2 λb _ o e=>old b o e) Z)
theorem QN{M:List (aL×df)}{P:St}{A:Hp}{s2:aO}{Y:List aL}{it:aL}{tn:Nat->bp->Prop}{J:It}{Fin:List V->Hp->Prop}{RR:aI->aL->lG->aO->Prop}{E:aI->aO->Prop}
  (l:X.calm=aC) (S:CompScope X.N X.env.scope scope own fr ix)
  (hg:∀cl C s H ex,PG (ZM X (own++fr) scope cl C s H ex) tg g) (ht:∀cl C s H ex,L4 (ZM X (own++fr) scope cl C s H ex) l8 tt) (he:∀cl C s H ex,PE (ZM X (own++fr) scope cl C s H ex) l9 te)
  (O:Inv X M P A s2) (T:Ni X.prog X.w X.K tg J Y it tn) (F:tn 0 s2.heap) (f2:∀b∈Y,VG X M A b)
  {W:Nat->Nat->List V->Hp->Prop} {m0:Nat} (w0:W 0 m0 [] A)
  (Uc:∀i m ys H,W i m ys H->ys.length<=sizeLine/\
   ((J.stop i H/\Fin ys H)\/
    (J.go i H/\∃N:List V->Hp->Prop,(∀ys' H',N ys' H'->∃m',m'<m/\W (i+1) m' ys' H')/\
     ∀x H',J.yld i H x H'->g x (ZX own.length ix P) H' λt A=>t.drop own.length=(ZX own.length ix P).drop own.length/\tt t A λb H3=>if b=aC then te t H3 λy H4=>N (ys++[y]) H4 else N ys H3)))
  (R:∀(D C:aL)(oC:df)(m:aq->Option aI)(s':aO)(H':Hp)(ys:List V),Inv X (M++[(C,oC)]) P (upd H' D (.lst ys)) s'->s'.heap.get? C=aA oC->s'.heap.Ns C m->VG X M (upd H' D (.lst ys)) C->H' D=none->Fin ys H'->RR (.ref D) C (.ok .next) s') :
  bJ (model X.prog X.w) X.A (newList []) (λI B=>bJ (model X.prog X.w) X.A (iA scope X.env.globals (X1 X.env.cells scope.names []) [] X.env.qual none .none (aA X.env)) (λk u=>
   ij (model X.prog X.w) X.A (.compStart (.ListComp l9 [⟨tg,iter,l8,0⟩] scope pos) 0 (.ref it) I { k with scope:=relabel scope X.env }) (RR I k.locals) u) E B) E s2:=by
 have L:∀b∈Y,b<s2.heap.objs.size:=λb Q=>by obtain⟨o,e,_⟩:=T.obj 0 s2.heap F b Q;exact aW e
 refine dZ (wpAny_newFunctionEnv S.nocell (by simp) (λh₁ d a=>?_) S.kind);generalize p:s2.heap.push { cls:=.type "list",dict:=none,data:=.seq ([]:List aI).toArray }=G2 at d a ⊢;have U:G2.objs.size=s2.heap.objs.size+1:=by rw[<-p,cG]
 generalize hCC:G2.objs.size=C at d a U ⊢;generalize n:s2.heap.objs.size=D at U ⊢;have Z:D≠C:=by omega
 have f:∀b,b<s2.heap.objs.size->b≠C/\b≠D:=λb Q=>by rw[n] at Q;exact⟨bC (by omega),bC Q⟩
 have G:=λb o e=>a.extBut b o (f b (aW e)).1 (aH _ (p▸aH _ e))
 have w:h₁.get? D=aA { cls:=.type "list",data:=.seq ([]:List aI).toArray 0 }:=by
  have e0:G2.get? D=aA { cls:=.type "list",data:=.seq ([]:List aI).toArray 0 }:=by rw[<-p,<-n];exact ag _ rfl
  exact a.extBut _ _ Z (aH _ e0)
 have j:h₁.Ns C λ_=>none:=by simpa using d
 have I0:=λtk=>Gw (tk:=tk) S O f2 L (by omega) j G;refine OL (s2:=s2) (h₁:=h₁) (fv:=λ_=>aB) (N:=own++fr) (C:=C) (D:=D) (cl:=X1 X.env.cells scope.names []) l (hg _ _ _ _ _) (ht _ _ _ _ _) (he _ _ _ _ _) O T F f2 w0 Uc R L U n G w I0 λx c e z=>?_;obtain⟨v,q⟩:=O.cell x c (Vq scope.names [] (S.clos O) (λh=>by simp at h) e);exact(f c q.lt).2 z
theorem E5(c:X.calm=aC)(k:PI X tg iter wi)(S:CompScope X.N X.env.scope scope own fr ix)
  (F:∀cl C s H ex,PG (ZM X (own++fr) scope cl C s H ex) tg g) (j:∀cl C s H ex,L4 (ZM X (own++fr) scope cl C s H ex) l8 tt) (n:∀cl C s H ex,PE (ZM X (own++fr) scope cl C s H ex) l9 te)
  (u:∀x,bj iter X.env x=pure x:=by intro _;rfl):PE X (.ListComp l9 [⟨tg,iter,l8,0⟩] scope pos) (QM own.length ix wi g tt te):=by
 intro w s B H Q I h;refine f7 rfl u (Vc (S.clos I)) S.kind S.names (YW (k w s B H _ I h) λv s1 z=>YW z λM s2 y=>?_);obtain⟨it,Y,O,J,Z,e,A,T,f,f2,W,⟨R,q⟩,Uc⟩:=y;subst e;refine QN c S F j n A T f f2 q Uc ?_;intro D C P m U p L G E l a t i;refine⟨m,l,λh' d=>⟨.ref D,upd p D (.lst L),?_,rfl,i D t⟩⟩;exact(G.unpinned).turned (λb o N e=>d.extBut b o N e) a.1 a.2.1 a.2.2.2.1 a.2.2.2.2.1 a.2.2.2.2.2
theorem E6{i:Nat}{y:aq}{w d:fS}(hN:X.N.Nodup)(B:X.N[i]?=aA y)(c:X.env.scope.names.lookup y=aA .local)(f:X.calm=aC)(E:PI X tg iter wi)(S:CompScope X.N X.env.scope scope own fr ix)
  (hg:∀cl C s H ex,PG (ZM X (own++fr) scope cl C s H ex) tg g) (A:∀cl C s H ex,L4 (ZM X (own++fr) scope cl C s H ex) l8 tt) (G:∀cl C s H ex,PE (ZM X (own++fr) scope cl C s H ex) l9 te)
  (p:gy (.ListComp l9 [⟨tg,iter,l8,0⟩] scope pos) (aA (.Name y w)) d.line X.env=pure aC:=by rfl)
  (Q:∀x,bj iter X.env x=pure x:=by intro _;rfl):PS X (.Assign [.Name y w] (.ListComp l9 [⟨tg,iter,l8,0⟩] scope pos) d) (LR (QM own.length ix wi g tt te) (TQ i)):=by
 intro R s σ H D0 I h;rw[exec_Assign_Name_used _ _ _ _ p];refine aN (j8 (aN ?_))
 refine aN (dA (f7 rfl Q (Vc (S.clos I)) S.kind S.names
  (YW (E R s σ H _ I h) λv s1 Y=>YW Y λitv s2 U=>?_)) (λ_ P Z=>ak (ak Z)) λ_ _ e=>e)
 obtain⟨it,fp,tn,J,H2,e,I2,T,l,f2,W,⟨m0,M⟩,Uc⟩:=U;subst e;refine QN f S hg A G I2 T l f2 M Uc ?_;intro D C t m P L ys I5 n F a N q;refine wpAny_assign_Name (QG I5 hN B (.inl c) (v:=.ref D) rfl (λs6 u=>?_) (.inr c));obtain⟨e6,_⟩:=u.pin (C,t) (aj _ (aj _ aa));obtain⟨o',O,ep,j,z⟩:=F;rw[n] at j;cases j;refine⟨m,⟨t,O,ep,e6,z⟩,λh' k=>⟨_,upd L D (.lst ys),?_,q D N⟩⟩;exact(u.unpinned).turned (λb o hb e=>k.extBut b o hb e) a.1 a.2.1 a.2.2.2.1 a.2.2.2.2.1 a.2.2.2.2.2
end
open AutoSeq1 (wpAny_loadPart')
section
variable {prog:b9} {w:cW} {A:cL} {E:aI->aO->Prop} {s:aO}
theorem TR{b l:aL}{i:Nat}{items}{x:aI}{Q:aI->aO->Prop}(a:s.heap.IsTupleIter b l i)
  (j:s.heap.IsTuple l items) (h:items[i]?=aA x)
  (g:∀h',h'.IsTupleIter b l (i+1)->cj b s.heap h'->Q x { s with heap:=h' }) :
  bJ (model prog w) A (iJ (.ref b)) Q E s:=by
 obtain⟨o,d,k,c⟩:=id a;obtain⟨m,e,_,n,f⟩:=j
 refine aN (dY a.typeIs F.slot_tuple_iterator_next
  (fU F.slot_tuple_iterator_next a.typeIs F.entry_tuple_iterator_next ?_ (F.args_tuple_iterator_next_1 _)))
 show bJ _ _ (field (.ref b) 0 >>= _) _ _ s;refine aN (cY d c rfl ?_);refine aN (cY d c rfl ?_);refine aN (dz e f ?_);simp only[cK,h];refine aN (wpAny_setField d c (by simp) (ak ⟨x,rfl,ak (g _ ?_ (j4 ..))⟩));exact⟨_,jJ _ d (df.isFreed_of_fields (jh c _)),(df.cls_mapFields ..).trans k,by rw[jh c];simp[jL]⟩
theorem Su{b l:aL}{i:Nat}{items}{Q:aI->aO->Prop}(h:A.handled=none)
  (a:s.heap.IsTupleIter b l i) (n:s.heap.IsTuple l items) (j:items[i]?=none)
  (k:∀h' e,kX b s.heap h'->(∃o,h'.get? e=aA o/\o.cls = .type "StopIteration")->E (.ref e) { s with heap:=h' }) :
  bJ (model prog w) A (iJ (.ref b)) Q E s:=by
 obtain⟨o,d,t,f⟩:=id a;obtain⟨p,c,_,q,g⟩:=n
 refine aN (dY a.typeIs F.slot_tuple_iterator_next
  (fU F.slot_tuple_iterator_next a.typeIs F.entry_tuple_iterator_next ?_ (F.args_tuple_iterator_next_1 _)))
 show bJ _ _ (field (.ref b) 0 >>= _) _ _ s;refine aN (cY d f rfl ?_);refine aN (cY d f rfl ?_);refine aN (dz c g ?_);simp only[cK,j];refine aN (kj (aN (wpAny_setField d f (by simp) ?_)));refine aN ?_;refine aN (m:=firstArgMember _ _) (wpAny_of_eq rfl ?_);refine dZ ?_ (by size_fits);refine aN (wpAny_handled ?_)
 first | rw[h] | rw[h]
 refine aN (ak (wpAny_throw ?_));exact k _ _ (((j4 ..).extBut.push _).push _) ⟨_,ag _ rfl,rfl⟩
end
noncomputable def SeqB(b:Bool)(h:bp)(a:aL)(lK:Array aI):Prop:=if b=aC then h.IsList a lK else h.IsTuple a lK
noncomputable def IterB(b:Bool)(h:bp)(it a:aL)(i:Nat):Prop:=if b=aC then h.IsListIter it a i else h.IsTupleIter it a i
noncomputable def RO(b:Bool)(K:aE)(H:Hp)(a:aL)(xs:List V):Prop:=if b=aC then SqL K H a xs else SqT K H a xs
noncomputable def Ue(b:Bool)(a:aL):df:={ cls:=.type (if b=aC then "list_iterator" else "tuple_iterator"),data:=.fields #[.ref a,.int 0 0] }
theorem SeqB.at{b:Bool}{h c:bp}{a:aL}{d:Array aI}(x:SeqB b h a d)(k:∀o,h.get? a=aA o->c.get? a=aA o):SeqB b c a d:=by
 cases b with
 | true=>obtain⟨o,e,r⟩:=(x);exact⟨o,k o e,r⟩
 | false=>obtain⟨o,e,r⟩:=(x);exact⟨o,k o e,r⟩
theorem SeqB.has{b:Bool}{h:bp}{a:aL}{c:Array aI}(x:SeqB b h a c):∃o,h.get? a=aA o:=by
 cases b with
 | true=>obtain⟨o,e,r⟩:=(x);exact⟨o,e⟩
 | false=>obtain⟨o,e,r⟩:=(x);exact⟨o,e⟩
theorem IterB.at{b:Bool}{h d:bp}{c a:aL}{i:Nat}(x:IterB b h c a i)(k:∀o,h.get? c=aA o->d.get? c=aA o):IterB b d c a i:=by
 cases b with
 | true=>obtain⟨o,e,r⟩:=(x);exact⟨o,k o e,r⟩
 | false=>obtain⟨o,e,r⟩:=(x);exact⟨o,k o e,r⟩
theorem IterB.has{b:Bool}{h:bp}{c a:aL}{i:Nat}(x:IterB b h c a i):∃o,h.get? c=aA o/\∀v,o.data≠.cell v:=by
 cases b with
 | true=>obtain⟨o,e,_,d⟩:=(x);exact⟨o,e,λv z=>by rw[d] at z;cases z⟩
 | false=>obtain⟨o,e,_,d⟩:=(x);exact⟨o,e,λv z=>by rw[d] at z;cases z⟩
theorem IterB.new{b:Bool}{h:bp}{c a:aL}(e:h.get? c=aA (Ue b a)):IterB b h c a 0:=by
 cases b with
 | true=>exact⟨_,e,rfl,rfl⟩
 | false=>exact⟨_,e,rfl,rfl⟩
section
variable {X:Cx} {l4:List (aL×df)} {σ:St} {H:Hp} {s:aO} {a:aL} {xs ys:List V} {b:Bool}
theorem Inv.seqB(I:Inv X l4 σ H s)(h:RO b X.K H a xs):∃c:List aI,Vals xs c/\SeqB b s.heap a c.toArray/\xs.length<=sizeLine:=by
 cases b with
 | true=>
  obtain⟨c,r,p,z⟩:=I.list (h);exact⟨c,r,p.isList,z⟩
 | false=>
  obtain⟨c,r,p,z⟩:=I.tuple (h);exact⟨c,r,p,z⟩
theorem Inv.seqB_inj(I:Inv X l4 σ H s)(h:RO b X.K H a xs)(c:RO b X.K H a ys):xs=ys:=by
 cases b with
 | true=>exact I.list_inj (h) (c)
 | false=>exact I.tuple_inj (h) (c)
end
theorem Draws.seq{prog:b9}{w:cW}{A:cL}(b:Bool)(n:A.handled=none)(g l:aL)(f:l≠g)(a:Array aI) :
  Draws prog w A g [g,l] a.size (λi v=>a[i]?=aA v) (λi h=>IterB b h g l i/\SeqB b h l a) where
 live:=λ_ _ st=>let⟨o,t,_⟩:=st.1.has;⟨o,t⟩
 frame:=λ_ _ _ st m=>⟨st.1.at λo e=>m g (by simp) o e,st.2.at λo e=>m l (by simp) o e⟩
 item:=λi s Q E j st p=>by
  cases b with
  | true=>
   refine wpAny_nextOf_list_item (st.1) (st.2) (x:=a[i]) (by simp[j]) λk c d=>?_;exact p _ k s.toks (by simp[j]) ⟨c,st.2.at λo e=>d.extBut l o f e⟩ d
  | false=>
   refine TR (st.1) (st.2) (x:=a[i]) (by simp[j]) λk c d=>?_;exact p _ k s.toks (by simp[j]) ⟨c,st.2.at λo e=>d.extBut l o f e⟩ d
 done:=λs Q E st q=>by
  cases b with
  | true=>exact wpAny_nextOf_list_end n (st.1) (st.2) (by simp) q
  | false=>exact Su n (st.1) (st.2) (by simp) q
theorem Yj{prog:b9}{w:cW}{A:cL}{E:aI->aO->Prop}{s:aO}{b:Bool}{a:aL}{d:Array aI}{Q:aI->aO->Prop}(h:SeqB b s.heap a d)
  (c:Q (.ref s.heap.objs.size) { s with heap:=s.heap.push (Ue b a) }):bJ (model prog w) A (pyIter (.ref a)) Q E s:=by
 cases b with
 | true=>exact wpAny_pyIter_list (h) c
 | false=>exact jb (h) c
set_option maxHeartbeats 4000000 in
theorem QO(b:Bool)(l:aL)(a:Array aI) :
  Meets (j2.«enumerate.__new__» ⟨[.type "enumerate",.ref l],[]⟩) (λ_ R s=>SeqB b s.heap l a/\
   R (.ok (.ret (.ref (s.heap.push (Ue b l)).objs.size)))
    { s with heap:=(s.heap.push (Ue b l)).push { cls:=.type "enumerate",data:=.fields #[.none,.bool aB,.ref s.heap.objs.size,jL 0,.none,.none] } }):=
 .of_wp λprog w A R s h=>by
  obtain⟨k,g,d,tk,os⟩:=s;obtain⟨i,h⟩:=h;have j:=sub_enumerate;obtain⟨o,e⟩:=i.has;have f:SeqB b (lI ⟨k,g,d,tk,os⟩) l a:=i
  wp_walk using gm e
  refine wpAny_stack_any λst=>ak ?_;split
  ·rename_i c _ _ _ _ _;cases (c==kc "enumerate")
   ·wp_walk using gm e,Yj f
    exact⟨_,rfl,h⟩
   ·wp_walk using gm e,Yj f
    exact⟨_,rfl,h⟩
  ·wp_walk using gm e,Yj f
   exact⟨_,rfl,h⟩
section
variable {prog:b9} {w:cW} {A:cL} {E:aI->aO->Prop} {s:aO}
theorem Oi{b:Bool}{l:aL}{a:Array aI}{Q:aI->aO->Prop}(f:SeqB b s.heap l a)
  (h:∀h',IsEnum h' (s.heap.objs.size+1) s.heap.objs.size 0 .none->IterB b h' s.heap.objs.size l 0->h'.objs.size=s.heap.objs.size+2->
   (∀b o,s.heap.get? b=aA o->h'.get? b=aA o)->Q (.ref (s.heap.objs.size+1)) { s with heap:=h' }) :
  bJ (model prog w) A (call (.type "enumerate") [.ref l]) Q E s:=by
 refine callType_new F.called_enumerate rfl (F.typeCall_enumerate_1 _) (F.newCall_enumerate_1 _) (λc=>F.args_object_init_2 c _) F.entry_enumerate_new
  (QO b l a) ⟨f,?_⟩
 have d:(s.heap.push (Ue b l)).objs.size=s.heap.objs.size+1:=cG ..;rw[d]
 have e:IsEnum ((s.heap.push (Ue b l)).push
   { cls:=.type "enumerate",data:=.fields #[.none,.bool aB,.ref s.heap.objs.size,jL 0,.none,.none] }) (s.heap.objs.size+1) s.heap.objs.size 0 .none:=by
  have:=ag (s.heap.push (Ue b l))
   (o:={ cls:=.type "enumerate",data:=.fields #[.none,.bool aB,.ref s.heap.objs.size,jL 0,.none,.none] }) rfl
  rw[d] at this;exact this
 refine⟨⟨_,e,rfl⟩,h _ e (IterB.new (aH _ (ag _ rfl))) (by simp) λb o x=>aH _ (aH _ x)⟩
end
noncomputable def Ite(b:Bool)(K:aE)(a:aL):It:=
  ⟨λi H=>∃xs x,RO b K H a xs/\xs[i]?=aA x,
   λi H v H'=>∃p x,H p=none/\v = .ref p/\H'=upd H p (.tup [.int i,x])/\∀xs,RO b K H a xs->xs[i]?=aA x,
   λi H=>∃xs,RO b K H a xs/\xs.length=i⟩
theorem IG{P:b9}{w:cW}{K:aE}{Y:List az}{k:Nat}{pos:fS}(b:Bool)(a e t:aL)(L:e≠t) :
  Ni P w K (.Tuple Y k pos) (Ite b K a) [e,t] e (λi h=>(∃C,IsEnum h e t i C)/\IterB b h t a i) where
 mem:=by simp
 obj:=λi h st c O=>by
  rcases af.mp O with rfl | O
  ·obtain⟨⟨C,q⟩,_⟩:=st;exact⟨_,q,λv z=>by cases z⟩
  ·rw[ah.mp O];exact st.2.has
 keep:=λi h h' st kk=>⟨let⟨C,q⟩:=st.1;⟨C,kk e (by simp) _ q⟩,st.2.at λo q=>kk t (by simp) o q⟩
 item:=by
  intro X hP hw hK O i l4 s σ H E I M st hg;subst hP hw hK;obtain⟨xs,x,hq,hx⟩:=hg;obtain⟨T,rv,p,hz⟩:=I.seqB hq;obtain⟨u,hu,ru⟩:=rv.get hx;obtain⟨⟨C,J⟩,l⟩:=st;have fe:=M e (by simp);have fi:=M t (by simp);obtain⟨oa,N⟩:=p.has
  -- the sequence is neither record
  have j:∀c,VG X l4 H c->(∃oc,s.heap.get? c=aA oc/\∃n vs,oc.cls = .type n/\oc.data = .fields vs)->a≠c:=λc _ ⟨oc,hoc,n,vs,hn,hv⟩ z=>by
   subst z;rw[N] at hoc;cases hoc
   cases b with
   | true=>obtain⟨o,G,_,m,d⟩:=(p);rw[N] at G;cases G;rw[hv] at d;cases d
   | false=>obtain⟨o,G,_,m,d⟩:=(p);rw[N] at G;cases G;rw[hv] at d;cases d
  have ae:=j e fe ⟨_,J,_,_,rfl,rfl⟩
  have ai:=j t fi (by
   cases b with
   | true=>obtain⟨o,G,c1,d1⟩:=(l);exact⟨o,G,_,_,c1,d1⟩
   | false=>obtain⟨o,G,c1,d1⟩:=(l);exact⟨o,G,_,_,c1,d1⟩)
  have D:=Draws.seq (prog:=X.prog) (w:=X.w) (A:=X.A.in1) b (I.ok.hd O) t a ai T.toArray;have hlt:i<T.toArray.size:=by have:=(aQ.mp hu).1;simpa using this
  refine wpAny_pyNext_enum_itemD D J ⟨l,p⟩ hlt L (by simp[L,bN ae]) λy h' tk hPy ho hs' hT hsz hk=>?_
  have ey:y=u:=by
   have q1:=hPy;have q2:T.toArray[i]?=aA u:=by simpa using hu
   rw[q1] at q2;exact aw q2
  subst ey;refine⟨_,rfl,wpAny_letOwnedTupleGo_enum ho λU he2 S=>?_⟩;have Tne:=fT (aW J);have F:=I.hok.fresh (aJ _);have kk:∀c o,c∉[e,t]->s.heap.get? c=aA o->U.get? c=aA o:=λc o g q=>S.extBut c o (λz=>g (by simp[z])) (hk c o (λz=>g (by simp[z])) (λz=>g (by simp[z])) q);have hT2:=S.extBut _ _ Tne hT;have hcs:∀c∈[e,t],(c∈X.ex\/X.s₀.heap.objs.size<=c)/\c≠X.env.locals/\(∀x d,X.env.cells.lookup x=aA d->d≠c)/\∀p∈X.pn++l4,p.1≠c:=λc g=>by have f:=M c g;exact⟨f.2.2.2.1,f.2.1,f.2.2.2.2.1,f.2.2.2.2.2⟩
  have nfp:∀c R,H c=aA R->c∉[e,t]:=λc R q g=>by rw[(M c g).1] at q;cases q
  have W:=λc R q=>(I.hok c R q).stay (λd v hd q'=>kk d v (by
    rcases hd with z | z
    ·rw[z];exact nfp c R q
    ·exact nfp d _ z) q') (λ_ z=>z) (λ_ _ z=>z) λ_ _ z=>z
  have new:ObjOk X.prog X.w (upd H s.heap.objs.size (.tup [.int i,x])) U s.heap.objs.size (.tup [.int i,x]):=
   ⟨⟨by show 2<=sizeLine;decide,λo e=>by rw[hT2] at e;cases e;rfl⟩,[.int i tk,y],.cons ⟨tk,rfl⟩ (.cons ru .nil),⟨_,hT2,rfl,_,rfl⟩⟩
  have hok1:HOk X.prog X.w (upd H s.heap.objs.size (.tup [.int i,x])) U:=λc R q=>by
   by_cases hb:c=s.heap.objs.size
   ·subst hb;rw[Zx] at q;cases q;exact new
   ·rw[upd_ne hb] at q;exact(W c R q).stay (λd v _ q'=>q') (λd z=>by rw[upd_ne (Zy z F)];exact z) (λd zs z=>by rw[upd_ne (Zy z F)];exact z) λd u z=>by rw[upd_ne (Zy z F)];exact z
  have un:Un (LP X.stack) [e,t] H (upd H s.heap.objs.size (.tup [.int i,x])) s.heap U:=by
   refine⟨λc o q _ _ B=>kk c o B q,λc o q _ _ B=>⟨o.slots,kk c o B q⟩,λc o q n _=>?_,λc o q B=>⟨o,kk c o B q⟩,λc zs q=>?_,λc o zs q=>?_,λc ps q=>⟨#[],?_⟩⟩
   ·rw[upd_ne (bC (aW q))];exact n
   ·rw[upd_ne (Zy q F)];exact q
   ·rw[upd_ne (Zy q F)];exact q
   ·rw[upd_ne (Zy q F),q];simp
  have I2:Inv X l4 σ (upd H s.heap.objs.size (.tup [.int i,x])) { s with heap:=U,toks:=tk+1 }:=I.call un hok1 I.bare hcs;refine⟨.ref s.heap.objs.size,upd H s.heap.objs.size (.tup [.int i,x]),I2,rfl,⟨_,x,F,rfl,rfl,λzs hzs=>by rw[I.seqB_inj hzs hq];exact hx⟩,⟨⟨y,by simpa using he2⟩,?_⟩,λc g=>?_⟩
  ·exact hs'.1.at λo q=>S.extBut t o (bN L) q
  ·rw[upd_ne (bC (by
    rcases af.mp g with rfl | g
    ·exact aW J
    ·rw[ah.mp g];obtain⟨o,q,_⟩:=l.has;exact aW q))]
   exact(M c g).1
 done:=by
  intro X hP hw hK O i l4 s σ H E I M st hg;subst hP hw hK;obtain⟨xs,hq,hx⟩:=hg;obtain⟨T,rv,p,hz⟩:=I.seqB hq;obtain⟨⟨C,J⟩,l⟩:=st;have fi:=M t (by simp)
  have ai:a≠t:=λz=>by
   subst z
   cases b with
   | true=>
    obtain⟨o,G,_,m,d⟩:=(p);obtain⟨o',e2,_,Z⟩:=(l);rw[G] at e2;cases e2;rw[d] at Z;cases Z
   | false=>
    obtain⟨o,G,_,m,d⟩:=(p);obtain⟨o',e2,_,Z⟩:=(l);rw[G] at e2;cases e2;rw[d] at Z;cases Z
  have D:=Draws.seq (prog:=X.prog) (w:=X.w) (A:=X.A.in1) b (I.ok.hd O) t a ai T.toArray;have hl:=rv.length;have hi:i=T.toArray.size:=by simp;omega
  refine wpAny_pyNext_enum_endD D J (by rw[<-hi];exact⟨l,p⟩) λh' B=>⟨rfl,?_⟩;obtain⟨f0,f1,f2,f3,f4,f5⟩:=fi;exact I.turned (λc o hb q=>B c o hb q) f0 f1 f3 f4 f5
 self:=λA i s Q E st hQ=>by obtain⟨⟨C,J⟩,_⟩:=st;exact wpAny_pyIter_enum J hQ
end L2
namespace L2
open PySem PySem.Spec PyProof.Rows
section
variable {X:Cx}
noncomputable def Za9(b:Bool)(K:aE)(ta:TA):TI:=λσ H R=>ta σ H λvs H1=>∃a,vs=[.ref a]/\(∃xs,RO b K H1 a xs)/\R (Ite b K a) H1
theorem E7{i:List az}{k:Nat}{f:fS}(b:Bool){a:az}{m:TA}{p pos:fS}(D:Gl X "enumerate")(E:X.mg "enumerate" = none)(u:PA X [a] m)(w:aX [a] X.env=[(aB,eval a X.env)]:=by rfl) :
  PI X (.Tuple i k f) (.Call (.Name "enumerate" p) [a] [] pos) (Za9 b X.K m):=by
 intro x s B H R I h;refine Call_ (Tf I D E rfl (cx (YW (u pos x s B H _ I h) λG s1 ⟨vs,v,d,C,t⟩=>?_) w rfl));obtain⟨a,e,⟨N,y⟩,q⟩:=t;subst e
 cases C with
 | cons r rr=>
  cases rr;cases r;obtain⟨M,F,g,J⟩:=d.seqB y;refine Oi g λL n l o z=>?_;refine wpAny_pyIter_enum n ?_;have A:=d.kept (t':=s1.toks) z;have ne:s1.heap.objs.size+1≠s1.heap.objs.size:=fT (gZ _);refine⟨s1.heap.objs.size+1,[s1.heap.objs.size+1,s1.heap.objs.size],_,_,v,rfl,A,IG b a (s1.heap.objs.size+1) s1.heap.objs.size ne,⟨⟨.none,n⟩,l⟩,λc j=>?_,q⟩;rcases af.mp j with rfl | j
  ·exact d.fpOk (jR _) (d.hok.fresh (jR _))
  ·rw[ah.mp j];exact d.fpOk (aJ _) (d.hok.fresh (aJ _))
end
section
variable {prog:b9} {w:cW} {A:cL} {E:aI->aO->Prop} {s:aO}
structure OM(z TI TO i1 i2:aL)(fp1 fp2:List aL):Prop where
 TIz:TI≠z
 TOz:TO≠z
 i1z:i1≠z
 i2z:i2≠z
 TITO:TI≠TO
 TIi1:TI≠i1
 TIi2:TI≠i2
 TOi1:TO≠i1
 TOi2:TO≠i2
 i12:i1≠i2
 z1:z∉fp1
 TO1:TO∉fp1
 i21:i2∉fp1
 z2:z∉fp2
 TO2:TO∉fp2
 i12':i1∉fp2
theorem Gx{z TI TO i1 i2:aL}{fp1 fp2:List aL}{n1 n2 k:Nat}{P1 P2:Nat->aI->Prop}{X T:Nat->bp->Prop}{a b:aI}{Q:aI->aO->Prop}(D:OM z TI TO i1 i2 fp1 fp2)
  (D1:Draws prog w A i1 fp1 n1 P1 X) (D2:Draws prog w A i2 fp2 n2 P2 T)
  (hz:jF s.heap z TI TO .none) (hTI:fN s.heap TI (.ref i1) (.ref i2)) (hTO:fN s.heap TO a b)
  (h1:X k s.heap) (h2:T k s.heap) (hx:k<n1) (hy:k<n2)
  (hQ:∀x y h' tk,P1 k x->P2 k y->jF h' z TI TO (jL s.heap.objs.size)->fN h' TO x y->X (k+1) h'->T (k+1) h'->fN h' s.heap.objs.size x y->h'.objs.size=s.heap.objs.size+1->
   (∀c o,c≠z->c≠TO->c≠i1->c≠i2->s.heap.get? c=aA o->h'.get? c=aA o)->Q (.ref s.heap.objs.size) { s with heap:=h',toks:=tk }) :
  bJ (model prog w) A (j2.«zip.__next__» ⟨[.ref z],[]⟩) (λfin s'=>∃v,fin = .done (.ret v)/\Q v s') E s:=by
 show bJ _ _ (field (.ref z) 2 >>= _) _ _ _;refine aN (cY hz rfl rfl ?_);refine aN (cY hz rfl rfl ?_);refine aN (dz hTI rfl ?_);refine aN ?_;refine aN (cY hz rfl rfl (ak ?_));refine aN (kj ?_);refine aN (cY hz rfl rfl ?_);refine aN (eD hz (by simp) λh₁ u l=>?_)
 replace u:jF h₁ z TI TO .ellipsis:=u
 refine aN ?_;refine aN (aN (iS ?_));have st1:=D1.frame _ _ _ h1 λc C o e=>l.extBut c o (λq=>D.z1 (q▸C)) e;refine aN (D1.item k _ _ _ hx st1 λx O tk₂ hPx Z d=>ak ?_)
 replace d:cj i1 h₁ O:=d
 have F:=d.extBut _ _ D.TOi1 (l.extBut _ _ D.TOz hTO);refine aN (dz F rfl ?_);refine aN (gg F λJ n g=>?_)
 replace n:fN J TO x b:=n
 replace g:cj TO O J:=g
 refine aN (kY (ak ?_));refine aN (aN (iS ?_));have st2:=D2.frame _ _ _ h2 λc C o e=>g.extBut c o (λq=>D.TO2 (q▸C)) (d.extBut c o (λq=>D.i12' (q▸C)) (l.extBut c o (λq=>D.z2 (q▸C)) e));refine aN (D2.item k _ _ _ hy st2 λy N P hPy W f=>ak ?_)
 replace f:cj i2 J N:=f
 have G:=f.extBut _ _ D.TOi2 n;refine aN (dz G rfl ?_);refine aN (gg G λi j h=>?_)
 replace j:fN i TO x y:=j
 replace h:cj TO N i:=h
 refine aN (kY (ak (ak ?_)));refine aN (dz j rfl ?_);refine aN (wpAny_newTuple ?_);have hsz:i.objs.size=s.heap.objs.size:=by rw[h.1,f.1,g.1,d.1,l.1]
 have L:=h.extBut _ _ D.TOz.symm (f.extBut _ _ D.i2z.symm (g.extBut _ _ D.TOz.symm (d.extBut _ _ D.i1z.symm u)))
 have S:∀c o,c≠z->c≠TO->c≠i1->c≠i2->s.heap.get? c=aA o->i.get? c=aA o:=λc o c1 c2 c3 c4 e=>
  h.extBut _ _ c2 (f.extBut _ _ c4 (g.extBut _ _ c2 (d.extBut _ _ c3 (l.extBut _ _ c1 e))))
 have U:=D1.frame _ _ _ Z λc C o e=>h.extBut c o (λq=>D.TO1 (q▸C)) (f.extBut c o (λq=>D.i21 (q▸C)) (g.extBut c o (λq=>D.TO1 (q▸C)) e));have Y:=D2.frame _ _ _ W λc C o e=>h.extBut c o (λq=>D.TO2 (q▸C)) e;have M:=aW L;refine aN ?_;have R:jF (i.push { cls:=.type "tuple",data:=.seq #[x,y] }) z TI TO .ellipsis:=aH _ L;refine aN (eD R (by simp) λh₇ t B=>?_)
 replace t:jF h₇ z TI TO (jL i.objs.size):=t
 refine eD t (by simp) λH m p=>?_
 replace m:jF H z TI TO (jL i.objs.size):=m
 have up:∀c o,c≠z->i.get? c=aA o->H.get? c=aA o:=λc o c1 e=>p.extBut _ _ c1 (B.extBut _ _ c1 (aH _ e));have I:=p.extBut _ _ (fT M) (B.extBut _ _ (fT M) (ag _ rfl));have hz8:H.objs.size=i.objs.size+1:=by rw[p.1,B.1,cG]
 rw[hsz] at m I hz8;refine ak ⟨_,rfl,?_⟩;rw[hsz];exact hQ x y H P hPx hPy m (up _ _ D.TOz j) (D1.frame _ _ _ U λc C o e=>up c o (λq=>D.z1 (q▸C)) e) (D2.frame _ _ _ Y λc C o e=>up c o (λq=>D.z2 (q▸C)) e) I hz8 λc o c1 c2 c3 c4 e=>up c o c1 (S c o c1 c2 c3 c4 e)
theorem E8{z TI TO G J:aL}{O P:List aL}{Z n2 k:Nat}{P1 P2:Nat->aI->Prop}{R I:Nat->bp->Prop}{a b:aI}{Q:PySem.Fin->aO->Prop}(D:OM z TI TO G J O P)
  (D1:Draws prog w A G O Z P1 R) (D2:Draws prog w A J P n2 P2 I)
  (M:jF s.heap z TI TO .none) (Y:fN s.heap TI (.ref G) (.ref J)) (X:fN s.heap TO a b)
  (h1:R k s.heap) (h2:I k s.heap) (H:k=Z\/(k<Z/\k=n2))
  (hE:∀h' tk e,(∀c o,c≠z->c≠TO->c≠G->c≠J->s.heap.get? c=aA o->h'.get? c=aA o)->(∃o,h'.get? e=aA o/\o.cls = .type "StopIteration")->E (.ref e) { s with heap:=h',toks:=tk }) :
  bJ (model prog w) A (j2.«zip.__next__» ⟨[.ref z],[]⟩) Q E s:=by
 show bJ _ _ (field (.ref z) 2 >>= _) _ _ _;refine aN (cY M rfl rfl ?_);refine aN (cY M rfl rfl ?_);refine aN (dz Y rfl ?_);refine aN ?_;refine aN (cY M rfl rfl (ak ?_));refine aN (kj ?_);refine aN (cY M rfl rfl ?_);refine aN (eD M (by simp) λh₁ h g=>?_)
 replace h:jF h₁ z TI TO .ellipsis:=h
 replace g:cj z s.heap h₁:=g
 refine aN ?_;refine aN (aN (iS ?_));have F:=D1.frame _ _ _ h1 λc L o e=>g.extBut c o (λq=>D.z1 (q▸L)) e;rcases H with hk | ⟨hx,hk⟩
 ·rw[hk] at F;refine aN (D1.done _ _ _ F λm e d U=>?_)
  replace d:kX G h₁ m:=d
  obtain⟨T,n,t⟩:=U;have v:=d _ _ D.i1z.symm h;have C:e≠z:=λx=>by subst x;rw[v] at n;cases n;simp at t
  refine eD v (by simp) λl _ f=>?_
  replace f:cj z m l:=f
  exact hE l _ e (λc o c1 _ c3 _ x=>f.extBut _ _ c1 (d _ _ c3 (g.extBut _ _ c1 x))) ⟨T,f.extBut _ _ C n,t⟩
 ·refine aN (D1.item k _ _ _ hx F λx m tk₂ hPx W d=>ak ?_)
  replace d:cj G h₁ m:=d
  have p:=d.extBut _ _ D.TOi1 (g.extBut _ _ D.TOz X);refine aN (dz p rfl ?_);refine aN (gg p λl S f=>?_)
  replace f:cj TO m l:=f
  refine aN (kY (ak ?_));refine aN (aN (iS ?_));have N:=D2.frame _ _ _ h2 λc L o e=>f.extBut c o (λq=>D.TO2 (q▸L)) (d.extBut c o (λq=>D.i12' (q▸L)) (g.extBut c o (λq=>D.z2 (q▸L)) e));rw[hk] at N;refine aN (D2.done _ _ _ N λB e i U=>?_)
  replace i:kX J l B:=i
  obtain⟨T,n,t⟩:=U;have u:=i _ _ D.i2z.symm (f.extBut _ _ D.TOz.symm (d.extBut _ _ D.i1z.symm h));have C:e≠z:=λx=>by subst x;rw[u] at n;cases n;simp at t
  refine eD u (by simp) λy _ j=>?_
  replace j:cj z B y:=j
  exact hE y _ e (λc o c1 c2 c3 c4 x=>j.extBut _ _ c1 (i _ _ c4 (f.extBut _ _ c2 (d.extBut _ _ c3 (g.extBut _ _ c1 x))))) ⟨T,j.extBut _ _ C n,t⟩
theorem R3{z TI TO j i:aL}{g h:List aL}{q u k:Nat}{v n:Nat->aI->Prop}{f e:Nat->bp->Prop}{a b:aI}{Q:Option aI->aO->Prop}(D:OM z TI TO j i g h)
  (J:Draws prog w A.in1 j g q v f) (U:Draws prog w A.in1 i h u n e)
  (t:jF s.heap z TI TO .none) (m:fN s.heap TI (.ref j) (.ref i)) (l:fN s.heap TO a b)
  (L:f k s.heap) (I:e k s.heap) (H:k<q) (C:k<u)
  (M:∀x y d tk,v k x->n k y->jF d z TI TO (jL s.heap.objs.size)->fN d TO x y->f (k+1) d->e (k+1) d->fN d s.heap.objs.size x y->d.objs.size=s.heap.objs.size+1->
   (∀c o,c≠z->c≠TO->c≠j->c≠i->s.heap.get? c=aA o->d.get? c=aA o)->Q (aA (.ref s.heap.objs.size)) { s with heap:=d,toks:=tk }) :
  bJ (model prog w) A (lF (.ref z)) Q E s:=by
 have p:s.TypeIs (.ref z) "zip":=⟨_,t,rfl⟩
 exact aN (wpAny_attempt (dY p F.slot_zip_next
  (fU F.slot_zip_next p F.entry_zip_next
   (Gx D J U t m l L I H C λx y d tk S p2 G O N T P R B=>ak (M x y d tk S p2 G O N T P R B)) (F.args_zip_next_1 _))))
theorem QP{z TI TO l j:aL}{g h:List aL}{p v k:Nat}{M x:Nat->aI->Prop}{i f:Nat->bp->Prop}{a b:aI}{Q:Option aI->aO->Prop}(D:OM z TI TO l j g h)
  (I:Draws prog w A.in1 l g p M i) (N:Draws prog w A.in1 j h v x f)
  (u:jF s.heap z TI TO .none) (n:fN s.heap TI (.ref l) (.ref j)) (m:fN s.heap TO a b)
  (J:i k s.heap) (H:f k s.heap) (d:k=p\/(k<p/\k=v))
  (L:∀q tk,(∀c o,c≠z->c≠TO->c≠l->c≠j->s.heap.get? c=aA o->q.get? c=aA o)->Q none { s with heap:=q,toks:=tk }):bJ (model prog w) A (lF (.ref z)) Q E s:=by
 have t:s.TypeIs (.ref z) "zip":=⟨_,u,rfl⟩
 refine aN (wpAny_attempt (dY t F.slot_zip_next
  (fU F.slot_zip_next t F.entry_zip_next (E8 D I N u n m J H d λq tk e G B=>?_) (F.args_zip_next_1 _))))
 obtain⟨o,y,C⟩:=B;refine aN (wpAny_isInstance ⟨o,y,C⟩ isSubtype_stop ?_);exact ak (L _ tk G)
end
abbrev zq1(h:bp)(b1:Bool)(l1:aL):bp:=h.push (Ue b1 l1)
abbrev zq2(h:bp)(b1 b2:Bool)(l1 l2:aL):bp:=(zq1 h b1 l1).push (Ue b2 l2)
abbrev zq3(h:bp)(b1 b2:Bool)(l1 l2:aL):bp:=(zq2 h b1 b2 l1 l2).push { cls:=.type "tuple",data:=.seq #[.ref h.objs.size,.ref (zq1 h b1 l1).objs.size] }
abbrev zq4(h:bp)(b1 b2:Bool)(l1 l2:aL):bp:=(zq3 h b1 b2 l1 l2).push { cls:=.type "tuple",data:=.seq #[.none,.none] }
abbrev B2(h:bp)(b1 b2:Bool)(l1 l2:aL):bp:=(zq4 h b1 b2 l1 l2).push { cls:=.type "zip",data:=.fields #[.none,.bool aB,.bool aB,.ref (zq2 h b1 b2 l1 l2).objs.size,.ref (zq3 h b1 b2 l1 l2).objs.size] }
theorem Oj(b1 b2:Bool)(b a:aL)(m l:Array aI) :
  Meets (j2.«zip.__new__» ⟨[.type "zip",.ref b,.ref a],[]⟩) (λ_ R s=>SeqB b1 s.heap b m/\SeqB b2 s.heap a l/\
   R (.ok (.ret (.ref (zq4 s.heap b1 b2 b a).objs.size))) { s with heap:=B2 s.heap b1 b2 b a }):=
 .of_wp λprog w A R s h=>by
  obtain⟨n,g,d,tk,os⟩:=s;obtain⟨f,i,h⟩:=h;have k:=sub_zip;have j:=f;have c:SeqB b2 (lI ⟨n.push (Ue b1 b),g,d,tk,os⟩) a l:=i.at λo e=>aH _ e
  wp_walk using Yj j,Yj c
  exact⟨_,rfl,h⟩
section
variable {prog:b9} {w:cW} {A:cL} {E:aI->aO->Prop} {s:aO}
theorem Nq{b1 b2:Bool}{a b:aL}{t q:Array aI}{Q:aI->aO->Prop}(k:SeqB b1 s.heap a t)(l:SeqB b2 s.heap b q)
  (h:∀h',jF h' (s.heap.objs.size+4) (s.heap.objs.size+2) (s.heap.objs.size+3) .none->fN h' (s.heap.objs.size+2) (.ref s.heap.objs.size) (.ref (s.heap.objs.size+1))->
   fN h' (s.heap.objs.size+3) .none .none->IterB b1 h' s.heap.objs.size a 0->IterB b2 h' (s.heap.objs.size+1) b 0->h'.objs.size=s.heap.objs.size+5->
   (∀c o,s.heap.get? c=aA o->h'.get? c=aA o)->Q (.ref (s.heap.objs.size+4)) { s with heap:=h' }) :
  bJ (model prog w) A (call (.type "zip") [.ref a,.ref b]) Q E s:=by
 refine callType_new F.called_zip rfl (F.typeCall_zip_2 _ _) (F.newCall_zip_2 _ _) (λi=>F.args_object_init_3 i _ _) F.entry_zip_new
  (Oj b1 b2 a b t q) ⟨k,l,?_⟩
 have g:(zq1 s.heap b1 a).objs.size=s.heap.objs.size+1:=cG ..;have j:(zq2 s.heap b1 b2 a b).objs.size=s.heap.objs.size+2:=by rw[cG,g]
 have e:(zq3 s.heap b1 b2 a b).objs.size=s.heap.objs.size+3:=by rw[cG,j]
 have f:(zq4 s.heap b1 b2 a b).objs.size=s.heap.objs.size+4:=by rw[cG,e]
 have v:(B2 s.heap b1 b2 a b).objs.size=s.heap.objs.size+5:=by rw[cG,f]
 have d:(B2 s.heap b1 b2 a b).get? (zq4 s.heap b1 b2 a b).objs.size=aA _:=ag _ rfl;have m:(B2 s.heap b1 b2 a b).get? (zq3 s.heap b1 b2 a b).objs.size=aA _:=aH _ (ag _ rfl);have n:(B2 s.heap b1 b2 a b).get? (zq2 s.heap b1 b2 a b).objs.size=aA _:=aH _ (aH _ (ag _ rfl));have p:(B2 s.heap b1 b2 a b).get? (zq1 s.heap b1 a).objs.size=aA (Ue b2 b):=aH _ (aH _ (aH _ (ag _ rfl)));have u:(B2 s.heap b1 b2 a b).get? s.heap.objs.size=aA (Ue b1 a):=aH _ (aH _ (aH _ (aH _ (ag _ rfl))));rw[j,e,f] at d;rw[g,j] at n;rw[e] at m;rw[g] at p;rw[f]
 exact⟨⟨_,d,rfl⟩,h _ d n m (IterB.new u) (IterB.new p) v λc o x=>
  aH _ (aH _ (aH _ (aH _ (aH _ x))))⟩
end
theorem Inv.newTup{X:Cx}{y:List (aL×df)}{G:St}{H:Hp}{s:aO}{w:List aL}{k:bp}{tk n:Nat}{B:List aI}{j:List V}(I:Inv X y G H s)(D:∀b∈w,VG X y H b)
  (kk:∀c o,c∉w->s.heap.get? c=aA o->k.get? c=aA o) (E:k.get? s.heap.objs.size=aA { cls:=.type "tuple",data:=.seq B.toArray n }) (L:Vals j B) (N:j.length<=sizeLine) :
  Inv X y G (upd H s.heap.objs.size (.tup j)) { s with heap:=k,toks:=tk }:=by
 have a:=I.hok.fresh (aJ _);have C:∀c∈w,(c∈X.ex\/X.s₀.heap.objs.size<=c)/\c≠X.env.locals/\(∀x d,X.env.cells.lookup x=aA d->d≠c)/\∀p∈X.pn++y,p.1≠c:=λc h=>by have f:=D c h;exact⟨f.2.2.2.1,f.2.1,f.2.2.2.2.1,f.2.2.2.2.2⟩
 have m:∀c i,H c=aA i->c∉w:=λc i q h=>by rw[(D c h).1] at q;cases q
 have t:=λc i q=>(I.hok c i q).stay (λd v M A=>kk d v (by
   rcases M with z | z
   ·rw[z];exact m c i q
   ·exact m d _ z) A) (λ_ z=>z) (λ_ _ z=>z) λ_ _ z=>z
 have new:ObjOk X.prog X.w (upd H s.heap.objs.size (.tup j)) k s.heap.objs.size (.tup j):=
  ⟨⟨N,λo e=>by rw[E] at e;cases e;rfl⟩,B,L,⟨_,E,rfl,_,rfl⟩⟩
 have l:HOk X.prog X.w (upd H s.heap.objs.size (.tup j)) k:=λc i q=>by
  by_cases J:c=s.heap.objs.size
  ·subst J;rw[Zx] at q;cases q;exact new
  ·rw[upd_ne J] at q;exact(t c i q).stay (λd v _ A=>A) (λd z=>by rw[upd_ne (Zy z a)];exact z) (λd F z=>by rw[upd_ne (Zy z a)];exact z) λd u z=>by rw[upd_ne (Zy z a)];exact z
 have un:Un (LP X.stack) w H (upd H s.heap.objs.size (.tup j)) s.heap k:=by
  refine⟨λc o q _ _ g=>kk c o g q,λc o q _ _ g=>⟨o.slots,kk c o g q⟩,λc o q n _=>?_,λc o q g=>⟨o,kk c o g q⟩,λc F q=>?_,λc o F q=>?_,λc O q=>⟨#[],?_⟩⟩
  ·rw[upd_ne (bC (aW q))];exact n
  ·rw[upd_ne (Zy q a)];exact q
  ·rw[upd_ne (Zy q a)];exact q
  ·rw[upd_ne (Zy q a),q];simp
 exact I.call un l I.bare C
theorem Inv.turnedL{X:Cx}{k:List (aL×df)}{u:St}{H:Hp}{s:aO}{j:List aL}{l:bp}{tk:Nat}(I:Inv X k u H s)(t:∀b∈j,VG X k H b)
  (kk:∀c o,c∉j->s.heap.get? c=aA o->l.get? c=aA o):Inv X k u H { s with heap:=l,toks:=tk }:=by
 have m:∀c∈j,(c∈X.ex\/X.s₀.heap.objs.size<=c)/\c≠X.env.locals/\(∀x d,X.env.cells.lookup x=aA d->d≠c)/\∀p∈X.pn++k,p.1≠c:=λc e=>by have f:=t c e;exact⟨f.2.2.2.1,f.2.1,f.2.2.2.2.1,f.2.2.2.2.2⟩
 have h:∀c g,H c=aA g->c∉j:=λc g q e=>by rw[(t c e).1] at q;cases q
 have i:=λc g q=>(I.hok c g q).stay (λd v A y=>kk d v (by
   rcases A with z | z
   ·rw[z];exact h c g q
   ·exact h d _ z) y) (λ_ z=>z) (λ_ _ z=>z) λ_ _ z=>z
 have un:Un (LP X.stack) j H H s.heap l:=
  ⟨λc o q _ _ a=>kk c o a q,λc o q _ _ a=>⟨o.slots,kk c o a q⟩,λc o q n _=>n,λc o q a=>⟨o,kk c o a q⟩,λc w q=>q,λc o w q=>q,λc B q=>⟨#[],by rw[q];simp⟩⟩
 exact I.call un i I.bare m
theorem SeqB.ne_rec{b:Bool}{h:bp}{a c:aL}{i:Array aI}{o:df}{vs:Array aI}(p:SeqB b h a i)(e:h.get? c=aA o)(d:o.data = .fields vs):a≠c:=λz=>by
 subst z
 cases b with
 | true=>obtain⟨j,g,_,m,f⟩:=(p);rw[e] at g;cases g;rw[d] at f;cases f
 | false=>obtain⟨j,g,_,m,f⟩:=(p);rw[e] at g;cases g;rw[d] at f;cases f
theorem IterB.rec{b:Bool}{h:bp}{c a:aL}{i:Nat}(x:IterB b h c a i):∃o,h.get? c=aA o/\∃vs,o.data = .fields vs:=by
 cases b with
 | true=>obtain⟨o,e,_,d⟩:=(x);exact⟨o,e,_,d⟩
 | false=>obtain⟨o,e,_,d⟩:=(x);exact⟨o,e,_,d⟩
structure B3(a1 a2 TO TI:aL):Prop where
 a:a1≠TO
 b:a2≠TO
 c:a1≠TI
 d:a2≠TI
noncomputable def Itz(b1 b2:Bool)(K:aE)(a1 a2:aL):It:=
  ⟨λi H=>∃xs ys x y,RO b1 K H a1 xs/\RO b2 K H a2 ys/\xs[i]?=aA x/\ys[i]?=aA y,
   λi H v H'=>∃p x y,H p=none/\v = .ref p/\H'=upd H p (.tup [x,y])/\(∀xs,RO b1 K H a1 xs->xs[i]?=aA x)/\∀ys,RO b2 K H a2 ys->ys[i]?=aA y,
   λi H=>∃xs ys,RO b1 K H a1 xs/\RO b2 K H a2 ys/\(i=xs.length\/(i<xs.length/\i=ys.length))⟩
theorem Gy{P:b9}{w:cW}{K:aE}{elts:List az}{k:Nat}{pos:fS}(b1 b2:Bool)(a1 a2 z TI TO G J:aL)(d:[z,TI,TO,G,J].Nodup) :
  Ni P w K (.Tuple elts k pos) (Itz b1 b2 K a1 a2) [z,TI,TO,G,J] z
   (λi h=>jF h z TI TO .none/\fN h TI (.ref G) (.ref J)/\(∃u v,fN h TO u v/\B3 a1 a2 TO TI)/\IterB b1 h G a1 i/\IterB b2 h J a2 i) where
 mem:=by simp
 obj:=λi h st c Z=>by
  obtain⟨F,b,⟨u,v,m,_⟩,T,O⟩:=st;simp only[af,dN,or_false] at Z;rcases Z with rfl | rfl | rfl | rfl | rfl
  ·exact⟨_,F,λv q=>by cases q⟩
  ·exact⟨_,b,λv q=>by cases q⟩
  ·exact⟨_,m,λv q=>by cases q⟩
  ·exact T.has
  ·exact O.has
 keep:=λi h h' st kk=>by obtain⟨F,b,⟨u,v,m,f⟩,T,O⟩:=st;exact⟨kk z (by simp) _ F,kk TI (by simp) _ b,⟨u,v,kk TO (by simp) _ m,f⟩,T.at λo q=>kk G (by simp) o q,O.at λo q=>kk J (by simp) o q⟩
 item:=by
  intro X hP hw hK Z i l4 s σ H E I hf st hg;subst hP hw hK;obtain⟨xs,ys,x,y,U,R,hx,hy⟩:=hg;obtain⟨n,rv1,S,hz1⟩:=I.seqB U;obtain⟨j,rv2,p2,hz2⟩:=I.seqB R;obtain⟨u,hu,ru⟩:=rv1.get hx;obtain⟨v,hv,rv⟩:=rv2.get hy;obtain⟨F,b,⟨q1,q2,m,f⟩,T,O⟩:=st;obtain⟨o1,e1,vs1,d1⟩:=T.rec;obtain⟨o2,e2,vs2,d2⟩:=O.rec;have A1z:=S.ne_rec F rfl;have A2z:=p2.ne_rec F rfl;have A11:=S.ne_rec e1 d1;have A12:=S.ne_rec e2 d2;have A21:=p2.ne_rec e1 d1;have A22:=p2.ne_rec e2 d2;simp only[bU,af,dN,not_or,cg,and_true,not_false_eq_true] at d;obtain⟨⟨g,t,B,C⟩,⟨N,Y,W⟩,⟨L,M⟩,p⟩:=d;obtain⟨f1,f2,f3,f4⟩:=f;have D:OM z TI TO G J [G,a1] [J,a2]:=⟨bN g,bN t,bN B,bN C,N,Y,W,L,M,p,by simp[B,bN A1z],by simp[L,bN f1],by simp[bN p,bN A12],by simp[C,bN A2z],by simp[M,bN f2],by simp[p,bN A21]⟩;have D1:=Draws.seq (prog:=X.prog) (w:=X.w) (A:=X.A.in1) b1 (I.ok.hd Z) G a1 A11 n.toArray;have D2:=Draws.seq (prog:=X.prog) (w:=X.w) (A:=X.A.in1) b2 (I.ok.hd Z) J a2 A22 j.toArray;have l1:i<n.toArray.size:=by simpa using(aQ.mp hu).1
  have l2:i<j.toArray.size:=by simpa using(aQ.mp hv).1
  refine R3 D D1 D2 F b m ⟨T,S⟩ ⟨O,p2⟩ l1 l2 λx' y' h' tk hPx hPy c1 c2 c3 c4 c5 c6 hk=>?_
  have ex':x'=u:=by
   have w1:=hPx;have w2:n.toArray[i]?=aA u:=by simpa using hu
   rw[w1] at w2;exact aw w2
  have ey':y'=v:=by
   have w1:=hPy;have w2:j.toArray[i]?=aA v:=by simpa using hv
   rw[w1] at w2;exact aw w2
  subst ex' ey';refine⟨_,rfl,wpAny_letOwnedTupleGo_zip c1 λh3 hz3 l=>?_⟩
  replace l:cj z h' h3:=l
  have kk:∀c o,c∉[z,TI,TO,G,J]->s.heap.get? c=aA o->h3.get? c=aA o:=λc o a q=>
   l.extBut c o (λe=>a (by simp[e])) (hk c o (λe=>a (by simp[e])) (λe=>a (by simp[e])) (λe=>a (by simp[e])) (λe=>a (by simp[e])) q)
  have hTn:=I.hok.fresh (aJ _);have hT3:=l.extBut _ _ (fT (aW F)) c5;have I2:=I.newTup (tk:=tk) hf kk hT3 (.cons ru (.cons rv .nil)) (by show 2<=sizeLine;decide);refine⟨.ref s.heap.objs.size,_,I2,rfl,⟨_,x,y,hTn,rfl,rfl,λzs hzs=>by rw[I.seqB_inj hzs U];exact hx,λzs hzs=>by rw[I.seqB_inj hzs R];exact hy⟩,⟨hz3,l.extBut _ _ (bN g) (hk _ _ (bN g) N Y W b),⟨_,_,l.extBut _ _ (bN t) c2,f1,f2,f3,f4⟩,c3.1.at λo q=>l.extBut _ o (bN B) q,c4.1.at λo q=>l.extBut _ o (bN C) q⟩,λc a=>?_⟩;rw[upd_ne (bC ?_)]
  ·exact(hf c a).1
  ·simp only[af,dN,or_false] at a;rcases a with rfl | rfl | rfl | rfl | rfl
   ·exact aW F
   ·exact aW b
   ·exact aW m
   ·exact aW e1
   ·exact aW e2
 done:=by intro X hP hw hK Z i l4 s σ H E I hf st hg;subst hP hw hK;obtain⟨xs,ys,U,R,hx⟩:=hg;obtain⟨n,rv1,S,hz1⟩:=I.seqB U;obtain⟨j,rv2,p2,hz2⟩:=I.seqB R;obtain⟨F,b,⟨q1,q2,m,f⟩,T,O⟩:=st;obtain⟨o1,e1,vs1,d1⟩:=T.rec;obtain⟨o2,e2,vs2,d2⟩:=O.rec;have A1z:=S.ne_rec F rfl;have A2z:=p2.ne_rec F rfl;have A11:=S.ne_rec e1 d1;have A12:=S.ne_rec e2 d2;have A21:=p2.ne_rec e1 d1;have A22:=p2.ne_rec e2 d2;simp only[bU,af,dN,not_or,cg,and_true,not_false_eq_true] at d;obtain⟨⟨g,t,B,C⟩,⟨N,Y,W⟩,⟨L,M⟩,p⟩:=d;obtain⟨f1,f2,f3,f4⟩:=f;have D:OM z TI TO G J [G,a1] [J,a2]:=⟨bN g,bN t,bN B,bN C,N,Y,W,L,M,p,by simp[B,bN A1z],by simp[L,bN f1],by simp[bN p,bN A12],by simp[C,bN A2z],by simp[M,bN f2],by simp[p,bN A21]⟩;have D1:=Draws.seq (prog:=X.prog) (w:=X.w) (A:=X.A.in1) b1 (I.ok.hd Z) G a1 A11 n.toArray;have D2:=Draws.seq (prog:=X.prog) (w:=X.w) (A:=X.A.in1) b2 (I.ok.hd Z) J a2 A22 j.toArray;have n1:=rv1.length;have n2:=rv2.length;refine QP D D1 D2 F b m ⟨T,S⟩ ⟨O,p2⟩ (by simp only[aR];omega) λh' tk hk=>⟨rfl,?_⟩;exact I.turnedL hf λc o a q=>hk c o (λe=>a (by simp[e])) (λe=>a (by simp[e])) (λe=>a (by simp[e])) (λe=>a (by simp[e])) q
 self:=λA i s Q E st hQ=>wpAny_pyIter_zip st.1 hQ
section
variable {X:Cx}
noncomputable def Zc6(b1 b2:Bool)(K:aE)(ta:TA):TI:=λσ H R=>ta σ H λvs H1=>∃a1 a2,vs=[.ref a1,.ref a2]/\(∃xs,RO b1 K H1 a1 xs)/\(∃ys,RO b2 K H1 a2 ys)/\R (Itz b1 b2 K a1 a2) H1
theorem B4{o:List az}{k:Nat}{f:fS}(b1 b2:Bool){a b:az}{y:TA}{p pos:fS}(Y:Gl X "zip")(Z:X.mg "zip" = none)(L:PA X [a,b] y)
  (P:aX [a,b] X.env=[(aB,eval a X.env),(aB,eval b X.env)]:=by rfl) (l:aX [b] X.env=[(aB,eval b X.env)]:=by rfl) :
  PI X (.Tuple o k f) (.Call (.Name "zip" p) [a,b] [] pos) (Zc6 b1 b2 X.K y):=by
 intro Q s U H R I h;refine Call_ (Tf I Y Z boot_zip (cx (YW (L pos Q s U H _ I h) λus s1 ⟨vs,N,m,W,F⟩=>?_) (by rw[P,l]) (by rw[l];rfl)));obtain⟨u,w,e,⟨xs,v⟩,⟨ys,x⟩,q⟩:=F;subst e
 cases W with
 | cons r rr=>
  cases rr with
  | cons r' rr=>
   cases rr;cases r;cases r';obtain⟨B,G,C,_⟩:=m.seqB v;obtain⟨z,O,p2,_⟩:=m.seqB x;refine Nq C p2 λh' c1 c2 c3 c4 c5 c6 S=>?_;refine wpAny_pyIter_zip c1 ?_;have T:=m.kept (t':=s1.toks) S;have D:=let⟨_,e⟩:=C.has;aW e;have E:=let⟨_,e⟩:=p2.has;aW e;generalize J:s1.heap.objs.size=n at *;have ne:∀(a:aL)(j:Nat),a<n->a≠n+j:=λa j h=>bC (a9 h (el _ _));have M:([n+4,n+2,n+3,n,n+1]:List aL).Nodup:=by have d:∀(i j:Nat),i≠j->(n+i:Nat)≠n+j:=λi j h e=>h (j5 e);have t:∀(i:Nat),i≠0->(n+i:Nat)≠n:=λi h e=>h (j5 (e.trans (Nat.add_zero n).symm));simp only[bU,af,dN,not_or,cg,and_true,not_false_eq_true];exact⟨⟨d 4 2 (by decide),d 4 3 (by decide),t 4 (by decide),d 4 1 (by decide)⟩,⟨d 2 3 (by decide),t 2 (by decide),d 2 1 (by decide)⟩,⟨t 3 (by decide),d 3 1 (by decide)⟩,(t 1 (by decide)).symm⟩
   refine⟨n+4,[n+4,n+2,n+3,n,n+1],_,_,N,rfl,T,Gy b1 b2 u w (n+4) (n+2) (n+3) n (n+1) M,⟨c1,c2,⟨_,_,c3,ne u 3 D,ne w 3 E,ne u 2 D,ne w 2 E⟩,c4,c5⟩,λc A=>?_,q⟩
   have g:s1.heap.objs.size<=c:=by
    rw[J];simp only[af,dN,or_false] at A;rcases A with rfl | rfl | rfl | rfl | rfl
    ·exact el _ _
    ·exact el _ _
    ·exact el _ _
    ·exact aJ _
    ·exact el _ _
   exact m.fpOk g (m.hok.fresh g)
end
theorem Walks.seqB{prog:b9}{w:cW}{A:cL}(b:Bool)(e:A.handled=none)(I c:aL)(d:c≠I)(a:Array aI) :
  Walks prog w A I [I,c] [I] a.size (λi v=>a[i]?=aA v) (λi h=>IterB b h I c i/\SeqB b h c a):=by
 cases b with
 | true=>exact Walks.list e I c d a
 | false=>exact Walks.tuple e I c d a
section
variable {X:Cx}
theorem XG(F:X.calm=aC):XA X (.builtin "sum") (λC H Q=>∃(b:Bool) (p:aL) (a:List Int),C=[.ref p]/\RO b X.K H p (a.map V.int)/\Q (.int a.sum) H):=by
 intro O s R H C M Q I r h;obtain⟨b,p,a,rfl,G,q⟩:=h;obtain⟨u,rfl,E⟩:=Ur r;cases E;obtain⟨w,m,d,N⟩:=I.seqB G;have B:=let⟨_,e⟩:=d.has;aW e;refine call_sum_walkG (Yj d ?_);refine⟨_,_,_,_,_,_,λi=>a.getD i 0,rfl,Walks.seqB (A:=X.A.in1) b (I.ok.hd F) s.heap.objs.size p (bC B) w.toArray,⟨IterB.new (ag _ rfl),d.at λo e=>aH _ e⟩,λc g=>?_,λi v j=>?_,λP tk t' y=>?_⟩
 ·show c<(s.heap.push _).objs.size;rw[cG];rcases af.mp g with rfl | g
  ·exact gZ _
  ·rw[ah.mp g];exact kB B
 ·have j:=j;have j:w[i]?=aA v:=by simpa using j
  have l:=m.length;rw[aM] at l;have D:i<a.length:=by rw[l];exact(aQ.mp j).1
  obtain⟨u,z,J⟩:=m.get (i:=i) (x:=.int a[i]) (by simp);rw[j] at z;cases z;obtain⟨t,rfl⟩:=J;refine⟨t,?_⟩;show jY a[i] t=jY (a.getD i 0) t;rw[aD,aG D];rfl
 ·have e:preSum (λi=>a.getD i 0) w.toArray.size=a.sum:=by
   have l:=m.length;rw[aM] at l;rw[aR,<-l]
   have n:∀k,k<=a.length->preSum (λi=>a.getD i 0) k=(a.take k).sum:=by
    intro k
    induction k with
    | zero=>intro _;simp[preSum]
    | succ k ih=>
     intro y;rw[preSum,ih (by omega),List.take_add_one,aD,aG (by omega),k4];simp
   rw[n _ (aJ _),fA]
  rw[e];refine⟨.int a.sum,H,I.kept (λc o f=>y c o ?_ (aH _ f)),⟨_,rfl⟩,q⟩;intro L;rw[ah.mp L] at f;exact absurd (aW f) (cP _)
theorem IH(y:X.calm=aC):XA X (.builtin "all") (λn H Q=>∃(b:Bool) (p:aL) (bs:List Bool),n=[.ref p]/\RO b X.K H p (bs.map V.bl)/\Q (.bl (bs.all id)) H):=by
 intro O s R H n M Q I r h;obtain⟨b,p,bs,rfl,z,q⟩:=h;obtain⟨u,rfl,w⟩:=Ur r;cases w;obtain⟨k,l,a,N⟩:=I.seqB z;have F:=let⟨_,e⟩:=a.has;aW e;have j:=l.length;rw[aM] at j;refine call_all_walk (Yj a ?_);refine⟨_,_,_,_,_,_,λi=>bs.getD i aC,rfl,Walks.seqB (A:=X.A.in1) b (I.ok.hd y) s.heap.objs.size p (bC F) k.toArray,⟨IterB.new (ag _ rfl),a.at λo e=>aH _ e⟩,λi v L J G g C=>?_,λP tk B=>?_⟩
 ·have g:=g;have g:k[i]?=aA v:=by simpa using g
  have d:i<bs.length:=by rw[j];exact(aQ.mp g).1
  obtain⟨u,m,D⟩:=l.get (i:=i) (x:=.bl bs[i]) (by simp);rw[g] at m;cases m;cases D;refine cX ?_;have e:bs.getD i aC=bs[i]:=by rw[aD,aG d];rfl
  rw[<-e];exact C
 ·have e:(aF k.toArray.size).all (λi=>bs.getD i aC)=bs.all id:=by
   rw[aR,<-j,f9,ar,ar];constructor
   ·intro h x t;obtain⟨i,d,rfl⟩:=eU.mp t;have:=h i (aS.mpr d);rw[aD,aG d] at this;exact this
   ·intro h i d;have d:=aS.mp d;rw[aD,aG d];exact h _ (dO d)
  rw[e];refine⟨.bl (bs.all id),H,I.kept (λc o f=>B c o ?_ (aH _ f)),rfl,q⟩;intro E;rw[ah.mp E] at f;exact absurd (aW f) (cP _)
theorem II(y:X.calm=aC):XA X (.builtin "any") (λn H Q=>∃(b:Bool) (p:aL) (bs:List Bool),n=[.ref p]/\RO b X.K H p (bs.map V.bl)/\Q (.bl (bs.any id)) H):=by
 intro O s R H n M Q I r h;obtain⟨b,p,bs,rfl,z,q⟩:=h;obtain⟨u,rfl,w⟩:=Ur r;cases w;obtain⟨j,l,a,N⟩:=I.seqB z;have F:p<s.heap.objs.size:=let⟨_,e⟩:=a.has;aW e;have k:=l.length;rw[aM] at k;refine call_any_walk (Yj a ?_);refine⟨_,_,_,_,_,_,λi=>bs.getD i aC,rfl,Walks.seqB (A:=X.A.in1) b (I.ok.hd y) s.heap.objs.size p (bC F) j.toArray,⟨IterB.new (ag _ rfl),a.at λo e=>aH _ e⟩,λi v L J G g C=>?_,λP tk B=>?_⟩
 ·have g:j.toArray[i]?=aA v:=g;have g:j[i]?=aA v:=by simpa using g
  have d:i<bs.length:=by rw[k];exact(aQ.mp g).1
  obtain⟨u,m,D⟩:=l.get (i:=i) (x:=.bl bs[i]) (by rw[aU,aG d];rfl);rw[g] at m;cases m;cases D;refine cX ?_;have e:bs.getD i aC=bs[i]:=by rw[aD,aG d];rfl
  rw[<-e];exact C
 ·have e:(aF j.toArray.size).any (λi=>bs.getD i aC)=bs.any id:=by
   rw[aR,<-k,f9,fC,fC];constructor
   ·rintro⟨i,d,h⟩;have d:=aS.mp d;rw[aD,aG d] at h;exact⟨_,dO d,h⟩
   ·rintro⟨x,t,h⟩;obtain⟨i,d,rfl⟩:=eU.mp t;refine⟨i,aS.mpr d,?_⟩;rw[aD,aG d];exact h
  rw[e];refine⟨.bl (bs.any id),H,I.kept (λc o f=>B c o ?_ (aH _ f)),rfl,q⟩;intro E;rw[ah.mp E] at f;exact absurd (aW f) (cP _)
theorem WY:XA X (.builtin "isinstance") (λa H Q=>∃x T t b,a=[x,.ty T]/\TyOf X.K H x t/\dC X.K t (.type T)=aA b/\Q (.bl b) H):=by intro i s j H a g Q I r h;obtain⟨x,T,t,b,rfl,c,e,q⟩:=h;obtain⟨u,v,rfl,f,d⟩:=CQ r;cases d;exact IC I f c e λtk=>⟨.bl b,H,I.tok tk,rfl,q⟩
theorem MP{K:aE}:dC K (.type "int") (.type "int")=aA aC:=rfl
theorem Nr{K:aE}:dC K (.type "int") (.type "bool")=aA aB:=rfl
theorem MQ{K:aE}:dC K (.type "tuple") (.type "tuple")=aA aC:=rfl
theorem Ol{K:aE}:dC K (.type "list") (.type "list")=aA aC:=rfl
theorem MR{K:aE}:dC K (.type "str") (.type "str")=aA aC:=rfl
noncomputable def Jn:V->List V->Hp->VK->Prop:=λx vs H Q=>∃l xs k y,x = .ref l/\vs=[.int k,y]/\H l=aA (.lst xs)/\0<=k/\k<2^63/\xs.length<sizeLine/\Q .non (upd H l (.lst (xs.take k.toNat++y::xs.drop k.toNat)))
theorem ON:MtM X "list.insert" Jn:=by
 intro C s D H x vs v A Q I m i h;obtain⟨l,G,k,y,rfl,rfl,d,E,o,B,q⟩:=h;cases m;obtain⟨u,f,rfl,p,g⟩:=i.two;obtain⟨t,rfl⟩:=p;obtain⟨z,a,n,r,w,e⟩:=I.lstM d;have b:¬(!Builtin.List.listFitsIndex k)=aC:=by rw[fitsIndex_both (by omega) o];exact bO
 refine gA F.slot_list_insert ⟨_,e,rfl⟩ F.entry_list_insert (F.args_list_insert_3 _ _ _) (AutoListH.list_insert_list_int_val_1 l a.toArray n k t f b (by rw[aR];omega)) ⟨e,?_⟩;refine⟨.non,_,I.lset d e ?_ ((r.take k.toNat).append (.cons g (r.drop k.toNat))) ?_,rfl,q⟩
 ·show(have j:=if k<0 then(k+((a.toArray.size:Nat):Int)).toNat else min k.toNat a.toArray.size;(a.toArray.extract 0 j).push f++a.toArray.extract j)=_;rw[lU (by omega)];by_cases c:k.toNat<=a.length
  ·rw[ck (by rw[aR];exact c)];simp;rw[b7 (by simp)]
  ·rw[i8 (by rw[aR];omega)];rw[b7 (by omega),gQ (by omega)];simp
 ·rw[au,cH,ay,bK];omega
end
noncomputable def TK(H H':Hp):Prop:=∀b xs,H b=aA (.tup xs)->H' b=aA (.tup xs)
theorem Same.tk{H a:Hp}(s:Same H a):TK H a:=λb c h=>s b _ h
theorem Same.new{H:Hp}{p:aL}(h:H p=none)(o:HO):Same H (upd H p o):=λb u q=>by rw[upd_ne (Zy q h)];exact q
structure Def(K:aE)(mg:aq->Option aI)(x:aq)(st:bq):Prop where
 ex:∃f fd,mg x=aA (.ref f)/\Fun K x x st f fd
theorem def_mk{K:aE}{h:bp}{g:aq->Option aI}{x:aq}{st:bq}{f:aL}{n:aI}{j m:Option aL}{d:Array (Option aI)}{kV e i b ct:aI}(X:K.In h)(G:h.Ns cq g)
  (a:iu K cq x=aA (aA (.ref f))) (l:K.lookup f=aA ⟨n,j,.func (dD x x (XZ st) (Yv st) (Zf st) .none kV e i m b ct),d⟩)
  (c:cz K b x=aC) (k:gL K (.ref f)=aC):Def K g x st:=⟨f,_,PySem.W.mg_of X G a,B1 l c k⟩
structure Xi(P:b9)(w:cW)(K:aE)(mg:aq->Option aI)(base:bp)(x:aq)(ps:List aq)(sp:Sp)(k:Nat):Prop where
 ex:∃f fd,mg x=aA (.ref f)/\gL K (.ref f)=aC/\Binds K fd ps []/\RY P w K mg base L3 k f fd ps sp
section
variable {P:b9} {w:cW} {K:aE} {mg:aq->Option aI} {base:bp}
theorem Def.cal{x:aq}{st:bq}{N d:List aq}{k:Nat}{e:Sp}(D:Def K mg x st)(S:Zq N d (Zf st))
  (m:∀(kV doc pm:aI)(an:Option aL)(b ct:aI)(us:List aI),us.length=d.length->i6 (dD x x (XZ st) (Yv st) (Zf st) .none kV doc pm an b ct) ⟨us,[]⟩=pure (d.zip us))
  (len:∀vs H Q E,e vs H Q E->vs.length=d.length)
  (c:∀(f:aL)(b:aI)(A:cL)(a:List kK)(s:aO)(H:Hp)(vs:List V)(Q:VK)(E:XK),Room k (A.deeper (gY x (Zf st) s.heap.objs.size f b))->e vs H Q E->
   ∃t,PSs (QI L3 P w K mg base N x (Zf st) f b A a s H E).nox (Yv st) t/\t { nx:=λ_ j=>Q .non j,rt:=Q } (start N vs) H):Xi P w K mg base x d e (k+1):=by
 obtain⟨f,g,l,F⟩:=D.ex;exact⟨f,g,l,F.kp,F.binds m,F.ok S len λb A a s H vs Q E i h=>c f b A a s H vs Q E i h⟩
end
section
variable {X:Cx} {x:aq} {ps:List aq} {sp:Sp} {k:Nat} {e:az} {es:List az} {t:TA} {p pos:fS}
theorem B5(C:Xi X.prog X.w X.K X.mg X.base x ps sp k)(j:Room k X.A)(i:Gl X x)(m:PA X (e::es) t)
  (g:(x==("__debug__" : aq))=aB:=by decide) (l:aX (e::es) X.env=(aB,eval e X.env)::aX es X.env:=by rfl) (h:(fu pos (aX es X.env)).any (·.1)=aB:=by rfl) :
  PE X (.Call (.Name x p) (e::es) [] pos) (CS sp [] E0 t):=by
 obtain⟨f,n,a,b,c,d⟩:=C.ex;exact ER d j i a b c .nil Za4 m g l h
end
noncomputable def Us(N:List aq)(around scope:dw)(own fr:List aq)(ix:List Nat):Bool:=
 (match scope.kind with | .function=>aC | _=>aB)&&scope.names.all (λy=>y.2 != .cell)&&scope.names.all (λy=>y.2 != .local || scope.names.lookup y.1==aA .local)&&
 scope.names.all (λy=>y.2 != .free || (around.names.lookup y.1==aA .cell || around.names.lookup y.1==aA .free))&&(fr.map aA==ix.map (λi=>N[i]?))&&
 fr.all (λx=>scope.names.contains (x,bW))&&fr.all (λx=>scope.names.lookup x != aA .local)
theorem OO{N:List aq}{a b:dw}{own fr:List aq}{ix:List Nat}(h:Us N a b own fr ix=aC):CompScope N a b own fr ix:=by
 unfold Us at h;simp only[ba] at h;obtain⟨⟨⟨⟨⟨⟨f,k⟩,l⟩,m⟩,g⟩,j⟩,i⟩:=h;refine⟨?_,λy c=>?_,λy c e=>?_,λy c e=>?_,by simpa using g,λx d=>?_,λx d=>?_⟩
 ·split at f
  ·assumption
  ·cases f
 ·simpa using ar.mp k y c
 ·have:=ar.mp l y c;rw[e] at this;simpa using this
 ·have:=ar.mp m y c;rw[e] at this;simpa using this
 ·simpa using ar.mp j x d
 ·simpa using ar.mp i x d
section
variable {X:Cx} {tg l9 iter:az} {l8:List az} {scope:dw} {pos:fS} {wi:TI} {g:TG} {tt:TT} {te:TE}
theorem MS(own fr:List aq)(ix:List Nat)(a:X.calm=aC)(e:PI X tg iter wi)(S:Us X.N X.env.scope scope own fr ix=aC)
  (d:∀cl C s H ex,PG (ZM X (own++fr) scope cl C s H ex) tg g) (b:∀cl C s H ex,L4 (ZM X (own++fr) scope cl C s H ex) l8 tt) (f:∀cl C s H ex,PE (ZM X (own++fr) scope cl C s H ex) l9 te)
  (c:∀x,bj iter X.env x=pure x:=by intro _;rfl):PE X (.ListComp l9 [⟨tg,iter,l8,0⟩] scope pos) (QM own.length ix wi g tt te):=
 E5 a e (OO S) d b f c
theorem Gz(own fr:List aq)(ix:List Nat){i:Nat}{y:aq}{e a:fS}(m:X.N.Nodup)(h:X.N[i]?=aA y)(c:X.env.scope.names.lookup y=aA .local)(b:X.calm=aC)(j:PI X tg iter wi)(S:Us X.N X.env.scope scope own fr ix=aC)
  (n:∀cl C s H ex,PG (ZM X (own++fr) scope cl C s H ex) tg g) (f:∀cl C s H ex,L4 (ZM X (own++fr) scope cl C s H ex) l8 tt) (k:∀cl C s H ex,PE (ZM X (own++fr) scope cl C s H ex) l9 te)
  (d:gy (.ListComp l9 [⟨tg,iter,l8,0⟩] scope pos) (aA (.Name y e)) a.line X.env=pure aC:=by rfl)
  (l:∀x,bj iter X.env x=pure x:=by intro _;rfl):PS X (.Assign [.Name y e] (.ListComp l9 [⟨tg,iter,l8,0⟩] scope pos) a) (LR (QM own.length ix wi g tt te) (TQ i)):=
 E6 m h c b j (OO S) n f k d l
end
structure X2(mg:aq->Option aI):Prop where
 «len» : mg "len" = none
 «sum» : mg "sum" = none
 «range» : mg "range" = none
 «enumerate» : mg "enumerate" = none
 «zip» : mg "zip" = none
 «tuple» : mg "tuple" = none
 «list» : mg "list" = none
 «all» : mg "all" = none
 «any» : mg "any" = none
 «isinstance» : mg "isinstance" = none
 «int» : mg "int" = none
 «bool» : mg "bool" = none
 «str» : mg "str" = none
 «min» : mg "min" = none
 «max» : mg "max" = none
 «sorted» : mg "sorted" = none
 «abs» : mg "abs" = none
 «ValueError» : mg "ValueError" = none
 «reversed» : mg "reversed" = none
 «set» : mg "set" = none
abbrev Zc7(g:TG)(tb:TS)(D:YQ)(σ:St)(J:It)(H:Hp):Prop:=
 ∃W:Nat->Nat->St->Hp->Prop,(∃m,W 0 m σ H)/\∀i m σ H,W i m σ H->
   (J.stop i H/\D.nx σ H)\/(J.go i H/\∃N:St->Hp->Prop,(∀σ' H',N σ' H'->∃m',m'<m/\W (i+1) m' σ' H')/\∀x H',J.yld i H x H'->g x σ H' λσ2 H2=>tb { D with nx:=N,ct:=N,bk:=D.nx } σ2 H2)
noncomputable def Zl(l:List Int)(i:Nat):Int:=l.getD i 0
theorem Sv(l:List Int):(aF l.length).map (Zl l)=l:=by
 apply dE;intro i;rw[aU];by_cases h:i<l.length
 ·rw[aG (by simpa using h)];simp[Zl,aG h]
 ·rw[bX (by simpa using h),bX (by omega)];rfl
theorem Z1{f:Nat->Int}{n i:Nat}(h:i<n):Zl ((aF n).map f) i=f i:=by unfold Zl;rw[aD,aU,bI h];rfl
noncomputable def ZH(w:List (List Int))(i:Nat):List Int:=w.getD i []
theorem MT{w:List (List Int)}{i:Nat}(h:i<w.length):w[i]?=aA (ZH w i):=by unfold ZH;rw[aD,aG h];rfl
noncomputable def ZZ(w:List (List Int))(i j:Nat):Int:=Zl (ZH w i) j
structure ZE(w:List (List Int)):Prop where
 pos:1<=w.length
 few:w.length<=7
 sq:∀i,i<w.length->(ZH w i).length=w.length
 lo:∀i j,i<w.length->j<w.length->0<=ZZ w i j
 hi:∀i j,i<w.length->j<w.length->ZZ w i j<=9
 sym:∀i j,i<w.length->j<w.length->ZZ w i j=ZZ w j i
 dia:∀i,i<w.length->ZZ w i i=0
noncomputable def B6(K:aE):List V->Hp->VK->Prop:=λxs H Q=>∃p ys,xs=[.ref p]/\((SqL K H p ys/\∀l,H l=none->Q (.ref l) (upd H l (.tup ys)))\/(SqT K H p ys/\Q (.ref p) H))
noncomputable def E9(K:aE):List V->Hp->VK->Prop:=λxs H Q=>∃p ys,xs=[.ref p]/\(SqL K H p ys\/SqT K H p ys)/\∀l,H l=none->Q (.ref l) (upd H l (.lst ys))
theorem Same.off{H a:Hp}{p:aL}(s:Same H a)(n:a p=none):H p=none:=s.free n
abbrev Tie:=Nat×Nat×Int
noncomputable def Sw(M:List (List Int))(a b:Nat)(t:Int):List (List Int):=M.set a ((ZH M a).set b t)
structure MatOk(n:Nat)(M:List (List Int)):Prop where
 len:M.length=n
 row:∀i,i<n->(ZH M i).length=n
 lo:∀i j,i<n->j<n->0<=ZZ M i j
 hi:∀i j,i<n->j<n->ZZ M i j<=9
 sym:∀i j,i<n->j<n->ZZ M i j=ZZ M j i
 dia:∀i,i<n->ZZ M i i=0
theorem OP{M:List (List Int)}{a i:Nat}{r:List Int}(b:a<M.length):ZH (M.set a r) i=if a=i then r else ZH M i:=by
 unfold ZH;by_cases h:a=i
 ·subst h;simp[b]
 ·simp[h]
theorem nth_set{l:List Int}{b j:Nat}{t:Int}(a:b<l.length):Zl (l.set b t) j=if b=j then t else Zl l j:=by
 unfold Zl;by_cases h:b=j
 ·subst h;simp[a]
 ·simp[h]
theorem QQ{n:Nat}{M:List (List Int)}{a b i j:Nat}{t:Int}(f:M.length=n)(c:∀i,i<n->(ZH M i).length=n)(e:a<n)(d:b<n):ZZ (Sw M a b t) i j=if a=i/\b=j then t else ZZ M i j:=by
 show Zl (ZH (M.set a ((ZH M a).set b t)) i) j=_;rw[OP (by omega)];by_cases h:a=i
 ·subst h;rw[lQ rfl,nth_set (by rw[c a e];exact d)];by_cases q:b=j
  ·rw[lQ q,lQ ⟨rfl,q⟩]
  ·rw[lU q,lU (λz=>q z.2)];rfl
 ·rw[lU h,lU (λz=>h z.1)];rfl
theorem WK{n:Nat}{M:List (List Int)}{a b:Nat}{t:Int}(e:M.length=n)(c:∀i,i<n->(ZH M i).length=n)(f:a<n):(Sw M a b t).length=n/\∀i,i<n->(ZH (Sw M a b t) i).length=n:=by
 refine⟨by unfold Sw;rw[cS];exact e,λi d=>?_⟩;show(ZH (M.set a ((ZH M a).set b t)) i).length=n;rw[OP (by omega)];split
 ·rw[cS];exact c a f
 ·exact c i d
theorem MatOk.zero(n:Nat):MatOk n (aV n (aV n 0)):=by
 have r:∀i,i<n->ZH (aV n (aV n (0:Int))) i=aV n 0:=λi a=>by unfold ZH;rw[aD,bV,lQ a];rfl
 have z:∀i j,i<n->j<n->ZZ (aV n (aV n (0:Int))) i j=0:=λi j a b=>by show Zl (ZH _ i) j=0;rw[r i a];unfold Zl;rw[aD,bV,lQ b];rfl
 exact⟨by simp,λi a=>by rw[r i a];simp,λi j a b=>by rw[z i j a b];omega,λi j a b=>by rw[z i j a b];omega,λi j a b=>by rw[z i j a b,z j i b a],λi a=>z i i a a⟩
theorem MatOk.web{n:Nat}{M:List (List Int)}(h:MatOk n M)(a:1<=n)(b:n<=7):ZE M:=by have e:=h.len;subst e;exact⟨a,b,h.row,h.lo,h.hi,h.sym,h.dia⟩
theorem Z7(f:Nat->Int)(n:Nat):((aF (n+1)).map f).sum=((aF n).map f).sum+f n:=by rw[gn];simp
theorem Yk{f g:Nat->Int}{n:Nat}(h:∀i,i<n->f i=g i):((aF n).map f).sum=((aF n).map g).sum:=by congr 1;apply ao;intro i a;exact h i (aS.mp a)
theorem Jo(f g:Nat->Int)(n:Nat):((aF n).map λi=>f i+g i).sum=((aF n).map f).sum+((aF n).map g).sum:=by
 induction n with
 | zero=>simp
 | succ n ih=>rw[Z7,Z7,Z7,ih];omega
theorem Jp(f g:Nat->Int)(n:Nat):((aF n).map λi=>f i-g i).sum=((aF n).map f).sum-((aF n).map g).sum:=by
 induction n with
 | zero=>simp
 | succ n ih=>rw[Z7,Z7,Z7,ih];omega
theorem IJ(c:Int)(n:Nat):((aF n).map λ_=>c).sum=n*c:=by
 induction n with
 | zero=>simp
 | succ n ih=>rw[Z7,ih];rw[show((n+1:Nat):Int)=(n:Int)+1 by omega,jS];omega
theorem Nt(l:List Int):((aF l.length).map (Zl l)).sum=l.sum:=by rw[Sv]
theorem GA(e:Nat->Nat->Int)(n:Nat)(c:∀i j,i<n->j<n->e i j=e j i)(f:∀i,i<n->e i i=0) :
  ((aF n).map λi=>((aF n).map λj=>e i j).sum).sum=2*((aF n).map λa=>((aF (n-(a+1))).map λj=>e a (a+1+j)).sum).sum:=by
 induction n with
 | zero=>simp
 | succ n d=>
  have d:=d (λi j b l=>c i j (by omega) (by omega)) λi b=>f i (by omega);rw[Z7,Z7,Z7];have g:((aF n).map λi=>((aF (n+1)).map λj=>e i j).sum).sum=((aF n).map λi=>((aF n).map λj=>e i j).sum).sum+((aF n).map λi=>e i n).sum:=by rw[<-Jo];apply Yk;intro i _;rw[Z7]
  have k:((aF n).map λa=>((aF (n+1-(a+1))).map λj=>e a (a+1+j)).sum).sum=((aF n).map λa=>((aF (n-(a+1))).map λj=>e a (a+1+j)).sum).sum+((aF n).map λi=>e i n).sum:=by rw[<-Jo];apply Yk;intro i b;rw[show n+1-(i+1)=(n-(i+1))+1 by omega,Z7,show i+1+(n-(i+1))=n by omega]
  have h:((aF n).map λj=>e n j).sum=((aF n).map λi=>e i n).sum:=by apply Yk;intro i b;exact c n i (by omega) (by omega)
  rw[g,k,h,f n (by omega)];simp;omega
structure NamesOk(i:Nat)(l:List Int):Prop where
 len:l.length=i
 nd:l.Nodup
 lo:∀x∈l,0<=x
 hi:∀x∈l,x<i
theorem NamesOk.nil:NamesOk 0 []:=⟨rfl,cg,λ_ h=>by simp at h,λ_ h=>by simp at h⟩
theorem NamesOk.ins{i:Nat}{l:List Int}(h:NamesOk i l)(k:Nat):NamesOk (i+1) (l.take k++(i:Int)::l.drop k):=by
 have b:(l.take k++(i:Int)::l.drop k).Perm ((i:Int)::l):=by have:=List.perm_middle (a:=(i:Int)) (l₁:=l.take k) (l₂:=l.drop k);rw[List.take_append_drop] at this;exact this
 refine⟨by rw[b.length_eq,cH,h.len],?_,λx c=>?_,λx c=>?_⟩
 ·rw[b.nodup_iff,bU];exact⟨λd=>by have:=h.hi _ d;omega,h.nd⟩
 ·rcases af.mp (b.mem_iff.mp c) with e | e
  ·omega
  ·exact h.lo x e
 ·rcases af.mp (b.mem_iff.mp c) with e | e
  ·omega
  ·have:=h.hi x e;omega
theorem NamesOk.at{i:Nat}{l:List Int}(h:NamesOk i l){x:Nat}(a:x<i):0<=Zl l x/\Zl l x<i:=by
 have e:Zl l x=l[x]'(by rw[h.len];exact a):=by unfold Zl;rw[aD,aG (by rw[h.len];exact a)];rfl
 rw[e];exact⟨h.lo _ (dO _),h.hi _ (dO _)⟩
theorem NamesOk.ne{i:Nat}{l:List Int}(h:NamesOk i l){x y:Nat}(b:x<i)(a:y<i)(n:x≠y):Zl l x≠Zl l y:=by
 have c:Zl l x=l[x]'(by rw[h.len];exact b):=by unfold Zl;rw[aD,aG (by rw[h.len];exact b)];rfl
 have d:Zl l y=l[y]'(by rw[h.len];exact a):=by unfold Zl;rw[aD,aG (by rw[h.len];exact a)];rfl
 rw[c,d];intro e;exact n ((kL h.nd).mp e)
theorem lt_size{n:Nat}(h:n<=10000):n<sizeLine:=av h (by decide)
end L2
namespace VL
open PySem PySem.Spec PyProof.Rows L2
variable {K:aE}
noncomputable def NsO(od:df)(f:aq)(u:aI):Prop:=∀(hp:bp)(dx:aL),hp.get? dx=aA od->hp.Ns1 dx (λn=>if n=f then aA u else none)
noncomputable def Dc(n:aq):aq:=if n = "NoWeb" then "place" else if n = "Apart" then "houses" else if n = "TooMany" then "most" else "total"
structure Lam where
 qual:aq
 params:Arguments
 body:az
 scope:dw
 free:aq
inductive PV where
 | non | bl (b:Bool) | int (i:Int) | str (x:aq) | ty (n:String) | exc (n:aq) | exf (n:aq) (l:PV) | clo (L:Lam) (l:PV)
 | tup (l:List PV) | lst (l:List PV) | cst (l:List PV)
 | dK (ks:List Of) (vs:List PV) | dT (ks:List (List Of)) (vs:List PV)
instance:Inhabited PV:=⟨.non⟩
mutual
/-- nothing in it can be changed -/
def Ya:PV->Bool
 | .tup l=>ZO l
 | .cst l=>ZO l
 | .lst _=>aB
 | .dK _ _=>aB
 | .dT _ _=>aB
 | .non=>aC
 | .bl _=>aC
 | .int _=>aC
 | .str _=>aC
 | .ty _=>aC
 | .exc _=>aC
 | .exf _ _=>aC
 | .clo _ l=>Ya l
def ZO:List PV->Bool
 | []=>aC
 | x::r=>Ya x&&ZO r
end
theorem XH:∀l:List PV,ZO l=l.all Ya
 | []=>rfl
 | x::r=>by rw[iT,<-XH r];rfl
noncomputable def KL(K:aE)(a:aL)(xs:List V):Prop:=
 ∃(o:df) (lK:Array aI) (n:Nat),K.lookup a=aA o/\o.cls = .type "list"/\o.dict=none/\o.data = .seq lK n/\lK.size<=sizeLine/\Vals xs lK.toList
noncomputable def CsK(K:aE)(H:Hp)(p:aL)(xs:List V):Prop:=(∃o,H p=aA (.frz o (.lst xs)))\/KL K p xs
theorem CsK.sq{K:aE}{H:Hp}{p:aL}{a:List V}(h:CsK K H p a):SqL K H p a:=by
 rcases h with h | h
 ·exact .inl (.inr h)
 ·exact .inr h
noncomputable def CloAt(H:Hp)(L:Lam)(v:V)(u:aI):Prop:=∃f fo c oc e eo pm ct,v = .ref f/\H f=aA (.frz fo (.own 0))/\fo.data = .func (PySem.W.kla_fn "<lambda>" L.qual L.params L.body L.scope [(L.free,e)] pm (.ref c) ct)/\H c=aA (.frz oc (.own 0))/\Ga oc L.qual/\H e=aA (.frz eo (.own 1))/\eo.data = .cell (aA u)
mutual
/-- v is the tree l in the heap H;fp: the addresses of lK lists and dicts -/
def Is(K:aE)(H:Hp):PV->V->List aL->Prop
 | .non,v,fp=>v = .non/\fp=[]
 | .bl b,v,fp=>v = .bl b/\fp=[]
 | .int i,v,fp=>v = .int i/\fp=[]
 | .str x,v,fp=>v = .str x/\fp=[]
 | .ty n,v,fp=>v = .ty n/\fp=[]
 | .exc n,v,fp=>(∃e o x C,v = .ref e/\H e=aA (.frz o (.own x))/\o.cls = .ref C/\iu K cq n=aA (aA (.ref C))/\o.dict=none/\∃vs,o.data = .fields vs)/\fp=[]
 | .exf n l,v,fp=>(∃e o x C dx od u z,v = .ref e/\H e=aA (.frz o (.own x))/\o.cls = .ref C/\iu K cq n=aA (aA (.ref C))/\o.dict=aA dx/\(∃vs,o.data = .fields vs)/\H dx=aA (.frz od (.own dx))/\NsO od (Dc n) u/\RelV z u/\Is K H l z [])/\fp=[]
 | .clo L l,v,fp=>∃u x,CloAt H L v u/\RelV x u/\Is K H l x fp
 | .tup l,v,fp=>∃p xs,v = .ref p/\H p=aA (.tup xs)/\Iss K H l xs fp
 | .lst l,v,fp=>∃p xs fq,v = .ref p/\H p=aA (.lst xs)/\Iss K H l xs fq/\fp=p::fq
 | .cst l,v,fp=>∃p xs,v = .ref p/\CsK K H p xs/\Iss K H l xs fp
 | .dK ks l,v,fp=>∃p l6 fq,v = .ref p/\Rd H p (.dK l6)/\l6.map (·.1)=ks/\Iss K H l (l6.map (·.2)) fq/\fp=p::fq
 | .dT ks l,v,fp=>∃p l6 fq,v = .ref p/\Rd H p (.dT l6)/\l6.map (·.1)=ks/\Iss K H l (l6.map (·.2)) fq/\fp=p::fq
def Iss(K:aE)(H:Hp):List PV->List V->List aL->Prop
 | [],xs,fp=>xs=[]/\fp=[]
 | l::ls,xs,fp=>∃x r f1 f2,xs=x::r/\Is K H l x f1/\Iss K H ls r f2/\fp=f1++f2
end
noncomputable def RdK(H H':Hp)(p:aL):Prop:=(∀xs,H p=aA (.lst xs)->H' p=aA (.lst xs))/\(∀l6,Rd H p (.dK l6)->Rd H' p (.dK l6))/\∀l6,Rd H p (.dT l6)->Rd H' p (.dT l6)
theorem RdK.of{H a:Hp}{p:aL}(h:∀o,H p=aA o->a p=aA o):RdK H a p:=by
 have r:∀u,Rd H p u->Rd a p u:=λu q=>by
  rcases q with q | ⟨o,q⟩
  ·exact .inl (h _ q)
  ·exact .inr ⟨o,h _ q⟩
 exact⟨λ_=>h _,λ_=>r _,λ_=>r _⟩
structure CT(H H':Hp):Prop where
 tup:TK H H'
 frz:∀b o xs,H b=aA (.frz o (.lst xs))->H' b=aA (.frz o (.lst xs))
 exc:∀b o x,H b=aA (.frz o (.own x))->H' b=aA (.frz o (.own x))
theorem Same.tk2{H a:Hp}(s:Same H a):CT H a:=⟨s.tk,λb o c h=>s b _ h,λb o x h=>s b _ h⟩
theorem CsK.tr{K:aE}{H b:Hp}(t:CT H b){p:aL}{a:List V}(h:CsK K H p a):CsK K b p a:=by
 rcases h with⟨o,h⟩ | h
 ·exact .inl ⟨o,t.frz p o a h⟩
 ·exact .inr h
theorem CloAt.tr{H a:Hp}(t:CT H a){L:Lam}{v:V}{u:aI}(h:CloAt H L v u):CloAt a L v u:=by obtain⟨f,fo,c,b,e,d,g,ct,m,l,n,o,i,k,j⟩:=h;exact⟨f,fo,c,b,e,d,g,ct,m,t.exc f fo 0 l,n,t.exc c b 0 o,i,t.exc e d 1 k,j⟩
mutual
theorem Is.tr{H s:Hp}(f:CT H s):∀(l:PV)(v:V)(fp:List aL),(∀p∈fp,RdK H s p)->Is K H l v fp->Is K s l v fp
 | .non,_,_,_,h=>by simpa only[Is] using h
 | .bl _,_,_,_,h=>by simpa only[Is] using h
 | .int _,_,_,_,h=>by simpa only[Is] using h
 | .str _,_,_,_,h=>by simpa only[Is] using h
 | .ty _,_,_,_,h=>by simpa only[Is] using h
 | .exc _,_,_,_,h=>by simp only[Is] at h ⊢;obtain⟨⟨e,o,x,C,a,b,c⟩,d⟩:=h;exact⟨⟨e,o,x,C,a,f.exc e o x b,c⟩,d⟩
 | .exf _ l,_,_,_,h=>by simp only[Is] at h ⊢;obtain⟨⟨e,o,x,C,t,A,u,z,a,b,c1,c2,c3,c4,c5,F,D,B⟩,d⟩:=h;exact⟨⟨e,o,x,C,t,A,u,z,a,f.exc e o x b,c1,c2,c3,c4,f.exc t A t c5,F,D,Is.tr f l z [] (λp y=>by simp at y) B⟩,d⟩
 | .clo L l,v,fp,hm,h=>by simp only[Is] at h ⊢;obtain⟨u,x,E,i,g⟩:=h;exact⟨u,x,E.tr f,i,Is.tr f l x fp hm g⟩
 | .tup l,v,fp,hm,h=>by simp only[Is] at h ⊢;obtain⟨p,j,e,y,g⟩:=h;exact⟨p,j,e,f.tup p j y,Iss.tr f l j fp hm g⟩
 | .lst l,v,fp,hm,h=>by simp only[Is] at h ⊢;obtain⟨p,j,k,e,i,g,rfl⟩:=h;exact⟨p,j,k,e,(hm p aa).1 _ i,Iss.tr f l j k (λq m=>hm q (aT _ m)) g,rfl⟩
 | .cst l,v,fp,hm,h=>by simp only[Is] at h ⊢;obtain⟨p,j,e,i,g⟩:=h;exact⟨p,j,e,i.tr f,Iss.tr f l j fp hm g⟩
 | .dK ks l,v,fp,hm,h=>by simp only[Is] at h ⊢;obtain⟨p,n,k,e,i,w,g,rfl⟩:=h;exact⟨p,n,k,e,(hm p aa).2.1 _ i,w,Iss.tr f l _ k (λq m=>hm q (aT _ m)) g,rfl⟩
 | .dT ks l,v,fp,hm,h=>by simp only[Is] at h ⊢;obtain⟨p,n,k,e,i,w,g,rfl⟩:=h;exact⟨p,n,k,e,(hm p aa).2.2 _ i,w,Iss.tr f l _ k (λq m=>hm q (aT _ m)) g,rfl⟩
theorem Iss.tr{H b:Hp}(c:CT H b):∀(l:List PV)(xs:List V)(fp:List aL),(∀p∈fp,RdK H b p)->Iss K H l xs fp->Iss K b l xs fp
 | [],_,_,_,h=>by simpa only[Iss] using h
 | l::ls,xs,fp,hm,h=>by simp only[Iss] at h ⊢;obtain⟨x,r,f1,f2,e,f,d,rfl⟩:=h;exact⟨x,r,f1,f2,e,Is.tr c l x f1 (λq a=>hm q (bg _ a)) f,Iss.tr c ls r f2 (λq a=>hm q (aj _ a)) d,rfl⟩
end
theorem Is.mono{H b:Hp}(s:Same H b){l:PV}{v:V}{a:List aL}(h:Is K H l v a):Is K b l v a:=Is.tr (Same.tk2 s) l v a (λp _=>RdK.of λo q=>s p o q) h
theorem Iss.mono{H b:Hp}(s:Same H b){l:List PV}{v:List V}{a:List aL}(h:Iss K H l v a):Iss K b l v a:=Iss.tr (Same.tk2 s) l v a (λp _=>RdK.of λo q=>s p o q) h
mutual
theorem Is.pure{H:Hp}:∀(l:PV)(v:V)(fp:List aL),Ya l=aC->Is K H l v fp->fp=[]
 | .non,_,_,_,h=>by simp only[Is] at h;exact h.2
 | .bl _,_,_,_,h=>by simp only[Is] at h;exact h.2
 | .int _,_,_,_,h=>by simp only[Is] at h;exact h.2
 | .str _,_,_,_,h=>by simp only[Is] at h;exact h.2
 | .ty _,_,_,_,h=>by simp only[Is] at h;exact h.2
 | .exc _,_,_,_,h=>by simp only[Is] at h;exact h.2
 | .exf _ _,_,_,_,h=>by simp only[Is] at h;exact h.2
 | .clo L l,v,fp,hp,h=>by simp only[Is] at h;obtain⟨u,x,d,c,a⟩:=h;exact Is.pure l x fp (by simpa only[Ya] using hp) a
 | .tup l,v,fp,hp,h=>by simp only[Is] at h;obtain⟨p,b,e,_,a⟩:=h;exact Iss.pure l b fp (by simpa only[Ya] using hp) a
 | .lst l,v,fp,hp,h=>by simp[Ya] at hp
 | .cst l,v,fp,hp,h=>by simp only[Is] at h;obtain⟨p,b,e,_,a⟩:=h;exact Iss.pure l b fp (by simpa only[Ya] using hp) a
 | .dK ks l,v,fp,hp,h=>by simp[Ya] at hp
 | .dT ks l,v,fp,hp,h=>by simp[Ya] at hp
theorem Iss.pure{H:Hp}:∀(l:List PV)(xs:List V)(fp:List aL),ZO l=aC->Iss K H l xs fp->fp=[]
 | [],_,_,_,h=>by simp only[Iss] at h;exact h.2
 | l::ls,xs,fp,hp,h=>by simp only[Iss] at h;simp only[ZO,ba] at hp;obtain⟨x,r,f1,f2,e,b,a,rfl⟩:=h;rw[Is.pure l x f1 hp.1 b,Iss.pure ls r f2 hp.2 a];rfl
end
section
variable {H H':Hp}
theorem Iss.len:∀{l:List PV}{xs:List V}{fp:List aL},Iss K H l xs fp->xs.length=l.length
 | [],xs,fp,h=>by simp only[Iss] at h;rw[h.1];rfl
 | l::ls,xs,fp,h=>by simp only[Iss] at h;obtain⟨x,r,f1,f2,rfl,_,a,_⟩:=h;rw[cH,cH,a.len]
theorem Iss.get:∀{l:List PV}{xs:List V}{fp:List aL}{i:Nat}{a:PV},Iss K H l xs fp->l[i]?=aA a->∃x f1,xs[i]?=aA x/\Is K H a x f1/\∀p∈f1,p∈fp
 | [],xs,fp,i,a,h,e=>by simp at e
 | l::ls,xs,fp,0,a,h,e=>by simp only[Iss] at h;obtain⟨x,r,f1,f2,rfl,d,_,rfl⟩:=h;simp at e;subst e;exact⟨x,f1,rfl,d,λp b=>bg _ b⟩
 | l::ls,xs,fp,i+1,a,h,e=>by simp only[Iss] at h;obtain⟨x,r,f1,f2,rfl,_,c,rfl⟩:=h;obtain⟨y,g,k,f,j⟩:=c.get (i:=i) (a:=a) (by simpa using e);exact⟨y,g,by simpa using k,f,λp b=>aj _ (j p b)⟩
theorem Iss.get'{l:List PV}{f:List V}{d:List aL}{i:Nat}{x:V}(h:Iss K H l f d)(e:f[i]?=aA x):∃a f1,l[i]?=aA a/\Is K H a x f1/\∀p∈f1,p∈d:=by
 have c:i<l.length:=by rw[<-h.len];exact(aQ.mp e).1
 obtain⟨y,f1,b,g,j⟩:=h.get (aG c);rw[e] at b;cases b;exact⟨_,f1,aG c,g,j⟩
theorem Iss.nil:Iss K H [] [] []:=by simp[Iss]
theorem Iss.cons{l:PV}{ls:List PV}{x:V}{a:List V}{f1 f2:List aL}(b:Is K H l x f1)(c:Iss K H ls a f2):Iss K H (l::ls) (x::a) (f1++f2):=by exact⟨x,a,f1,f2,rfl,b,c,rfl⟩
theorem Iss.inv{l:PV}{ls:List PV}{b:List V}{a:List aL}(h:Iss K H (l::ls) b a):∃x r f1 f2,b=x::r/\Is K H l x f1/\Iss K H ls r f2/\a=f1++f2:=by simpa only[Iss] using h
theorem Iss.append:∀{l m:List PV}{xs ys:List V}{f1 f2:List aL},Iss K H l xs f1->Iss K H m ys f2->Iss K H (l++m) (xs++ys) (f1++f2)
 | [],m,xs,ys,f1,f2,h,h'=>by simp only[Iss] at h;rw[h.1,h.2];exact h'
 | l::ls,m,xs,ys,f1,f2,h,h'=>by obtain⟨x,r,c,d,rfl,a,b,rfl⟩:=h.inv;rw[gO];exact Iss.cons a (b.append h')
theorem Iss.one{l:PV}{x:V}{f:List aL}(h:Is K H l x f):Iss K H [l] [x] f:=by
 have:=Iss.cons h (Iss.nil)
 rwa [eK] at this
theorem Iss.take:∀{l:List PV}{xs:List V}{fp:List aL}(n:Nat),Iss K H l xs fp->∃f1,Iss K H (l.take n) (xs.take n) f1/\∀p∈f1,p∈fp
 | l,xs,fp,0,h=>⟨[],by rw[jT,jT];exact Iss.nil,λp c=>by simp at c⟩
 | [],xs,fp,n+1,h=>by simp only[Iss] at h;rw[h.1];exact⟨[],by rw[kr,kr];exact Iss.nil,λp c=>by simp at c⟩
 | l::ls,xs,fp,n+1,h=>by
  obtain⟨x,r,f1,f2,rfl,e,d,rfl⟩:=h.inv;obtain⟨f,a,b⟩:=d.take n;refine⟨f1++f,Iss.cons e a,λp c=>?_⟩;rcases b6.mp c with h | h
  ·exact bg _ h
  ·exact aj _ (b p h)
theorem Iss.drop:∀{l:List PV}{xs:List V}{fp:List aL}(n:Nat),Iss K H l xs fp->∃f1,Iss K H (l.drop n) (xs.drop n) f1/\∀p∈f1,p∈fp
 | l,xs,fp,0,h=>⟨fp,h,λp c=>c⟩
 | [],xs,fp,n+1,h=>by simp only[Iss] at h;rw[h.1];exact⟨[],by rw[ku,ku];exact Iss.nil,λp c=>by simp at c⟩
 | l::ls,xs,fp,n+1,h=>by obtain⟨x,r,f1,f2,rfl,f,d,rfl⟩:=h.inv;obtain⟨e,a,b⟩:=d.drop n;exact⟨e,a,λp c=>aj _ (b p c)⟩
theorem Iss.setP:∀{l:List PV}{xs:List V}{a:PV}{x:V}(i:Nat),ZO l=aC->Ya a=aC->Iss K H l xs []->Is K H a x []->Iss K H (l.set i a) (xs.set i x) []
 | [],xs,a,x,i,_,_,h,_=>by simp only[Iss] at h;rw[h.1];simp only[List.set_nil];exact Iss.nil
 | l::ls,xs,a,x,0,hp,_,h,ha=>by simp only[ZO,ba] at hp;obtain⟨y,r,f1,f2,rfl,_,b,e⟩:=h.inv;have c:=Iss.pure _ _ _ hp.2 b;subst c;exact Iss.cons (f1:=[]) ha b
 | l::ls,xs,a,x,i+1,hp,hq,h,ha=>by simp only[ZO,ba] at hp;obtain⟨y,r,f1,f2,rfl,d,b,e⟩:=h.inv;have f:=Is.pure _ _ _ hp.1 d;have c:=Iss.pure _ _ _ hp.2 b;subst f c;exact Iss.cons (f1:=[]) d (Iss.setP i hp.2 hq b ha)
theorem Is.int_inv{i:Int}{v:V}{a:List aL}(h:Is K H (.int i) v a):v = .int i/\a=[]:=by simpa only[Is] using h
theorem Is.int(i:Int):Is K H (.int i) (.int i) []:=by simp[Is]
theorem Is.bl(i:Bool):Is K H (.bl i) (.bl i) []:=by simp[Is]
theorem Is.non:Is K H .non .non []:=by simp[Is]
theorem Is.str(x:aq):Is K H (.str x) (.str x) []:=by simp[Is]
theorem Is.ty(n:String):Is K H (.ty n) (.ty n) []:=by simp[Is]
theorem Is.bl_inv{i:Bool}{v:V}{a:List aL}(h:Is K H (.bl i) v a):v = .bl i/\a=[]:=by simpa only[Is] using h
theorem Is.str_inv{i:aq}{v:V}{a:List aL}(h:Is K H (.str i) v a):v = .str i/\a=[]:=by simpa only[Is] using h
theorem Is.non_inv{v:V}{a:List aL}(h:Is K H .non v a):v = .non/\a=[]:=by simpa only[Is] using h
theorem Is.ty_inv{n:String}{v:V}{a:List aL}(h:Is K H (.ty n) v a):v = .ty n/\a=[]:=by simpa only[Is] using h
theorem Is.tup_inv{l:List PV}{v:V}{a:List aL}(h:Is K H (.tup l) v a):∃p xs,v = .ref p/\H p=aA (.tup xs)/\Iss K H l xs a:=by simpa only[Is] using h
theorem Is.tup{l:List PV}{p:aL}{a:List V}{b:List aL}(h:H p=aA (.tup a))(c:Iss K H l a b):Is K H (.tup l) (.ref p) b:=by simp only[Is];exact⟨p,a,rfl,h,c⟩
theorem Is.lst_inv{l:List PV}{v:V}{a:List aL}(h:Is K H (.lst l) v a):∃p xs fq,v = .ref p/\H p=aA (.lst xs)/\Iss K H l xs fq/\a=p::fq:=by simpa only[Is] using h
theorem Is.lst{l:List PV}{p:aL}{b:List V}{a:List aL}(h:H p=aA (.lst b))(c:Iss K H l b a):Is K H (.lst l) (.ref p) (p::a):=by simp only[Is];exact⟨p,b,a,rfl,h,c,rfl⟩
theorem Is.cst_inv{l:List PV}{v:V}{a:List aL}(h:Is K H (.cst l) v a):∃p xs,v = .ref p/\CsK K H p xs/\Iss K H l xs a:=by simpa only[Is] using h
theorem Is.cst{l:List PV}{p:aL}{a:List V}{b:List aL}(h:CsK K H p a)(c:Iss K H l a b):Is K H (.cst l) (.ref p) b:=by simp only[Is];exact⟨p,a,rfl,h,c⟩
theorem Is.dT_inv{a:List (List Of)}{l:List PV}{v:V}{b:List aL}(h:Is K H (.dT a l) v b):∃p l6 fq,v = .ref p/\Rd H p (.dT l6)/\l6.map (·.1)=a/\Iss K H l (l6.map (·.2)) fq/\b=p::fq:=by simpa only[Is] using h
theorem Is.dK_inv{a:List Of}{l:List PV}{v:V}{b:List aL}(h:Is K H (.dK a l) v b):∃p l6 fq,v = .ref p/\Rd H p (.dK l6)/\l6.map (·.1)=a/\Iss K H l (l6.map (·.2)) fq/\b=p::fq:=by simpa only[Is] using h
end
abbrev iL(l:List Int):List PV:=l.map PV.int
theorem Z4(l:List Int):ZO (iL l)=aC:=by rw[XH,ar];intro x a;obtain⟨i,_,rfl⟩:=bc.mp a;rfl
theorem Iss.iL{H:Hp}:∀{l:List Int}{xs:List V}{fp:List aL},Iss K H (VL.iL l) xs fp->xs=l.map V.int/\fp=[]
 | [],xs,fp,h=>by simpa only[VL.iL,List.map_nil,Iss] using h
 | i::l,xs,fp,h=>by obtain⟨x,r,f1,f2,rfl,b,a,rfl⟩:=Iss.inv (show Iss K H (PV.int i::VL.iL l) xs fp from h);obtain⟨rfl,rfl⟩:=b.int_inv;obtain⟨rfl,rfl⟩:=a.iL;exact⟨rfl,rfl⟩
theorem Iss.ofInts{H:Hp}:∀(l:List Int),Iss K H (VL.iL l) (l.map V.int) []
 | []=>Iss.nil
 | i::l=>Iss.cons (f1:=[]) (Is.int i) (Iss.ofInts l)
end VL
namespace VL
open PySem PySem.Spec PyProof.Rows L2
variable {K:aE}
abbrev R4:=L2.St
abbrev ZF:=List (Option PV)
abbrev XE:=ZF->Option PV
structure EnvIs(K:aE)(Rm:aL->Prop)(H:Hp)(s:ZF)(σ:R4):Prop where
 is:∀(i:Nat) l,s[i]?=aA (aA l)->∃v fp,σ[i]?=aA (aA v)/\Is K H l v fp/\∀p∈fp,¬Rm p
theorem EnvIs.mono{d:aL->Prop}{H g:Hp}{s:ZF}{f:R4}(h:EnvIs K d H s f)(e:Same H g):EnvIs K d g s f:=⟨λi l q=>by
 obtain⟨v,j,a,b,c⟩:=h.is i l q;exact⟨v,j,a,b.mono e,c⟩⟩
theorem EnvIs.free{f:aL->Prop}{H:Hp}{s:ZF}{d:R4}(h:EnvIs K f H s d):EnvIs K (λ_=>False) H s d:=⟨λi l q=>by
 obtain⟨v,e,a,b,c⟩:=h.is i l q;exact⟨v,e,a,b,λ_ _ z=>z⟩⟩
theorem Same.mut{H a:Hp}(e:Same H a){p:aL}(h:U8 (H p)):U8 (a p):=by
 cases q:H p with
 | none=>rw[q] at h;exact h.elim
 | some o=>rw[e p o q,<-q];exact h
theorem Xm{H:Hp}{p:aL}(h:U8 (H p)):H p≠none:=λz=>by rw[z] at h;exact h
noncomputable def tF(K:aE)(f:XE):TE:=λσ H Q=>∃(Rm:aL->Prop) (s:ZF) (l:PV),(∀p,Rm p->U8 (H p))/\EnvIs K Rm H s σ/\f s=aA l/\∀v H' fp,Same H H'->Is K H' l v fp->(∀p∈fp,¬Rm p)->Q v H'
noncomputable def tM(K:aE)(f:XE):TE:=λσ H Q=>∃(s:ZF) (l:PV),EnvIs K (λ_=>False) H s σ/\f s=aA l/\∀v H' fp,Same H H'->Is K H' l v fp->fp.Nodup->(∀p∈fp,H p=none/\U8 (H' p))->Q v H'
noncomputable def VE(X:Cx)(e:az)(f:XE):Prop:=PE X e (tF X.K f)
noncomputable def VM(X:Cx)(e:az)(f:XE):Prop:=PE X e (tM X.K f)
section
variable {X:Cx} {e:az} {f g:XE} {t t':TE}
theorem PE.imp(h:PE X e t)(i:∀a H Q,t' a H Q->t a H Q):PE X e t':=λb s a H Q I q=>h b s a H Q I (i a H Q q)
theorem VM.ve(h:VM X e f):VE X e f:=PE.imp h λm H Q ⟨j,s,l,c,env,e,k⟩=>
 ⟨s,l,env.free,e,λv b d a i _ n=>k v b d a i λp g z=>Xm (c p z) (n p g).1⟩
noncomputable def eP(f:XE):XE:=λs=>(f s).bind λl=>if Ya l=aC then aA l else none
theorem Dd{s:ZF}{l:PV}(h:eP f s=aA l):f s=aA l/\Ya l=aC:=by
 unfold eP at h
 cases q:f s with
 | none=>rw[q] at h;cases h
 | some a=>
  rw[q] at h;simp only[aY] at h;split at h
  ·cases h;exact⟨rfl,by assumption⟩
  ·cases h
theorem VE.pure(h:VE X e f):VM X e (eP f):=PE.imp h λm H Q ⟨s,l,env,e,k⟩=>by
 obtain⟨c,d⟩:=Dd e;refine⟨λ_=>False,s,l,λ_ z=>z.elim,env,c,λv b g a i n=>?_⟩;have:=Is.pure l v g d i;subst this;exact k v b [] a i cg λp j=>by simp at j
end
noncomputable def Za(i:Nat):XE:=λs=>(s[i]?).join
noncomputable def eC(l:PV):XE:=λ_=>aA l
theorem OQ{i:Nat}{s:ZF}{l:PV}(h:Za i s=aA l):s[i]?=aA (aA l):=by
 unfold Za at h
 cases q:s[i]? with
 | none=>rw[q] at h;cases h
 | some o=>rw[q] at h;cases o with
  | none=>cases h
  | some a=>cases h;rfl
section
variable {X:Cx} {pos:fS}
theorem Zba{e:az}{i:Nat}(h:PE X e (Nh i)):VE X e (Za i):=PE.imp h λj H Q ⟨f,s,l,g,env,e,k⟩=>by obtain⟨v,d,a,b,c⟩:=env.is i l (OQ e);exact⟨v,a,k v H d (Same.refl H) b c⟩
theorem De{e:az}{v:V}{l:PV}(h:PE X e (tC v))(b:∀H,Is X.K H l v []):VE X e (eC l):=PE.imp h λg H Q ⟨c,s,d,f,env,e,k⟩=>by
 cases e;exact k v H [] (Same.refl H) (b H) λp a=>by simp at a
theorem Ze{i j}:VE X (.Constant (.int i) j pos) (eC (.int i)):=De Bq λ_=>Is.int i
theorem Ta{i j}:VE X (.Constant (.bool i) j pos) (eC (.bl i)):=De Zaf λ_=>Is.bl i
theorem QR{j}:VE X (.Constant .none j pos) (eC .non):=De Br λ_=>Is.non
end
noncomputable def RB(K:aE)(r:R2)(g:PV->PV->Option PV):Prop:=∀(H:Hp)(x y:V)(a b l:PV)(fa fb:List aL),Is K H a x fa->Is K H b y fb->g a b=aA l->∀Q:VK,
 (∀v H' fp,Same H H'->Is K H' l v fp->(∀p∈fp,p∈fa\/p∈fb\/H p=none)->Q v H')->r x y H Q
noncomputable def Zk(g:PV->PV->Option PV)(a b:XE):XE:=λs=>(a s).bind λx=>(b s).bind λy=>g x y
theorem QS{g:PV->PV->Option PV}{a b:XE}{s:ZF}{l:PV}(h:Zk g a b s=aA l):∃x y,a s=aA x/\b s=aA y/\g x y=aA l:=by
 unfold Zk at h
 cases q:a s with
 | none=>rw[q] at h;cases h
 | some x=>cases q2:b s with
  | none=>rw[q,q2] at h;cases h
  | some y=>rw[q,q2] at h;exact⟨x,y,rfl,rfl,h⟩
section
variable {X:Cx} {a b:az} {fa fb:XE} {pos:fS}
theorem Jq{r:R2}{g:PV->PV->Option PV}(m:RB K r g):∀c H Q,tF K (Zk g fa fb) c H Q->A8 r (tF K fa) (tF K fb) c H Q:=λc H Q ⟨i,s,l,b,env,e,k⟩=>by
 obtain⟨d,f,t,j,e⟩:=QS e;refine⟨i,s,d,b,env,t,λx F f1 s1 D u=>⟨i,s,f,λp a=>Same.mut s1 (b p a),env.mono s1,j,λy B f2 s2 n C=>?_⟩⟩;refine m B x y d f l f1 f2 (D.mono s2) n e Q λv o A E q w=>k v o A (s1.trans (s2.trans E)) q λp a z=>?_;rcases w p a with h | h | h
 ·exact u p h z
 ·exact C p h z
 ·exact Xm (Same.mut (s1.trans s2) (b p z)) h
theorem WL{op:Operator}{r:R2}{g:PV->PV->Option PV}(c:TN X (dU op) r)(e:RB X.K r g)(f:VE X a fa)(d:VE X b fb):VE X (.BinOp a op b pos) (Zk g fa fb):=
 PE.imp (Gk c f d) (Jq e)
theorem Nu{op:kU}{r:R2}{g:PV->PV->Option PV}(d:TN X (fK op) r)(f:RB X.K r g)(h:VE X a fa)(e:VE X b fb)(c:c9 op b=aB):VE X (.Compare a [op] [b] pos) (Zk g fa fb):=
 PE.imp (EJ d h e c) (Jq f)
theorem Zbb{r:R2}{g:PV->PV->Option PV}(d:IxR X r)(f:RB X.K r g)(h:VE X a fa)(e:VE X b fb)(c:Nl b):VE X (.Subscript a b pos) (Zk g fa fb):=
 PE.imp (MN d h e c) (Jq f)
end
noncomputable def gI(g:Int->Int->Int):PV->PV->Option PV
 | .int i,.int j=>aA (.int (g i j))
 | _,_=>none
noncomputable def gB(g:Int->Int->Bool):PV->PV->Option PV
 | .int i,.int j=>aA (.bl (g i j))
 | _,_=>none
noncomputable def IK(C:Int->Int->Prop)[∀i j,Decidable (C i j)](g:Int->Int->Int):PV->PV->Option PV
 | .int i,.int j=>if C i j then aA (.int (g i j)) else none
 | _,_=>none
theorem Dg{g:Int->Int->Int}{a b l:PV}(h:gI g a b=aA l):∃i j,a = .int i/\b = .int j/\l = .int (g i j):=by
 unfold gI at h;split at h
 ·cases h;exact⟨_,_,rfl,rfl,rfl⟩
 ·cases h
theorem Dh{g:Int->Int->Bool}{a b l:PV}(h:gB g a b=aA l):∃i j,a = .int i/\b = .int j/\l = .bl (g i j):=by
 unfold gB at h;split at h
 ·cases h;exact⟨_,_,rfl,rfl,rfl⟩
 ·cases h
theorem GB{C:Int->Int->Prop}[∀i j,Decidable (C i j)]{g:Int->Int->Int}{a b l:PV}(h:IK C g a b=aA l):∃i j,a = .int i/\b = .int j/\C i j/\l = .int (g i j):=by
 unfold IK at h;split at h
 ·split at h
  ·cases h;exact⟨_,_,rfl,rfl,by assumption,rfl⟩
  ·cases h
 ·cases h
theorem Zbc(g:Int->Int->Int):RB K (CM λi j=>.int (g i j)) (gI g):=λH x y a b l h fb f d e Q k=>by obtain⟨i,j,rfl,rfl,rfl⟩:=Dg e;exact⟨i,j,f.int_inv.1,d.int_inv.1,k _ H [] (Same.refl H) (Is.int _) λp c=>by simp at c⟩
theorem Di(g:Int->Int->Bool):RB K (CM λi j=>.bl (g i j)) (gB g):=λH x y a b l h fb f d e Q k=>by obtain⟨i,j,rfl,rfl,rfl⟩:=Dh e;exact⟨i,j,f.int_inv.1,d.int_inv.1,k _ H [] (Same.refl H) (Is.bl _) λp c=>by simp at c⟩
theorem RP(C:Int->Int->Prop)[∀i j,Decidable (C i j)](g:Int->Int->Int):RB K (rI C λi j=>.int (g i j)) (IK C g):=λH x y a b l m fb d h e Q k=>by obtain⟨i,j,rfl,rfl,c,rfl⟩:=GB e;exact⟨i,j,d.int_inv.1,h.int_inv.1,c,k _ H [] (Same.refl H) (Is.int _) λp f=>by simp at f⟩
instance (i j:Int):Decidable (CMul i j):=by unfold CMul;infer_instance
instance (i j:Int):Decidable (Gm i j):=by unfold Gm;infer_instance
instance (i j:Int):Decidable (CN i j):=by unfold CN;infer_instance
instance (i j:Int):Decidable (Gn i j):=by unfold Gn;infer_instance
abbrev Ym:=gI (· + ·)
abbrev Wb:=gI (· - ·)
abbrev R5:=IK CMul (· * ·)
abbrev QT:=IK Gm (· / ·)
abbrev Wc:=IK (λ_ j=>0<j) (· % ·)
abbrev Nv:=IK Gn (λi j=>i^j.toNat)
abbrev MA:=gB (λi j=>decide (i<j))
abbrev L5:=gB (λi j=>decide (j<i))
section
variable {X:Cx} {a b:az} {fa fb:XE} {pos:fS}
theorem Z9(d:VE X a fa)(c:VE X b fb):VE X (.BinOp a .Add b pos) (Zk Ym fa fb):=WL BL (Zbc _) d c
theorem YS(d:VE X a fa)(c:VE X b fb):VE X (.BinOp a .Sub b pos) (Zk Wb fa fb):=WL BM (Zbc _) d c
theorem Sx(d:VE X a fa)(c:VE X b fb):VE X (.BinOp a .Mult b pos) (Zk R5 fa fb):=WL BN (RP _ _) d c
theorem WZ(d:VE X a fa)(c:VE X b fb):VE X (.BinOp a .FloorDiv b pos) (Zk QT fa fb):=WL EH (RP _ _) d c
theorem YT(d:VE X a fa)(c:VE X b fb):VE X (.BinOp a .Mod b pos) (Zk Wc fa fb):=WL BO (RP _ _) d c
theorem Nw(d:VE X a fa)(c:VE X b fb):VE X (.BinOp a .Pow b pos) (Zk Nv fa fb):=WL BP (RP _ _) d c
theorem Zbd(d:VE X a fa)(c:VE X b fb):VE X (.Compare a [.Lt] [b] pos) (Zk MA fa fb):=Nu CO (Di _) d c (Uq _)
theorem GC(d:VE X a fa)(c:VE X b fb):VE X (.Compare a [.Gt] [b] pos) (Zk L5 fa fb):=Nu CP (Di _) d c (Uq _)
end
noncomputable def ZN:PV->PV->Option PV
 | .lst l,.int i=>RN l i
 | .cst l,.int i=>RN l i
 | .tup l,.int i=>RN l i
 | .str z,.int i=>if z.length<=sizeLine then(RN z.cps.toList i).map λc=>.str ⟨#[c]⟩ else none
 | _,_=>none
theorem L6{l:List PV}{c:List V}{H:Hp}{b:List aL}{i:Int}{a:PV}(h:Iss K H l c b)(e:RN l i=aA a):∃x f1,RN c i=aA x/\Is K H a x f1/\∀p∈f1,p∈b:=by
 unfold RN at e ⊢;rw[h.len]
 cases q:MM l.length i with
 | none=>rw[q] at e;cases e
 | some j=>rw[q] at e;exact h.get e
theorem Zbe:RB K (rIx K) ZN:=λH x y a b l s fb n o e Q k=>by
 unfold ZN at e;split at e
 ·obtain⟨p,m,t,rfl,d,f,rfl⟩:=n.lst_inv;obtain⟨z,f1,i,h,j⟩:=L6 f e;exact .inl ⟨p,m,_,z,rfl,o.int_inv.1,SqL.of d,i,k z H f1 (Same.refl H) h λq g=>.inl (aT _ (j q g))⟩
 ·obtain⟨p,m,rfl,d,f⟩:=n.cst_inv;obtain⟨z,f1,i,h,j⟩:=L6 f e;exact .inl ⟨p,m,_,z,rfl,o.int_inv.1,d.sq,i,k z H f1 (Same.refl H) h λq g=>.inl (j q g)⟩
 ·obtain⟨p,m,rfl,d,f⟩:=n.tup_inv;obtain⟨z,f1,i,h,j⟩:=L6 f e;exact .inr (.inl ⟨p,m,_,z,rfl,o.int_inv.1,SqT.of d,i,k z H f1 (Same.refl H) h λq g=>.inl (j q g)⟩)
 ·split at e
  ·cases q:RN _ _ with
   | none=>rw[q] at e;cases e
   | some c=>
    rw[q] at e;cases e;exact .inr (.inr ⟨_,_,c,n.str_inv.1,o.int_inv.1,by assumption,q,k _ H [] (Same.refl H) (Is.str _) λp d=>by simp at d⟩)
  ·cases e
 ·cases e
section
variable {X:Cx} {a b:az} {fa fb:XE} {pos:fS}
theorem Zj(e:VE X a fa)(c:VE X b fb)(d:Nl b:=by exact λ_ _=>rfl):VE X (.Subscript a b pos) (Zk ZN fa fb):=Zbb BW Zbe e c d
end
abbrev XT:=ZF->Option Bool
noncomputable def MU(K:aE)(f:XT):TT:=λσ H Q=>∃(Rm:aL->Prop) (s:ZF) (c:Bool),(∀p,Rm p->U8 (H p))/\EnvIs K Rm H s σ/\f s=aA c/\∀H',Same H H'->Q c H'
noncomputable def VT(X:Cx)(e:az)(f:XT):Prop:=PT X e (MU X.K f)
noncomputable def VW(X:Cx)(e:az)(f:XT):Prop:=PW X e (MU X.K f)
section
variable {X:Cx} {e:az} {f:XT}
theorem PT.imp{t t':TT}(h:PT X e t)(i:∀a H Q,t' a H Q->t a H Q):PT X e t':=λb s a H Q I q=>h b s a H Q I (i a H Q q)
theorem PW.imp{t t':TT}(h:PW X e t)(i:∀b H Q,t' b H Q->t b H Q):PW X e t':=λa c s b H Q I q=>h a c s b H Q I (i b H Q q)
theorem VW.vt(h:VW X e f):VT X e f:=PW.pt h
end
noncomputable def xB(f:XE):XT:=λs=>match f s with | some (.bl c)=>aA c | _=>none
theorem UP{f:XE}{s:ZF}{c:Bool}(h:xB f s=aA c):f s=aA (.bl c):=by
 unfold xB at h;split at h
 ·cases h;assumption
 ·cases h
section
variable {X:Cx} {a b c:az} {Yg:List az} {fa fb:XE} {ga gb:XT} {pos:fS}
theorem Ut(h:VE X a fa)(d:∀whole,kd a X.env whole=(do let v <-whole;standAt a.pos;holding [v] (truthy v)):=by intro _;rfl):VT X a (xB fa):=
 PT.imp (Bw h d) λl H Q ⟨j,s,c,g,env,e,k⟩=>⟨j,s,.bl c,g,env,UP e,λv f m b i n=>⟨c,i.bl_inv.1,k f b⟩⟩
theorem GD:∀a H Q,MU K (xB fa) a H Q->Jj (tF K fa) a H Q:=λa H Q ⟨b,s,c,d,env,e,k⟩=>⟨b,s,.bl c,d,env,UP e,λv g h f i n=>⟨c,i.bl_inv.1,k g f⟩⟩
theorem L7{t t':TE}(i:∀a H Q,t' a H Q->t a H Q):∀a H Q,Jj t' a H Q->Jj t a H Q:=λa H Q h=>i a H _ h
theorem Sy{op:kU}{r:R2}{g:PV->PV->Option PV}(e:TN X (fK op) r)(i:RB X.K r g)(j:VE X a fa)(f:VE X b fb)(d:c9 op b=aB):VT X (.Compare a [op] [b] pos) (xB (Zk g fa fb)):=
 PT.imp (EK e j f d) λc H Q h=>L7 (Jq i) c H Q (GD c H Q h)
theorem RQ(d:VE X a fa)(c:VE X b fb):VT X (.Compare a [.Lt] [b] pos) (xB (Zk MA fa fb)):=Sy CO (Di _) d c (Uq _)
theorem CU(d:VE X a fa)(c:VE X b fb):VT X (.Compare a [.Gt] [b] pos) (xB (Zk L5 fa fb)):=Sy CP (Di _) d c (Uq _)
noncomputable def MV(a b:XT):XT:=λs=>(a s).bind λc=>if c=aC then b s else aA aB
noncomputable def IL(a b:XT):XT:=λs=>(a s).bind λc=>if c=aC then aA aC else b s
noncomputable def Nx(a:XT):XT:=λs=>(a s).map not
theorem Dj:∀a H Q,MU K (MV ga gb) a H Q->Zah (MU K ga) (MU K gb) a H Q:=λa H Q ⟨b,s,c,f,env,e,k⟩=>by
 unfold MV at e
 cases q:ga s with
 | none=>rw[q] at e;cases e
 | some d=>
  rw[q] at e;refine⟨b,s,d,f,env,q,λi s1=>?_⟩
  cases d with
  | true=>
   exact⟨b,s,c,λp g=>Same.mut s1 (f p g),env.mono s1,e,λh s2=>k h (s1.trans s2)⟩
  | false=>
   cases e;exact k i s1
theorem B7:∀a H Q,MU K (IL ga gb) a H Q->tOr (MU K ga) (MU K gb) a H Q:=λa H Q ⟨b,s,c,f,env,e,k⟩=>by
 unfold IL at e
 cases q:ga s with
 | none=>rw[q] at e;cases e
 | some d=>
  rw[q] at e;refine⟨b,s,d,f,env,q,λi s1=>?_⟩
  cases d with
  | true=>
   cases e;exact k i s1
  | false=>
   exact⟨b,s,c,λp g=>Same.mut s1 (f p g),env.mono s1,e,λh s2=>k h (s1.trans s2)⟩
theorem Jr(b:VT X a ga):VW X (.BoolOp .And [a] pos) ga:=ED b
theorem Sz(b:VT X a ga):VW X (.BoolOp .Or [a] pos) ga:=Bx b
theorem GF(d:VT X a ga)(c:VW X (.BoolOp .And (b::Yg) pos) gb):VW X (.BoolOp .And (a::b::Yg) pos) (MV ga gb):=PW.imp (By d c) Dj
theorem QU(d:VT X a ga)(c:VW X (.BoolOp .Or (b::Yg) pos) gb):VW X (.BoolOp .Or (a::b::Yg) pos) (IL ga gb):=PW.imp (Zai d c) B7
theorem QV(g:VT X a ga):VT X (.UnaryOp .Not a pos) (Nx ga):=PT.imp (Bz g) λh H Q ⟨b,s,c,f,env,e,k⟩=>by
 unfold Nx at e
 cases q:ga s with
 | none=>rw[q] at e;cases e
 | some d=>rw[q] at e;cases e;exact⟨b,s,d,f,env,q,k⟩
end
section
variable {X:Cx} {a b c:az} {Yg:List az} {fa fb:XE} {gc:XT} {pos:fS}
noncomputable def L8(a b:XE):XE:=λs=>(xB a s).bind λc=>if c=aC then b s else aA (.bl aB)
noncomputable def eOr(a b:XE):XE:=λs=>(xB a s).bind λc=>if c=aC then aA (.bl aC) else b s
noncomputable def Dk(a:XE):XE:=λs=>(xB a s).map λc=>.bl !c
noncomputable def IM(c:XT)(a b:XE):XE:=λs=>(c s).bind λk=>if k=aC then a s else b s
theorem L9{op}(h:VE X a fa):VE X (.BoolOp op [a] pos) fa:=BA h
theorem Ka(i:VE X a fa)(u:VE X (.BoolOp .And (b::Yg) pos) fb):VE X (.BoolOp .And (a::b::Yg) pos) (L8 fa fb):=PE.imp (BB i u) λx H Q ⟨h,s,l,g,env,e,k⟩=>by
 unfold L8 at e
 cases q:xB fa s with
 | none=>rw[q] at e;cases e
 | some d=>
  rw[q] at e;refine⟨h,s,.bl d,g,env,UP q,λv j y s1 t _=>⟨d,t.bl_inv.1,?_⟩⟩
  cases d with
  | true=>
   exact⟨h,s,l,λp f=>Same.mut s1 (g p f),env.mono s1,e,λw n c s2 m o=>k w n c (s1.trans s2) m o⟩
  | false=>
   cases e;exact k _ j [] s1 (Is.bl aB) λp f=>by simp at f
theorem Zbf(i:VE X a fa)(u:VE X (.BoolOp .Or (b::Yg) pos) fb):VE X (.BoolOp .Or (a::b::Yg) pos) (eOr fa fb):=PE.imp (Zal i u) λx H Q ⟨h,s,l,g,env,e,k⟩=>by
 unfold eOr at e
 cases q:xB fa s with
 | none=>rw[q] at e;cases e
 | some d=>
  rw[q] at e;refine⟨h,s,.bl d,g,env,UP q,λv j y s1 t _=>⟨d,t.bl_inv.1,?_⟩⟩
  cases d with
  | true=>
   simp only[aY,if_true] at e;cases e;rw[lQ rfl];exact k _ j [] s1 (Is.bl aC) λp f=>by simp at f
  | false=>
   simp only[aY,Bool.false_eq_true,if_false] at e;rw[lU bO];exact⟨h,s,l,λp f=>Same.mut s1 (g p f),env.mono s1,e,λw n c s2 m o=>k w n c (s1.trans s2) m o⟩
theorem B8(b:VE X a fa):VE X (.UnaryOp .Not a pos) (Dk fa):=PE.imp (BC b) λj H Q ⟨g,s,l,f,env,e,k⟩=>by
 unfold Dk at e
 cases q:xB fa s with
 | none=>rw[q] at e;cases e
 | some d=>
  rw[q] at e;cases e;exact⟨g,s,.bl d,f,env,UP q,λv c m s1 h _=>⟨d,h.bl_inv.1,k _ c [] s1 (Is.bl _) λp i=>by simp at i⟩⟩
theorem MW(u:VT X c gc)(t:VE X a fa)(v:VE X b fb):VE X (.IfExp c a b pos) (IM gc fa fb):=PE.imp (Gg u t v) λx H Q ⟨i,s,l,h,env,e,k⟩=>by
 unfold IM at e
 cases q:gc s with
 | none=>rw[q] at e;cases e
 | some d=>
  rw[q] at e;refine⟨i,s,d,h,env,q,λw s1=>?_⟩
  cases d with
  | true=>
   exact⟨i,s,l,λp n=>Same.mut s1 (h p n),env.mono s1,e,λo j f s2 g m=>k o j f (s1.trans s2) g m⟩
  | false=>
   exact⟨i,s,l,λp n=>Same.mut s1 (h p n),env.mono s1,e,λo j f s2 g m=>k o j f (s1.trans s2) g m⟩
end
section
variable {X:Cx} {a b c:az} {fa fb fc:XE} {pos:fS}
noncomputable def GG(neg:Bool):PV->Option PV
 | .non=>aA (.bl !neg)
 | _=>aA (.bl neg)
noncomputable def Kb:PV->Bool
 | .non=>aC
 | _=>aB
theorem QW{H:Hp}{l:PV}{v:V}{g:List aL}(i:Is K H l v g):decide (v=V.non)=Kb l:=by
 cases l with
 | non=>rw[i.non_inv.1];rfl
 | bl b=>rw[i.bl_inv.1];rfl
 | int j=>rw[i.int_inv.1];rfl
 | str y=>rw[i.str_inv.1];rfl
 | ty n=>rw[i.ty_inv.1];rfl
 | exc C=>obtain⟨⟨e,o,x,C,rfl,_⟩,_⟩:=i;rfl
 | exf C l=>obtain⟨⟨e,o,x,C,q,k,u,z,rfl,_⟩,_⟩:=i;rfl
 | clo C l=>obtain⟨u,x,⟨f,fo,c,m,e,s,h,ct,rfl,_⟩,_⟩:=i;rfl
 | lst l=>obtain⟨p,a,d,rfl,_⟩:=i.lst_inv;rfl
 | cst l=>obtain⟨p,a,rfl,_⟩:=i.cst_inv;rfl
 | tup l=>obtain⟨p,a,rfl,_⟩:=i.tup_inv;rfl
 | dK ks l=>obtain⟨p,a,d,rfl,_⟩:=i.dK_inv;rfl
 | dT ks l=>obtain⟨p,a,d,rfl,_⟩:=i.dT_inv;rfl
noncomputable def Uu(neg:Bool)(a:XE):XE:=λs=>(a s).bind (GG neg)
theorem Js:∀a H Q,tF K (Uu aB fa) a H Q->Zag (tF K fa) a H Q:=λa H Q ⟨d,s,l,g,env,e,k⟩=>by
 unfold Uu at e
 cases q:fa s with
 | none=>rw[q] at e;cases e
 | some m=>
  rw[q] at e;simp only[aY] at e;refine⟨d,s,m,g,env,q,λv b h s1 f _=>?_⟩;show Q _ b;rw[QW f];have:l = .bl (Kb m):=by cases m<;>cases e<;>rfl
  subst this;exact k _ b [] s1 (Is.bl _) λp c=>by simp at c
theorem GH:∀a H Q,tF K (Uu aC fa) a H Q->CH (tF K fa) a H Q:=λa H Q ⟨d,s,l,g,env,e,k⟩=>by
 unfold Uu at e
 cases q:fa s with
 | none=>rw[q] at e;cases e
 | some m=>
  rw[q] at e;refine⟨d,s,m,g,env,q,λv b h s1 f _=>?_⟩;show Q _ b;rw[QW f];have:l = .bl (!Kb m):=by cases m<;>cases e<;>rfl
  subst this;exact k _ b [] s1 (Is.bl _) λp c=>by simp at c
theorem B9{j pos'}(b:VE X a fa):VE X (.Compare a [.Is] [.Constant .none j pos'] pos) (Uu aB fa):=PE.imp (Bt (Gd b)) Js
theorem CV:∀a H Q,MU K (xB fa) a H Q->tB (tF K fa) a H Q:=λa H Q ⟨b,s,c,d,env,e,k⟩=>⟨b,s,.bl c,d,env,UP e,λv g h f i n=>⟨c,i.bl_inv.1,k g f⟩⟩
theorem Jt{t t':TE}(i:∀a H Q,t' a H Q->t a H Q):∀a H Q,tB t' a H Q->tB t a H Q:=λa H Q h=>i a H _ h
theorem Kc{j pos'}(c:VE X a fa):VT X (.Compare a [.Is] [.Constant .none j pos'] pos) (xB (Uu aB fa)):=PT.imp (Ge (Gd c)) λb H Q h=>Jt Js b H Q (CV b H Q h)
theorem Ju{j pos'}(c:VE X a fa):VT X (.Compare a [.IsNot] [.Constant .none j pos'] pos) (xB (Uu aC fa)):=PT.imp (Ge (EC c)) λb H Q h=>Jt GH b H Q (CV b H Q h)
noncomputable def MX:PV->Option PV
 | .int i=>aA (.int (-i))
 | _=>none
noncomputable def GI(g:PV->Option PV)(a:XE):XE:=λs=>(a s).bind g
theorem Ny(b:VE X a fa):VE X (.UnaryOp .USub a pos) (GI MX fa):=PE.imp (Zau BQ b) λi H Q ⟨f,s,l,d,env,e,k⟩=>by
 unfold GI at e
 cases q:fa s with
 | none=>rw[q] at e;cases e
 | some m=>
  rw[q] at e;simp only[aY] at e;unfold MX at e;split at e
  ·cases e;exact⟨f,s,_,d,env,q,λv c j s1 g _=>⟨_,g.int_inv.1,k _ c [] s1 (Is.int _) λp h=>by simp at h⟩⟩
  ·cases e
end
end VL
namespace VL
open PySem PySem.Spec PyProof.Rows L2
variable {K:aE}
noncomputable def Om:List XE->ZF->Option (List PV)
 | [],_=>aA []
 | f::fs,s=>(f s).bind λx=>(Om fs s).map (x::·)
theorem QX{f:XE}{fs:List XE}{s:ZF}{ls:List PV}(h:Om (f::fs) s=aA ls):∃x r,f s=aA x/\Om fs s=aA r/\ls=x::r:=by
 unfold Om at h
 cases q:f s with
 | none=>rw[q] at h;cases h
 | some x=>cases q2:Om fs s with
  | none=>rw[q,q2] at h;cases h
  | some r=>rw[q,q2] at h;cases h;exact⟨x,r,rfl,rfl,rfl⟩
theorem UQ:∀{fs:List XE}{s:ZF}{ls:List PV},Om fs s=aA ls->ls.length=fs.length
 | [],_,_,h=>by cases h;rfl
 | f::fs,s,ls,h=>by obtain⟨x,r,_,a,rfl⟩:=QX h;rw[cH,cH,UQ a]
noncomputable def tFA(K:aE)(fs:List XE):TA:=λσ H Q=>∃(Rm:aL->Prop) (s:ZF) (ls:List PV),(∀p,Rm p->U8 (H p))/\EnvIs K Rm H s σ/\Om fs s=aA ls/\∀vs H' fp,Same H H'->Iss K H' ls vs fp->(∀p∈fp,¬Rm p)->Q vs H'
noncomputable def tMA(K:aE)(fs:List XE):TA:=λσ H Q=>∃(s:ZF) (ls:List PV),EnvIs K (λ_=>False) H s σ/\Om fs s=aA ls/\∀vs H' fp,Same H H'->Iss K H' ls vs fp->fp.Nodup->(∀p∈fp,H p=none/\U8 (H' p))->Q vs H'
noncomputable def VA(X:Cx)(es:List az)(fs:List XE):Prop:=PA X es (tFA X.K fs)
noncomputable def VMA(X:Cx)(es:List az)(fs:List XE):Prop:=PA X es (tMA X.K fs)
section
variable {X:Cx} {e:az} {es:List az} {f:XE} {fs:List XE} {pos:fS} {k:Nat}
theorem PA.imp{t t':TA}(h:PA X es t)(i:∀a H Q,t' a H Q->t a H Q):PA X es t':=λpos b s a H Q I q=>h pos b s a H Q I (i a H Q q)
theorem Aa:VA X [] []:=PA.imp Vb λd H Q ⟨b,s,ls,c,env,e,k⟩=>by
 cases e;exact k [] H [] (Same.refl H) Iss.nil λp a=>by simp at a
theorem UR(i:VE X e f)(g:VA X es fs)(n:aX (e::es) X.env=(aB,eval e X.env)::aX es X.env:=by rfl):VA X (e::es) (f::fs):=PA.imp (YY i g n) λy H Q ⟨c,s,ls,b,env,e,k⟩=>by
 obtain⟨j,d,q,o,rfl⟩:=QX e;refine⟨c,s,j,b,env,q,λx w f1 s1 v m=>⟨c,s,d,λp a=>Same.mut s1 (b p a),env.mono s1,o,λz t f2 s2 l u=>?_⟩⟩;refine k _ t (f1++f2) (s1.trans s2) (Iss.cons (v.mono s2) l) λp a=>?_;rcases b6.mp a with h | h
 ·exact m p h
 ·exact u p h
theorem VN:VMA X [] []:=PA.imp Vb λb H Q ⟨s,ls,env,e,k⟩=>by
 cases e;exact k [] H [] (Same.refl H) Iss.nil cg λp a=>by simp at a
theorem Vs(c:VM X e f)(n:VMA X es fs)(t:aX (e::es) X.env=(aB,eval e X.env)::aX es X.env:=by rfl):VMA X (e::es) (f::fs):=PA.imp (YY c n t) λC H Q ⟨s,ls,env,e,k⟩=>by
 obtain⟨o,i,v,u,rfl⟩:=QX e;refine⟨s,o,env,v,λx B f1 s1 y l d=>⟨s,i,env.mono s1,u,λD w f2 s2 q m g=>?_⟩⟩;refine k _ w (f1++f2) (s1.trans s2) (Iss.cons (y.mono s2) q) ?_ λp j=>?_
 ·refine fM.mpr ⟨l,m,λa c b A z=>?_⟩;subst z;exact Xm (d a c).2 (g a A).1
 ·rcases b6.mp j with h | h
  ·exact⟨(d p h).1,Same.mut s2 (d p h).2⟩
  ·exact⟨Same.off s1 (g p h).1,(g p h).2⟩
noncomputable def R6(fs:List XE):XE:=λs=>(Om fs s).map .tup
noncomputable def WX(fs:List XE):XE:=λs=>(Om fs s).map .lst
theorem map_some{c d:Type}{o:Option c}{g:c->d}{b:d}(h:o.map g=aA b):∃a,o=aA a/\b=g a:=by
 cases o with
 | none=>cases h
 | some a=>cases h;exact⟨a,rfl,rfl⟩
theorem SA(h:VA X es fs)(j:fs.length<=1000:=by decide):VE X (.Tuple es k pos) (R6 fs):=PE.imp (LW h) λn H Q ⟨g,s,l,d,env,e,q⟩=>by
 obtain⟨ls,a,rfl⟩:=map_some e;refine⟨g,s,ls,d,env,a,λvs m i s1 b f=>⟨?_,λp c=>?_⟩⟩
 ·rw[b.len,UQ a];exact cU (lt_size (by omega))
 ·exact q _ _ i (s1.trans (Same.new c _)) (Is.tup Zx (b.mono (Same.new c _))) f
theorem Ac(h:VMA X es fs)(m:fs.length<=1000:=by decide):VM X (.Tuple es k pos) (R6 fs):=PE.imp (LW h) λo H Q ⟨s,l,env,e,q⟩=>by
 obtain⟨ls,f,rfl⟩:=map_some e;refine⟨s,ls,env,f,λvs n j s1 g i d=>⟨?_,λp b=>?_⟩⟩
 ·rw[g.len,UQ f];exact cU (lt_size (by omega))
 ·exact q _ _ j (s1.trans (Same.new b _)) (Is.tup Zx (g.mono (Same.new b _))) i λa c=>⟨(d a c).1,Same.mut (Same.new b _) (d a c).2⟩
theorem Tg(h:VA X es fs)(m:fs.length<=1000:=by decide):VE X (.List es pos) (WX fs):=PE.imp (Gq h) λo H Q ⟨j,s,l,d,env,e,q⟩=>by
 obtain⟨ls,f,rfl⟩:=map_some e;refine⟨j,s,ls,d,env,f,λvs n k s1 g i=>⟨?_,λp c=>?_⟩⟩
 ·rw[g.len,UQ f];exact cU (lt_size (by omega))
 ·refine q _ _ (p::k) (s1.trans (Same.new c _)) (Is.lst Zx (g.mono (Same.new c _))) λa b z=>?_;rcases af.mp b with rfl | b
  ·exact Xm (Same.mut s1 (d a z)) c
  ·exact i a b z
theorem SD(h:VMA X es fs)(k:fs.length<=1000:=by decide):VM X (.List es pos) (WX fs):=PE.imp (Gq h) λn H Q ⟨s,l,env,e,q⟩=>by
 obtain⟨ls,f,rfl⟩:=map_some e;refine⟨s,ls,env,f,λvs m j s1 g i d=>⟨?_,λp b=>?_⟩⟩
 ·rw[g.len,UQ f];exact cU (lt_size (by omega))
 ·refine q _ _ (p::j) (s1.trans (Same.new b _)) (Is.lst Zx (g.mono (Same.new b _))) (bU.mpr ⟨λz=>Xm (d p z).2 b,i⟩) λa c=>?_;rcases af.mp c with rfl | c
  ·exact⟨Same.off s1 b,by rw[Zx];exact dJ⟩
  ·exact⟨(d a c).1,Same.mut (Same.new b _) (d a c).2⟩
end
noncomputable def YX(K:aE)(D:List PV->Option PV)(n:Nat):Sp:=λvs H Q _=>vs.length=n/\∃ls fp l,Iss K H ls vs fp/\D ls=aA l/\∀v H' fq,Same H H'->Is K H' l v fq->fq.Nodup->(∀p∈fq,H p=none/\U8 (H' p))->Q v H'
noncomputable def Zc(D:List PV->Option PV)(fs:List XE):XE:=λs=>(Om fs s).bind D
theorem Zg{c d:Type}{o:Option c}{g:c->Option d}{b:d}(h:o.bind g=aA b):∃a,o=aA a/\g a=aA b:=by
 cases o with
 | none=>cases h
 | some a=>exact⟨a,rfl,h⟩
section
variable {X:Cx} {x:aq} {ps:List aq} {k:Nat} {e:az} {es:List az} {fs:List XE} {p pos:fS}
theorem Jw{D:List PV->Option PV}{n:Nat}(C:Xi X.prog X.w X.K X.mg X.base x ps (YX X.K D n) k)(j:Room k X.A)(A:Gl X x)(b:VA X (e::es) fs)(i:fs.length=n:=by rfl)
  (c:(x==("__debug__" : aq))=aB:=by decide) (m:aX (e::es) X.env=(aB,eval e X.env)::aX es X.env:=by rfl) (d:(fu pos (aX es X.env)).any (·.1)=aB:=by rfl) :
  VM X (.Call (.Name x p) (e::es) [] pos) (Zc D fs):=PE.imp (B5 C j A b c m d) λG H Q ⟨s,l,env,e,q⟩=>by
 obtain⟨ls,g,y⟩:=Zg e;refine⟨λ_=>False,s,ls,λ_ z=>z.elim,env,g,λvs o B s1 h F=>?_⟩;show YX X.K D n (vs++[]) o Q E0;rw[eK];exact⟨by rw[h.len,UQ g,i],ls,B,l,h,y,λv u w s2 t E f=>q v u w (s1.trans s2) t E λa b=>⟨Same.off s1 (f a b).1,(f a b).2⟩⟩
end
noncomputable def RC(K:aE)(r:List V->Hp->VK->Prop)(g:List PV->Option PV):Prop:=∀(H:Hp)(vs:List V)(ls:List PV)(l:PV)(fp:List aL),Iss K H ls vs fp->g ls=aA l->∀Q:VK,
 (∀v H' fq,Same H H'->Is K H' l v fq->(∀p∈fq,p∈fp\/H p=none)->Q v H')->r vs H Q
noncomputable def RCM(K:aE)(r:List V->Hp->VK->Prop)(g:List PV->Option PV):Prop:=∀(H:Hp)(vs:List V)(ls:List PV)(l:PV)(fp:List aL),Iss K H ls vs fp->g ls=aA l->∀Q:VK,
 (∀v H' fq,Same H H'->Is K H' l v fq->fq.Nodup->(∀p∈fq,H p=none/\U8 (H' p))->Q v H')->r vs H Q
theorem CW{r:List V->Hp->VK->Prop}{g:List PV->Option PV}{fs:List XE}(c:RC K r g):∀a H Q,tF K (Zc g fs) a H Q->tCB r (tFA K fs) a H Q:=λa H Q ⟨j,s,l,b,env,e,k⟩=>by
 obtain⟨ls,q,t⟩:=Zg e;refine⟨j,s,ls,b,env,q,λvs d w s1 u i=>c d vs ls l w u t Q λv m n s2 f o=>k v m n (s1.trans s2) f λp x z=>?_⟩;rcases o p x with h | h
 ·exact i p h z
 ·exact Xm (Same.mut s1 (b p z)) h
theorem Zbh{r:List V->Hp->VK->Prop}{g:List PV->Option PV}{fs:List XE}(d:RCM K r g):∀a H Q,tM K (Zc g fs) a H Q->tCB r (tFA K fs) a H Q:=λa H Q ⟨s,l,env,e,k⟩=>by obtain⟨ls,m,n⟩:=Zg e;exact⟨λ_=>False,s,ls,λ_ z=>z.elim,env,m,λvs f q s1 o u=>d f vs ls l q o n Q λv i j s2 h t b=>k v i j (s1.trans s2) h t λp c=>⟨Same.off s1 (b p c).1,(b p c).2⟩⟩
section
variable {X:Cx} {x:aq} {k:Nat} {e:az} {es:List az} {fs:List XE} {p pos:fS} {id T:String} {r:List V->Hp->VK->Prop} {g:List PV->Option PV}
theorem MY(j:XA X (.builtin id) r)(i:RC X.K r g)(c:Gl X x)(d:X.mg x=none)(f:dP x=aA (.builtin id))(l:VA X (e::es) fs)(h:x≠"__name__":=by decide)(a:(x==("__debug__" : aq))=aB:=by decide)
  (k:aX (e::es) X.env=(aB,eval e X.env)::aX es X.env:=by rfl) (b:(fu pos (aX es X.env)).any (·.1)=aB:=by rfl):VE X (.Call (.Name x p) (e::es) [] pos) (Zc g fs):=
 PE.imp (Gr j c d f l h a k b) (CW i)
theorem Zv(j:XA X (.type T) r)(i:RC X.K r g)(c:Gl X x)(d:X.mg x=none)(f:dP x=aA (.type T))(l:VA X (e::es) fs)(h:x≠"__name__":=by decide)(a:(x==("__debug__" : aq))=aB:=by decide)
  (k:aX (e::es) X.env=(aB,eval e X.env)::aX es X.env:=by rfl) (b:(fu pos (aX es X.env)).any (·.1)=aB:=by rfl):VE X (.Call (.Name x p) (e::es) [] pos) (Zc g fs):=
 PE.imp (OJ j c d f l h a k b) (CW i)
theorem US(j:XA X (.type T) r)(i:RCM X.K r g)(c:Gl X x)(d:X.mg x=none)(f:dP x=aA (.type T))(l:VA X (e::es) fs)(h:x≠"__name__":=by decide)(a:(x==("__debug__" : aq))=aB:=by decide)
  (k:aX (e::es) X.env=(aB,eval e X.env)::aX es X.env:=by rfl) (b:(fu pos (aX es X.env)).any (·.1)=aB:=by rfl):VM X (.Call (.Name x p) (e::es) [] pos) (Zc g fs):=
 PE.imp (OJ j c d f l h a k b) (Zbh i)
end
theorem Iss.one_inv{H:Hp}{l:PV}{vs:List V}{c:List aL}(h:Iss K H [l] vs c):∃v,vs=[v]/\Is K H l v c:=by obtain⟨x,r,f1,f2,rfl,a,b,rfl⟩:=h.inv;rw[b.1,b.2,eK];exact⟨x,rfl,a⟩
theorem Iss.two_inv{H:Hp}{l m:PV}{vs:List V}{d:List aL}(h:Iss K H [l,m] vs d):∃v w f1 f2,vs=[v,w]/\Is K H l v f1/\Is K H m w f2/\d=f1++f2:=by obtain⟨x,r,f1,f2,rfl,a,b,rfl⟩:=h.inv;obtain⟨y,rfl,c⟩:=b.one_inv;exact⟨x,y,f1,f2,rfl,a,c,rfl⟩
noncomputable def Th:PV->Option (List PV)
 | .lst l=>aA l
 | .cst l=>aA l
 | .tup l=>aA l
 | _=>none
theorem Wv{H:Hp}{l:PV}{v:V}{g:List aL}{m:List PV}(h:Is K H l v g)(e:Th l=aA m):∃p a f,v = .ref p/\(SqL K H p a\/SqT K H p a)/\Iss K H m a f/\∀q∈f,q∈g:=by
 cases l with
 | lst l=>
  cases e;obtain⟨p,a,f,rfl,b,d,rfl⟩:=h.lst_inv;exact⟨p,a,f,rfl,.inl (SqL.of b),d,λq c=>aT _ c⟩
 | cst l=>
  cases e;obtain⟨p,a,rfl,b,d⟩:=h.cst_inv;exact⟨p,a,g,rfl,.inl b.sq,d,λq c=>c⟩
 | tup l=>
  cases e;obtain⟨p,a,rfl,b,d⟩:=h.tup_inv;exact⟨p,a,g,rfl,.inr (SqT.of b),d,λq c=>c⟩
 | _=>cases e
noncomputable def Ys:List PV->Option PV
 | [.str z]=>if z.length<=sizeLine then aA (.int z.length) else none
 | [l]=>(Th l).map λm=>.int m.length
 | _=>none
theorem Ad:RC K (λb H Q=>∃x n,b=[x]/\Zax K x H n/\Q (.int n) H) Ys:=λH vs ls l g h e Q k=>by
 unfold Ys at e;split at e
 ·split at e
  ·cases e;obtain⟨v,rfl,i⟩:=h.one_inv;exact⟨v,_,rfl,by rw[i.str_inv.1];exact⟨by assumption,rfl⟩,k _ H [] (Same.refl H) (Is.int _) λp a=>by simp at a⟩
  ·cases e
 ·obtain⟨m,d,rfl⟩:=map_some e;obtain⟨v,rfl,i⟩:=h.one_inv;obtain⟨p,b,f,rfl,a,c,_⟩:=Wv i d;refine⟨_,b.length,rfl,?_,?_⟩
  ·rcases a with a | a
   ·exact .inl ⟨b,a,rfl⟩
   ·exact .inr ⟨b,a,rfl⟩
  ·rw[c.len];exact k _ H [] (Same.refl H) (Is.int _) λp a=>by simp at a
 ·cases e
noncomputable def ZI:List PV->Option PV
 | [l]=>(Th l).map .tup
 | _=>none
theorem ZA:RC K (B6 K) ZI:=λH vs ls l n h e Q k=>by
 unfold ZI at e;split at e
 ·obtain⟨m,j,rfl⟩:=map_some e;obtain⟨v,rfl,i⟩:=h.one_inv;rename_i o
  cases o with
  | tup l=>
   cases j;obtain⟨p,f,rfl,d,g⟩:=id i.tup_inv;exact⟨p,f,rfl,.inr ⟨SqT.of d,k _ H n (Same.refl H) i λa b=>.inl b⟩⟩
  | lst l=>
   cases j;obtain⟨p,f,s,rfl,d,g,rfl⟩:=i.lst_inv;exact⟨p,f,rfl,.inl ⟨SqL.of d,λq c=>k _ _ s (Same.new c _) (Is.tup Zx (g.mono (Same.new c _))) λa b=>.inl (aT _ b)⟩⟩
  | cst l=>
   cases j;obtain⟨p,f,rfl,d,g⟩:=i.cst_inv;exact⟨p,f,rfl,.inl ⟨d.sq,λq c=>k _ _ n (Same.new c _) (Is.tup Zx (g.mono (Same.new c _))) λa b=>.inl b⟩⟩
  | _=>cases j
 ·cases e
noncomputable def VP:List PV->Option PV
 | [l]=>(Th l).bind λm=>if ZO m=aC then aA (.lst m) else none
 | _=>none
theorem TU:RCM K (E9 K) VP:=λH vs ls l t h e Q k=>by
 unfold VP at e;split at e
 ·obtain⟨m,g,c⟩:=Zg e;split at c
  ·cases c;obtain⟨v,rfl,i⟩:=h.one_inv;obtain⟨p,n,s,rfl,j,d,o⟩:=Wv i g;have:=Iss.pure _ _ _ (by assumption) d;subst this;refine⟨p,n,rfl,j,λq b=>k _ _ [q] (Same.new b _) (Is.lst Zx (d.mono (Same.new b _))) (by simp) λa f=>?_⟩;rw[ah.mp f];exact⟨b,by rw[Zx];exact dJ⟩
  ·cases c
 ·cases e
noncomputable def Wd:List PV->Option (List Int)
 | []=>aA []
 | .int i::r=>(Wd r).map (i::·)
 | _=>none
theorem Xj:∀l:List Int,Wd (iL l)=aA l
 | []=>rfl
 | i::r=>by show(Wd (iL r)).map (i::·)=_;rw[Xj r];rfl
theorem X3:∀{m:List PV}{l:List Int},Wd m=aA l->m=iL l
 | [],l,h=>by cases h;rfl
 | .int i::r,l,h=>by obtain⟨a,e,rfl⟩:=map_some (show(Wd r).map (i::·)=aA l from h);rw[X3 e];rfl
 | .non::_,_,h=>by cases h
 | .bl _::_,_,h=>by cases h
 | .str _::_,_,h=>by cases h
 | .ty _::_,_,h=>by cases h
 | .exc _::_,_,h=>by cases h
 | .exf _ _::_,_,h=>by cases h
 | .clo _ _::_,_,h=>by cases h
 | .tup _::_,_,h=>by cases h
 | .lst _::_,_,h=>by cases h
 | .cst _::_,_,h=>by cases h
 | .dK _ _::_,_,h=>by cases h
 | .dT _ _::_,_,h=>by cases h
abbrev bL(l:List Bool):List PV:=l.map PV.bl
noncomputable def VQ:List PV->Option (List Bool)
 | []=>aA []
 | .bl i::r=>(VQ r).map (i::·)
 | _=>none
theorem Vd:∀l:List Bool,VQ (bL l)=aA l
 | []=>rfl
 | i::r=>by show(VQ (bL r)).map (i::·)=_;rw[Vd r];rfl
theorem VR:∀{m:List PV}{l:List Bool},VQ m=aA l->m=bL l
 | [],l,h=>by cases h;rfl
 | .bl i::r,l,h=>by obtain⟨a,e,rfl⟩:=map_some (show(VQ r).map (i::·)=aA l from h);rw[VR e];rfl
 | .non::_,_,h=>by cases h
 | .int _::_,_,h=>by cases h
 | .str _::_,_,h=>by cases h
 | .ty _::_,_,h=>by cases h
 | .exc _::_,_,h=>by cases h
 | .exf _ _::_,_,h=>by cases h
 | .clo _ _::_,_,h=>by cases h
 | .tup _::_,_,h=>by cases h
 | .lst _::_,_,h=>by cases h
 | .cst _::_,_,h=>by cases h
 | .dK _ _::_,_,h=>by cases h
 | .dT _ _::_,_,h=>by cases h
theorem Iss.bL{H:Hp}:∀{l:List Bool}{xs:List V}{fp:List aL},Iss K H (VL.bL l) xs fp->xs=l.map V.bl/\fp=[]
 | [],xs,fp,h=>by simpa only[VL.bL,List.map_nil,Iss] using h
 | i::l,xs,fp,h=>by obtain⟨x,r,f1,f2,rfl,b,a,rfl⟩:=Iss.inv (show Iss K H (PV.bl i::VL.bL l) xs fp from h);obtain⟨rfl,rfl⟩:=b.bl_inv;obtain⟨rfl,rfl⟩:=a.bL;exact⟨rfl,rfl⟩
theorem QY{H:Hp}{p:aL}{a:List V}(h:SqL K H p a\/SqT K H p a):∃b,RO b K H p a:=by
 rcases h with h | h
 ·exact⟨aC,h⟩
 ·exact⟨aB,h⟩
noncomputable def TV:List PV->Option PV
 | [l]=>(Th l).bind λm=>(Wd m).map λns=>.int ns.sum
 | _=>none
noncomputable def GJ:List PV->Option PV
 | [l]=>(Th l).bind λm=>(VQ m).map λbs=>.bl (bs.all id)
 | _=>none
noncomputable def GK:List PV->Option PV
 | [l]=>(Th l).bind λm=>(VQ m).map λbs=>.bl (bs.any id)
 | _=>none
theorem Ti:RC K (λd H Q=>∃(b:Bool) (p:aL) (a:List Int),d=[.ref p]/\RO b K H p (a.map V.int)/\Q (.int a.sum) H) TV:=λH vs ls l u h e Q k=>by
 unfold TV at e;split at e
 ·obtain⟨m,j,n⟩:=Zg e;obtain⟨a,o,rfl⟩:=map_some n;obtain⟨v,rfl,i⟩:=h.one_inv;obtain⟨p,d,t,rfl,c,g,s⟩:=Wv i j;have f:=X3 o;subst f;obtain⟨rfl,rfl⟩:=g.iL;obtain⟨b,q⟩:=QY c;exact⟨b,p,a,rfl,q,k _ H [] (Same.refl H) (Is.int _) λp c=>by simp at c⟩
 ·cases e
theorem Ae:RC K (λc H Q=>∃(b:Bool) (p:aL) (bs:List Bool),c=[.ref p]/\RO b K H p (bs.map V.bl)/\Q (.bl (bs.all id)) H) GJ:=λH vs ls l u h e Q k=>by
 unfold GJ at e;split at e
 ·obtain⟨m,j,n⟩:=Zg e;obtain⟨g,o,rfl⟩:=map_some n;obtain⟨v,rfl,i⟩:=h.one_inv;obtain⟨p,c,t,rfl,a,f,s⟩:=Wv i j;have d:=VR o;subst d;obtain⟨rfl,rfl⟩:=f.bL;obtain⟨b,q⟩:=QY a;exact⟨b,p,g,rfl,q,k _ H [] (Same.refl H) (Is.bl _) λp a=>by simp at a⟩
 ·cases e
theorem Af:RC K (λc H Q=>∃(b:Bool) (p:aL) (bs:List Bool),c=[.ref p]/\RO b K H p (bs.map V.bl)/\Q (.bl (bs.any id)) H) GK:=λH vs ls l u h e Q k=>by
 unfold GK at e;split at e
 ·obtain⟨m,j,n⟩:=Zg e;obtain⟨g,o,rfl⟩:=map_some n;obtain⟨v,rfl,i⟩:=h.one_inv;obtain⟨p,c,t,rfl,a,f,s⟩:=Wv (K:=K) i j;have d:=VR o;subst d;obtain⟨rfl,rfl⟩:=f.bL;obtain⟨b,q⟩:=QY a;exact⟨b,p,g,rfl,q,k _ H [] (Same.refl H) (Is.bl _) λp a=>by simp at a⟩
 ·cases e
noncomputable def Zbi:List PV->Option PV
 | [.int i,.int j]=>aA (.int (if j<i then j else i))
 | _=>none
noncomputable def Jx:List PV->Option PV
 | [.int i,.int j]=>aA (.int (if j>i then j else i))
 | _=>none
noncomputable def Kd:List PV->Option PV
 | [.int i]=>aA (.int (if i<0 then -i else i))
 | _=>none
noncomputable def QZ:List PV->Option PV
 | [.int i]=>aA (.int i)
 | [.bl c]=>aA (.int (if c then 1 else 0))
 | _=>none
theorem Dl:RC K (λd H Q=>∃i j,d=[.int i,.int j]/\Q (.int (if j>i then j else i)) H) Jx:=λH vs ls l f h e Q k=>by
 unfold Jx at e;split at e
 ·cases e;obtain⟨v,w,f1,f2,rfl,a,b,rfl⟩:=h.two_inv;exact⟨_,_,by rw[a.int_inv.1,b.int_inv.1],k _ H [] (Same.refl H) (Is.int _) λp c=>by simp at c⟩
 ·cases e
theorem GL:RC K (λc H Q=>∃i,c=[.int i]/\Q (.int (if i<0 then -i else i)) H) Kd:=λH vs ls l d h e Q k=>by
 unfold Kd at e;split at e
 ·cases e;obtain⟨v,rfl,a⟩:=h.one_inv;exact⟨_,by rw[a.int_inv.1],k _ H [] (Same.refl H) (Is.int _) λp b=>by simp at b⟩
 ·cases e
theorem Dm:RC K (λc H Q=>(∃i,c=[.int i]/\Q (.int i) H)\/∃k,c=[.bl k]/\Q (.int (if k then 1 else 0)) H) QZ:=λH vs ls l d h e Q k=>by
 unfold QZ at e;split at e
 ·cases e;obtain⟨v,rfl,a⟩:=h.one_inv;exact .inl ⟨_,by rw[a.int_inv.1],k _ H [] (Same.refl H) (Is.int _) λp b=>by simp at b⟩
 ·cases e;obtain⟨v,rfl,a⟩:=h.one_inv;exact .inr ⟨_,by rw[a.bl_inv.1],k _ H [] (Same.refl H) (Is.int _) λp b=>by simp at b⟩
 ·cases e
section
variable {X:Cx} {e:az} {es:List az} {fs:List XE} {p pos:fS}
noncomputable def tyP:PV->Option String
 | .int _=>aA "int"
 | .bl _=>aA "bool"
 | .tup _=>aA "tuple"
 | .lst _=>aA "list"
 | .str _=>aA "str"
 | _=>none
noncomputable def Tc:List PV->Option PV
 | [a,.ty t]=>(tyP a).bind λu=>if t=u then aA (.bl aC) else if u = "int"/\t = "bool" then aA (.bl aB) else none
 | _=>none
theorem Oo:dC K (.type "bool") (.type "bool")=aA aC:=rfl
theorem Ag{H:Hp}{a:PV}{u:String}{v:V}{f:List aL}(e:tyP a=aA u)(h:Is K H a v f):TyOf K H v (.type u)/\dC K (.type u) (.type u)=aA aC:=by
 cases a<;>first
  | exact nomatch (show none=aA u from e)
  | cases e
 ·obtain⟨rfl,_⟩:=h.bl_inv;exact⟨TyOf.bl _,Oo⟩
 ·obtain⟨rfl,_⟩:=h.int_inv;exact⟨TyOf.int _,MP⟩
 ·obtain⟨rfl,_⟩:=h.str_inv;exact⟨TyOf.str _,MR⟩
 ·obtain⟨q,c,rfl,b,_⟩:=h.tup_inv;exact⟨TyOf.tup b,MQ⟩
 ·obtain⟨q,c,d,rfl,b,_⟩:=h.lst_inv;exact⟨TyOf.lst b,Ol⟩
theorem Qi:RC K (λm H Q=>∃x T t b,m=[x,.ty T]/\TyOf K H x t/\dC K t (.type T)=aA b/\Q (.bl b) H) Tc:=λH vs ls l n h e Q k=>by
 have d:∀b:Bool,l = .bl b->Q (.bl b) H:=λb z=>by subst z;exact k _ H [] (Same.refl H) (Is.bl _) λp j=>by simp at j
 unfold Tc at e;split at e
 ·obtain⟨u,i,c⟩:=Zg e;obtain⟨v,w,f1,f2,rfl,a,b,rfl⟩:=h.two_inv;obtain⟨f,g⟩:=Ag i a;split at c
  ·rename_i z;subst z;cases c;exact⟨_,_,_,_,by rw[b.ty_inv.1],f,g,d _ rfl⟩
  ·split at c
   ·rename_i z;obtain⟨rfl,rfl⟩:=z;cases c;exact⟨_,_,_,_,by rw[b.ty_inv.1],f,Nr,d _ rfl⟩
   ·cases c
 ·cases e
theorem Jy{x:aq}{n:String}(a:Gl X x)(b:X.mg x=none)(c:dP x=aA (.type n))(d:x≠"__name__":=by decide)(e:(x==("__debug__" : aq))=aB:=by decide):VE X (.Name x pos) (eC (.ty n)):=
 De (EB a b c (v:=.ty n) rfl d e) λ_=>Is.ty n
end
end VL
namespace VL
open PySem PySem.Spec PyProof.Rows L2
variable {K:aE}
open Classical in
instance:DecidableEq PV:=λa b=>propDecidable (a=b)
noncomputable def Uv:Nat->PV->PV->Bool
 | _+1,.non,.non=>aC
 | _+1,.bl _,.bl _=>aC
 | _+1,.int _,.int _=>aC
 | _+1,.str _,.str _=>aC
 | n+1,.tup l,.tup m=>(l.zip m).all λz=>Uv n z.1 z.2
 | n+1,.lst l,.lst m=>(l.zip m).all λz=>Uv n z.1 z.2
 | _,_,_=>aB
theorem TX{c d:Type}{p:c×d->Bool}{a:c}{b:d}{l:List c}{m:List d}(h:((a::l).zip (b::m)).all p=aC):p (a,b)=aC/\(l.zip m).all p=aC:=by rw[ji,iT,ba] at h;exact h
theorem Iss.inj'{n:Nat}{H:Hp}(c:∀a b v fa fb,Uv n a b=aC->Is K H a v fa->Is K H b v fb->a=b):∀{l m:List PV}{xs:List V}{fa fb:List aL},(l.zip m).all (λz=>Uv n z.1 z.2)=aC->Iss K H l xs fa->Iss K H m xs fb->l=m
 | [],m,xs,fa,fb,_,h,h'=>by
  simp only[Iss] at h;rw[h.1] at h';have:=h'.len
  cases m with
  | nil=>rfl
  | cons _ _=>simp at this
 | a::l,m,xs,fa,fb,hc,h,h'=>by
  obtain⟨x,r,f1,f2,rfl,g,f,rfl⟩:=h.inv
  cases m with
  | nil=>have:=h'.len;simp at this
  | cons b m=>
   obtain⟨o,k,d,p,e,i,j,rfl⟩:=h'.inv;cases e;obtain⟨c1,c2⟩:=TX hc;rw[c a b x f1 d c1 g i,Iss.inj' c c2 f j]
theorem Is.inj'{H:Hp}:∀(n:Nat)(a b:PV)(v:V)(fa fb:List aL),Uv n a b=aC->Is K H a v fa->Is K H b v fb->a=b
 | 0,a,b,v,fa,fb,hc,_,_=>nomatch (show aB=aC from hc)
 | n+1,a,b,v,fa,fb,hc,ha,hb=>by
  cases a<;>cases b<;>first
   | exact nomatch (show aB=aC from hc)
   | skip
  ·rfl
  ·rw[ha.bl_inv.1] at hb;have:=hb.bl_inv.1;cases this;rfl
  ·rw[ha.int_inv.1] at hb;have:=hb.int_inv.1;cases this;rfl
  ·rw[ha.str_inv.1] at hb;have:=hb.str_inv.1;cases this;rfl
  ·obtain⟨p,k,rfl,g,f⟩:=ha.tup_inv;obtain⟨h,i,e,c,d⟩:=hb.tup_inv;cases e;rw[g] at c;cases c;rw[Iss.inj' (Is.inj' n) hc f d]
  ·obtain⟨p,k,l,rfl,g,f,_⟩:=ha.lst_inv;obtain⟨h,i,j,e,c,d,_⟩:=hb.lst_inv;cases e;rw[g] at c;cases c;rw[Iss.inj' (Is.inj' n) hc f d]
section
variable {X:Cx} {l4:List (aL×df)} {σ:R4} {H:Hp} {s:aO} {A:cL}
theorem Ke{n:Nat}(i:∀a b x y fa fb u w,Uv n a b=aC->Is K H a x fa->Is K H b y fb->RelV x u->RelV y w->∃r,jA A s u w r/\(r=aC↔a=b)) :
  ∀{l m:List PV}{xs ys:List V}{fa fb:List aL}{us ws:List aI},(l.zip m).all (λz=>Uv n z.1 z.2)=aC->Iss K H l xs fa->Iss K H m ys fb->Vals xs us->Vals ys ws->
  ∃e:Nat->Bool,(∀j (c:j<us.length) (d:j<ws.length),jA A s us[j] ws[j] (e j))/\((aF (min us.length ws.length)).all e=aC↔l.take (min us.length ws.length)=m.take (min us.length ws.length))
 | [],m,xs,ys,fa,fb,us,ws,_,h,_,r,_=>by simp only[Iss] at h;obtain⟨rfl,_⟩:=h;cases r;exact⟨λ_=>aC,λj c=>by simp at c,by simp⟩
 | a::l,[],xs,ys,fa,fb,us,ws,_,_,h,_,r=>by simp only[Iss] at h;obtain⟨rfl,_⟩:=h;cases r;exact⟨λ_=>aC,λj c d=>by simp at d,by simp⟩
 | a::l,b::m,xs,ys,fa,fb,us,ws,hc,h,h',r,r'=>by
  obtain⟨x,E,f1,f2,rfl,c,d,rfl⟩:=h.inv;obtain⟨y,G,p,F,rfl,C,D,rfl⟩:=h'.inv;obtain⟨c1,c2⟩:=TX hc
  cases r with
  | cons q v=>cases r' with
   | cons q' v'=>
    obtain⟨t,o,g⟩:=i a b x y f1 p _ _ c1 c C q q';obtain⟨e,B,f⟩:=Ke i c2 d D v v';refine⟨λj=>match j with | 0=>t | k+1=>e k,λj c d=>?_,?_⟩
    ·cases j with
     | zero=>exact o
     | succ k=>exact B k (by simpa using c) (by simpa using d)
    ·simp only[cH,Nat.succ_min_succ,List.range_succ_eq_map,iT,kC,ba,List.take_succ_cons,List.cons.injEq];exact and_congr g f
theorem Iss.same'{l m:List PV}{e f:List V}{j fb:List aL}{c d:List aI}(h:Iss K H l e j)(i:Iss K H m f fb)(r:Vals e c)(g:Vals f d) :
  (l.take (min c.length d.length)=m.take (min c.length d.length)/\c.length=d.length)↔l=m:=by
 have n:=h.len;have o:=i.len;have p:=r.length;have k:=g.length;constructor
 ·rintro⟨a,b⟩;rw[b7 (by omega),b7 (by omega)] at a;exact a
 ·intro a;subst a;exact⟨rfl,by omega⟩
noncomputable def CY(A:cL)(s:aO)(u w:aI)(r:Bool):Prop:=SeqAt.RcAt A s u w r/\SeqAt.RcNeAt A s u w !r
theorem Q0(I:Inv X l4 σ H s):∀(n:Nat)(A:cL)(a b:PV)(x y:V)(v fb:List aL)(u w:aI),A.units+2*n+2<gJ->Uv n a b=aC->Is K H a x v->Is K H b y fb->RelV x u->RelV y w->
  (∃r,jA A s u w r/\(r=aC↔a=b))/\∃r,CY A s u w r/\(r=aC↔a=b)
 | 0,A,a,b,x,y,v,fb,u,w,hu,hc,_,_,_,_=>nomatch (show aB=aC from hc)
 | n+1,A,a,b,x,y,v,fb,u,w,hu,hc,ha,hb,ru,ZV=>by
  cases a<;>cases b<;>first
   | exact nomatch (show aB=aC from hc)
   | skip
  ·rw[ha.non_inv.1] at ru;rw[hb.non_inv.1] at ZV;cases ru;cases ZV;exact⟨⟨aC,jG _,by simp⟩,aC,⟨SeqAt.RcAt.none_none,SeqAt.RcNeAt.none_none⟩,by simp⟩
  ·rw[ha.bl_inv.1] at ru;rw[hb.bl_inv.1] at ZV;cases ru;cases ZV;exact⟨⟨_,jA.bool_bool _ _,by simp⟩,_,⟨SeqAt.RcAt.bool_bool _ _,SeqAt.RcNeAt.bool_bool _ _⟩,by simp⟩
  ·rw[ha.int_inv.1] at ru;rw[hb.int_inv.1] at ZV;obtain⟨t,rfl⟩:=ru;obtain⟨t',rfl⟩:=ZV;exact⟨⟨_,jA.int_int _ _ _ _,by simp⟩,_,⟨SeqAt.RcAt.int_int _ _ _ _,SeqAt.RcNeAt.int_int _ _ _ _⟩,by simp⟩
  ·rw[ha.str_inv.1] at ru;rw[hb.str_inv.1] at ZV;obtain⟨t,rfl⟩:=ru;obtain⟨t',rfl⟩:=ZV;exact⟨⟨_,jA.str_str _ _ _ _,by simp⟩,_,⟨SeqAt.RcAt.str_str _ _ _ _,SeqAt.RcNeAt.str_str _ _ _ _⟩,by simp⟩
  ·rename_i N L;obtain⟨p,xs,rfl,Q,G⟩:=id ha.tup_inv;obtain⟨D,Z,rfl,m,i⟩:=id hb.tup_inv;cases ru;cases ZV;obtain⟨B,F,q,_⟩:=I.tuple (SqT.of Q);obtain⟨C,h,l,_⟩:=I.tuple (SqT.of m);obtain⟨f,E,k⟩:=Ke (A:=A.in1) (λa b x y v fb u w c P M O J=>(Q0 I n A.in1 a b x y v fb u w (by show A.units+1+2*n+2<gJ;omega) c P M O J).1) hc G i F h;have U:=SeqAt.RcAt.tuples (A:=A) (e:=f) (show s.heap.IsTuple p B.toArray from q) (show s.heap.IsTuple D C.toArray from l) (by omega) (λj z o=>E j (by simpa using z) (by simpa using o));have W:=SeqAt.RcNeAt.tuples (A:=A) (e:=f) (show s.heap.IsTuple p B.toArray from q) (show s.heap.IsTuple D C.toArray from l) (by omega) (λj z o=>E j (by simpa using z) (by simpa using o));have g:(((aF (min B.toArray.size C.toArray.size)).all f&&B.toArray.size==C.toArray.size)=aC)↔PV.tup N=PV.tup L:=by simp only[aR,ba,beq_iff_eq,PV.tup.injEq];rw[k];exact Iss.same' G i F h
   refine⟨?_,_,⟨U,W⟩,g⟩;by_cases e:p=D
   ·subst e;exact⟨aC,jG _,by simp[Is.inj' (n+1) _ _ _ _ _ hc ha hb]⟩
   ·exact⟨_,jj e U,g⟩
  ·rename_i N L;obtain⟨p,xs,fq,rfl,Q,G,_⟩:=id ha.lst_inv;obtain⟨D,Z,Y,rfl,m,i,_⟩:=id hb.lst_inv;cases ru;cases ZV;obtain⟨B,F,q,_⟩:=I.list (SqL.of Q);obtain⟨C,h,l,_⟩:=I.list (SqL.of m);obtain⟨f,E,k⟩:=Ke (A:=A.in1) (λa b x y v fb u w c P M O J=>(Q0 I n A.in1 a b x y v fb u w (by show A.units+1+2*n+2<gJ;omega) c P M O J).1) hc G i F h
   have R:∃r,CY A s (.ref p) (.ref D) r/\(r=aC↔PV.lst N=PV.lst L):=by
    have g:=Iss.same' G i F h;by_cases d:B.length=C.length
    ·refine⟨_,⟨SeqAt.RcAt.lists (e:=f) q.isList l.isList (by simpa using d) (by omega) (λj z o=>E j (by simpa using z) (by simpa using o)),SeqAt.RcNeAt.lists (e:=f) q.isList l.isList (by simpa using d) (by omega) (λj z o=>E j (by simpa using z) (by simpa using o))⟩,?_⟩;rw[d,Nat.min_self] at k g;simp only[aR,PV.lst.injEq];rw[d,k,<-g];simp
    ·refine⟨aB,⟨SeqAt.RcAt.lists_lengths q.isList l.isList (by simpa using d) (by omega),SeqAt.RcNeAt.lists_lengths q.isList l.isList (by simpa using d) (by omega)⟩,?_⟩;rw[PV.lst.injEq,<-g];simp[d]
   obtain⟨r,S,T⟩:=R;refine⟨?_,r,S,T⟩;by_cases e:p=D
   ·subst e;exact⟨aC,jG _,by simp[Is.inj' (n+1) _ _ _ _ _ hc ha hb]⟩
   ·exact⟨r,jj e S.1,T⟩
end
noncomputable def Ah(K:aE)(neg:Bool):R2:=λx y H Q=>∃a b fa fb,Is K H a x fa/\Is K H b y fb/\Uv 8 a b=aC/\∀r:Bool,(r=aC↔a=b)->Q (.bl (if neg then !r else r)) H
section
variable {X:Cx}
theorem GN(l:X.A.units+64<gJ):TN X (fK .Eq) (Ah X.K aB):=by intro m s n H x y v u Q I e i h;obtain⟨a,b,k,fb,d,j,f,q⟩:=h;obtain⟨_,r,c,g⟩:=Q0 I 8 X.A a b x y k fb v u (by omega) f d j e i;exact c.1 X.prog X.w X.xe _ ⟨.bl r,H,I,rfl,q r g⟩
theorem GO(l:X.A.units+64<gJ):TN X (fK .NotEq) (Ah X.K aC):=by intro m s n H x y v u Q I e i h;obtain⟨a,b,k,fb,d,j,f,q⟩:=h;obtain⟨_,r,c,g⟩:=Q0 I 8 X.A a b x y k fb v u (by omega) f d j e i;exact c.2 X.prog X.w X.xe _ ⟨.bl !r,H,I,rfl,q r g⟩
end
noncomputable def Wr(neg:Bool):PV->PV->Option PV:=λa b=>if Uv 8 a b=aC then aA (.bl (if neg then !decide (a=b) else decide (a=b))) else none
theorem Nz(neg:Bool):RB K (Ah K neg) (Wr neg):=λH x y a b l h fb d g e Q k=>by
 unfold Wr at e;split at e
 ·cases e;refine⟨a,b,h,fb,d,g,by assumption,λr c=>?_⟩
  have:r=decide (a=b):=by
   cases r with
   | true=>exact(decide_eq_true (c.mp rfl)).symm
   | false=>exact(decide_eq_false λz=>bO (c.mpr z)).symm
  subst this;exact k _ H [] (Same.refl H) (Is.bl _) λp f=>by simp at f
 ·cases e
noncomputable def Ai(K:aE)(neg:Bool):R2:=λx y H Q=>∃a b m fa fb,Is K H a x fa/\Is K H b y fb/\Th b=aA m/\(m.all λz=>Uv 8 z a)=aC/\∀r:Bool,(r=aC↔a∈m)->Q (.bl (if neg then !r else r)) H
section
variable {X:Cx} {l4:List (aL×df)} {σ:R4} {H:Hp} {s:aO}
theorem Qj{a:PV}{x:V}{C:List aL}{u:aI}{A:cL}(I:Inv X l4 σ H s)(Z:A.units+18<gJ)(J:Is K H a x C)(M:RelV x u):∀{m:List PV}{i:List V}{fb:List aL}{k:List aI},(m.all λz=>Uv 8 z a)=aC->Iss K H m i fb->Vals i k->
  ∃e:aI->Bool,(∀y∈k,jA A s y u (e y))/\(k.any e=aC↔a∈m):=λ{m i fb k} O h r=>by
 -- c one's answer
 have c:∀y∈k,∃t:Bool,jA A s y u t/\(t=aC↔∃b,b∈m/\b=a/\∃z f,Is K H b z f/\RelV z y):=λy d=>by obtain⟨j,o,e⟩:=eU.mp d;have W:=r.length;have n:i[j]?=aA i[j]:=aG (by omega);obtain⟨b,f,q,p,_⟩:=h.get' n;obtain⟨w,B,ZV⟩:=r.get n;rw[aG o] at B;cases B;rw[e] at ZV;have l:=cE q;have v:=ar.mp O b l;obtain⟨⟨t,E,R⟩,_⟩:=Q0 I 8 A b a i[j] x f C y u (by omega) v p J ZV M;refine⟨t,E,R.trans ⟨λz=>⟨b,l,z,i[j],f,p,ZV⟩,λ⟨U,G,P,z,Y,L,F⟩=>?_⟩⟩;have Q:=F.inj ZV;subst Q;subst P;exact Is.inj' 8 b U _ _ _ v p L
 classical
 refine⟨λy=>if d:y∈k then(c y d).choose else aB,λy d=>?_,?_⟩
 ·simp only[dif_pos d];exact(c y d).choose_spec.1
 ·rw[fC];constructor
  ·rintro⟨y,d,e⟩;rw[dif_pos d] at e;obtain⟨b,q,rfl,_⟩:=(c y d).choose_spec.2.mp e;exact q
  ·intro D;obtain⟨j,o,e⟩:=eU.mp D;obtain⟨z,f,S,N,_⟩:=h.get (aG o);obtain⟨y,d,T⟩:=r.get S;have g:=cE d;refine⟨y,g,?_⟩;rw[dif_pos g];exact(c y g).choose_spec.2.mpr ⟨a,D,rfl,z,f,e▸N,T⟩
end
section
variable {X:Cx}
theorem Aj(E:X.A.units+64<gJ):TN X (fK .In) (Ai X.K aB):=by
 intro F s J H x y v u Q I n z h;obtain⟨a,b,m,L,fb,l,C,B,o,q⟩:=h;obtain⟨p,D,G,rfl,d,k,_⟩:=Wv C B;cases z;rcases d with d | d
 ·obtain⟨c,f,t,_⟩:=I.list d;obtain⟨e,g,j⟩:=Qj (A:=X.A.in1) I (by show X.A.units+1+18<gJ;omega) l n o k f;refine SeqAt.in_listAt e t.isList (λw i=>g w (by simpa using i)) ⟨.bl _,H,I,rfl,?_⟩;rw[show c.toArray.any e=c.any e by simp];exact q _ j
 ·obtain⟨c,f,t,_⟩:=I.tuple d;obtain⟨e,g,j⟩:=Qj (A:=X.A.in1) I (by show X.A.units+1+18<gJ;omega) l n o k f;refine SeqAt.in_tupleAt e t (λw i=>g w (by simpa using i)) ⟨.bl _,H,I,rfl,?_⟩;rw[show c.toArray.any e=c.any e by simp];exact q _ j
theorem IP(E:X.A.units+64<gJ):TN X (fK .NotIn) (Ai X.K aC):=by
 intro F s J H x y v u Q I n z h;obtain⟨a,b,m,L,fb,l,C,B,o,q⟩:=h;obtain⟨p,D,G,rfl,d,k,_⟩:=Wv C B;cases z;rcases d with d | d
 ·obtain⟨c,f,t,_⟩:=I.list d;obtain⟨e,g,j⟩:=Qj (A:=X.A.in1) I (by show X.A.units+1+18<gJ;omega) l n o k f;refine SeqAt.notIn_listAt e t.isList (λw i=>g w (by simpa using i)) ⟨.bl _,H,I,rfl,?_⟩;rw[show c.toArray.any e=c.any e by simp];exact q _ j
 ·obtain⟨c,f,t,_⟩:=I.tuple d;obtain⟨e,g,j⟩:=Qj (A:=X.A.in1) I (by show X.A.units+1+18<gJ;omega) l n o k f;refine SeqAt.notIn_tupleAt e t (λw i=>g w (by simpa using i)) ⟨.bl _,H,I,rfl,?_⟩;rw[show c.toArray.any e=c.any e by simp];exact q _ j
end
noncomputable def IQ(neg:Bool):PV->PV->Option PV:=λa b=>(Th b).bind λm=>if(m.all λz=>Uv 8 z a)=aC then aA (.bl (if neg then !decide (a∈m) else decide (a∈m))) else none
theorem GP(neg:Bool):RB K (Ai K neg) (IQ neg):=λH x y a b l i fb d h e Q k=>by
 obtain⟨m,f,e⟩:=Zg e;split at e
 ·cases e;refine⟨a,b,m,i,fb,d,h,f,by assumption,λr c=>?_⟩
  have:r=decide (a∈m):=by
   cases r with
   | true=>exact(decide_eq_true (c.mp rfl)).symm
   | false=>exact(decide_eq_false λz=>bO (c.mpr z)).symm
  subst this;exact k _ H [] (Same.refl H) (Is.bl _) λp g=>by simp at g
 ·cases e
end VL
namespace VL
open PySem PySem.Spec PyProof.Rows L2
variable {K:aE}
mutual
theorem Is.dom{H:Hp}:∀(l:PV)(v:V)(fp:List aL),Is K H l v fp->∀p∈fp,H p≠none
 | .non,_,_,h=>by simp only[Is] at h;rw[h.2];simp
 | .bl _,_,_,h=>by simp only[Is] at h;rw[h.2];simp
 | .int _,_,_,h=>by simp only[Is] at h;rw[h.2];simp
 | .str _,_,_,h=>by simp only[Is] at h;rw[h.2];simp
 | .ty _,_,_,h=>by simp only[Is] at h;rw[h.2];simp
 | .exc _,_,_,h=>by simp only[Is] at h;rw[h.2];simp
 | .exf _ _,_,_,h=>by simp only[Is] at h;rw[h.2];simp
 | .clo L l,v,fp,h=>by simp only[Is] at h;obtain⟨u,x,_,_,b⟩:=h;exact Is.dom l x fp b
 | .tup l,v,fp,h=>by obtain⟨p,f,_,_,b⟩:=h.tup_inv;exact Iss.dom l f fp b
 | .lst l,v,fp,h=>by
  obtain⟨p,f,c,_,d,b,rfl⟩:=h.lst_inv;intro q a;rcases af.mp a with rfl | a
  ·rw[d];simp
  ·exact Iss.dom l f c b q a
 | .cst l,v,fp,h=>by obtain⟨p,f,_,_,b⟩:=h.cst_inv;exact Iss.dom l f fp b
 | .dK ks l,v,fp,h=>by
  obtain⟨p,g,c,_,d,_,b,rfl⟩:=h.dK_inv;intro q a;rcases af.mp a with rfl | a
  ·rcases d with e | ⟨o,e⟩<;>rw[e]<;>simp
  ·exact Iss.dom l _ c b q a
 | .dT ks l,v,fp,h=>by
  obtain⟨p,g,c,_,d,_,b,rfl⟩:=h.dT_inv;intro q a;rcases af.mp a with rfl | a
  ·rcases d with e | ⟨o,e⟩<;>rw[e]<;>simp
  ·exact Iss.dom l _ c b q a
theorem Iss.dom{H:Hp}:∀(l:List PV)(xs:List V)(fp:List aL),Iss K H l xs fp->∀p∈fp,H p≠none
 | [],_,_,h=>by simp only[Iss] at h;rw[h.2];simp
 | l::ls,xs,fp,h=>by
  obtain⟨x,r,f1,f2,_,c,b,rfl⟩:=h.inv;intro q a;rcases b6.mp a with a | a
  ·exact Is.dom l x f1 c q a
  ·exact Iss.dom ls r f2 b q a
end
noncomputable def Ab(Rm:aL->Prop)(H H':Hp):Prop:=∀b o,H b=aA o->¬Rm b->H' b=aA o
theorem Same.ab{c:aL->Prop}{H a:Hp}(s:Same H a):Ab c H a:=λb o h _=>s b o h
theorem Ab.tk{d:aL->Prop}{H e:Hp}(a:Ab d H e)(c:∀p,d p->U8 (H p)):CT H e:=⟨λb f h=>a b _ h λz=>by
 have:=c b z
 rw[h] at this;exact this,λb o f h=>a b _ h λz=>by
 have:=c b z
 rw[h] at this;exact this,λb o x h=>a b _ h λz=>by
 have:=c b z;rw[h] at this;exact this⟩
theorem Is.ab{c:aL->Prop}{H d:Hp}(a:Ab c H d)(e:∀p,c p->U8 (H p)){l:PV}{v:V}{b:List aL}(n:∀p∈b,¬c p)(h:Is K H l v b):Is K d l v b:=
 Is.tr (a.tk e) l v b (λp f=>RdK.of λo q=>a p o q (n p f)) h
structure JIs(K:aE)(Rm:aL->Prop)(H1:Hp)(J:It)(ls:List PV):Prop where
 stop:∀H',Ab Rm H1 H'->J.stop ls.length H'
 go:∀H' (i:Nat) l,Ab Rm H1 H'->ls[i]?=aA l->J.go i H'
 yld:∀H' (i:Nat) l x H'',Ab Rm H1 H'->ls[i]?=aA l->J.yld i H' x H''->Same H' H''/\∃fp,Is K H'' l x fp/\∀p∈fp,H1 p≠none/\¬Rm p
abbrev XL:=ZF->Option (List PV)
noncomputable def iF(K:aE)(f:XL):TI:=λσ H R=>∃(Rm:aL->Prop) (s:ZF) (ls:List PV),(∀p,Rm p->U8 (H p))/\EnvIs K Rm H s σ/\f s=aA ls/\∀J H1,Same H H1->JIs K Rm H1 J ls->R J H1
noncomputable def VI(X:Cx)(tg e:az)(f:XL):Prop:=PI X tg e (iF X.K f)
section
variable {X:Cx} {tg e:az} {es:List az}
theorem PI.imp{t t':TI}(h:PI X tg e t)(i:∀a H R,t' a H R->t a H R):PI X tg e t':=λb s a H R I q=>h b s a H R I (i a H R q)
noncomputable def Al:PV->Option (List PV)
 | .lst m=>aA m
 | .cst m=>aA m
 | _=>none
noncomputable def Xw(f:XE):XL:=λs=>(f s).bind Al
noncomputable def SE(f:XE):XL:=λs=>match f s with | some (.tup m)=>aA m | _=>none
theorem GQ{a:PV}{m:List PV}(h:Al a=aA m):a = .lst m\/a = .cst m:=by
 unfold Al at h;split at h
 ·cases h;exact .inl rfl
 ·cases h;exact .inr rfl
 ·cases h
theorem IS{f:XE}{s:ZF}{m:List PV}(h:SE f s=aA m):f s=aA (.tup m):=by
 unfold SE at h;split at h
 ·cases h;assumption
 ·cases h
theorem YG{f:XE}(h:VE X e f):VI X tg e (Xw f):=PI.imp (EG h) λM H R ⟨D,s,ls,B,env,e,k⟩=>by
 obtain⟨l,I,J⟩:=Zg e;refine⟨D,s,l,B,env,I,λv o F s1 E C=>?_⟩;have w:=λp d=>Same.mut s1 (B p d)
 have j:∀a b t,v = .ref a->SqL X.K o a b->(∀g,Ab D o g->SqL X.K g a b)->Iss X.K o ls b t->(∀p∈t,p∈F)->∃a,v = .ref a/\(∃b,SqL X.K o a b)/\R (Itl X.K a) o:=by
  rintro a b t rfl n c m sub;refine⟨a,rfl,⟨b,n⟩,k _ o s1 ⟨λg ab=>⟨b,c g ab,by rw[m.len];exact aJ _⟩,λg i l ab A=>?_,λg i l x G ab A y=>?_⟩⟩
  ·obtain⟨x,f1,z,_,_⟩:=m.get A;exact⟨b,x,c g ab,z⟩
  ·obtain⟨rfl,y⟩:=y;obtain⟨L,f1,z,ix,u⟩:=m.get A;have:=y b (c _ ab);rw[z] at this;cases this;have q:=λp d=>C p (sub p (u p d));exact⟨Same.refl _,f1,ix.ab ab w q,λp d=>⟨Is.dom _ _ _ ix p d,q p d⟩⟩
 rcases GQ J with rfl | rfl
 ·obtain⟨a,b,t,rfl,n,m,rfl⟩:=E.lst_inv;exact j a b t rfl (SqL.of n) (λg ab=>SqL.of (ab a _ n (C a aa))) m λp d=>aT _ d
 ·obtain⟨a,b,rfl,n,m⟩:=E.cst_inv;exact j a b F rfl n.sq (λg ab=>(n.tr (ab.tk w)).sq) m λp d=>d
theorem SF{f:XE}(h:VE X e f):VI X tg e (SE f):=PI.imp (BH h) λE H R ⟨z,s,ls,w,env,e,k⟩=>by
 refine⟨z,s,.tup ls,w,env,IS e,λv u F s1 C A=>?_⟩;obtain⟨a,g,rfl,t,n⟩:=C.tup_inv;have m:=λp d=>Same.mut s1 (w p d);have b:∀c,Ab z u c->SqT X.K c a g:=λc ab=>SqT.of ((ab.tk m).tup a g t);refine⟨a,rfl,⟨g,SqT.of t⟩,k _ u s1 ⟨λc ab=>⟨g,b c ab,by rw[n.len];exact aJ _⟩,λc i l ab q=>?_,λc i l x B ab q y=>?_⟩⟩
 ·obtain⟨x,f1,o,_,_⟩:=n.get q;exact⟨g,x,b c ab,o⟩
 ·obtain⟨rfl,y⟩:=y;obtain⟨D,f1,o,ix,sub⟩:=n.get q;have:=y g (b _ ab);rw[o] at this;cases this;have j:=λp d=>A p (sub p d);exact⟨Same.refl _,f1,ix.ab ab m j,λp d=>⟨Is.dom _ _ _ ix p d,j p d⟩⟩
noncomputable def NA(n:Nat):List PV:=(aF n).map λ(i:Nat)=>PV.int (i:Int)
noncomputable def TY(lo:Int)(n:Nat):List PV:=(aF n).map λ(i:Nat)=>PV.int (lo+(i:Int))
noncomputable def Yp(fs:List XE):XL:=λs=>match Om fs s with | some [.int j]=>if -1000000<=j/\j<=1000000 then aA (NA j.toNat) else none | _=>none
noncomputable def Uw(fs:List XE):XL:=λs=>match Om fs s with | some [.int i,.int j]=>if -1000000<=i/\i<=1000000/\-1000000<=j/\j<=1000000 then aA (TY i (j-i).toNat) else none | _=>none
theorem Jz{d:aL->Prop}{e:Hp}(lo:Int)(n:Nat):JIs K d e (Itr lo n) (TY lo n):=by
 refine⟨λc _=>by unfold TY;rw[aM,bu];exact aJ n,λc i l _ a=>?_,λc i l x f _ a y=>?_⟩
 ·have:=(aQ.mp a).1;unfold TY at this;rw[aM,bu] at this;exact this
 ·obtain⟨rfl,rfl⟩:=y;have b:=(aQ.mp a).1;unfold TY at b a;rw[aM,bu] at b;rw[aU,bI b] at a;cases a;exact⟨Same.refl _,[],Is.int _,λp g=>by simp at g⟩
theorem Dn(n:Nat):NA n=TY 0 n:=by apply ao;intro i _;rw[Int.zero_add]
theorem IT{a:az}{fs:List XE}{p pos:fS}(l:Gl X "range")(n:X.mg "range" = none)(c:VA X [a] fs)(g:aX [a] X.env=[(aB,eval a X.env)]:=by rfl):VI X tg (.Call (.Name "range" p) [a] [] pos) (Yp fs):=
 PI.imp (Iv l n c g) λo H R ⟨h,s,ls,f,env,e,k⟩=>by
 unfold Yp at e;split at e
 ·split at e
  ·cases e;rename_i j b t;refine⟨h,s,_,f,env,b,λvs d q s1 m _=>?_⟩;obtain⟨v,rfl,i⟩:=m.one_inv;refine⟨j,by rw[i.int_inv.1],by omega,by omega,k _ d s1 ?_⟩;rw[Dn];exact Jz _ _
  ·cases e
 ·cases e
theorem IU{a b:az}{fs:List XE}{p pos:fS}(q:Gl X "range")(u:X.mg "range" = none)(g:VA X [a,b] fs)(m:aX [a,b] X.env=[(aB,eval a X.env),(aB,eval b X.env)]:=by rfl)(c:aX [b] X.env=[(aB,eval b X.env)]:=by rfl):VI X tg (.Call (.Name "range" p) [a,b] [] pos) (Uw fs):=
 PI.imp (Iw q u g m c) λx H R ⟨n,s,ls,l,env,e,k⟩=>by
 unfold Uw at e;split at e
 ·split at e
  ·cases e;rename_i i j f z;refine⟨n,s,_,l,env,f,λvs h y s1 t _=>?_⟩;obtain⟨v,w,f1,f2,rfl,o,d,_⟩:=t.two_inv;exact⟨i,j,by rw[o.int_inv.1,d.int_inv.1],⟨by omega,by omega,by omega,by omega⟩,k _ h s1 (Jz _ _)⟩
  ·cases e
 ·cases e
noncomputable def W0(m:List PV):List PV:=m.zipIdx.map λz=>.tup [.int (z.2:Nat),z.1]
noncomputable def Ve(m n:List PV):List PV:=(m.zip n).map λz=>.tup [z.1,z.2]
theorem OR{m:List PV}{i:Nat}{l:PV}(h:(W0 m)[i]?=aA l):∃a,m[i]?=aA a/\l = .tup [.int (i:Nat),a]:=by
 unfold W0 at h;rw[aU,List.getElem?_zipIdx] at h
 cases q:m[i]? with
 | none=>rw[q] at h;cases h
 | some a=>rw[q] at h;cases h;exact⟨a,rfl,by simp⟩
theorem OS(m:List PV):(W0 m).length=m.length:=by unfold W0;rw[aM,List.length_zipIdx]
theorem MZ{m n:List PV}{i:Nat}{l:PV}(h:(Ve m n)[i]?=aA l):∃a b,m[i]?=aA a/\n[i]?=aA b/\l = .tup [a,b]:=by
 unfold Ve at h;rw[aU] at h
 cases q:(m.zip n)[i]? with
 | none=>rw[q] at h;cases h
 | some z=>
  rw[q] at h;cases h;obtain⟨d,c⟩:=iK.mp q;exact⟨z.1,z.2,d,c,rfl⟩
theorem M0(m n:List PV):(Ve m n).length=min m.length n.length:=by unfold Ve;rw[aM,List.length_zip]
noncomputable def seqB:Bool->PV->Option (List PV)
 | true,.lst l=>aA l
 | true,.cst l=>aA l
 | false,.tup l=>aA l
 | _,_=>none
theorem NB{H:Hp}{b:Bool}{l:PV}{v:V}{i:List aL}{m:List PV}(h:Is K H l v i)(e:seqB b l=aA m):∃p a k,v = .ref p/\Iss K H m a k/\(∀q∈k,q∈i)/\∀(c:aL->Prop) f,Ab c H f->(∀p,c p->U8 (H p))->(∀p∈i,¬c p)->RO b K f p a:=by
 cases b with
 | true=>cases l with
  | lst l=>
   cases e;obtain⟨p,a,k,rfl,j,d,rfl⟩:=h.lst_inv;exact⟨p,a,k,rfl,d,λq g=>aT _ g,λc f ab _ n=>SqL.of (ab p _ j (n p aa))⟩
  | cst l=>
   cases e;obtain⟨p,a,rfl,j,d⟩:=h.cst_inv;exact⟨p,a,i,rfl,d,λq g=>g,λc f ab o _=>(j.tr (ab.tk o)).sq⟩
  | _=>cases e
 | false=>cases l with
  | tup l=>
   cases e;obtain⟨p,a,rfl,j,d⟩:=h.tup_inv;exact⟨p,a,i,rfl,d,λq g=>g,λc f ab o _=>SqT.of ((ab.tk o).tup p a j)⟩
  | _=>cases e
noncomputable def XB(b:Bool)(fs:List XE):XL:=λs=>match Om fs s with | some [l]=>(seqB b l).map W0 | _=>none
noncomputable def Um(b1 b2:Bool)(fs:List XE):XL:=λs=>match Om fs s with | some [l,r]=>(seqB b1 l).bind λm=>(seqB b2 r).map λn=>Ve m n | _=>none
theorem VU{n:List az}{k:Nat}{h:fS}(b:Bool){a:az}{fs:List XE}{p pos:fS}(Q:Gl X "enumerate")(T:X.mg "enumerate" = none)(L:VA X [a] fs)(N:aX [a] X.env=[(aB,eval a X.env)]:=by rfl) :
  VI X (.Tuple n k h) (.Call (.Name "enumerate" p) [a] [] pos) (XB b fs):=PI.imp (E7 b Q T L N) λY H R ⟨G,s,ls,E,env,e,k⟩=>by
 unfold XB at e;split at e
 ·rename_i l J;obtain⟨m,P,rfl⟩:=map_some e;refine⟨G,s,_,E,env,J,λvs C Z s1 S F=>?_⟩;obtain⟨v,rfl,i⟩:=S.one_inv;have o:=λp f=>Same.mut s1 (E p f);obtain⟨a,u,W,rfl,w,sub,j⟩:=NB i P;have t:=λd ab=>j G d ab o F;refine⟨a,rfl,⟨u,t C (Same.ab (Same.refl C))⟩,k _ C s1 ⟨λd ab=>⟨u,t d ab,by rw[OS,w.len]⟩,λd i l ab B=>?_,λd i l x O ab B y=>?_⟩⟩
  ·obtain⟨c,D,rfl⟩:=OR B;obtain⟨x,f1,A,_,_⟩:=w.get D;exact⟨u,x,t d ab,A⟩
  ·obtain⟨c,D,rfl⟩:=OR B;obtain⟨U,f1,A,ix,M⟩:=w.get D;obtain⟨q,z,I,rfl,rfl,y⟩:=y;have:=y u (t _ ab);rw[A] at this;cases this;have g:=λp f=>F p (sub p (M p f));refine⟨Same.new I _,f1,Is.tup Zx ?_,λp f=>⟨Is.dom _ _ _ ix p f,g p f⟩⟩;exact Iss.cons (Is.int _) (Iss.one ((ix.ab ab o g).mono (Same.new I _)))
 ·cases e
theorem WM{B:List az}{k:Nat}{u:fS}(b1 b2:Bool){a b:az}{fs:List XE}{p pos:fS}(hg:Gl X "zip")(hm:X.mg "zip" = none)(ha:VA X [a,b] fs)
  (hs:aX [a,b] X.env=[(aB,eval a X.env),(aB,eval b X.env)]:=by rfl) (Z:aX [b] X.env=[(aB,eval b X.env)]:=by rfl) :
  VI X (.Tuple B k u) (.Call (.Name "zip" p) [a,b] [] pos) (Um b1 b2 fs):=PI.imp (B4 b1 b2 hg hm ha hs Z) λσ H R ⟨N,s,ls,hd,env,e,k⟩=>by
 unfold Um at e;split at e
 ·rename_i l r he;obtain⟨m,e1,e⟩:=Zg e;obtain⟨n,e2,rfl⟩:=map_some e;refine⟨N,s,_,hd,env,he,λvs I fp s1 i1 n1=>?_⟩;obtain⟨v,w,g1,g2,rfl,iv,iw,rfl⟩:=i1.two_inv;have h:=λp f=>Same.mut s1 (hd p f);have F:=λp f=>n1 p (bg _ f);have C:=λp f=>n1 p (aj _ f);obtain⟨a1,J,fq,rfl,Q,sub,A⟩:=NB iv e1;obtain⟨a2,M,fr,rfl,T,E,o⟩:=NB iw e2;have L:=λg ab=>A N g ab h F;have j:=λg ab=>o N g ab h C;refine⟨a1,a2,rfl,⟨J,L I (Same.ab (Same.refl I))⟩,⟨M,j I (Same.ab (Same.refl I))⟩,k _ I s1 ⟨λg ab=>⟨J,M,L g ab,j g ab,?_⟩,λg i l ab P=>?_,λg i l x H'' ab P y=>?_⟩⟩
  ·rw[M0,Q.len,T.len];omega
  ·obtain⟨c,d,Y,t,rfl⟩:=MZ P;obtain⟨x,f1,U,_,_⟩:=Q.get Y;obtain⟨y,f2,O,_,_⟩:=T.get t;exact⟨J,M,x,y,L g ab,j g ab,U,O⟩
  ·obtain⟨c,d,Y,t,rfl⟩:=MZ P;obtain⟨x',f1,U,ix,sb⟩:=Q.get Y;obtain⟨y',f2,O,iy,W⟩:=T.get t;obtain⟨q,z,z',S,rfl,rfl,y1,y2⟩:=y;have:=y1 J (L _ ab);rw[U] at this;cases this;have:=y2 M (j _ ab);rw[O] at this;cases this;have G:=λp f=>F p (sub p (sb p f));have D:=λp f=>C p (E p (W p f));refine⟨Same.new S _,f1++f2,Is.tup Zx ?_,λp f=>?_⟩
   ·exact Iss.cons ((ix.ab ab h G).mono (Same.new S _)) (Iss.one ((iy.ab ab h D).mono (Same.new S _)))
   ·rcases b6.mp f with f | f
    ·exact⟨Is.dom _ _ _ ix p f,G p f⟩
    ·exact⟨Is.dom _ _ _ iy p f,D p f⟩
 ·cases e
end
inductive Tgt where
 | one (i:Nat) | many (is:List Nat)
noncomputable def Tgt.slots:Tgt->List Nat
 | .one i=>[i]
 | .many is=>is
noncomputable def setAll:List Nat->List PV->ZF->ZF
 | i::is,l::ls,s=>setAll is ls (s.set i (aA l))
 | _,_,s=>s
noncomputable def Y0:List Nat->List V->R4->R4
 | i::is,l::ls,s=>Y0 is ls (s.set i (aA l))
 | _,_,s=>s
noncomputable def Xn:Tgt->PV->ZF->Option ZF
 | .one i,l,s=>aA (s.set i (aA l))
 | .many is,.tup ls,s=>if ls.length=is.length then aA (setAll is ls s) else none
 | _,_,_=>none
noncomputable def Kf:List Nat->CJ
 | []=>Zao
 | i::is=>CK (TQ i) (Kf is)
noncomputable def gT(K:aE):Tgt->TG
 | .one i=>TQ i
 | .many is=>Zap K is.length (Kf is)
theorem Q1:∀{is:List Nat}{vs:List V}{σ:R4}{H:Hp}{Q:R4->Hp->Prop},vs.length=is.length->Q (Y0 is vs σ) H->Kf is vs σ H Q
 | [],[],_,_,_,_,q=>⟨rfl,q⟩
 | [],_::_,_,_,_,h,_=>by simp at h
 | _::_,[],_,_,_,h,_=>by simp at h
 | i::is,v::vs,σ,H,Q,h,q=>⟨v,vs,rfl,Q1 (is:=is) (vs:=vs) (by simpa using h) q⟩
theorem Kg{T:Tgt}{l:PV}{v:V}{b:List aL}{s f:ZF}{H:Hp}(h:Is K H l v b)(e:Xn T l s=aA f) :
  ∃ls vs fs,f=setAll T.slots ls s/\Iss K H ls vs fs/\ls.length=T.slots.length/\(∀p∈fs,p∈b)/\∀c (Q:R4->Hp->Prop),Q (Y0 T.slots vs c) H->gT K T v c H Q:=by
 cases T with
 | one i=>
  cases e;exact⟨[l],[v],b,rfl,Iss.one h,rfl,λp a=>a,λc Q q=>q⟩
 | many is=>
  cases l with
  | tup ls=>
   have e:(if ls.length=is.length then aA (VL.setAll is ls s) else none)=aA f:=e;split at e
   ·cases e;obtain⟨p,g,rfl,a,d⟩:=h.tup_inv;exact⟨ls,g,b,rfl,d,by assumption,λp a=>a,λc Q q=>⟨p,g,rfl,SqT.of a,by rw[d.len];assumption,Q1 (by rw[d.len];assumption) q⟩⟩
   ·cases e
  | _=>cases e
theorem VV:∀{is:List Nat}{vs:List V}{σ:R4}{n:Nat},(∀i∈is,i<n)->(Y0 is vs σ).drop n=σ.drop n
 | [],_,_,_,_=>rfl
 | _::_,[],_,_,_=>rfl
 | i::is,v::vs,σ,n,h=>by show(Y0 is vs (σ.set i (aA v))).drop n=_;rw[VV (λj a=>h j (aT _ a))];have:=h i aa;rw[List.drop_set,lQ this]
theorem EnvIs.set{b:aL->Prop}{H:Hp}{s:ZF}{d:R4}{i:Nat}{l:PV}{v:V}{g:List aL}(h:EnvIs K b H s d)(t:s.length=d.length)(k:Is K H l v g)(n:∀p∈g,¬b p):EnvIs K b H (s.set i (aA l)) (d.set i (aA v)):=⟨λj a e=>by
 rw[bQ] at e;by_cases c:i=j
 ·subst c;rw[lQ rfl] at e;split at e
  ·cases e;exact⟨v,g,by rw[bQ,lQ rfl,lQ (by omega)],k,n⟩
  ·cases e
 ·rw[lU c] at e;obtain⟨w,f,o,m,q⟩:=h.is j a e;exact⟨w,f,by rw[bQ,lU c];exact o,m,q⟩⟩
theorem EnvIs.setAll{a:aL->Prop}{H:Hp}:∀{is:List Nat}{ls:List PV}{vs:List V}{fs:List aL}{s:ZF}{σ:R4},EnvIs K a H s σ->s.length=σ.length->Iss K H ls vs fs->(∀p∈fs,¬a p)->EnvIs K a H (VL.setAll is ls s) (Y0 is vs σ)
 | [],_,_,_,_,_,h,_,_,_=>by unfold VL.setAll Y0;exact h
 | i::is,[],vs,fs,s,σ,h,_,hi,_=>by simp only[Iss] at hi;rw[hi.1];exact h
 | i::is,l::ls,vs,fs,s,σ,h,hl,hi,n=>by obtain⟨x,r,f1,f2,rfl,d,c,rfl⟩:=hi.inv;show EnvIs K a H (VL.setAll is ls (s.set i (aA l))) (Y0 is r (σ.set i (aA x)));exact EnvIs.setAll (h.set hl d λp b=>n p (bg _ b)) (by rw[cS,cS];exact hl) c λp b=>n p (aj _ b)
noncomputable def ZR(n:Nat)(ix:List Nat)(s:ZF):ZF:=aV n none++ix.map (λi=>(s[i]?).join)
noncomputable def W3(T:Tgt)(ft:XT)(fe:XE)(s0:ZF):List PV->Option (List PV)
 | []=>aA []
 | l::r=>(Xn T l s0).bind λs1=>(ft s1).bind λc=>if c=aC then(fe s1).bind λy=>(W3 T ft fe s0 r).map (y::·) else W3 T ft fe s0 r
noncomputable def Zt(n:Nat)(ix:List Nat)(fi:XL)(T:Tgt)(ft:XT)(fe:XE):XE:=λs=>(fi s).bind λls=>if ls.length<=10000 then(W3 T ft fe (ZR n ix s) ls).map .lst else none
noncomputable def Zz:XT:=λ_=>aA aC
theorem IV{d:Type}{o:Option (Option d)}{a:d}(h:o.join=aA a):o=aA (aA a):=by
 cases o with
 | none=>cases h
 | some b=>cases b with
  | none=>cases h
  | some c=>cases h;rfl
theorem EnvIs.comp{g:aL->Prop}{H:Hp}{s:ZF}{f:R4}{n:Nat}{ix:List Nat}(h:EnvIs K g H s f):EnvIs K g H (ZR n ix s) (ZX n ix f):=⟨λi l e=>by
 unfold ZR at e;unfold ZX;by_cases d:i<n
 ·rw[aZ (by simpa using d),bV,lQ d] at e;cases e
 ·rw[bH (by simpa using d),dI,aU] at e;rw[bH (by simpa using d),dI,aU]
  cases q:ix[i-n]? with
  | none=>rw[q] at e;cases e
  | some j=>
   rw[q] at e;have e:=IV (aw e);obtain⟨v,k,a,b,c⟩:=h.is j l e;exact⟨v,k,by show aA ((f[j]?).join)=_;rw[a];rfl,b,c⟩⟩
theorem M1(n:Nat)(ix:List Nat)(s:ZF)(a:R4):(ZR n ix s).length=(ZX n ix a).length:=by unfold ZR ZX;simp
theorem Q2{T:Tgt}{d:XT}{b:XE}{e:ZF}{l:PV}{r f:List PV}(h:W3 T d b e (l::r)=aA f):∃s1 c,Xn T l e=aA s1/\d s1=aA c/\((c=aC/\∃y a,b s1=aA y/\W3 T d b e r=aA a/\f=y::a)\/(c=aB/\W3 T d b e r=aA f)):=by
 obtain⟨s1,i,h⟩:=Zg h;obtain⟨c,k,h⟩:=Zg h;refine⟨s1,c,i,k,?_⟩
 cases c with
 | true=>
  obtain⟨y,j,h⟩:=Zg h;obtain⟨a,g,rfl⟩:=map_some h;exact .inl ⟨rfl,y,a,j,g,rfl⟩
 | false=>
  exact .inr ⟨rfl,h⟩
theorem Q3{b:Type}{l:List b}{i:Nat}{a:b}{r:List b}(h:l.drop i=a::r):l[i]?=aA a/\l.drop (i+1)=r:=by
 constructor
 ·have:=congrArg (λz=>z[0]?) h;simpa [dM] using this
 ·rw[<-List.drop_drop,h];rfl
section
variable {n:Nat} {ix:List Nat} {fi:XL} {T:Tgt} {ft:XT} {fe:XE}
theorem Dp(hT:∀i∈T.slots,i<n):∀G H Q,tF K (Zt n ix fi T ft fe) G H Q->QM n ix (iF K fi) (gT K T) (MU K ft) (tF K fe) G H Q:=λG H Q ⟨o,s,L,U,env,e,k⟩=>by
 obtain⟨ls,e1,e⟩:=Zg e;split at e
 case isFalse=>cases e
 rename_i hlen;obtain⟨ys,e2,rfl⟩:=map_some e;refine⟨o,s,ls,U,env,e1,λJ H1 s1 g=>?_⟩;have O:=λp b=>Same.mut s1 (U p b)
 refine⟨λi m vs t=>m=ls.length-i/\i<=ls.length/\Same H1 t/\∃j Yg w,ys=j++Yg/\j.length<=i/\W3 T ft fe (ZR n ix s) (ls.drop i)=aA Yg/\Iss K t j vs w/\∀p∈w,¬o p,
  ⟨ls.length,by simp,dW _,Same.refl H1,[],ys,[],rfl,aJ _,e2,Iss.nil,λp b=>by simp at b⟩,?_⟩
 rintro i m vs t ⟨rfl,hi,d,j,Yg,w,rfl,E,N,M,X⟩;refine⟨by rw[M.len];exact cU (lt_size (by omega)),?_⟩
 cases q:ls.drop i with
 | nil=>
  have hil:i=ls.length:=by have:=congrArg g9 q;simp at this;omega
  subst hil;rw[q] at N;cases N;refine .inl ⟨g.stop t (Same.ab d),λp b=>k _ _ (p::w) (s1.trans (d.trans (Same.new b _))) ?_ λa Y z=>?_⟩
  ·rw[eK];exact Is.lst Zx (M.mono (Same.new b _))
  ·rcases af.mp Y with rfl | Y
   ·exact Xm (Same.mut (s1.trans d) (U a z)) b
   ·exact X a Y z
 | cons l r=>
  obtain⟨P,hr⟩:=Q3 q;have B:=(aQ.mp P).1;rw[q] at N;obtain⟨sb,c,eb,et,W⟩:=Q2 N
  refine .inr ⟨g.go t i l (Same.ab d) P,λI Z=>Same H1 Z/\∃dn' rest' fp',j++Yg=dn'++rest'/\dn'.length<=i+1/\W3 T ft fe (ZR n ix s) (ls.drop (i+1))=aA rest'/\Iss K Z dn' I fp'/\∀p∈fp',¬o p,
   λI Z h'=>⟨ls.length-(i+1),by omega,rfl,B,h'.1,h'.2⟩,λx H2 y=>?_⟩
  obtain⟨s2,fx,R,nx⟩:=g.yld t i l x H2 (Same.ab d) P y;have C:=λp b=>Same.mut (d.trans s2) (O p b);obtain⟨bl,bv,bf,rfl,bi,_,A,D⟩:=Kg R eb;have F:EnvIs K o H2 (ZR n ix s) (ZX n ix G):=(env.mono (s1.trans (d.trans s2))).comp;have f:=F.setAll (is:=T.slots) (M1 n ix s G) bi λp b=>(nx p (A p b)).2;refine D _ _ ⟨VV hT,o,_,c,C,f,et,λH3 u=>?_⟩;have S:=λp b=>Same.mut u (C p b);rcases W with⟨rfl,y',zs,ey,ez,rfl⟩ | ⟨rfl,ez⟩
  ·refine Za6 ?_;refine⟨o,_,y',S,f.mono u,ey,λv H4 f4 s4 i4 n4=>?_⟩;refine⟨d.trans (s2.trans (u.trans s4)),j++[y'],zs,w++f4,by rw[gO];rfl,by rw[au];simp;exact E,by rw[hr];exact ez,(M.mono (s2.trans (u.trans s4))).append (Iss.one i4),λp b=>?_⟩;rcases b6.mp b with h | h
   ·exact X p h
   ·exact n4 p h
  ·refine Za5 ?_;exact⟨d.trans (s2.trans u),j,Yg,w,rfl,gR E,by rw[hr];exact ez,M.mono (s2.trans u),X⟩
theorem NC(hT:∀i∈T.slots,i<n):∀I H Q,tM K (Zt n ix fi T ft fe) I H Q->QM n ix (iF K fi) (gT K T) (MU K ft) (tM K fe) I H Q:=λI H Q ⟨s,L,env,e,k⟩=>by
 obtain⟨ls,e1,e⟩:=Zg e;split at e
 case isFalse=>cases e
 rename_i hlen;obtain⟨ys,e2,rfl⟩:=map_some e;have hd:∀(H:Hp) p,(λ_=>False:aL->Prop) p->U8 (H p):=λ_ _ z=>z.elim;refine⟨λ_=>False,s,ls,hd H,env,e1,λJ M s1 u=>?_⟩
 refine⟨λi m vs t=>m=ls.length-i/\i<=ls.length/\Same M t/\∃w Yg A,ys=w++Yg/\w.length<=i/\W3 T ft fe (ZR n ix s) (ls.drop i)=aA Yg/\Iss K t w vs A/\A.Nodup/\∀p∈A,M p=none/\U8 (t p),
  ⟨ls.length,by simp,dW _,Same.refl M,[],ys,[],rfl,aJ _,e2,Iss.nil,cg,λp d=>by simp at d⟩,?_⟩
 rintro i m vs t ⟨rfl,hi,g,w,Yg,A,rfl,F,R,O,dv,j⟩;refine⟨by rw[O.len];exact cU (lt_size (by omega)),?_⟩
 cases q:ls.drop i with
 | nil=>
  have hil:i=ls.length:=by have:=congrArg g9 q;simp at this;omega
  subst hil;rw[q] at R;cases R;refine .inl ⟨u.stop t (Same.ab g),λp d=>k _ _ (p::A) (s1.trans (g.trans (Same.new d _))) ?_ (bU.mpr ⟨λz=>Xm (j p z).2 d,dv⟩) λa B=>?_⟩
  ·rw[eK];exact Is.lst Zx (O.mono (Same.new d _))
  ·rcases af.mp B with rfl | B
   ·exact⟨Same.off (s1.trans g) d,by rw[Zx];exact dJ⟩
   ·exact⟨Same.off s1 (j a B).1,Same.mut (Same.new d _) (j a B).2⟩
 | cons l r=>
  obtain⟨S,hr⟩:=Q3 q;have D:=(aQ.mp S).1;rw[q] at R;obtain⟨sb,c,eb,et,Z⟩:=Q2 R
  refine .inr ⟨u.go t i l (Same.ab g) S,λN P=>Same M P/\∃dn' rest' fp',w++Yg=dn'++rest'/\dn'.length<=i+1/\W3 T ft fe (ZR n ix s) (ls.drop (i+1))=aA rest'/\Iss K P dn' N fp'/\fp'.Nodup/\∀p∈fp',M p=none/\U8 (P p),
   λN P h'=>⟨ls.length-(i+1),by omega,rfl,D,h'.1,h'.2⟩,λx X y=>?_⟩
  obtain⟨s2,fx,Y,nx⟩:=u.yld t i l x X (Same.ab g) S y;obtain⟨bl,bv,bf,rfl,bi,_,C,E⟩:=Kg Y eb;have G:EnvIs K (λ_=>False) X (ZR n ix s) (ZX n ix I):=(env.mono (s1.trans (g.trans s2))).comp;have o:=G.setAll (is:=T.slots) (M1 n ix s I) bi λp d=>(nx p (C p d)).2;refine E _ _ ⟨VV hT,λ_=>False,_,c,hd X,o,et,λH3 f=>?_⟩;rcases Z with⟨rfl,y',zs,ey,ez,rfl⟩ | ⟨rfl,ez⟩
  ·refine Za6 ?_;refine⟨_,y',o.mono f,ey,λv H4 f4 W i4 d4 U=>?_⟩;refine⟨g.trans (s2.trans (f.trans W)),w++[y'],zs,A++f4,by rw[gO];rfl,by rw[au];simp;exact F,by rw[hr];exact ez,(O.mono (s2.trans (f.trans W))).append (Iss.one i4),fM.mpr ⟨dv,d4,λa B b hb z=>?_⟩,λp d=>?_⟩
   ·subst z;exact Xm (Same.mut (s2.trans f) (j a B).2) (U a hb).1
   ·rcases b6.mp d with h | h
    ·exact⟨(j p h).1,Same.mut (s2.trans (f.trans W)) (j p h).2⟩
    ·exact⟨Same.off (g.trans (s2.trans f)) (U p h).1,(U p h).2⟩
  ·refine Za5 ?_;exact⟨g.trans (s2.trans f),w,Yg,A,rfl,gR F,by rw[hr];exact ez,O.mono (s2.trans f),dv,λp d=>⟨(j p d).1,Same.mut (s2.trans f) (j p d).2⟩⟩
end
noncomputable def A9(X:Cx)(l8:List az)(f:XT):Prop:=L4 X l8 (MU X.K f)
section
variable {X:Cx} {tg l9 iter c:az} {l8:List az} {scope:dw} {pos:fS} {fi:XL} {T:Tgt} {ft:XT} {fe:XE}
theorem ZW:A9 X [] Zz:=λa s b H Q I ⟨d,g,c,f,env,e,k⟩=>by cases e;exact EZ a s b H Q I (k H (Same.refl H))
theorem ND(h:VT X c ft):A9 X [c] ft:=E4 h
theorem Y1(own fr:List aq)(ix:List Nat)(b:X.calm=aC)(f:VI X tg iter fi)(S:Us X.N X.env.scope scope own fr ix=aC)
  (e:∀cl C s H a,PG (ZM X (own++fr) scope cl C s H a) tg (gT X.K T)) (c:∀cl C s H a,A9 (ZM X (own++fr) scope cl C s H a) l8 ft) (h:∀cl C s H a,VE (ZM X (own++fr) scope cl C s H a) l9 fe)
  (g:∀i∈T.slots,i<own.length:=by decide) (d:∀x,bj iter X.env x=pure x:=by intro _;rfl):VE X (.ListComp l9 [⟨tg,iter,l8,0⟩] scope pos) (Zt own.length ix fi T ft fe):=
 PE.imp (MS own fr ix b f S e (λcl C s H a=>(show L4 (ZM X (own++fr) scope cl C s H a) l8 (MU X.K ft) from c cl C s H a)) (λcl C s H a=>(show PE (ZM X (own++fr) scope cl C s H a) l9 (tF X.K fe) from h cl C s H a)) d) (Dp g)
theorem W4(own fr:List aq)(ix:List Nat)(b:X.calm=aC)(f:VI X tg iter fi)(S:Us X.N X.env.scope scope own fr ix=aC)
  (e:∀cl C s H a,PG (ZM X (own++fr) scope cl C s H a) tg (gT X.K T)) (c:∀cl C s H a,A9 (ZM X (own++fr) scope cl C s H a) l8 ft) (h:∀cl C s H a,VM (ZM X (own++fr) scope cl C s H a) l9 fe)
  (g:∀i∈T.slots,i<own.length:=by decide) (d:∀x,bj iter X.env x=pure x:=by intro _;rfl):VM X (.ListComp l9 [⟨tg,iter,l8,0⟩] scope pos) (Zt own.length ix fi T ft fe):=
 PE.imp (MS own fr ix b f S e (λcl C s H a=>(show L4 (ZM X (own++fr) scope cl C s H a) l8 (MU X.K ft) from c cl C s H a)) (λcl C s H a=>(show PE (ZM X (own++fr) scope cl C s H a) l9 (tM X.K fe) from h cl C s H a)) d) (NC g)
end
noncomputable def Xg(xs:List PV)(lo hi:Option Int):List PV:=(xs.drop (HT.sIx xs.length 0 lo)).take (HT.sIx xs.length xs.length hi-HT.sIx xs.length 0 lo)
theorem Iss.cut{H:Hp}{l:List PV}{g:List V}{f:List aL}(lo e:Option Int)(h:Iss K H l g f):∃f1,Iss K H (Xg l lo e) (IE g lo e) f1/\∀p∈f1,p∈f:=by unfold Xg IE;rw[h.len];obtain⟨f1,a,b⟩:=h.drop (HT.sIx l.length 0 lo);obtain⟨f2,c,d⟩:=a.take (HT.sIx l.length l.length e-HT.sIx l.length 0 lo);exact⟨f2,c,λp i=>b p (d p i)⟩
abbrev XO:=ZF->Option (Option Int)
noncomputable def tFO(K:aE)(f:XO):TO:=λσ H Q=>∃(Rm:aL->Prop) (s:ZF) (i:Option Int),(∀p,Rm p->U8 (H p))/\EnvIs K Rm H s σ/\f s=aA i/\∀H',Same H H'->Q i H'
noncomputable def VO(X:Cx)(e:Option az)(f:XO):Prop:=PO X e (tFO X.K f)
noncomputable def So:XO:=λ_=>aA none
noncomputable def WN(f:XE):XO:=λs=>match f s with | some (.int i)=>aA (aA i) | _=>none
noncomputable def Xx(x:PV)(lo hi:Option Int):Option PV:=match x with | .lst l=>aA (.lst (Xg l lo hi)) | .cst l=>aA (.lst (Xg l lo hi)) | _=>none
noncomputable def R7(x:PV)(lo hi:Option Int):Option PV:=match x with | .tup l=>if HT.sIx l.length 0 lo=0/\HT.sIx l.length l.length hi=l.length then none else aA (.tup (Xg l lo hi)) | _=>none
noncomputable def Up(g:PV->Option Int->Option Int->Option PV)(a:XE)(lo hi:XO):XE:=λs=>(a s).bind λx=>(lo s).bind λl=>(hi s).bind λu=>g x l u
section
variable {X:Cx} {e:az} {lo hi:Option az} {p2 pos:fS} {fa:XE} {fl fh:XO}
theorem Xc:VO X none So:=λa s b H Q I ⟨c,f,i,d,env,e,k⟩=>by cases e;exact EU a s b H Q I (k H (Same.refl H))
theorem Yy{e:az}(h:VE X e fa):VO X (aA e) (WN fa):=λf s m H Q I ⟨g,c,i,d,env,e,k⟩=>by
 unfold WN at e;split at e
 ·cases e;rename_i j l;exact EV h f s m H Q I ⟨g,c,.int j,d,env,l,λv b o a i n=>⟨j,i.int_inv.1,k b a⟩⟩
 ·cases e
theorem Yz(y:VE X e fa)(w:VO X lo fl)(A:VO X j fh):VE X (.Subscript e (.Slice lo j none p2) pos) (Up Xx fa fl fh):=PE.imp (ML EX y w A) λJ H Q ⟨n,s,l,m,env,e,k⟩=>by
 obtain⟨x,B,e⟩:=Zg e;obtain⟨a,C,e⟩:=Zg e;obtain⟨b,D,e⟩:=Zg e;refine⟨n,s,x,m,env,B,λv E L s1 u t=>⟨n,s,a,λp h=>Same.mut s1 (m p h),env.mono s1,C,λG s2=>⟨n,s,b,λp h=>Same.mut (s1.trans s2) (m p h),env.mono (s1.trans s2),D,λF i=>?_⟩⟩⟩
 cases x with
 | lst l=>
  cases e;obtain⟨p,o,I,rfl,h,j,rfl⟩:=(u.mono (s2.trans i)).lst_inv;obtain⟨f1,c,d⟩:=j.cut a b;refine⟨p,o,rfl,SqL.of h,λq g=>k _ _ (q::f1) (s1.trans (s2.trans (i.trans (Same.new g _)))) (Is.lst Zx (c.mono (Same.new g _))) λr f z=>?_⟩;rcases af.mp f with rfl | f
  ·exact Xm (Same.mut (s1.trans (s2.trans i)) (m r z)) g
  ·exact t r (aT _ (d r f)) z
 | cst l=>
  cases e;obtain⟨p,o,rfl,h,j⟩:=(u.mono (s2.trans i)).cst_inv;obtain⟨f1,c,d⟩:=j.cut a b;refine⟨p,o,rfl,h.sq,λq g=>k _ _ (q::f1) (s1.trans (s2.trans (i.trans (Same.new g _)))) (Is.lst Zx (c.mono (Same.new g _))) λr f z=>?_⟩;rcases af.mp f with rfl | f
  ·exact Xm (Same.mut (s1.trans (s2.trans i)) (m r z)) g
  ·exact t r (d r f) z
 | _=>cases e
theorem SG(u:VE X e fa)(o:VO X lo fl)(y:VO X g fh):VE X (.Subscript e (.Slice lo g none p2) pos) (Up R7 fa fl fh):=PE.imp (ML BS u o y) λI H Q ⟨j,s,l,i,env,e,k⟩=>by
 obtain⟨x,z,e⟩:=Zg e;obtain⟨a,A,e⟩:=Zg e;obtain⟨b,B,e⟩:=Zg e;refine⟨j,s,x,i,env,z,λv E J s1 C w=>⟨j,s,a,λp f=>Same.mut s1 (i p f),env.mono s1,A,λG s2=>⟨j,s,b,λp f=>Same.mut (s1.trans s2) (i p f),env.mono (s1.trans s2),B,λF n=>?_⟩⟩⟩
 cases x with
 | tup l=>
  unfold R7 at e;simp only at e;split at e
  ·cases e
  ·rename_i h;cases e;obtain⟨p,D,rfl,f,g⟩:=(C.mono (s2.trans n)).tup_inv;obtain⟨f1,c,d⟩:=g.cut a b;refine⟨p,D,rfl,SqT.of f,by rw[g.len];exact h,λq m=>k _ _ f1 (s1.trans (s2.trans (n.trans (Same.new m _)))) (Is.tup Zx (c.mono (Same.new m _))) λr t=>w r (d r t)⟩
 | _=>cases e
end
end VL
namespace VL
open PySem PySem.Spec PyProof.Rows L2
variable {K:aE}
structure Rel(K:aE)(O:List Nat)(H0:Hp)(fps:Nat->List aL)(s:ZF)(σ:R4)(H:Hp):Prop where
 same:Same H0 H
 len:s.length=σ.length
 is:∀(i:Nat) l,s[i]?=aA (aA l)->∃v,σ[i]?=aA (aA v)/\Is K H l v (fps i)
 emp:∀(i:Nat),(∀l,s[i]?≠aA (aA l))->fps i=[]
 nd:∀i∈O,(fps i).Nodup
 own:∀i∈O,∀p∈fps i,H0 p=none/\U8 (H p)
 dis:∀i∈O,∀j,j≠i->∀p∈fps i,p∉fps j
noncomputable def Ow(O:List Nat)(fps:Nat->List aL)(p:aL):Prop:=∃i∈O,p∈fps i
noncomputable def Xh(O:List Nat)(s:ZF):ZF:=O.foldl (λs i=>s.set i none) s
theorem Q4:∀{O:List Nat}{s:ZF}{i:Nat}{l:PV},(Xh O s)[i]?=aA (aA l)->i∉O/\s[i]?=aA (aA l)
 | [],s,i,l,h=>⟨by simp,h⟩
 | o::O,s,i,l,h=>by
  obtain⟨b,a⟩:=Q4 (O:=O) (s:=s.set o none) h;rw[bQ] at a;by_cases e:o=i
  ·rw[lQ e] at a;split at a<;>cases a
  ·rw[lU e] at a;exact⟨by simp only[af,not_or];exact⟨λz=>e z.symm,b⟩,a⟩
section
variable {O:List Nat} {H0 H H':Hp} {fps:Nat->List aL} {s:ZF} {σ:R4}
theorem Rel.at(r:Rel K O H0 fps s σ H)(i:Nat){p:aL}(c:p∈fps i):∃l v,s[i]?=aA (aA l)/\σ[i]?=aA (aA v)/\Is K H l v (fps i):=by
 cases q:s[i]? with
 | none=>rw[r.emp i (λl z=>by rw[q] at z;cases z)] at c;simp at c
 | some o=>cases o with
  | none=>rw[r.emp i (λl z=>by rw[q] at z;cases z)] at c;simp at c
  | some l=>
   obtain⟨v,a,b⟩:=r.is i l q;exact⟨l,v,rfl,a,b⟩
theorem Rel.dom(r:Rel K O H0 fps s σ H)(i:Nat):∀p∈fps i,H p≠none:=λp a=>by obtain⟨l,v,_,_,b⟩:=r.at i a;exact Is.dom _ _ _ b p a
theorem Rel.env(r:Rel K O H0 fps s σ H):EnvIs K (λ_=>False) H s σ:=⟨λi l e=>by
 obtain⟨v,a,b⟩:=r.is i l e;exact⟨v,_,a,b,λ_ _ z=>z⟩⟩
theorem Rel.envO(r:Rel K O H0 fps s σ H):EnvIs K (Ow O fps) H (Xh O s) σ:=⟨λi l e=>by
 obtain⟨n,e⟩:=Q4 e;obtain⟨v,a,b⟩:=r.is i l e;exact⟨v,_,a,b,λp f ⟨j,d,c⟩=>r.dis j d i (λz=>n (z▸d)) p c f⟩⟩
theorem Rel.owMut(r:Rel K O H0 fps s σ H):∀p,Ow O fps p->U8 (H p):=λp ⟨i,a,b⟩=>(r.own i a p b).2
theorem Rel.grow(r:Rel K O H0 fps s σ H)(e:Same H H'):Rel K O H0 fps s σ H':=
 ⟨r.same.trans e,r.len,λi l q=>by obtain⟨v,a,b⟩:=r.is i l q;exact⟨v,a,b.mono e⟩,r.emp,r.nd,λi d p c=>⟨(r.own i d p c).1,Same.mut e (r.own i d p c).2⟩,r.dis⟩
theorem Rel.less{F:Hp}(r:Rel K O F fps s σ H)(e:Same H0 F):Rel K O H0 fps s σ H:=
 ⟨e.trans r.same,r.len,r.is,r.emp,r.nd,λi b p a=>⟨Same.off e (r.own i b p a).1,(r.own i b p a).2⟩,r.dis⟩
theorem Rel.weak{O':List Nat}(r:Rel K O H0 fps s σ H)(h:∀i∈O',i∈O):Rel K O' H0 fps s σ H:=
 ⟨r.same,r.len,r.is,r.emp,λi a=>r.nd i (h i a),λi a=>r.own i (h i a),λi a=>r.dis i (h i a)⟩
open Classical in
noncomputable def R8(H:Hp)(Rm:aL->Prop):Hp:=λb=>if Rm b then none else H b
theorem IW{a:aL->Prop}:Same (R8 H a) H:=λb o h=>by
 unfold R8 at h;split at h
 ·cases h
 ·exact h
theorem Rel.frame(r:Rel K O H0 fps s σ H):Rel K O (R8 H (Ow O fps)) fps s σ H:=
 ⟨IW,r.len,r.is,r.emp,r.nd,λi a p b=>⟨by unfold R8;rw[lQ ⟨i,a,b⟩],(r.own i a p b).2⟩,r.dis⟩
theorem Rel.under(r:Rel K O H0 fps s σ H):Same H0 (R8 H (Ow O fps)):=λb o h=>by unfold R8;rw[lU (λ⟨i,a,c⟩=>by rw[(r.own i a b c).1] at h;cases h)];exact r.same b o h
open Classical in
noncomputable def R9(fps:Nat->List aL)(n:Nat)(i:Nat)(fp:List aL):Nat->List aL:=λj=>if j=i/\i<n then fp else fps j
theorem Yo{n i j:Nat}{a:List aL}(h:j≠i):R9 fps n i a j=fps j:=by unfold R9;rw[lU (λz=>h z.1)]
theorem JA{n i:Nat}{a:List aL}(h:i<n):R9 fps n i a i=a:=by unfold R9;rw[lQ ⟨rfl,h⟩]
theorem Rel.set(r:Rel K O H0 fps s σ H){i:Nat}{l:PV}{v:V}{f:List aL}(t:Is K H l v f)(o:i∈O->f.Nodup/\∀p∈f,H0 p=none/\U8 (H p))
  (q:∀j,j≠i->(j∈O\/i∈O)->∀p∈f,p∉fps j):Rel K O H0 (R9 fps s.length i f) (s.set i (aA l)) (σ.set i (aA v)) H:=by
 by_cases c:i<s.length
 ·have g:R9 fps s.length i f i=f:=JA c;refine⟨r.same,by rw[cS,cS];exact r.len,λj a e=>?_,λj h=>?_,λj b=>?_,λj b p d=>?_,λj b k n p d=>?_⟩
  ·rw[bQ] at e;by_cases b:i=j
   ·subst b;rw[lQ rfl,lQ c] at e;cases e;rw[g];exact⟨v,by rw[bQ,lQ rfl,lQ (by rw[<-r.len];exact c)],t⟩
   ·rw[lU b] at e;obtain⟨w,x,u⟩:=r.is j a e;rw[Yo (bN b)];exact⟨w,by rw[bQ,lU b];exact x,u⟩
  ·by_cases b:i=j
   ·subst b;exact absurd (by rw[bQ,lQ rfl,lQ c]) (h l)
   ·rw[Yo (bN b)];exact r.emp j λa z=>h a (by rw[bQ,lU b];exact z)
  ·by_cases e:j=i
   ·subst e;rw[g];exact(o b).1
   ·rw[Yo e];exact r.nd j b
  ·by_cases e:j=i
   ·subst e;rw[g] at d;exact(o b).2 p d
   ·rw[Yo e] at d;exact r.own j b p d
  ·by_cases e:j=i
   ·subst e;rw[g] at d;rw[Yo n];exact q k n (.inr b) p d
   ·rw[Yo e] at d;by_cases m:k=i
    ·subst m;rw[g];exact λz=>q j e (.inl b) p z d
    ·rw[Yo m];exact r.dis j b k n p d
 ·have g:s.set i (aA l)=s:=iU (by omega);have m:σ.set i (aA v)=σ:=iU (by rw[<-r.len];omega);have y:R9 fps s.length i f=fps:=by funext j;unfold R9;rw[lU (λz=>c z.2)]
  rw[g,m,y];exact r
theorem Rel.mutate(r:Rel K O H0 fps s σ H){i:Nat}(t:i∈O){p:aL}(n:p∈fps i){o:HO}{y:PV}{v:V}{d:List aL}(E:σ[i]?=aA (aA v))(g:i<s.length)
  (I:Is K (upd H p o) y v d) (D:d.Nodup) (M:∀q∈d,H0 q=none/\U8 (upd H p o q)) (B:∀j,j≠i->∀q∈d,q∉fps j) (F:U8 (aA o)):Rel K O H0 (R9 fps s.length i d) (s.set i (aA y)) σ (upd H p o):=by
 have l:=(r.own i t p n).2;have N:=(r.own i t p n).1;have m:R9 fps s.length i d i=d:=JA g
 have tk:CT H (upd H p o):=⟨λb P h=>by
  rw[upd_ne (λz=>by rw[z] at h;rw[h] at l;exact l)];exact h,λb o P h=>by
  rw[upd_ne (λz=>by rw[z] at h;rw[h] at l;exact l)];exact h,λb o x h=>by
  rw[upd_ne (λz=>by rw[z] at h;rw[h] at l;exact l)];exact h⟩
 refine⟨λb u h=>by rw[upd_ne (Zy h N)];exact r.same b u h,by rw[cS];exact r.len,λj a e=>?_,λj h=>?_,λj c=>?_,λj c q f=>?_,λj c k A q f=>?_⟩
 ·rw[bQ] at e;by_cases c:i=j
  ·subst c;rw[lQ rfl,lQ g] at e;cases e;rw[m];exact⟨v,E,I⟩
  ·rw[lU c] at e;obtain⟨w,J,L⟩:=r.is j a e;rw[Yo (bN c)];refine⟨w,J,Is.tr tk _ _ _ (λq f=>RdK.of λu G=>?_) L⟩;have ne:q≠p:=λz=>r.dis i t j (bN c) p n (z▸f);rw[upd_ne ne];exact G
 ·by_cases c:i=j
  ·subst c;exact absurd (by rw[bQ,lQ rfl,lQ g]) (h y)
  ·rw[Yo (bN c)];exact r.emp j λa z=>h a (by rw[bQ,lU c];exact z)
 ·by_cases e:j=i
  ·subst e;rw[m];exact D
  ·rw[Yo e];exact r.nd j c
 ·by_cases e:j=i
  ·subst e;rw[m] at f;exact M q f
  ·rw[Yo e] at f;refine⟨(r.own j c q f).1,?_⟩;have ne:q≠p:=λz=>r.dis j c i (bN e) q f (z▸n);rw[upd_ne ne];exact(r.own j c q f).2
 ·by_cases e:j=i
  ·subst e;rw[m] at f;rw[Yo A];exact B k A q f
  ·rw[Yo e] at f;by_cases C:k=i
   ·subst C;rw[m];exact λz=>B j e q z f
   ·rw[Yo C];exact r.dis j c k A q f
end
noncomputable def Kep(a b:List aL):Prop:=a=b\/a=[]
theorem Kep.refl(a:List aL):Kep a a:=.inl rfl
theorem Kep.trans{a b c:List aL}(h:Kep a b)(k:Kep b c):Kep a c:=by
 rcases h with rfl | h
 ·exact k
 ·exact .inr h
inductive JB where
 | nx (s:ZF) | rt (l:PV) | bk (s:ZF) | ct (s:ZF)
abbrev XS:=ZF->Option JB
noncomputable def OutOk(K:aE)(O W:List Nat)(H0:Hp)(fps:Nat->List aL)(σ:R4)(D:YQ):JB->Prop
 | .nx s'=>∀l7 σ' H',Rel K O H0 l7 s' σ' H'->(∀j,j∉W->σ'[j]?=σ[j]?/\Kep (l7 j) (fps j))->D.nx σ' H'
 | .bk s'=>∀l7 σ' H',Rel K O H0 l7 s' σ' H'->(∀j,j∉W->σ'[j]?=σ[j]?/\Kep (l7 j) (fps j))->D.bk σ' H'
 | .ct s'=>∀l7 σ' H',Rel K O H0 l7 s' σ' H'->(∀j,j∉W->σ'[j]?=σ[j]?/\Kep (l7 j) (fps j))->D.ct σ' H'
 | .rt l=>∀v fp H',Same H0 H'->Is K H' l v fp->fp.Nodup->(∀p∈fp,H0 p=none/\U8 (H' p))->D.rt v H'
noncomputable def tFS(K:aE)(O W:List Nat)(f:XS):TS:=λD σ H=>∃H0 fps s out,Rel K O H0 fps s σ H/\f s=aA out/\OutOk K O W H0 fps σ D out
noncomputable def VS(X:Cx)(O W:List Nat)(st:bq)(f:XS):Prop:=PS X st (tFS X.K O W f)
noncomputable def VSs(X:Cx)(O W:List Nat)(st:List bq)(f:XS):Prop:=PSs X st (tFS X.K O W f)
theorem OutOk.same{O W m:List Nat}{n:Hp}{fps c:Nat->List aL}{o i:R4}{D:YQ}{d:JB}(h:OutOk K O m n fps o D d)(k:∀j,j∉m->i[j]?=o[j]?/\Kep (c j) (fps j))(e:∀j,j∉m->j∉W):OutOk K O W n c i D d:=by
 cases d with
 | nx s'=>exact λf b g r q=>h f b g r λj a=>⟨(q j (e j a)).1.trans (k j a).1,(q j (e j a)).2.trans (k j a).2⟩
 | bk s'=>exact λf b g r q=>h f b g r λj a=>⟨(q j (e j a)).1.trans (k j a).1,(q j (e j a)).2.trans (k j a).2⟩
 | ct s'=>exact λf b g r q=>h f b g r λj a=>⟨(q j (e j a)).1.trans (k j a).1,(q j (e j a)).2.trans (k j a).2⟩
 | rt l=>exact h
theorem OutOk.less{O W:List Nat}{g F:Hp}{fps:Nat->List aL}{j:R4}{D:YQ}{c:JB}(h:OutOk K O W g fps j D c)(e:Same g F):OutOk K O W F fps j D c:=by
 cases c with
 | nx s'=>exact λf a b r q=>h f a b (r.less e) q
 | bk s'=>exact λf a b r q=>h f a b (r.less e) q
 | ct s'=>exact λf a b r q=>h f a b (r.less e) q
 | rt l=>exact λv o b m i d n=>h v o b (e.trans m) i d λp k=>⟨Same.off e (n p k).1,(n p k).2⟩
noncomputable def Yq:XS:=λs=>aA (.nx s)
noncomputable def Zp(f g:XS):XS:=λs=>(f s).bind λo=>match o with | .nx s'=>g s' | r=>aA r
noncomputable def Tj(c:XT)(f g:XS):XS:=λs=>(c s).bind λk=>if k=aC then f s else g s
noncomputable def ZK(f:XE):XS:=λs=>(f s).map .rt
noncomputable def Zr(i:Nat)(f:XE):XS:=λs=>(f s).map λl=>.nx (s.set i (aA l))
section
variable {X:Cx} {O W W1 W2:List Nat} {st:bq} {Yg:List bq} {f g:XS} {pos:fS}
theorem PS.imp{t t':TS}(h:PS X st t)(i:∀D a H,t' D a H->t D a H):PS X st t':=λb s a H D I q=>h b s a H D I (i D a H q)
theorem PSs.imp{t t':TS}(h:PSs X Yg t)(i:∀D a H,t' D a H->t D a H):PSs X Yg t':=λb s a H D I q=>h b s a H D I (i D a H q)
theorem GR:∀D a H,tFS K O W Yq D a H->CI D a H:=λD a H ⟨c,fps,s,b,r,e,k⟩=>by cases e;exact k fps a H r λj _=>⟨rfl,Kep.refl _⟩
theorem Yb:VSs X O [] [] Yq:=PSs.imp EE GR
theorem Zh(h:VS X O W st f):VSs X O W [st] f:=EF h
theorem Zd(w:VS X O W1 st f)(v:VSs X O W2 Yg g):VSs X O (W1++W2) (st::Yg) (Zp f g):=PSs.imp (MH w v) λD C H ⟨t,fps,s,p,r,e,k⟩=>by
 obtain⟨q,x,e⟩:=Zg e;have a:∀j,j∉W1++W2->j∉W1:=λj b z=>b (bg _ z);have d:∀j,j∉W1++W2->j∉W2:=λj b z=>b (aj _ z);refine⟨t,fps,s,q,r,x,?_⟩
 cases q with
 | nx s1=>
  intro h y B A u;exact⟨t,h,s1,p,A,e,k.same (λj b=>u j (a j b)) d⟩
 | bk s1=>cases e;exact λm c n i o=>k m c n i λj b=>o j (a j b)
 | ct s1=>cases e;exact λm c n i o=>k m c n i λj b=>o j (a j b)
 | rt l=>cases e;exact k
theorem Xa{c:az}{a b:List bq}{n:XT}(p:VT X c n)(o:VSs X O W1 a f)(t:VSs X O W2 b g):VS X O (W1++W2) (.If c a b pos) (Tj n f g):=PS.imp (Zam p o t) λD v H ⟨m,fps,s,h,r,e,k⟩=>by
 obtain⟨c,q,e⟩:=Zg e;have d:∀j,j∉W1++W2->j∉W1:=λj l z=>l (bg _ z);have i:∀j,j∉W1++W2->j∉W2:=λj l z=>l (aj _ z);refine⟨λ_=>False,s,c,λ_ z=>z.elim,r.env,q,λu s1=>?_⟩
 cases c with
 | true=>
  exact⟨m,fps,s,h,r.grow s1,e,k.same (λj _=>⟨rfl,Kep.refl _⟩) d⟩
 | false=>
  exact⟨m,fps,s,h,r.grow s1,e,k.same (λj _=>⟨rfl,Kep.refl _⟩) i⟩
theorem Zs{e:az}{a:XE}(f:VM X e a):VS X O [] (.Return (aA e) pos) (ZK a):=PS.imp (LQ f) λD q H ⟨o,fps,s,h,r,e,k⟩=>by obtain⟨l,j,rfl⟩:=map_some e;exact⟨s,l,r.env,j,λv g m c i d n=>k v m g (r.same.trans c) i d λp b=>⟨Same.off r.same (n p b).1,(n p b).2⟩⟩
theorem Qk{e:az}{i:Nat}(g:PE X e (Nh i))(c:i∈O:=by decide):VS X O [] (.Return (aA e) pos) (ZK (Za i)):=PS.imp (LQ g) λD j H ⟨h,fps,s,d,r,e,k⟩=>by obtain⟨l,f,rfl⟩:=map_some e;obtain⟨v,a,b⟩:=r.is i l (OQ f);exact⟨v,a,k v _ H r.same b (r.nd i c) (r.own i c)⟩
theorem JC{t:TE}{i:Nat}{c:XE}(f:∀a H Q,tM K c a H Q->t a H Q):∀D a H,tFS K O [i] (Zr i c) D a H->LR t (TQ i) D a H:=λD a H ⟨u,fps,s,m,r,e,k⟩=>by
 obtain⟨l,o,rfl⟩:=map_some e;refine f a H _ ⟨s,l,r.env,o,λv h w g is d n=>?_⟩;refine k _ _ h ((r.grow g).set is (λ_=>⟨d,λp b=>⟨Same.off r.same (n p b).1,(n p b).2⟩⟩) λj _ _ p b z=>r.dom j p z (n p b).1) λj q=>?_;have:j≠i:=by simpa using q
 exact⟨by rw[bQ,lU (bN this)],.inl (Yo this)⟩
theorem Am{i:Nat}{x:aq}{e:az}{b:XE}{a:fS}(g:X.N.Nodup)(f:X.N[i]?=aA x)(j:Ez X.env.scope x)(k:VM X e b)(c:gy e (aA (.Name x a)) pos.line X.env=pure aB:=by rfl)(d:X.fn x=aC\/X.env.scope.names.lookup x=aA .local:=by first | exact .inl rfl | exact .inr rfl | assumption) :
  VS X O [i] (.Assign [.Name x a] e pos) (Zr i b):=PS.imp (BF g f j k c d) (JC λ_ _ _ h=>h)
end
noncomputable def Uo(T:Tgt)(fb:XS):List PV->ZF->Option JB
 | [],s=>aA (.nx s)
 | l::r,s=>(Xn T l s).bind λs1=>(fb s1).bind λo=>match o with | .nx s2=>Uo T fb r s2 | .ct s2=>Uo T fb r s2 | .bk s2=>aA (.nx s2) | .rt v=>aA (.rt v)
noncomputable def Xo(O:List Nat)(fi:XL)(T:Tgt)(fb:XS):XS:=λs=>(fi (Xh O s)).bind λls=>Uo T fb ls s
theorem Rel.setAll{O:List Nat}{m H:Hp}:∀{is:List Nat}{ls:List PV}{vs:List V}{fs:List aL}{fps:Nat->List aL}{s:ZF}{σ:R4},Rel K O m fps s σ H->Iss K H ls vs fs->ls.length=is.length->(∀i∈is,i∉O)->(∀i∈O,∀p∈fps i,p∉fs)->
  ∃h,Rel K O m h (VL.setAll is ls s) (Y0 is vs σ) H/\∀j,j∉is->(Y0 is vs σ)[j]?=σ[j]?/\Kep (h j) (fps j)
 | [],ls,vs,fs,fps,s,σ,r,_,_,_,_=>⟨fps,by unfold VL.setAll Y0;exact r,λj _=>⟨by unfold Y0;rfl,Kep.refl _⟩⟩
 | i::is,[],vs,fs,fps,s,σ,r,_,hl,_,_=>by simp at hl
 | i::is,l::ls,vs,fs,fps,s,σ,r,hi,hl,hO,hd=>by
  obtain⟨x,v,f1,f2,rfl,q,o,rfl⟩:=hi.inv;have g:=hO i aa
  have u:=r.set (i:=i) q (λz=>absurd z g) λj f c p k z=>by
   rcases c with c | c
   ·exact hd j c p z (bg _ k)
   ·exact absurd c g
  obtain⟨h,n,t⟩:=Rel.setAll (is:=is) u o (by simpa using hl) (λj f=>hO j (aT _ f)) λj f p k z=>by have d:j≠i:=λe=>g (by rw[<-e];exact f);rw[Yo d] at k;exact hd j f p k (aj _ z)
  refine⟨h,n,λj f=>?_⟩;have d:j≠i:=λe=>f (e▸aa);obtain⟨a,b⟩:=t j (λz=>f (aT _ z));exact⟨a.trans (by rw[bQ,lU (bN d)]),b.trans (.inl (Yo d))⟩
section
variable {O W:List Nat} {T:Tgt} {fb:XS}
theorem GS{C:Hp}{fps:Nat->List aL}{s:ZF}{I:R4}{D:YQ}{J:It}{ls:List PV}{u:JB}(r:Rel K O (R8 C (Ow O fps)) fps s I C)(E:JIs K (Ow O fps) C J ls)(e:Uo T fb ls s=aA u)(hT:∀i∈T.slots,i∉O)
  (k:OutOk K O (T.slots++W) (R8 C (Ow O fps)) fps I D u):Zc7 (gT K T) (tFS K O W fb) D I J C:=by
 have A:∀j,j∉T.slots++W->j∉T.slots:=λj a z=>a (bg _ z);have c:∀j,j∉T.slots++W->j∉W:=λj a z=>a (aj _ z)
 refine⟨λi m t H=>m=ls.length-i/\i<=ls.length/\∃S Z,Rel K O (R8 C (Ow O fps)) S Z t H/\Uo T fb (ls.drop i) Z=aA u/\∀j,j∉T.slots++W->t[j]?=I[j]?/\Kep (S j) (fps j),
  ⟨ls.length,by simp,dW _,fps,s,r,e,λj _=>⟨rfl,Kep.refl _⟩⟩,?_⟩
 rintro i m t H ⟨rfl,hi,S,Z,R,g,Y⟩;have ab:=λb o h n=>R.same b o (by unfold R8;rw[lU n];exact h)
 cases q:ls.drop i with
 | nil=>
  have hil:i=ls.length:=by have:=congrArg g9 q;simp at this;omega
  subst hil;rw[q] at g;cases g;exact .inl ⟨E.stop H ab,k S t H R Y⟩
 | cons l rr=>
  obtain⟨X,hr⟩:=Q3 q;have N:=(aQ.mp X).1;rw[q] at g;obtain⟨sb,eb,g⟩:=Zg g;obtain⟨o,eo,g⟩:=Zg g
  refine .inr ⟨E.go H i l ab X,λF U=>∃fps2 s2,Rel K O (R8 C (Ow O fps)) fps2 s2 F U/\Uo T fb (ls.drop (i+1)) s2=aA u/\∀j,j∉T.slots++W->F[j]?=I[j]?/\Kep (fps2 j) (fps j),
   λF U h2=>⟨ls.length-(i+1),by omega,rfl,N,h2⟩,λx U y=>?_⟩
  obtain⟨s2,fx,ix,nx⟩:=E.yld H i l x U ab X y;obtain⟨bl,bv,bf,rfl,bi,P,M,Q⟩:=Kg ix eb;obtain⟨B,r3,q3⟩:=Rel.setAll (R.grow s2) bi P hT λj a p hp z=>by obtain⟨n1,n2⟩:=nx p (M p z);have:=(R.own j a p hp).1;unfold R8 at this;rw[lU n2] at this;exact n1 this
  refine Q _ _ ⟨_,B,_,o,r3,eo,?_⟩;have d:∀j,j∉T.slots++W->(Y0 T.slots bv t)[j]?=I[j]?/\Kep (B j) (fps j):=λj a=>⟨(q3 j (A j a)).1.trans (Y j a).1,(q3 j (A j a)).2.trans (Y j a).2⟩
  cases o with
  | nx s4=>exact λf G H4 L w=>⟨f,s4,L,by rw[hr];exact g,λj a=>⟨(w j (c j a)).1.trans (d j a).1,(w j (c j a)).2.trans (d j a).2⟩⟩
  | ct s4=>exact λf G H4 L w=>⟨f,s4,L,by rw[hr];exact g,λj a=>⟨(w j (c j a)).1.trans (d j a).1,(w j (c j a)).2.trans (d j a).2⟩⟩
  | bk s4=>
   cases g;exact λf G H4 L w=>k f G H4 L λj a=>⟨(w j (c j a)).1.trans (d j a).1,(w j (c j a)).2.trans (d j a).2⟩
  | rt v=>
   cases g;exact k
end
section
variable {X:Cx} {O W:List Nat} {tg iter:az} {body:List bq} {fi:XL} {T:Tgt} {fb:XS} {pos:fS}
theorem An(l:jZ (model X.prog X.w) X.A X.env X.xe)(d:X.calm=aC)(b:VI X tg iter fi)(j:PG X tg (gT X.K T))(m:VSs X O W body fb)(c:∀i∈T.slots,i∉O:=by decide)
  (f:∀x,bj iter X.env x=pure x:=by intro _;rfl):VS X O (T.slots++W) (.For tg iter body [] pos) (Xo O fi T fb):=PS.imp (BI l d b j m f) λD p H ⟨o,fps,s,g,r,e,k⟩=>by
 obtain⟨ls,h,e⟩:=Zg e;refine⟨Ow O fps,Xh O s,ls,r.owMut,r.envO,h,λJ n s1 a=>?_⟩;exact GS (r.grow s1).frame a e c (k.less (r.grow s1).under)
end
noncomputable def YH(c:XT)(fb:XS):Nat->ZF->Option JB
 | 0,_=>none
 | n+1,s=>(c s).bind λk=>if k=aC then(fb s).bind λo=>match o with | .nx s2=>YH c fb n s2 | .ct s2=>YH c fb n s2 | .bk s2=>aA (.nx s2) | .rt v=>aA (.rt v) else aA (.nx s)
theorem Ux{c:XT}{fb:XS}:∀{n:Nat}{s:ZF}{o:JB},YH c fb n s=aA o->YH c fb (n+1) s=aA o
 | 0,_,_,h=>by cases h
 | n+1,s,o,h=>by
  unfold YH at h ⊢;obtain⟨k,b,h⟩:=Zg h;rw[b]
  cases k with
  | false=>exact h
  | true=>
   rw[lQ rfl] at h;obtain⟨a,d,h⟩:=Zg h;simp only[aY,if_true,d]
   cases a with
   | nx s2=>exact Ux h
   | ct s2=>exact Ux h
   | bk s2=>exact h
   | rt v=>exact h
theorem OT{c:XT}{fb:XS}{n m:Nat}{s:ZF}{o:JB}(h:YH c fb n s=aA o)(a:n<=m):YH c fb m s=aA o:=by
 induction m with
 | zero=>
  have:n=0:=by omega
  subst this;exact h
 | succ m ih=>
  by_cases e:n=m+1
  ·subst e;exact h
  ·exact Ux (ih (by omega))
open Classical in
noncomputable def Xp(c:XT)(fb:XS):XS:=λs=>if h:∃n,(YH c fb n s).isSome=aC then YH c fb h.choose s else none
theorem OU{c:XT}{fb:XS}{n:Nat}{s:ZF}{o:JB}(h:YH c fb n s=aA o):Xp c fb s=aA o:=by
 have a:∃n,(YH c fb n s).isSome=aC:=⟨n,by rw[h];rfl⟩;unfold Xp;rw[dif_pos a];obtain⟨d,e⟩:=cA.mp a.choose_spec;rw[e];rcases Nat.le_total n a.choose with b | b
 ·rw[OT h b] at e;exact e.symm
 ·rw[OT e b] at h;exact h
section
variable {X:Cx} {O W:List Nat} {c:az} {body:List bq} {fc:XT} {fb:XS} {pos:fS}
theorem Vt(M:jZ (model X.prog X.w) X.A X.env X.xe)(G:VT X c fc)(N:VSs X O W body fb):VS X O W (.While c body [] pos) (Xp fc fb):=PS.imp (Gi M G N) λD E H ⟨A,fps,s,w,r,e,k⟩=>by
 unfold Xp at e;split at e
 case isFalse=>cases e
 rename_i F;generalize F.choose=n at e;refine⟨λm g C=>∃q u,Rel X.K O A q u g C/\YH fc fb m u=aA w/\∀j,j∉W->g[j]?=E[j]?/\Kep (q j) (fps j),⟨n,fps,s,r,e,λj _=>⟨rfl,Kep.refl _⟩⟩,?_⟩;rintro m g C ⟨q,u,y,f,i⟩
 cases m with
 | zero=>cases f
 | succ m=>
  obtain⟨b,L,f⟩:=Zg f;refine⟨λ_=>False,u,b,λ_ z=>z.elim,y.env,L,λx s2=>?_⟩
  cases b with
  | false=>
   cases f;exact k q g x (y.grow s2) i
  | true=>
   obtain⟨o,J,f⟩:=Zg f;refine⟨λp x=>∃fps2 s2,Rel X.K O A fps2 s2 p x/\YH fc fb m s2=aA w/\∀j,j∉W->p[j]?=E[j]?/\Kep (fps2 j) (fps j),λp x I=>⟨m,gZ m,I⟩,A,q,u,o,y.grow s2,J,?_⟩
   cases o with
   | nx s4=>exact λa l B t h=>⟨a,s4,t,f,λj d=>⟨(h j d).1.trans (i j d).1,(h j d).2.trans (i j d).2⟩⟩
   | ct s4=>exact λa l B t h=>⟨a,s4,t,f,λj d=>⟨(h j d).1.trans (i j d).1,(h j d).2.trans (i j d).2⟩⟩
   | bk s4=>
    cases f;exact λa l B t h=>k a l B t λj d=>⟨(h j d).1.trans (i j d).1,(h j d).2.trans (i j d).2⟩
   | rt v=>cases f;exact k
end
end VL
namespace VL
open PySem PySem.Spec PyProof.Rows L2
variable {K:aE}
section
variable {O:List Nat} {H0 H H':Hp} {fps:Nat->List aL} {s:ZF} {σ:R4}
theorem Rel.lst_at(r:Rel K O H0 fps s σ H){i:Nat}(j:i∈O){m:List PV}(e:s[i]?=aA (aA (.lst m))):∃p d c,σ[i]?=aA (aA (.ref p))/\H p=aA (.lst d)/\Iss K H m d c/\fps i=p::c:=by obtain⟨v,a,b⟩:=r.is i _ e;obtain⟨p,d,c,rfl,f,h,g⟩:=b.lst_inv;exact⟨p,d,c,a,f,h,g⟩
theorem OV{b:Type}{l:List b}{i:Nat}{a:b}(h:l[i]?=aA a):i<l.length:=(aQ.mp h).1
theorem TK.upd'{p:aL}{o:HO}(a:U8 (H p)):CT H (L2.upd H p o):=⟨λb c h=>by
 rw[upd_ne (λz=>by rw[z] at h;rw[h] at a;exact a)];exact h,λb o c h=>by
 rw[upd_ne (λz=>by rw[z] at h;rw[h] at a;exact a)];exact h,λb o x h=>by
 rw[upd_ne (λz=>by rw[z] at h;rw[h] at a;exact a)];exact h⟩
theorem RdK.upd_ne{p q:aL}{o:HO}(ne:q≠p):RdK H (L2.upd H p o) q:=RdK.of λu a=>by rw[L2.upd_ne ne];exact a
theorem Rel.relist(r:Rel K O H0 fps s σ H){i:Nat}(c:i∈O){m n:List PV}(e:s[i]?=aA (aA (.lst m))){p:aL}{o b:List aL}{d:List V}(g:fps i=p::o)(v:σ[i]?=aA (aA (.ref p)))
  (w:Iss K H n d b) (l:(p::b).Nodup) (k:∀q∈b,q∈o\/((H0 q=none/\U8 (H q))/\∀j,q∉fps j)):Rel K O H0 (R9 fps s.length i (p::b)) (s.set i (aA (.lst n))) σ (L2.upd H p (.lst d)):=by
 have f:p∈fps i:=by rw[g];exact aa
 have x:=(r.own i c p f).2;have u:=(bU.mp l).1;refine r.mutate c f v (OV e) (Is.lst Zx (Iss.tr (TK.upd' x) _ _ _ (λq a=>RdK.upd_ne λz=>u (z▸a)) w)) l (λq a=>?_) (λj t q a z=>?_) dJ
 ·rcases af.mp a with rfl | a
  ·exact⟨(r.own i c q f).1,by rw[Zx];exact dJ⟩
  ·have ne:q≠p:=λz=>u (z▸a);rw[L2.upd_ne ne];rcases k q a with h | h
   ·exact r.own i c q (by rw[g];exact aT _ h)
   ·exact h.1
 ·rcases af.mp a with rfl | a
  ·exact r.dis i c j t q f z
  ·rcases k q a with h | h
   ·exact r.dis i c j t q (by rw[g];exact aT _ h) z
   ·exact h.2 j z
end
noncomputable def M3(s:ZF)(i:Nat):Option (List PV):=match s[i]? with | some (aA (.lst m))=>aA m | _=>none
noncomputable def HY:PV->Option Int
 | .int k=>aA k
 | _=>none
noncomputable def asL:PV->Option (List PV)
 | .lst k=>aA k
 | _=>none
theorem TZ{s:ZF}{i:Nat}{m:List PV}(h:M3 s i=aA m):s[i]?=aA (aA (.lst m)):=by
 unfold M3 at h;split at h
 ·cases h;assumption
 ·cases h
theorem T1{a:PV}{k:Int}(h:HY a=aA k):a = .int k:=by
 unfold HY at h;split at h
 ·cases h;rfl
 ·cases h
theorem GU{a:PV}{k:List PV}(h:asL a=aA k):a = .lst k:=by
 unfold asL at h;split at h
 ·cases h;rfl
 ·cases h
noncomputable def gd(c:Bool):Option Unit:=if c=aC then aA () else none
theorem Ql{c:Bool}{u:Unit}(h:gd c=aA u):c=aC:=by
 unfold gd at h;split at h
 ·assumption
 ·cases h
noncomputable def Xd(i:Nat)(f:XE):XS:=λs=>(f s).bind λl=>(M3 s i).bind λm=>(gd (decide (m.length<=10000))).bind λ_=>aA (.nx (s.set i (aA (.lst (m++[l])))))
noncomputable def UT(i:Nat)(fk:XE)(f:XE):XS:=λs=>(fk s).bind λk=>(f s).bind λl=>(HY k).bind λk=>(M3 s i).bind λm=>(gd (ZO m&&Ya l&&decide (0<=k/\k<=1000000/\m.length<=10000))).bind λ_=>aA (.nx (s.set i (aA (.lst (m.take k.toNat++l::m.drop k.toNat)))))
noncomputable def XI(i:Nat)(fk:XE)(f:XE):XS:=λs=>(f s).bind λl=>(fk s).bind λk=>(HY k).bind λk=>(M3 s i).bind λm=>(gd (ZO m&&Ya l)).bind λ_=>(MM m.length k).map λj=>.nx (s.set i (aA (.lst (m.set j l))))
section
variable {X:Cx} {O:List Nat} {i:Nat} {st:bq} {f fk:XE}
theorem tyL{H:Hp}{p:aL}{a:List V}(h:H p=aA (.lst a)):tyV K "list" (.ref p) H:=.inl ⟨rfl,_,SqL.of h⟩
theorem JD{s:ZF}{a:R4}{fps:Nat->List aL}{b:List aL}:∀j,j∉[i]->a[j]?=a[j]?/\Kep (R9 fps s.length i b j) (fps j):=λj c=>⟨rfl,.inl (Yo (by simpa using c))⟩
theorem Vu(h:PS X st (Gh (tBM X.K "list" Jm (Nh i) (OE (tM X.K f) EM))))(d:i∈O:=by decide):VS X O [i] st (Xd i f):=PS.imp h λD Q H ⟨M,fps,s,F,r,e,k⟩=>by
 obtain⟨l,I,e⟩:=Zg e;obtain⟨m,c,e⟩:=Zg e;obtain⟨_,G,e⟩:=Zg e;have c:=TZ c;have t:=of_decide_eq_true (Ql G);cases e;obtain⟨p,L,P,v,x,w,o⟩:=r.lst_at d c;refine⟨.ref p,v,tyL x,s,l,r.env,I,λy N R s2 E B n=>?_⟩;refine⟨p,L,y,rfl,rfl,s2 _ _ x,by rw[w.len];exact lt_size (by omega),?_⟩;have A:=r.grow s2;have fr:=λq g j z=>r.dom j q z (n q g).1;refine k _ _ _ (A.relist d c o v ((w.mono s2).append (Iss.one E)) ?_ λq g=>?_) JD
 ·have u:=r.nd i d;rw[o] at u;exact fM.mpr ⟨u,B,λa C b J z=>fr b J i (by rw[o,<-z];exact C)⟩
 ·rcases b6.mp g with h | h
  ·exact .inl h
  ·exact .inr ⟨⟨Same.off r.same (n q h).1,(n q h).2⟩,fr q h⟩
theorem Iss.pureEq{H:Hp}{l:List PV}{a:List V}{b:List aL}(h:Iss K H l a b)(c:ZO l=aC):Iss K H l a []:=by have:=Iss.pure _ _ _ c h;subst this;exact h
theorem Kh{l:List PV}(n:Nat)(h:ZO l=aC):ZO (l.take n)=aC:=by rw[XH,ar] at *;exact λx a=>h x (fO a)
theorem Ki{l:List PV}(n:Nat)(h:ZO l=aC):ZO (l.drop n)=aC:=by rw[XH,ar] at *;exact λx a=>h x (jU a)
theorem OW(h:PS X st (Gh (tBM X.K "list" Jn (Nh i) (OE (tF X.K fk) (OE (tF X.K f) EM)))))(o:i∈O:=by decide):VS X O [i] st (UT i fk f):=PS.imp h λD Y H ⟨S,fps,s,G,r,e,k⟩=>by obtain⟨kk,v,e⟩:=Zg e;obtain⟨l,J,e⟩:=Zg e;obtain⟨n,C,e⟩:=Zg e;obtain⟨m,c,e⟩:=Zg e;obtain⟨_,L,e⟩:=Zg e;rw[T1 C] at v;have c:=TZ c;have x:=Ql L;simp only[ba,decide_eq_true_eq] at x;obtain⟨⟨d,E⟩,F,U,t⟩:=x;cases e;obtain⟨p,P,W,w,B,A,M⟩:=r.lst_at o c;refine⟨.ref p,w,tyL B,λ_=>False,s,_,λ_ z=>z.elim,r.env,v,λz Q R s1 N _=>⟨λ_=>False,s,l,λ_ z=>z.elim,r.env.mono s1,J,λy T Z s2 u _=>?_⟩⟩;have a:=s1.trans s2;obtain⟨rfl,_⟩:=N.int_inv;have:=Is.pure _ _ _ E u;subst this;refine⟨p,P,n,y,rfl,rfl,a _ _ B,F,by omega,by rw[A.len];exact lt_size (by omega),?_⟩;have b:=(A.mono a).pureEq d;obtain⟨f1,g,_⟩:=b.take n.toNat;obtain⟨f2,j,_⟩:=b.drop n.toNat;have g:=g.pureEq (Kh _ d);have j:=j.pureEq (Ki _ d);exact k _ _ _ ((r.grow a).relist o c M w (g.append (Iss.cons u j)) (by simp) λq I=>by simp at I) JD
theorem WO(h:PS X st (LR (tF X.K f) (BE (Nh i) (tF X.K fk) Gu)))(d:i∈O:=by decide):VS X O [i] st (XI i fk f):=PS.imp h λD S H ⟨P,fps,s,B,r,e,k⟩=>by obtain⟨l,A,e⟩:=Zg e;obtain⟨kk,t,e⟩:=Zg e;obtain⟨I,w,e⟩:=Zg e;obtain⟨m,b,e⟩:=Zg e;obtain⟨_,E,e⟩:=Zg e;rw[T1 w] at t;have b:=TZ b;have o:=Ql E;simp only[ba] at o;obtain⟨c,g⟩:=o;obtain⟨j,F,rfl⟩:=map_some e;obtain⟨p,L,R,n,J,v,G⟩:=r.lst_at d b;refine⟨λ_=>False,s,l,λ_ z=>z.elim,r.env,A,λy M T s1 u _=>?_⟩;refine⟨.ref p,n,λ_=>False,s,_,λ_ z=>z.elim,r.env.mono s1,t,λz Q N s2 x _=>?_⟩;have a:=s1.trans s2;obtain⟨rfl,_⟩:=x.int_inv;have:=Is.pure _ _ _ g u;subst this;refine⟨p,L,I,j,rfl,rfl,a _ _ J,by rw[v.len];exact F,?_⟩;exact k _ _ _ ((r.grow a).relist d b G n (Iss.setP j c g ((v.mono a).pureEq c) (u.mono s2)) (by simp) λq C=>by simp at C) JD
end
theorem Iss.setRow{H:Hp}{o:List V}:∀{m:List PV}{xs:List V}{fq:List aL}{j:Nat}{n n':List PV}{q:aL},Iss K H m xs fq->m[j]?=aA (.lst n)->xs[j]?=aA (.ref q)->fq.Nodup->U8 (H q)->ZO n=aC->Iss K (L2.upd H q (.lst o)) n' o []->
  Iss K (L2.upd H q (.lst o)) (m.set j (.lst n')) xs fq
 | [],_,_,_,_,_,_,_,e,_,_,_,_,_=>by simp at e
 | a::m,xs,fq,0,n,n',q,h,e,ex,nd,mu,pn,h'=>by obtain⟨x,r,f1,f2,rfl,k,d,rfl⟩:=h.inv;simp at e ex;subst e ex;obtain⟨w,p,t,e,B,b,rfl⟩:=k.lst_inv;cases e;have:=Iss.pure _ _ _ pn b;subst this;have g:q∉f2:=(bU.mp nd).1;exact Iss.cons (Is.lst Zx h') (Iss.tr (TK.upd' mu) _ _ _ (λz b=>RdK.upd_ne λe=>g (e▸b)) d)
 | a::m,xs,fq,j+1,n,n',q,h,e,ex,nd,mu,pn,h'=>by obtain⟨x,r,f1,f2,rfl,k,d,rfl⟩:=h.inv;simp at e ex;obtain⟨s,f,i⟩:=fM.mp nd;obtain⟨y,A,l,u,c⟩:=d.get e;rw[ex] at l;cases l;obtain⟨w,p,t,v,_,_,rfl⟩:=u.lst_inv;cases v;have g:q∉f1:=λz=>i q z q (c q aa) rfl;exact Iss.cons (Is.tr (TK.upd' mu) _ _ _ (λz b=>RdK.upd_ne λe=>g (e▸b)) k) (Iss.setRow d e ex f mu pn h')
noncomputable def Ww(i:Nat)(fa fb:XE)(f:XE):XS:=λs=>(f s).bind λl=>(fa s).bind λa=>(fb s).bind λb=>(HY a).bind λa=>(HY b).bind λb=>(M3 s i).bind λm=>(MM m.length a).bind λj=>(m[j]?).bind λr=>(asL r).bind λn=>
 (gd (ZO n&&Ya l)).bind λ_=>(MM n.length b).map λc=>.nx (s.set i (aA (.lst (m.set j (.lst (n.set c l))))))
theorem UU{X:Cx}{O:List Nat}{i:Nat}{st:bq}{f fa fb:XE}(h:PS X st (LR (tF X.K f) (BE (A8 (BU X.K) (Nh i) (tF X.K fa)) (tF X.K fb) Gu)))(x:i∈O:=by decide):VS X O [i] st (Ww i fa fb f):=PS.imp h λD σ H ⟨H0,fps,s,out,r,e,k⟩=>by
 obtain⟨l,e0,e⟩:=Zg e;obtain⟨a,S,e⟩:=Zg e;obtain⟨b,Y,e⟩:=Zg e;obtain⟨ai,ea,e⟩:=Zg e;obtain⟨bi,eb,e⟩:=Zg e;obtain⟨m,G,e⟩:=Zg e;obtain⟨j,ej,e⟩:=Zg e;obtain⟨ZV,P,e⟩:=Zg e;obtain⟨n,er,e⟩:=Zg e;obtain⟨_,eg,e⟩:=Zg e;rw[T1 ea] at S;rw[T1 eb] at Y;rw[GU er] at P;have G:=TZ G;have hc:=Ql eg;simp only[ba] at hc;obtain⟨Q,U⟩:=hc;obtain⟨c,ec,rfl⟩:=map_some e;obtain⟨p,xs,fq,W,Z,N,E⟩:=r.lst_at x G;refine⟨λ_=>False,s,l,λ_ z=>z.elim,r.env,e0,λy H1 fy s1 T _=>?_⟩;refine⟨.ref p,W,λ_=>False,s,_,λ_ z=>z.elim,r.env.mono s1,S,λz H2 fz s2 i2 _=>?_⟩;obtain⟨rfl,_⟩:=i2.int_inv;have t:=s1.trans s2;obtain⟨q,f1,g,iq,v⟩:=(N.mono t).get P;obtain⟨u,M,fz',rfl,J,hz,rfl⟩:=id iq.lst_inv;refine⟨p,xs,ai,.ref u,rfl,rfl,SqL.of (t _ _ Z),?_,λ_=>False,s,_,λ_ z=>z.elim,r.env.mono t,Y,λw H3 fw I i3 _=>?_⟩
 ·unfold RN;rw[N.len,ej];exact g
 obtain⟨rfl,_⟩:=i3.int_inv;have d:=t.trans I;have R:=r.grow d;have B:u∈fps i:=by rw[E];exact aT _ (v u aa)
 have mu:=(R.own i x u B).2;have A:=I _ _ J;have:=Is.pure _ _ _ U T;subst this;refine⟨u,M,bi,c,rfl,rfl,A,by rw[hz.len];exact ec,?_⟩;have F:=r.nd i x;rw[E] at F;have L:u≠p:=λz=>(bU.mp F).1 (z▸v u aa);have o:Iss X.K (L2.upd H3 u (.lst (M.set c y))) (n.set c l) (M.set c y) []:=Iss.tr (TK.upd' mu) _ _ _ (λq g=>by simp at g) (Iss.setP c Q U ((hz.mono I).pureEq Q) (T.mono (s2.trans I)));have C:=Iss.setRow (N.mono d) P g (bU.mp F).2 mu Q o;refine k _ _ _ (R.mutate x B W (OV G) (Is.lst (by rw[L2.upd_ne (bN L)];exact d _ _ Z) C) F (λq g=>?_) (λj hj q g z=>r.dis i x j hj q (by rw[E];exact g) z) dJ) JD;refine⟨(r.own i x q (by rw[E];exact g)).1,?_⟩;by_cases e:q=u
 ·subst e;rw[Zx];exact dJ
 ·rw[L2.upd_ne e];exact(R.own i x q (by rw[E];exact g)).2
end VL
namespace VL
open PySem PySem.Spec PyProof.Rows L2
variable {K:aE}
section
variable {X:Cx} {a b c d:az} {fa fb fc fd:XE} {pos:fS}
theorem GV(d:X.A.units+64<gJ)(e:VE X a fa)(c:VE X b fb):VE X (.Compare a [.Eq] [b] pos) (Zk (Wr aB) fa fb):=Nu (GN d) (Nz aB) e c (Uq _)
theorem Zbj(d:X.A.units+64<gJ)(e:VE X a fa)(c:VE X b fb):VE X (.Compare a [.NotEq] [b] pos) (Zk (Wr aC) fa fb):=Nu (GO d) (Nz aC) e c (Uq _)
theorem Q5(d:X.A.units+64<gJ)(e:VE X a fa)(c:VE X b fb):VT X (.Compare a [.Eq] [b] pos) (xB (Zk (Wr aB) fa fb)):=Sy (GN d) (Nz aB) e c (Uq _)
theorem Ug(d:X.A.units+64<gJ)(e:VE X a fa)(c:VE X b fb):VT X (.Compare a [.NotEq] [b] pos) (xB (Zk (Wr aC) fa fb)):=Sy (GO d) (Nz aC) e c (Uq _)
theorem Zbk(e:X.A.units+64<gJ)(f:VE X a fa)(d:VE X b fb)(c:c9 .In b=aB:=by with_unfolding_all rfl):VT X (.Compare a [.In] [b] pos) (xB (Zk (IQ aB) fa fb)):=Sy (Aj e) (GP aB) f d c
theorem GW(e:X.A.units+64<gJ)(f:VE X a fa)(d:VE X b fb)(c:c9 .NotIn b=aB:=by with_unfolding_all rfl):VT X (.Compare a [.NotIn] [b] pos) (xB (Zk (IQ aC) fa fb)):=Sy (IP e) (GP aC) f d c
noncomputable def blO:PV->Option Bool
 | .bl c=>aA c
 | _=>none
end
section
variable {X:Cx} {a b:az} {fa fb:XE} {pos:fS}
noncomputable def GX:PV->PV->Option PV
 | .lst m,.lst n=>if m.length+n.length<=10000 then aA (.lst (m++n)) else none
 | _,_=>none
noncomputable def Uh:PV->PV->Option PV
 | .lst m,.lst n=>if m.length+n.length<=10000/\ZO m=aC/\ZO n=aC then aA (.lst (m++n)) else none
 | _,_=>none
theorem T3(u:VE X a fa)(F:VE X b fb):VM X (.BinOp a .Add b pos) (Zk Uh fa fb):=PE.imp (Gk Gv u F) λM H Q ⟨s,l,env,e,k⟩=>by
 obtain⟨i,j,B,C,e⟩:=QS e;refine⟨λ_=>False,s,i,λ_ z=>z.elim,env,B,λx I f1 s1 D _=>⟨λ_=>False,s,j,λ_ z=>z.elim,env.mono s1,C,λy J f2 s2 v _=>?_⟩⟩
 cases i with
 | lst m=>cases j with
  | lst n=>
   have e:(if m.length+n.length<=10000/\ZO m=aC/\ZO n=aC then aA (PV.lst (m++n)) else none)=aA l:=e;split at e
   case isFalse=>cases e
   rename_i d;cases e;obtain⟨p,G,L,rfl,o,h,rfl⟩:=D.lst_inv;obtain⟨A,E,w,rfl,f,c,rfl⟩:=v.lst_inv;refine⟨p,A,G,E,rfl,rfl,s2 _ _ o,f,by rw[h.len,c.len];exact cU (lt_size d.1),λq g=>?_⟩;refine k _ _ [q] (s1.trans (s2.trans (Same.new g _))) (Is.lst Zx ((((h.mono s2).pureEq d.2.1).append (c.pureEq d.2.2)).mono (Same.new g _))) (by simp) λr t=>?_;rw[ah.mp t];exact⟨Same.off (s1.trans s2) g,by rw[Zx];exact dJ⟩
  | _=>cases e
 | _=>cases e
noncomputable def NF:PV->PV->Option PV
 | .lst m,.int k=>if ZO m=aC/\-1000000<=k/\k<=1000000/\m.length*k.toNat<=10000 then aA (.lst (aV k.toNat m).flatten) else none
 | _,_=>none
theorem Iss.rep{H:Hp}{m:List PV}{a:List V}(h:Iss K H m a []):∀k:Nat,Iss K H (aV k m).flatten (aV k a).flatten []
 | 0=>Iss.nil
 | k+1=>by rw[dh,dh,fL,fL];exact h.append (Iss.rep h k)
theorem NG(o:VE X a fa)(A:VE X b fb):VM X (.BinOp a .Mult b pos) (Zk NF fa fb):=PE.imp (Gk BY o A) λF H Q ⟨s,l,env,e,k⟩=>by
 obtain⟨g,h,u,v,e⟩:=QS e;refine⟨λ_=>False,s,g,λ_ z=>z.elim,env,u,λx C f1 s1 w _=>⟨λ_=>False,s,h,λ_ z=>z.elim,env.mono s1,v,λy D f2 s2 t _=>?_⟩⟩
 cases g with
 | lst m=>cases h with
  | int n=>
   have e:(if ZO m=aC/\-1000000<=n/\n<=1000000/\m.length*n.toNat<=10000 then aA (PV.lst (aV n.toNat m).flatten) else none)=aA l:=e;split at e
   case isFalse=>cases e
   rename_i f;cases e;obtain⟨p,B,E,rfl,i,d,rfl⟩:=w.lst_inv;refine⟨p,n,B,rfl,t.int_inv.1,s2 _ _ i,by omega,by omega,by rw[d.len];exact cU (lt_size f.2.2.2),λq c=>?_⟩;refine k _ _ [q] (s1.trans (s2.trans (Same.new c _))) (Is.lst Zx ((Iss.rep ((d.mono s2).pureEq f.1) n.toNat).mono (Same.new c _))) (by simp) λr j=>?_;rw[ah.mp j];exact⟨Same.off (s1.trans s2) c,by rw[Zx];exact dJ⟩
  | _=>cases e
 | _=>cases e
end
theorem Iss.fps{H:Hp}:∀{ls:List PV}{vs:List V}{fp:List aL},Iss K H ls vs fp->∃fps:Nat->List aL,(∀(i:Nat) l,ls[i]?=aA l->∃v,vs[i]?=aA v/\Is K H l v (fps i))/\∀i,ls.length<=i->fps i=[]
 | [],vs,fp,h=>⟨λ_=>[],λi l e=>by simp at e,λ_ _=>rfl⟩
 | a::ls,vs,fp,h=>by
  obtain⟨x,r,f1,f2,rfl,d,f,rfl⟩:=h.inv;obtain⟨fps,g,p2⟩:=f.fps;refine⟨λi=>match i with | 0=>f1 | k+1=>fps k,λi l e=>?_,λi c=>?_⟩
  ·cases i with
   | zero=>simp at e;subst e;exact⟨x,rfl,d⟩
   | succ k=>
    obtain⟨v,a,b⟩:=g k l (by simpa using e);exact⟨v,by simpa using a,b⟩
  ·cases i with
   | zero=>simp at c
   | succ k=>exact p2 k (by simpa using c)
noncomputable def ZJ(m:Nat)(ls:List PV):ZF:=ls.map aA++aV (m-ls.length) none
noncomputable def SH:JB->Option PV
 | .rt v=>aA v
 | .nx _=>aA .non
 | _=>none
noncomputable def YO(m:Nat)(f:XS):List PV->Option PV:=λls=>(f (ZJ m ls)).bind SH
theorem JE{N:List aq}{n:Nat}{O W:List Nat}{f:XS}{vs:List V}{H:Hp}{Q:VK}{E:XK}(w:∀i∈O,n<=i)(h:YX K (YO N.length f) n vs H Q E):tFS K O W f { nx:=λ_ o=>Q .non o,rt:=Q } (L2.start N vs) H:=by
 obtain⟨L,ls,A,l,g,e,q⟩:=h;obtain⟨s,F,u⟩:=Zg e;obtain⟨fps,G,p2⟩:=g.fps;have k:=g.len
 have t:∀i:Nat,ls.length<=i->∀l,(ZJ N.length ls)[i]?≠aA (aA l):=λi g l z=>by
  unfold ZJ at z;rw[bH (by simpa using g),bV] at z;split at z<;>cases z
 have y:Rel K O H fps (ZJ N.length ls) (L2.start N vs) H:=by
  refine⟨Same.refl H,?_,λi a z=>?_,λi x=>?_,λi g=>?_,λi g p m=>?_,λi g j M p m=>?_⟩
  ·unfold ZJ L2.start;simp[k]
  ·by_cases c:i<ls.length
   ·unfold ZJ at z;rw[aZ (by simpa using c),aU] at z
    cases q:ls[i]? with
    | none=>rw[q] at z;cases z
    | some b=>
     rw[q] at z;cases z;obtain⟨v,C,b1⟩:=G i a q;refine⟨v,?_,b1⟩;unfold L2.start;rw[aZ (by simpa [k] using c),aU,C];rfl
   ·exact absurd z (t i (by omega) a)
  ·by_cases c:i<ls.length
   ·exact absurd (by unfold ZJ;rw[aZ (by simpa using c),aU,aG c];rfl) (x ls[i])
   ·exact p2 i (by omega)
  ·rw[p2 i (by have:=w i g;omega)];exact cg
  ·rw[p2 i (by have:=w i g;omega)] at m;simp at m
  ·rw[p2 i (by have:=w i g;omega)] at m;simp at m
 refine⟨H,fps,ZJ N.length ls,s,y,F,?_⟩
 cases s with
 | nx s'=>
  cases u;exact λJ I o B _=>q .non o [] B.same Is.non cg λp m=>by simp at m
 | rt v=>
  cases u;exact λv A o D i d n=>q v o A D i d n
 | bk s'=>cases u
 | ct s'=>cases u
section
variable {P:b9} {w:cW} {mg:aq->Option aI} {base:bp}
theorem NH{x:aq}{st:bq}{N d:List aq}{k n:Nat}{O W:List Nat}(m:Nat)(f:XS)(D:Def K mg x st)(S:Zq N d (Zf st))
  (p:∀(kV doc pm:aI)(an:Option aL)(b ct:aI)(us:List aI),us.length=d.length->i6 (dD x x (XZ st) (Yv st) (Zf st) .none kV doc pm an b ct) ⟨us,[]⟩=pure (d.zip us))
  (j:d.length=n) (o:N.length=m) (g:∀i∈O,n<=i)
  (c:∀(e:aL)(b:aI)(A:cL)(a:List kK)(s:aO)(H:Hp)(E:XK),Room k (A.deeper (gY x (Zf st) s.heap.objs.size e b))->VSs (QI L3 P w K mg base N x (Zf st) e b A a s H E).nox O W (Yv st) f) :
  Xi P w K mg base x d (YX K (YO m f) n) (k+1):=by
 subst o;refine D.cal S p (λvs H Q E h=>by rw[j];exact h.1) λe b A a s H vs Q E l h=>⟨_,c e b A a s H E l,JE g h⟩
end
end VL
namespace VL
open PySem PySem.Spec PyProof.Rows L2
variable {K:aE}
section
variable {X:Cx} {O:List Nat} {tg l9 iter:az} {l8:List az} {scope:dw} {pos:fS} {fi:XL} {T:Tgt} {ft:XT} {fe:XE}
theorem UW(own fr:List aq)(ix:List Nat){i:Nat}{y:aq}{f b:fS}(n:X.N.Nodup)(h:X.N[i]?=aA y)(d:X.env.scope.names.lookup y=aA .local)(c:X.calm=aC)(j:VI X tg iter fi)(S:Us X.N X.env.scope scope own fr ix=aC)
  (o:∀cl C s H a,PG (ZM X (own++fr) scope cl C s H a) tg (gT X.K T)) (g:∀cl C s H a,A9 (ZM X (own++fr) scope cl C s H a) l8 ft) (l:∀cl C s H a,VM (ZM X (own++fr) scope cl C s H a) l9 fe)
  (k:∀i∈T.slots,i<own.length:=by decide)
  (e:gy (.ListComp l9 [⟨tg,iter,l8,0⟩] scope pos) (aA (.Name y f)) b.line X.env=pure aC:=by rfl)
  (m:∀x,bj iter X.env x=pure x:=by intro _;rfl):VS X O [i] (.Assign [.Name y f] (.ListComp l9 [⟨tg,iter,l8,0⟩] scope pos) b) (Zr i (Zt own.length ix fi T ft fe)):=
 PS.imp (Gz own fr ix n h d c j S o (λcl C s H a=>(show L4 (ZM X (own++fr) scope cl C s H a) l8 (MU X.K ft) from g cl C s H a)) (λcl C s H a=>(show PE (ZM X (own++fr) scope cl C s H a) l9 (tM X.K fe) from l cl C s H a)) e m) (JC (NC k))
end
section
variable {P:b9} {w:cW} {mg:aq->Option aI} {base:bp}
theorem Ao{x:aq}{st:bq}{N e:List aq}{k n:Nat}{O W:List Nat}{d:aL}{g:eh}(m:Nat)(f:XS)(F:Fun K x x st d g)(S:Zq N e (Zf st))
  (l:e.length=n) (p:N.length=m) (j:∀i∈O,n<=i)
  (c:∀(d:aL)(b:aI)(A:cL)(a:List kK)(s:aO)(H:Hp)(E:XK),Room k (A.deeper (gY x (Zf st) s.heap.objs.size d b))->VSs (QI L3 P w K mg base N x (Zf st) d b A a s H E).nox O W (Yv st) f) :
  RY P w K mg base L3 (k+1) d g e (YX K (YO m f) n):=by
 subst p;refine F.ok S (λvs H Q E h=>by rw[l];exact h.1) λb A a s H vs Q E o h=>⟨_,c d b A a s H E o,?_⟩;exact JE j h
theorem GY{st:bq}{x:aq}{D:List PV->Option PV}{k:Nat}{j:aL}(o:Def K mg "law" st)(i:mg "law" = aA (.ref j))
  (t:∀(kV c g:aI)(h:Option aL)(d ct u:aI),i6 (dD "law" "law" (XZ st) (Yv st) (Zf st) .none kV c g h d ct) ⟨[u],[]⟩=pure [(x,u)])
  (H:∀(a:bp)(f:aL)(b:eh),K.In a->a.Ns cq mg->Fun K "law" "law" st f b->RY P w K mg a L3 k f b [x] (YX K D 1)) :
  ∃b:eh,(∀(s:aO)(u:aI),jv s b ⟨[u],[]⟩ [(x,u)])/\∀a:bp,K.In a->a.Ns cq mg->RY P w K mg a L3 k j b [x] (YX K D 1):=by
 obtain⟨f,b,p,F⟩:=o.ex;have e:=i.symm.trans p;cases e;refine⟨b,?_,λa m l=>H a j b m l F⟩;obtain⟨y,v,kV,c,g,h,d,ct,n,rfl,z,q⟩:=F.ex;exact λs u=>.of_eq (t kV c g h d ct u)
end
theorem Ap{H:Hp}{a:aL}{b:List Int}{D:List PV->Option PV}{E:XK}(c:D [.cst (iL b)]=aA (.bl aC))(e:BZ H)(d:SqL K H a (b.map V.int)):YX K D 1 [.ref a] H (λv _=>v = .bl aC) E:=by
 have f:CsK K H a (b.map V.int):=by
  rcases d with h | h
  ·rcases h with h | ⟨o,h⟩
   ·rcases e a with z | ⟨o,j,z⟩
    ·rw[h] at z;cases z
    ·rw[h] at z;cases z
   ·exact .inl ⟨o,h⟩
  ·exact .inr h
 exact⟨rfl,[.cst (iL b)],[],.bl aC,Iss.one (Is.cst f (Iss.ofInts b)),c,λv k g _ i _ _=>i.bl_inv.1⟩
end VL
namespace VL
open PySem L2
noncomputable def Aq(K:aE):Bool:=K.all λp=>match p.2.data with
 | .fields vs=>(match vs.toList with
  | _::.str n _::_=>!(Ip n)
  | _=>aC)
 | _=>aC
theorem noLam{K:aE}(g:Aq K=aC):∀(q:aq)(c:aL),Ip q=aC->cz K (.ref c) q=aC->False:=λq c h a=>by
 have a:(match K.lookup c with
   | some ⟨_,_,.fields vs,_⟩=>(match vs.toList with | _::.str n _::_=>n==q | _=>aB)
   | _=>aB)=aC:=a
 split at a
 ·rename_i i k vs j b;split at a
  ·rename_i y n t r d;have f:n=q:=beq_iff_eq.mp a;subst f;have e:=ar.mp g (c,_) (PySem.W.mem_of_lookupK b);simp only[d,h,Bool.not_true] at e;cases e
  ·cases a
 ·cases a
@[simp] theorem eVar_def(i:Nat)(s:ZF):Za i s=(s[i]?).join:=rfl
@[simp] theorem eC_def(l:PV)(s:ZF):eC l s=aA l:=rfl
@[simp] theorem VY(g:PV->PV->Option PV)(a b:XE)(s:ZF):Zk g a b s=(a s).bind λx=>(b s).bind λy=>g x y:=rfl
@[simp] theorem eUn_def(g:PV->Option PV)(a:XE)(s:ZF):GI g a s=(a s).bind g:=rfl
@[simp] theorem NI(f:XE)(s:ZF):eP f s=(f s).bind λl=>if Ya l=aC then aA l else none:=rfl
@[simp] theorem Dq(s:ZF):Om [] s=aA []:=rfl
@[simp] theorem Zw(f:XE)(fs:List XE)(s:ZF):Om (f::fs) s=(f s).bind λx=>(Om fs s).map (x::·):=rfl
@[simp] theorem Y2(D:List PV->Option PV)(fs:List XE)(s:ZF):Zc D fs s=(Om fs s).bind D:=rfl
@[simp] theorem Q6(fs:List XE)(s:ZF):R6 fs s=(Om fs s).map .tup:=rfl
@[simp] theorem Q7(fs:List XE)(s:ZF):WX fs s=(Om fs s).map .lst:=rfl
@[simp] theorem Xq(g:PV->Option Int->Option Int->Option PV)(a:XE)(lo hi:XO)(s:ZF):Up g a lo hi s=(a s).bind λx=>(lo s).bind λl=>(hi s).bind λu=>g x l u:=rfl
@[simp] theorem Qm(s:ZF):So s=aA none:=rfl
@[simp] theorem gI_ii(g:Int->Int->Int)(i j:Int):gI g (.int i) (.int j)=aA (.int (g i j)):=rfl
@[simp] theorem gB_ii(g:Int->Int->Bool)(i j:Int):gB g (.int i) (.int j)=aA (.bl (g i j)):=rfl
@[simp] theorem Ar(C:Int->Int->Prop)[∀i j,Decidable (C i j)](g:Int->Int->Int)(i j:Int):IK C g (.int i) (.int j)=if C i j then aA (.int (g i j)) else none:=rfl
@[simp] theorem gIx_ti(l:List PV)(i:Int):ZN (.tup l) (.int i)=RN l i:=rfl
@[simp] theorem gIx_li(l:List PV)(i:Int):ZN (.lst l) (.int i)=RN l i:=rfl
@[simp] theorem gIx_ci(l:List PV)(i:Int):ZN (.cst l) (.int i)=RN l i:=rfl
@[simp] theorem NJ(f:XE)(s:ZF):xB f s=(f s).bind blO:=by
 unfold xB
 cases f s with
 | none=>rfl
 | some a=>cases a<;>rfl
@[simp] theorem blO_bl(b:Bool):blO (.bl b)=aA b:=rfl
@[simp] theorem xAnd_def(a b:XT)(s:ZF):MV a b s=(a s).bind λc=>if c=aC then b s else aA aB:=rfl
@[simp] theorem Dr(a b:XT)(s:ZF):IL a b s=(a s).bind λc=>if c=aC then aA aC else b s:=rfl
@[simp] theorem GZ(a:XT)(s:ZF):Nx a s=(a s).map not:=rfl
@[simp] theorem G0(a b:XE)(s:ZF):L8 a b s=(xB a s).bind λc=>if c=aC then b s else aA (.bl aB):=rfl
@[simp] theorem Ds(a b:XE)(s:ZF):eOr a b s=(xB a s).bind λc=>if c=aC then aA (.bl aC) else b s:=rfl
@[simp] theorem eNot_def(a:XE)(s:ZF):Dk a s=(xB a s).map λc=>.bl !c:=rfl
@[simp] theorem Qn(c:XT)(a b:XE)(s:ZF):IM c a b s=(c s).bind λk=>if k=aC then a s else b s:=rfl
@[simp] theorem M4(neg:Bool)(a:XE)(s:ZF):Uu neg a s=(a s).bind (GG neg):=rfl
@[simp] theorem sNext_def(s:ZF):Yq s=aA (.nx s):=rfl
@[simp] theorem M5(f g:XS)(s:ZF):Zp f g s=(f s).bind λo=>match o with | .nx s'=>g s' | r=>aA r:=rfl
@[simp] theorem UX(c:XT)(f g:XS)(s:ZF):Tj c f g s=(c s).bind λk=>if k=aC then f s else g s:=rfl
@[simp] theorem G1(f:XE)(s:ZF):ZK f s=(f s).map .rt:=rfl
@[simp] theorem Yt(i:Nat)(f:XE)(s:ZF):Zr i f s=(f s).map λl=>.nx (s.set i (aA l)):=rfl
@[simp] theorem retO_rt(v:PV):SH (.rt v)=aA v:=rfl
@[simp] theorem pureV_int(i:Int):Ya (.int i)=aC:=rfl
@[simp] theorem pureV_bl(i:Bool):Ya (.bl i)=aC:=rfl
@[simp] theorem pureV_str(i:aq):Ya (.str i)=aC:=rfl
@[simp] theorem pureV_non:Ya .non=aC:=rfl
@[simp] theorem UY(l:List PV):Ya (.tup l)=ZO l:=by rw[Ya]
@[simp] theorem pureL_nil:ZO []=aC:=rfl
@[simp] theorem pureL_cons(a:PV)(l:List PV):ZO (a::l)=(Ya a&&ZO l):=rfl
theorem IX{b:Type}{l:List b}{f:b->PV}(h:∀a∈l,Ya (f a)=aC):ZO (l.map f)=aC:=by rw[XH,kC,ar];exact h
@[simp] theorem pureL_iL(l:List Int):ZO (l.map PV.int)=aC:=Z4 l
abbrev pP(l:List Int):PV:=.tup (iL l)
abbrev wP(W:List (List Int)):PV:=.tup (W.map pP)
@[simp] theorem Uy(W:List (List Int)):ZO (W.map pP)=aC:=IX λa _=>by simp
theorem NK{l:List Int}{k:Nat}(h:k<l.length):(iL l)[k]?=aA (.int (Zl l k)):=by simp[Zl,aG h]
theorem YN{l:List Int}{k:Nat}(h:k<l.length):RN (iL l) (k:Int)=aA (.int (Zl l k)):=VJ (NK h)
theorem UZ{W:List (List Int)}{k:Nat}(h:k<W.length):RN (W.map pP) (k:Int)=aA (pP (ZH W k)):=by refine VJ ?_;rw[aU,MT h];rfl
@[simp] theorem As(l:List Int):TV [.tup (l.map PV.int)]=aA (.int l.sum):=by simp[TV,Th,Xj l]
@[simp] theorem NL(l:List Int):TV [.lst (l.map PV.int)]=aA (.int l.sum):=by simp[TV,Th,Xj l]
@[simp] theorem Au(l:List Bool):GJ [.lst (l.map PV.bl)]=aA (.bl (l.all id)):=by simp[GJ,Th,Vd l]
@[simp] theorem Av(l:List Bool):GK [.lst (l.map PV.bl)]=aA (.bl (l.any id)):=by simp[GK,Th,Vd l]
@[simp] theorem G3(l:List PV):Ys [.tup l]=aA (.int l.length):=rfl
@[simp] theorem Kj(l:List PV):Ys [.lst l]=aA (.int l.length):=rfl
@[simp] theorem gLen_c(l:List PV):Ys [.cst l]=aA (.int l.length):=rfl
@[simp] theorem YB(l:List PV):ZI [.lst l]=aA (.tup l):=rfl
@[simp] theorem gTuple_t(l:List PV):ZI [.tup l]=aA (.tup l):=rfl
@[simp] theorem Q8(l:List PV):VP [.tup l]=if ZO l=aC then aA (.lst l) else none:=rfl
@[simp] theorem Q9(l:List PV):VP [.lst l]=if ZO l=aC then aA (.lst l) else none:=rfl
@[simp] theorem gMin2_ii(i j:Int):Zbi [.int i,.int j]=aA (.int (if j<i then j else i)):=rfl
@[simp] theorem gMax2_ii(i j:Int):Jx [.int i,.int j]=aA (.int (if j>i then j else i)):=rfl
@[simp] theorem gInt1_b(c:Bool):QZ [.bl c]=aA (.int (if c then 1 else 0)):=rfl
@[simp] theorem gInt1_i(c:Int):QZ [.int c]=aA (.int c):=rfl
@[simp] theorem gInst_ii(i:Int):Tc [.int i,.ty "int"]=aA (.bl aC):=rfl
@[simp] theorem gInst_ib(i:Int):Tc [.int i,.ty "bool"]=aA (.bl aB):=rfl
@[simp] theorem gInst_tt(l:List PV):Tc [.tup l,.ty "tuple"]=aA (.bl aC):=rfl
@[simp] theorem gInst_ll(l:List PV):Tc [.lst l,.ty "list"]=aA (.bl aC):=rfl
theorem JF(n:Nat)(i j:Int):Uv (n+1) (.int i) (.int j)=aC:=rfl
theorem RS{c d:Type}{f:c->PV}{g:d->PV}{p:PV->PV->Bool}(h:∀a b,p (f a) (g b)=aC):∀(l:List c)(m:List d),((l.map f).zip (m.map g)).all (λz=>p z.1 z.2)=aC
 | [],_=>by simp
 | _::_,[]=>by simp
 | a::l,b::m=>by rw[eV,eV,ji,iT,RS h l m,h a b];rfl
theorem Dt(n:Nat)(l m:List Int):Uv (n+2) (pP l) (pP m)=aC:=RS (λa b=>JF n a b) l m
theorem Aw{l m:List Int}:iL l=iL m↔l=m:=by
 constructor
 ·intro h;exact(List.map_inj_right (λa b e=>PV.int.inj e)).mp h
 ·intro h;rw[h]
theorem Ax{l m:List Int}:pP l=pP m↔l=m:=by rw[PV.tup.injEq];exact Aw
@[simp] theorem VZ(neg:Bool)(i j:Int):Wr neg (.int i) (.int j)=aA (.bl (if neg then !decide (i=j) else decide (i=j))):=by
 unfold Wr;rw[lQ (JF 7 i j)];congr 2;cases neg<;>simp
@[simp] theorem NM(neg:Bool)(l m:List Int):Wr neg (.tup (l.map PV.int)) (.tup (m.map PV.int))=aA (.bl (if neg then !decide (l=m) else decide (l=m))):=by unfold Wr;rw[lQ (Dt 6 l m)];have:decide ((PV.tup (l.map PV.int)) = .tup (m.map PV.int))=decide (l=m):=decide_eq_decide.mpr Ax;rw[this]
theorem OX{c:Type}{T:Tgt}{e:XT}{d:XE}{f:ZF}{q g:c->PV}:∀{ls:List c},(∀a∈ls,∃s1,Xn T (q a) f=aA s1/\e s1=aA aC/\d s1=aA (g a))->W3 T e d f (ls.map q)=aA (ls.map g)
 | [],_=>rfl
 | a::r,h=>by obtain⟨s1,i,j,m⟩:=h a aa;have k:=OX (ls:=r) λb l=>h b (aT _ l);rw[eV,eV];unfold W3;rw[i];simp only[aY,j,if_true,m,k,fJ]
theorem T4{d:Type}{T:Tgt}{i:XT}{e:XE}{j:ZF}{q g:d->PV}{c:d->Bool}:∀{ls:List d},(∀a∈ls,∃s1,Xn T (q a) j=aA s1/\i s1=aA (c a)/\(c a=aC->e s1=aA (g a)))->W3 T i e j (ls.map q)=aA ((ls.filter c).map g)
 | [],_=>rfl
 | a::r,h=>by
  obtain⟨s1,k,l,n⟩:=h a aa;have f:=T4 (ls:=r) λb m=>h b (aT _ m);rw[eV];unfold W3;rw[k];simp only[aY,l]
  cases hc:c a with
  | true=>simp[n hc,f,hc]
  | false=>simp[f,hc]
theorem ZT{c:Type}{n:Nat}{ix:List Nat}{e:XL}{T:Tgt}{f:XT}{d:XE}{s:ZF}(ls:List c)(q g:c->PV)(b:e s=aA (ls.map q))(i:ls.length<=10000)
  (h:∀a∈ls,∃s1,Xn T (q a) (ZR n ix s)=aA s1/\f s1=aA aC/\d s1=aA (g a)):Zt n ix e T f d s=aA (.lst (ls.map g)):=by
 unfold Zt;rw[b];simp only[aY,aM,lQ i,OX h,fJ]
theorem V0{d:Type}{n:Nat}{ix:List Nat}{f:XL}{T:Tgt}{i:XT}{e:XE}{s:ZF}(ls:List d)(q g:d->PV)(c:d->Bool)(b:f s=aA (ls.map q))(j:ls.length<=10000)
  (h:∀a∈ls,∃s1,Xn T (q a) (ZR n ix s)=aA s1/\i s1=aA (c a)/\(c a=aC->e s1=aA (g a))):Zt n ix f T i e s=aA (.lst ((ls.filter c).map g)):=by
 unfold Zt;rw[b];simp only[aY,aM,lQ j,T4 h,fJ]
theorem M6{T:Tgt}{fb:XS}:∀{ls:List PV}{s:ZF}(Jv:Nat->ZF->Prop),Jv 0 s->(∀(i:Nat) l st,ls[i]?=aA l->Jv i st->∃s1 s2,Xn T l st=aA s1/\fb s1=aA (.nx s2)/\Jv (i+1) s2)->
  ∃f,Uo T fb ls s=aA (.nx f)/\Jv ls.length f
 | [],s,Jv,h0,_=>⟨s,rfl,h0⟩
 | l::r,s,Jv,h0,h=>by obtain⟨s1,s2,a,b,c⟩:=h 0 l s rfl h0;obtain⟨f,d,e⟩:=M6 (ls:=r) (s:=s2) (λi=>Jv (i+1)) c λi j st k g=>h (i+1) j st (by simpa using k) g;refine⟨f,?_,e⟩;unfold Uo;rw[a];simp only[aY,b];exact d
theorem G4{n i:Nat}{l:PV}(h:(NA n)[i]?=aA l):i<n/\l = .int (i:Int):=by have a:=(aQ.mp h).1;unfold NA at a h;rw[aM,bu] at a;rw[aU,bI a] at h;exact⟨a,(aw h).symm⟩
theorem G5{lo:Int}{n i:Nat}{l:PV}(h:(TY lo n)[i]?=aA l):i<n/\l = .int (lo+(i:Int)):=by have a:=(aQ.mp h).1;unfold TY at a h;rw[aM,bu] at a;rw[aU,bI a] at h;exact⟨a,(aw h).symm⟩
@[simp] theorem G6(n:Nat):(NA n).length=n:=by unfold NA;simp
@[simp] theorem G7(lo:Int)(n:Nat):(TY lo n).length=n:=by unfold TY;simp
@[simp] theorem bindT_one(i:Nat)(l:PV)(s:ZF):Xn (.one i) l s=aA (s.set i (aA l)):=rfl
theorem IY(i j:Nat)(a b:PV)(s:ZF):Xn (.many [i,j]) (.tup [a,b]) s=aA ((s.set i (aA a)).set j (aA b)):=rfl
theorem W5(m:List PV):W0 m=(aF m.length).map λ(i:Nat)=>.tup [.int (i:Int),m.getD i .non]:=by
 apply dE;intro i;rw[aU];by_cases h:i<m.length
 ·have:(W0 m)[i]?=aA (.tup [.int (i:Int),m[i]]):=by unfold W0;simp
  rw[this,bI h];simp[aG h]
 ·rw[bX (by rw[OS];omega),bX (by simpa using h)];rfl
theorem YU(m n:List PV)(h:n.length=m.length):Ve m n=(aF m.length).map λ(i:Nat)=>.tup [m.getD i .non,n.getD i .non]:=by
 apply dE;intro i;rw[aU];by_cases a:i<m.length
 ·have:(Ve m n)[i]?=aA (.tup [m[i],n[i]]):=by unfold Ve;rw[aU,iK (z:=(m[i],n[i])) |>.mpr ⟨aG a,aG (by omega)⟩];rfl
  rw[this,bI a];simp[aG a,aG (show i<n.length by omega)]
 ·rw[bX (by rw[M0];omega),bX (by simpa using a)];rfl
theorem YI(l:List Int)(i:Nat)(h:i<l.length):(iL l).getD i .non = .int (Zl l i):=by rw[aD,NK h];rfl
@[simp] theorem Du(f:XE)(s:ZF):Yp [f] s=(f s).bind λa=>(HY a).bind λj=>if -1000000<=j/\j<=1000000 then aA (NA j.toNat) else none:=by
 unfold Yp
 cases h:f s with
 | none=>simp[h]
 | some a=>cases a<;>simp[h,HY]
@[simp] theorem Dv(f g:XE)(s:ZF):Uw [f,g] s=(f s).bind λa=>(g s).bind λb=>(HY a).bind λi=>(HY b).bind λj=>if -1000000<=i/\i<=1000000/\-1000000<=j/\j<=1000000 then aA (TY i (j-i).toNat) else none:=by
 unfold Uw
 cases h:f s with
 | none=>simp[h]
 | some a=>cases h2:g s with
  | none=>simp[h,h2]
  | some b=>cases a<;>cases b<;>simp[h,h2,HY]
@[simp] theorem T5(i:Int):HY (.int i)=aA i:=rfl
@[simp] theorem Dw(i:List PV):asL (.lst i)=aA i:=rfl
@[simp] theorem xEnum_def(b:Bool)(f:XE)(s:ZF):XB b [f] s=(f s).bind λl=>(seqB b l).map W0:=by
 unfold XB;cases h:f s<;>simp[h]
@[simp] theorem Pa(b1 b2:Bool)(f g:XE)(s:ZF):Um b1 b2 [f,g] s=(f s).bind λl=>(g s).bind λr=>(seqB b1 l).bind λm=>(seqB b2 r).map λn=>Ve m n:=by
 unfold Um;cases h:f s<;>cases h2:g s<;>simp[h,h2]
@[simp] theorem seqB_f(l:List PV):seqB aB (.tup l)=aA l:=rfl
@[simp] theorem seqB_t(l:List PV):seqB aC (.lst l)=aA l:=rfl
@[simp] theorem seqB_c(l:List PV):seqB aC (.cst l)=aA l:=rfl
@[simp] theorem xLst_def(f:XE)(s:ZF):Xw f s=(f s).bind Al:=rfl
@[simp] theorem asS_l(l:List PV):Al (.lst l)=aA l:=rfl
@[simp] theorem asS_c(l:List PV):Al (.cst l)=aA l:=rfl
theorem T6{f:XE}{s:ZF}{l:List PV}(h:f s=aA (.tup l)):SE f s=aA l:=by unfold SE;rw[h]
@[simp] theorem sFor_def(O:List Nat)(fi:XL)(T:Tgt)(fb:XS)(s:ZF):Xo O fi T fb s=(fi (Xh O s)).bind λls=>Uo T fb ls s:=rfl
@[simp] theorem xTrue_def(s:ZF):Zz s=aA aC:=rfl
theorem YC{f:XE}{s:ZF}{n:Nat}(h:f s=aA (.int (n:Int)))(a:n<=10000):Yp [f] s=aA (NA n):=by rw[Du,h];simp only[aY,T5];rw[lQ ⟨by omega,by omega⟩,cK]
theorem SI{f g:XE}{s:ZF}{i j:Int}(h:f s=aA (.int i))(a:g s=aA (.int j))(b : -10000<=i/\i<=10000)(c : -10000<=j/\j<=10000):Uw [f,g] s=aA (TY i (j-i).toNat):=by rw[Dv,h,a];simp only[aY,T5];rw[lQ ⟨by omega,by omega,by omega,by omega⟩]
theorem Ay{i j:Int}(a : -10000<=i)(h:i<=10000):CMul i j:=by
 refine .inl ?_;have e:(2^64:Int)=18446744073709551616:=by decide
 rw[e];omega
theorem Qo{c:Bool}(h:c=aC):gd c=aA ():=by unfold gd;rw[lQ h]
theorem Tn{i:Nat}{f:XE}{s:ZF}{m:List PV}{l:PV}(h:f s=aA l)(a:M3 s i=aA m)(b:m.length<=10000):Xd i f s=aA (.nx (s.set i (aA (.lst (m++[l]))))):=by unfold Xd;rw[h];simp only[aY,a,Qo (decide_eq_true b)]
theorem Kk{i:Nat}{a f:XE}{s:ZF}{m:List PV}{l:PV}{k:Int}(b:a s=aA (.int k))(h:f s=aA l)(d:M3 s i=aA m)(n:ZO m=aC)(e:Ya l=aC)(j:0<=k)(g:k<=1000000)(o:m.length<=10000) :
  UT i a f s=aA (.nx (s.set i (aA (.lst (m.take k.toNat++l::m.drop k.toNat))))):=by
 unfold UT;rw[b,h];have c:(ZO m&&Ya l&&decide (0<=k/\k<=1000000/\m.length<=10000))=aC:=by rw[n,e,decide_eq_true ⟨j,g,o⟩];rfl
 simp only[aY,T5,d,Qo c]
theorem OY{i:Nat}{a f:XE}{s:ZF}{m:List PV}{l:PV}{k:Int}{j:Nat}(h:f s=aA l)(b:a s=aA (.int k))(d:M3 s i=aA m)(g:ZO m=aC)(e:Ya l=aC)(n:MM m.length k=aA j) :
  XI i a f s=aA (.nx (s.set i (aA (.lst (m.set j l))))):=by
 unfold XI;rw[b,h];have c:(ZO m&&Ya l)=aC:=by rw[g,e];rfl
 simp only[aY,T5,d,Qo c,n,fJ]
theorem Pb{i:Nat}{d fb f:XE}{s:ZF}{m n:List PV}{l:PV}{a b:Int}{j c:Nat}(h:f s=aA l)(g:d s=aA (.int a))(u:fb s=aA (.int b))(q:M3 s i=aA m)(p:MM m.length a=aA j)(e:m[j]?=aA (.lst n))(t:ZO n=aC)(o:Ya l=aC)(k:MM n.length b=aA c) :
  Ww i d fb f s=aA (.nx (s.set i (aA (.lst (m.set j (.lst (n.set c l))))))):=by
 unfold Ww;rw[h,g,u];have v:(ZO n&&Ya l)=aC:=by rw[t,o];rfl
 simp only[aY,T5,Dw,q,p,e,Qo v,k,fJ]
theorem U0{n k:Nat}(h:k<n):MM n (k:Int)=aA k:=by unfold MM;rw[lQ (by omega),lQ (by omega)];rfl
theorem Az{i j:Int}(a:0<j)(h:j<=10000):Gm i j:=⟨a,by omega⟩
@[simp] theorem AA{i j:Int}(h : -(2^64)<i/\i<2^64):CMul i j:=.inl h
end VL
namespace VL
open PySem PySem.Spec PyProof.Rows L2
variable {K:aE}
noncomputable def CZ(K:aE):R2:=λx y H Q=>∃a b xs ys,x = .ref a/\y = .ref b/\SqT K H a xs/\SqT K H b ys/\xs.length+ys.length<=sizeLine/\
 (xs=[]->Q (.ref b) H)/\(ys=[]->Q (.ref a) H)/\∀p,H p=none->Q (.ref p) (upd H p (.tup (xs++ys)))
theorem NN{X:Cx}:TN X (dU .Add) (CZ X.K):=by
 intro S s T H x y v u Q I o p h;obtain⟨a,b,w,N,rfl,rfl,m,t,F,C,B,G⟩:=h;by_cases e:w=[]
 ·cases o;cases p;obtain⟨P,M,L,_⟩:=I.tuple m;obtain⟨c,R,p2,_⟩:=I.tuple t;obtain⟨⟨z,A,q,O⟩,k,E,n,D⟩:=id L;obtain⟨⟨l,g,data2,f⟩,d,i,J,j⟩:=id p2;subst E D i j
  exact jy ⟨_,k,rfl⟩ ⟨_,d,rfl⟩ i7 j9 gM gC (fZ _ _)
   (tuple_addW0 a b P.toArray c.toArray n J A g O f (by simp[M.nil_iff.mpr e])) ⟨k,d,.ref b,H,I,rfl,C e⟩
 ·exact EW _ _ _ _ _ _ _ _ _ I o p ⟨a,b,w,N,rfl,rfl,m,t,e,F,B,λ_=>G⟩
noncomputable def OZ:PV->PV->Option PV
 | .tup m,.tup n=>if m.length+n.length<=10000 then aA (.tup (m++n)) else none
 | _,_=>none
theorem NO:RB K (CZ K) OZ:=λH x y a b l j fb h o e Q k=>by
 cases a with
 | tup m=>cases b with
  | tup n=>
   have e:(if m.length+n.length<=10000 then aA (PV.tup (m++n)) else none)=aA l:=e;split at e
   case isFalse=>cases e
   rename_i s;cases e;obtain⟨p,w,rfl,v,f⟩:=h.tup_inv;obtain⟨t,u,rfl,g,c⟩:=o.tup_inv;refine⟨p,t,w,u,rfl,rfl,SqT.of v,SqT.of g,by rw[f.len,c.len];exact cU (lt_size s),λz=>?_,λz=>?_,λq i=>?_⟩
   ·have:=gE.mp (by rw[<-f.len,z];rfl);subst this;exact k _ _ fb (Same.refl _) o λr d=>.inr (.inl d)
   ·have:=gE.mp (by rw[<-c.len,z];rfl);subst this;rw[eK] at k;exact k _ _ j (Same.refl _) h λr d=>.inl d
   ·exact k _ _ (j++fb) (Same.new i _) (Is.tup Zx ((f.append c).mono (Same.new i _))) λr d=>(b6.mp d).elim .inl λz=>.inr (.inl z)
  | _=>cases e
 | _=>cases e
end VL
namespace VL
open PySem
open PySem.Sem (wp)
open PySem.Builtin
theorem SJ:fillsNumberSlot (.type "tuple") "mul" = pure aB:=rfl
theorem NP:seqRepeat? (.type "tuple")=pure (aA (.builtin "tuple.__mul__")):=rfl
theorem Pc(a:Int)(t:Tok)(l:aL)(b:Array aI)(n:Nat)(c:Option aL)(e:Array (Option aI)) :
  Meets (j2.«int.__rmul__» ⟨[.int a t,.ref l],[]⟩) (λ_ R s=>s.heap.get? l=aA { cls:=.type "tuple",dict:=c,data:=.seq b n,slots:=e }/\R (.ok (.ret aI.notImplemented)) s):=
 .of_wp λprog w A R s h=>by obtain⟨i,g,d,tk,os⟩:=s;obtain⟨f,h⟩:=h;wp_walk;exact⟨_,rfl,h⟩
theorem Pd(l:aL)(a:Array aI)(n:Nat)(j:Option aL)(p:Array (Option aI))(x:Int)(u:Tok)(y:1<x)(v:x<2^63)(e:a.isEmpty=aB)(o:a.size*x.toNat<=sizeLine)
  (b:Array aI) (i:jf (λk f=>k++f) #[] (aV x.toNat a)=b) (q:b.size<=sizeLine) :
  Meets (j2.«tuple.__mul__» ⟨[.ref l,.int x u],[]⟩) (λ_ R s=>s.heap.get? l=aA { cls:=.type "tuple",dict:=j,data:=.seq a n,slots:=p }/\R (.ok (.ret (kJ s.heap.objs.size))) { s with heap:=s.heap.push { cls:=kc "tuple",data:=Data.seq b },toks:=s.toks }):=
 .of_wp λprog w A R s h=>by
  obtain⟨z,g,d,tk,os⟩:=s;obtain⟨t,h⟩:=h;have c:a.size*x.toNat<=2^40:=by rw[jM] at o;omega
  have m:(a.size:Int)*x=((a.size*x.toNat:Nat):Int):=by rw[jH,j6 (by omega)]
  wp_walk
  refine fj (by simp;omega) ?_
  wp_walk
  refine fj (by simp[e];omega) ?_
  wp_walk
  refine fj (by simp[e];omega) ?_
  wp_walk
  refine fj (decide_eq_false (by omega)) ?_
  wp_walk
  refine fj (decide_eq_false (by rw[m];unfold Tuple.tupleTooMany;simp only[decide_eq_true_eq];omega)) ?_
  wp_walk
  rw[i];exact⟨_,rfl,h⟩
theorem Oq(l:aL)(a:Array aI)(n:Nat)(b:Option aL)(c:Array (Option aI))(u:Tok) :
  Meets (j2.«tuple.__mul__» ⟨[.ref l,.int 1 u],[]⟩) (λ_ R s=>s.heap.get? l=aA { cls:=.type "tuple",dict:=b,data:=.seq a n,slots:=c }/\R (.ok (.ret (kJ l))) s):=
 .of_wp λprog w A R s h=>by
  obtain⟨f,g,d,tk,os⟩:=s;obtain⟨e,h⟩:=h
  wp_walk
  exact⟨_,rfl,h⟩
end VL
namespace VL
open PySem PySem.Spec PyProof.Rows L2
noncomputable def C0(K:aE):R2:=λx y H Q=>∃a k xs,x = .ref a/\y = .int k/\SqT K H a xs/\xs≠[]/\1<=k/\k<2^62/\xs.length*k.toNat<=sizeLine/\
 (k=1->Q (.ref a) H)/\∀p,H p=none->Q (.ref p) (upd H p (.tup (aV k.toNat xs).flatten))
theorem Dx{X:Cx}:TN X (dU .Mult) (C0 X.K):=by
 intro U s Z H x y v u Q I G R h;obtain⟨a,k,xs,rfl,rfl,E,C,Y,W,i,D,O⟩:=h;cases G;obtain⟨t,rfl⟩:=R;obtain⟨c,j,S,_⟩:=I.tuple E;obtain⟨⟨A,f,p,l⟩,d,M,n,L⟩:=id S;subst M L;have m:=j.length
 refine iI rfl ⟨_,d,rfl⟩ (λJ=>ir J k t) SJ F.fills_int_mul F.slot_int_rmul NP F.slot_int_index.lookup
  (gA F.slot_int_rmul (ir s k t) F.entry_int_rmul (F.args_int_rmul_2 _ _) (Pc k t a c.toArray n f l) ⟨d,rfl,⟨_,d,rfl⟩,?_⟩)
 by_cases P:k=1
 ·subst P;exact gA F.slot_tuple_mul ⟨_,d,rfl⟩ F.entry_tuple_mul (F.args_tuple_mul_2 _ _) (Oq a c.toArray n f l t) ⟨d,.ref a,H,I,rfl,D rfl⟩
 ·have g:c.toArray.isEmpty=aB:=by
   cases c with
   | nil=>exact absurd (j.nil_iff.mp rfl) C
   | cons _ _=>rfl
  have z:jf (λB w=>B++w) #[] (aV k.toNat c.toArray)=(aV k.toNat c).flatten.toArray:=by have:=Ss c k.toNat [];exact this
  have N:(aV k.toNat c).flatten.length<=sizeLine:=by rw[Nn,fF,<-m];exact i
  refine gA F.slot_tuple_mul ⟨_,d,rfl⟩ F.entry_tuple_mul (F.args_tuple_mul_2 _ _) (Pd a c.toArray n f l k t (by omega) (by omega) g (by rw[aR,<-m];exact i) _ z (by rw[aR];exact N)) ⟨d,?_⟩;refine⟨.ref s.heap.objs.size,_,I.laid (λb T q=>aH _ q) (aJ _) ?_,rfl,O _ (I.hok.fresh (aJ _))⟩;exact⟨⟨by rw[Nn,fF];exact i,λo e=>QF e⟩,_,j.rep k.toNat,kN _ _⟩
noncomputable def M7:PV->PV->Option PV
 | .tup m,.int k=>if ZO m=aC/\m≠[]/\1<=k/\k<=1000000/\m.length*k.toNat<=10000 then aA (.tup (aV k.toNat m).flatten) else none
 | _,_=>none
theorem Dy{K:aE}:RB K (C0 K) M7:=λH x y a b l i fb g s e Q k=>by
 cases a with
 | tup m=>cases b with
  | int n=>
   unfold M7 at e;simp only at e;split at e
   case isFalse=>cases e
   rename_i c;cases e;obtain⟨p,t,rfl,o,d⟩:=g.tup_inv;refine⟨p,n,t,rfl,s.int_inv.1,SqT.of o,λz=>c.2.1 (gE.mp (by rw[<-d.len,z];rfl)),c.2.2.1,by omega,by rw[d.len];exact cU (lt_size c.2.2.2.2),λz=>?_,λq h=>?_⟩
   ·subst z;have j:(aV (Int.toNat 1) m).flatten=m:=by simp
    rw[j] at k;exact k _ _ i (Same.refl _) g λr f=>.inl f
   ·exact k _ _ [] (Same.new h _) (Is.tup Zx ((Iss.rep (d.pureEq c.1) n.toNat).mono (Same.new h _))) λr f=>by simp at f
  | _=>cases e
 | _=>cases e
end VL
namespace PW
open PySem L2 VL
noncomputable def O0:XS:=(ZK (eP (Zc TV [Zk ZN (Za 0) (Za 1)])))
noncomputable def U1:List PV->Option PV:=YO 2 O0
noncomputable def JG:XS:=(ZK (eP (Zc TV [Za 0])))
noncomputable def U2:List PV->Option PV:=YO 1 JG
noncomputable def G8:XS:=(ZK (eP (Zc TV [Zt 2 [1,2] (XB aB [Zk ZN (Za 0) (Za 2)]) (.many [0,1]) Zz (Zk R5 (Za 1) (Zk Wb (Zk ZN (Za 2) (Za 0)) (Zk ZN (Za 2) (Za 3))))])))
noncomputable def Pe:List PV->Option PV:=YO 3 G8
noncomputable def C1:XS:=(ZK (eP (Zc ZI [Zt 2 [0,2] (XB aB [Za 1]) (.many [0,1]) Zz (Zk Ym (Za 1) (Zc Pe [Za 2,Za 3,Za 0]))])))
noncomputable def Td:List PV->Option PV:=YO 3 C1
noncomputable def G9:XS:=(ZK (eP (Zc ZI [Zt 2 [] (Um aB aB [Za 0,Za 1]) (.many [0,1]) Zz (Zk Ym (Za 0) (Za 1))])))
noncomputable def To:List PV->Option PV:=YO 2 G9
noncomputable def JH:XS:=(ZK (eP (Zc ZI [Zt 2 [] (Um aB aB [Za 0,Za 1]) (.many [0,1]) Zz (Zk Wb (Za 0) (Za 1))])))
noncomputable def U3:List PV->Option PV:=YO 2 JH
noncomputable def O1:XS:=(ZK (eP (L8 (Zc Tc [Za 0,eC (.ty "int")]) (Dk (Zc Tc [Za 0,eC (.ty "bool")])))))
noncomputable def Vv:List PV->Option PV:=YO 1 O1
end PW
set_option maxHeartbeats 1000000
namespace VL
open PySem PySem.Spec PyProof.Rows L2
noncomputable def AB(f:XE):XL:=λs=>match Xw f s with
 | some m=>aA m
 | none=>SE f s
theorem Zbl{f:XE}{s:ZF}{l:List PV}(q:f s=aA (.lst l)):AB f s=aA l:=by unfold AB Xw;rw[q];rfl
noncomputable def Xy:List Int->Int
 | []=>0
 | [x]=>x
 | x::y::r=>if Xy (y::r)<x then Xy (y::r) else x
theorem SK:∀{l:List Int},l≠[]->Xy l∈l/\∀x∈l,Xy l<=x
 | [],h=>absurd rfl h
 | [x],_=>by simp[Xy]
 | x::y::r,_=>by
  obtain⟨a,b⟩:=SK (l:=y::r) (by simp);unfold Xy;split
  ·rename_i h;refine⟨aT _ a,λz c=>?_⟩;rcases af.mp c with rfl | c
   ·omega
   ·exact b z c
  ·rename_i h;refine⟨by simp,λz c=>?_⟩;rcases af.mp c with rfl | c
   ·omega
   ·have:=b z c;omega
theorem JI{l:List Int}{m:Int}(h:m∈l)(g:∀x∈l,m<=x):Xy l=m:=by obtain⟨a,b⟩:=SK (l:=l) (by intro z;subst z;simp at h);have:=b m h;have:=g _ a;omega
theorem Pf(c:Nat->Int):∀k,argBest (λi j=>decide (c i<c j)) k<=k/\∀j,j<=k->c (argBest (λi j=>decide (c i<c j)) k)<=c j
 | 0=>⟨aJ _,λj d=>by rw[Nat.le_zero.mp d];exact dk _⟩
 | k+1=>by
  obtain⟨a,b⟩:=Pf c k;unfold argBest;split
  ·rename_i h;have h:=of_decide_eq_true h;refine⟨aJ _,λj d=>?_⟩;by_cases e:j=k+1
   ·subst e;exact dk _
   ·have:=b j (by omega);omega
  ·rename_i h;have h:¬_:=λz=>h (decide_eq_true z);refine⟨by omega,λj d=>?_⟩;by_cases e:j=k+1
   ·subst e;omega
   ·exact b j (by omega)
noncomputable def Fb(f:List Int->Int)(K:aE):List V->Hp->VK->Prop:=λxs H Q=>∃(b:Bool) (p:aL) (ns:List Int),xs=[.ref p]/\ns≠[]/\RO b K H p (ns.map V.int)/\Q (.int (f ns)) H
section
variable {X:Cx}
theorem O2(L:X.calm=aC):XA X (.builtin "min") (Fb Xy X.K):=by
 intro W s Z H xs T Q I r h;obtain⟨b,p,a,rfl,y,M,q⟩:=h;obtain⟨u,rfl,J⟩:=Ur r;cases J;obtain⟨w,z,d,U⟩:=I.seqB M;have D:=let⟨_,e⟩:=d.has;aW e;have m:=z.length;rw[aM] at m;have n:=di.mpr y
 have f:∀(i:Nat)(v:aI),w.toArray[i]?=aA v->∃t,v=jY (a.getD i 0) t:=λi v l=>by
  have l:w[i]?=aA v:=by simpa using l
  have E:i<a.length:=by rw[m];exact(aQ.mp l).1
  obtain⟨u,B,O⟩:=z.get (i:=i) (x:=.int a[i]) (by simp);rw[l] at B;cases B;obtain⟨t,rfl⟩:=O;refine⟨t,?_⟩;rw[aD,aG E];rfl
 refine call_min_walk (Yj d ?_);refine⟨_,_,_,_,_,_,λi j=>decide (a.getD i 0<a.getD j 0),rfl,Walks.seqB (A:=X.A.in1) b (I.ok.hd L) s.heap.objs.size p (bC D) w.toArray,⟨IterB.new (ag _ rfl),d.at λo e=>aH _ e⟩,λc k=>?_,by rw[aR,<-m];exact n,CmpOf.ints_lt (λi=>a.getD i 0) f,λv Y tk l N=>?_⟩
 ·show c<(s.heap.push _).objs.size;rw[cG];rcases af.mp k with rfl | k
  ·exact gZ _
  ·rw[ah.mp k];exact kB D
 ·obtain⟨t,rfl⟩:=f _ _ l;obtain⟨F,C⟩:=Pf (λi=>a.getD i 0) (w.toArray.size-1);rw[aR,<-m] at F C
  have e:Xy a=a.getD (argBest (λi j=>decide (a.getD i 0<a.getD j 0)) (w.toArray.size-1)) 0:=by
   rw[aR,<-m];refine JI ?_ λx G=>?_
   ·rw[aD,aG (by omega)];exact dO _
   ·obtain⟨j,P,R⟩:=dj G;have:=C j (by omega);rw[aD (i:=j),aG P,R] at this;exact this
  refine⟨.int (Xy a),H,I.kept (λc o g=>N c o ?_ (aH _ g)),⟨t,by rw[e]⟩,q⟩;intro S;rw[ah.mp S] at g;exact absurd (aW g) (cP _)
end
noncomputable def JJ(f:List Int->Int):List PV->Option PV
 | [l]=>(Th l).bind λm=>(Wd m).bind λns=>if ns=[] then none else aA (.int (f ns))
 | _=>none
abbrev JK:List PV->Option PV:=JJ Xy
theorem Dz{K:aE}(f:List Int->Int):RC K (Fb f K) (JJ f):=λH vs ls l x h e Q k=>by
 unfold JJ at e;split at e
 ·obtain⟨m,o,q⟩:=Zg e;obtain⟨n,s,c⟩:=Zg q;split at c
  ·cases c
  ·rename_i a;cases c;obtain⟨v,rfl,i⟩:=h.one_inv;obtain⟨p,y,w,rfl,d,j,u⟩:=Wv i o;have g:=X3 s;subst g;obtain⟨rfl,rfl⟩:=j.iL;obtain⟨b,t⟩:=QY d;exact⟨b,p,n,rfl,a,t,k _ H [] (Same.refl H) (Is.int _) λp d=>by simp at d⟩
 ·cases e
theorem JL{K:aE}:RC K (Fb Xy K) JK:=Dz Xy
theorem JM(f:List Int->Int){l:List Int}(h:l≠[]):JJ f [pP l]=aA (.int (f l)):=by show(Wd (iL l)).bind _=_;rw[Xj];simp only[aY];rw[lU h]
noncomputable def Fc:XS:=λ_=>none
theorem Fd{X:Cx}{O W:List Nat}{st:bq}:VS X O W st Fc:=by intro a s b H D I h;obtain⟨_,_,_,_,_,q,_⟩:=h;cases q
variable {K:aE}
noncomputable def CMulW(i j:Int):Prop:=i.natAbs.log2<67108863/\j.natAbs.log2<67108863
noncomputable def W6(i j:Int):Prop:=j≠0/\j.natAbs.log2<9000
instance (i j:Int):Decidable (CMulW i j):=by unfold CMulW;infer_instance
instance (i j:Int):Decidable (W6 i j):=by unfold W6;infer_instance
theorem JN(i:Int):fY i<=i.natAbs.log2+1:=by
 unfold fY;split
 ·exact dW _
 ·exact aJ _
theorem CMulW.ok{i j:Int}(h:CMulW i j):IntMulOk i j:=by
 unfold IntMulOk j2.Int.intTooBig;have b:=JN i;have a:=JN j;have d:=h.1;have c:=h.2
 have:decide (((fY i:Int)+(fY j:Int))>(bitsLine:Int))=aB:=decide_eq_false (by
  have e:(bitsLine:Int)=134217728:=rfl;rw[e];omega)
 rw[this];simp
section
variable {X:Cx} {a b:az} {fa fb:XE} {pos:fS}
theorem DA:TN X (dU .Mult) (rI CMulW λi j=>.int (i*j)):=BK λ_ _ _ _ _ _ _ a q=>mul_int q a.ok
theorem Fe:TN X (dU .FloorDiv) (rI W6 λi j=>.int (i.fdiv j)):=BK λ_ _ _ _ _ _ _ a q=>js a.1 q (.inl (PyProof.noPylong_of_log2 a.2))
abbrev Ui:=IK CMulW (· * ·)
abbrev RU:=IK W6 gS
theorem X0(d:VE X a fa)(c:VE X b fb):VE X (.BinOp a .Mult b pos) (Zk Ui fa fb):=WL DA (RP _ _) d c
theorem WQ(d:VE X a fa)(c:VE X b fb):VE X (.BinOp a .FloorDiv b pos) (Zk RU fa fb):=WL Fe (RP _ _) d c
end
theorem Pg:∀{ns:List Int}{n:Int},n∈ns->n.natAbs.log2<=i9 (ns.map .int)
 | m::r,n,h=>by
  rw[eV];simp only[i9,PySem.W.WData.weight];rcases af.mp h with rfl | h
  ·by_cases a:n=0
   ·subst a;have:Nat.log2 (Int.natAbs 0)=0:=by decide +kernel
    omega
   ·rw[lU (by simpa using a)];omega
  ·have:=Pg h;omega
open PySem.W PySem.Calls in
theorem law_walkB{l:PySem.W.OpenLaw}{q:b9}{i:List aq}{XP:(aq->Option aI)->bp->Prop}{Q:cW->bp->Prop}{d:DefRec}{KK:Params->aE}{x:aq}{D:List PV->Option PV}(k:Nat)(Y:l.most=aA 63)(O:d.params.defaults=[])
  (Z:Room k kA) (A:∀(w:cW)(q:aq)(c:aL),Ip q=aC->cz (KK w.params) (.ref c) q=aC->False) (hD:∀g:List Int,g.length<=63->(∀n∈g,n.natAbs.log2<=1048576)->D [.cst (iL g)]=aA (.bl aC))
  (hY:∀(w:cW)(h:bp),Q w h->(KK w.params).In h)
  (F:∀(w:cW)(p:aq->Option aI)(G:aL)(h:bp),(KK w.params).In h->h.Ns cq p->p d.name=aA (.ref G)->
   ∃I:eh,(∀(s:aO)(u:aI),jv s I ⟨[u],[]⟩ [(x,u)])/\∀base:bp,(KK w.params).In base->base.Ns cq p->RY l.prog w (KK w.params) p base L3 k G I [x] (YX (KK w.params) D 1)) (C:PyProof.Rows.importsNone q=aC:=by decide +kernel) :
  PySem.W.WalkO q i XP Q l.row.toRowW d [] (λf vs=>PySem.call f vs):=by
 intro w T S p mb m yy G o pm cd doc dv kv ho hd hcd B N E W P as y v hrd J hlo;obtain rfl:dv = .none:=Dflts.none B O;obtain rfl:kv = .none:=Dflts.noKw B;obtain⟨a,vs,g,rfl,rfl,t,j,b⟩:=Att.script_of Y y J
 have hw:∀n∈g,n.natAbs.log2<=1048576:=λn h=>by
  have U:(WData.list (g.map kP)).layable=aC:=ar.mp v _ (ah.mpr rfl);unfold WData.layable at U;have L:=of_decide_eq_true (Bool.and_eq_true_iff.mp U).2;have M:WData.weightAll (g.map kP)<=1048576:=by simpa [WData.weight] using L
  exact aP (Pg h) M
 have R:=hY w _ yy;obtain⟨I,hb,hF⟩:=F w p G _ R m.T.g N;refine enter_call (jw (L2.law_call (A w) R m.T.g m.T.b m.T.builtins m.T.nolimit (m.T.seer C) E t j (aP b (by decide)) Z hF hb (λH X hS=>Ap (hD g b hw) X hS) λH e s' z=>z) λr s' hq=>?_);obtain⟨rfl,L,M,h4⟩:=hq;exact⟨.inl ⟨.bool aC,.bool aC,[],rfl,λ_=>rfl,.bool aC,Att.post_true l _,λ_=>⟨List.Pairwise.nil,λ_ hm=>(nomatch hm)⟩⟩,L,M,h4⟩
end VL
namespace VL
open PySem PySem.Spec PyProof.Rows L2
variable {K:aE}
noncomputable def AD(K:aE)(H0:Hp)(D:YQ):JB->Prop
 | .nx _=>∀σ' H',Same H0 H'->D.nx σ' H'
 | .rt l=>∀v fp H',Same H0 H'->Is K H' l v fp->fp.Nodup->(∀p∈fp,H0 p=none/\U8 (H' p))->D.rt v H'
 | _=>False
noncomputable def Zbm(K:aE)(O:List Nat)(f:XS):TS:=λD σ H=>∃H0 fps s out,Rel K O H0 fps s σ H/\f s=aA out/\AD K H0 D out
noncomputable def IZ(X:Cx)(O:List Nat)(st:List bq)(f:XS):Prop:=PSs X st (Zbm X.K O f)
section
variable {X:Cx} {O O' W:List Nat} {st:bq} {Yg:List bq} {f g:XS}
theorem VSs.r(h:VSs X O W Yg f):IZ X O Yg f:=PSs.imp h λD j H ⟨d,fps,s,a,r,e,k⟩=>⟨d,fps,s,a,r,e,by
 cases a with
 | nx s'=>exact λi b g c _=>k b g c.same
 | rt l=>exact k
 | bk s'=>exact k.elim
 | ct s'=>exact k.elim⟩
theorem YJ(i:VS X O W st f)(h:IZ X O Yg g):IZ X O (st::Yg) (Zp f g):=PSs.imp (MH i h) λD p H ⟨d,fps,s,b,r,e,k⟩=>by
 obtain⟨c,m,e⟩:=Zg e;refine⟨d,fps,s,c,r,m,?_⟩
 cases c with
 | nx s1=>exact λa j o n _=>⟨d,a,s1,b,n,e,k⟩
 | bk s1=>cases e;exact k.elim
 | ct s1=>cases e;exact k.elim
 | rt l=>cases e;exact k
theorem Ha(h:IZ X O' Yg g)(c:∀i∈O',i∈O:=by decide):IZ X O Yg g:=PSs.imp h λD d H ⟨b,fps,s,a,r,e,k⟩=>⟨b,fps,s,a,r.weak c,e,k⟩
end
theorem Hb{N:List aq}{n:Nat}{O:List Nat}{vs:List V}{H:Hp}{ls:List PV}{s:List aL}(h:∀i∈O,n<=i)(t:vs.length=n)(d:Iss K H ls vs s):∃fps,Rel K O H fps (ZJ N.length ls) (L2.start N vs) H:=by
 obtain⟨fps,o,p2⟩:=d.fps;have e:=d.len
 have f:∀i:Nat,ls.length<=i->∀l,(ZJ N.length ls)[i]?≠aA (aA l):=λi d l z=>by
  unfold ZJ at z;rw[bH (by simpa using d),bV] at z;split at z<;>cases z
 refine⟨fps,Same.refl H,?_,λi a z=>?_,λi k=>?_,λi d=>?_,λi d p g=>?_,λi d j u p g=>?_⟩
 ·unfold ZJ L2.start;simp[e]
 ·by_cases c:i<ls.length
  ·unfold ZJ at z;rw[aZ (by simpa using c),aU] at z
   cases q:ls[i]? with
   | none=>rw[q] at z;cases z
   | some b=>
    rw[q] at z;cases z;obtain⟨v,m,b1⟩:=o i a q;refine⟨v,?_,b1⟩;unfold L2.start;rw[aZ (by simpa [e] using c),aU,m];rfl
  ·exact absurd z (f i (by omega) a)
 ·by_cases c:i<ls.length
  ·exact absurd (by unfold ZJ;rw[aZ (by simpa using c),aU,aG c];rfl) (k ls[i])
  ·exact p2 i (by omega)
 ·rw[p2 i (by have:=h i d;omega)];exact cg
 ·rw[p2 i (by have:=h i d;omega)] at g;simp at g
 ·rw[p2 i (by have:=h i d;omega)] at g;simp at g
theorem Ff{N:List aq}{n:Nat}{O:List Nat}{f:XS}{vs:List V}{H:Hp}{Q:VK}{E:XK}(m:∀i∈O,n<=i)(h:YX K (YO N.length f) n vs H Q E):Zbm K O f { nx:=λ_ a=>Q .non a,rt:=Q } (L2.start N vs) H:=by
 obtain⟨s,ls,k,l,o,e,q⟩:=h;obtain⟨b,t,c⟩:=Zg e;obtain⟨fps,j⟩:=Hb m s o;refine⟨H,fps,ZJ N.length ls,b,j,t,?_⟩
 cases b with
 | nx s'=>
  cases c;exact λu a g=>q .non a [] g Is.non cg λp w=>by simp at w
 | rt v=>
  cases c;exact λv k a g i d n=>q v a k g i d n
 | bk s'=>cases c
 | ct s'=>cases c
end VL
namespace VL
open PySem PySem.Spec PyProof.Rows L2
noncomputable def Fg(i:Nat)(f0:XE):XS:=λs=>(f0 s).bind λl0=>match s[i]? with
 | some (aA l)=>if Ya l0=aC then aA (.rt (.tup [l0,l])) else none
 | _=>none
theorem Fh{X:Cx}{O:List Nat}{e:az}{i:Nat}{f:XE}{pos:fS}(j:PE X e (Zay (OE (tF X.K f) (OE (Nh i) EM))))(b:i∈O:=by decide):VS X O [] (.Return (aA e) pos) (Fg i f):=PS.imp (LQ j) λD C H ⟨B,fps,s,p,r,e,k⟩=>by
 obtain⟨n,m,e⟩:=Zg e;split at e
 case h_2=>cases e
 rename_i l h;split at e
 case isFalse=>cases e
 rename_i A;cases e;obtain⟨v,o,x⟩:=r.is i _ h;refine⟨λ_=>False,s,n,λ_ z=>z.elim,r.env,m,λy d f1 s1 g _=>?_⟩;have:=Is.pure _ _ _ A g;subst this;refine⟨v,o,(by show 2<=sizeLine;decide),λq u=>?_⟩;have a:Same d (upd d q (.tup [y,v])):=Same.new u _;have c:=r.grow s1;refine k _ (fps i) _ (c.same.trans a) (Is.tup Zx ?_) (r.nd i b) λz t=>?_
 ·have w:=Iss.cons (g.mono a) (Iss.one ((x.mono s1).mono a));simpa using w
 ·have:=c.own i b z t;exact⟨this.1,Same.mut a this.2⟩
end VL
namespace PW
open PySem L2 VL
noncomputable def Hd:XS:=(ZK (eP (Zc TV [Zt 1 [0,1] (AB (Za 2)) (.one 0) Zz (Zk ZN (Zk ZN (Za 1) (Za 2)) (Za 0))])))
noncomputable def Vw:List PV->Option PV:=YO 3 Hd
noncomputable def Qa:XS:=(Zp (Xo [] (XB aB [Za 1]) (.many [3,4]) (Tj (MV (xB (Zk (IQ aC) (Za 3) (Za 2))) (xB (Zk MA (Za 4) (Zc Vw [Za 0,Za 3,Za 2])))) (ZK (eP (Za 3))) Yq))
  (ZK (eP (eC .non))))
noncomputable def Z5:List PV->Option PV:=YO 5 Qa
noncomputable def DB:XS:=(Zp (Zr 3 (WX [eP (Za 2)]))
  (Zp (Zr 4 (Zc Z5 [Za 0,Za 1,Za 3]))
  (Zp (Xp (xB (Uu aC (Za 4))) (Zp (Xd 3 (eP (Za 4)))
  (Zr 4 (Zc Z5 [Za 0,Za 1,Za 3]))))
  (ZK (Za 3)))))
noncomputable def Qp:List PV->Option PV:=YO 5 DB
noncomputable def He:XS:=(ZK (Zt 2 [1] (XB aB [Za 0]) (.many [0,1]) (MV (xB (Zk (Wr aC) (Za 0) (Za 2))) (xB (Zk MA (Za 1) (eC (.int 0))))) (eP (Za 0))))
noncomputable def Y3:List PV->Option PV:=YO 2 He
noncomputable def Hf:XS:=(ZK (eP (Zc ZI [Zt 2 [3,1,2,0] (Um aB aB [Za 0,Za 1]) (.many [0,1]) Zz (Zk RU (Zk Wb (Zk Ui (Zk ZN (Za 3) (Za 4)) (Za 0)) (Zk Ui (Zk ZN (Za 5) (Za 4)) (Za 1))) (Za 2))])))
noncomputable def SM:List PV->Option PV:=YO 4 Hf
noncomputable def M8:XS:=(Zp (Zr 1 (Zc VP [Za 0]))
  (Zp (Zr 2 (eP (eC (.int 1))))
  (Zp (Xo [1] (Yp [Zc Ys [Za 0]]) (.one 3) (Zp (Zr 4 (eP (Zk ZN (Za 1) (Za 3))))
  (Zp (Zr 1 (Zt 2 [3,4,2] (XB aC [Za 1]) (.many [0,1]) Zz (eP (IM (xB (Zk (Wr aB) (Za 0) (Za 2))) (Za 1) (Zc SM [Za 1,Za 3,Za 2,Za 4])))))
  (Zr 2 (eP (Zk ZN (Za 4) (Za 3)))))))
  (Fg 1 (Za 2)))))
noncomputable def Ph:List PV->Option PV:=YO 5 M8
noncomputable def Pj:XS:=(Zp (Zr 2 (Zc Ph [Zt 2 [] (Um aB aB [Za 0,Za 1]) (.many [0,1]) Zz (Zk OZ (Za 0) (R6 [Za 1]))]))
  (ZK (Zt 1 [2] (Xw (Zk ZN (Za 2) (eC (.int 1)))) (.one 0) Zz (eP (Zk RU (Zk ZN (Za 0) (GI MX (eC (.int 1)))) (Zk ZN (Za 1) (eC (.int 0))))))))
noncomputable def WR:List PV->Option PV:=YO 3 Pj
noncomputable def Fi:XS:=(ZK (eP (Zc ZI [Zt 1 [1,0] (Xw (Za 2)) (.one 0) Zz (IM (xB (Zk (Wr aB) (Za 0) (Za 1))) (Zc U1 [Za 2,Za 1]) (GI MX (Zk ZN (Zk ZN (Za 2) (Za 1)) (Za 0))))])))
noncomputable def Pk:List PV->Option PV:=YO 3 Fi
noncomputable def SN:XS:=(Zp (Zr 2 (Zt 1 [1] (Yp [Zc Ys [Za 0]]) (.one 0) (xB (Zk (Wr aC) (Za 0) (Za 1))) (eP (Za 0))))
  (ZK (eP (Zc ZI [Zt 1 [0,2] (Xw (Za 2)) (.one 0) Zz (Zc Pk [Za 1,Za 0,Za 2])]))))
noncomputable def Y4:List PV->Option PV:=YO 3 SN
noncomputable def Hg:XS:=(Zp (Zr 3 (eP (Zk OZ (Up R7 (Za 1) So (WN (Za 2))) (Up R7 (Za 1) (WN (Zk Ym (Za 2) (eC (.int 1)))) So))))
  (Zp (Zr 4 (Zc WR [Zc Y4 [Za 0,Za 2],Za 3]))
  (Zp (UT 4 (Za 2) (eC (.int 0)))
  (ZK (eP (Zc ZI [Za 4]))))))
noncomputable def WA:List PV->Option PV:=YO 5 Hg
noncomputable def M9:XS:=(ZK (eP (Zc ZI [Zt 1 [1] (Yp [Zc Ys [Za 0]]) (.one 0) Zz (IM (xB (Zk (IQ aB) (Za 0) (Za 1))) (GI MX (eC (.int 1))) (eC (.int 0)))])))
noncomputable def Xk:List PV->Option PV:=YO 2 M9
noncomputable def JO:XS:=(Zp (Zr 1 (eP (Zc JK [Za 0])))
  (ZK (eP (Zc ZI [Zt 1 [1] (SE (Za 0)) (.one 0) Zz (Zk Wb (Za 0) (Za 1))]))))
noncomputable def V1:List PV->Option PV:=YO 2 JO
noncomputable def Fj:XS:=(Zp (Zr 3 (Zc WA [Za 0,Za 1,Za 2]))
  (Zp (Zr 4 (Zc Td [Za 0,Za 1,Za 3]))
  (Zp (Zr 5 (Zc Y3 [Za 4,Za 2]))
  (Zp (Xp (xB (Zk L5 (Zc Ys [Za 5]) (eC (.int 0)))) (Zp (Zr 6 (Zc Xk [Za 0,Za 5]))
  (Zp (Zr 3 (Zc To [Za 3,Za 6]))
  (Zp (Zr 4 (Zc Td [Za 0,Za 4,Za 6]))
  (Zr 5 (Zc Y3 [Za 4,Za 2]))))))
  (ZK (R6 [Zc V1 [Za 3],eP (Za 4),Zc Qp [Za 0,Za 4,Za 2]]))))))
noncomputable def Z2:List PV->Option PV:=YO 7 Fj
noncomputable def T7:XS:=(Zp (Zr 3 (Zc Z2 [Za 0,Za 1,eC (.int 0)]))
  (Zp (Zr 4 (Zc Z2 [Za 0,Za 2,eC (.int 0)]))
  (Zp (Tj (xB (Zk (Wr aC) (Zk ZN (Za 3) (eC (.int 1))) (Zk ZN (Za 4) (eC (.int 1))))) (ZK (eP (eC .non))) Yq)
  (ZK (Zc V1 [Zc U3 [Zk ZN (Za 3) (eC (.int 0)),Zk ZN (Za 4) (eC (.int 0))]])))))
noncomputable def Y5:List PV->Option PV:=YO 5 T7
end PW
namespace L2
open PySem PySem.Spec PyProof.Rows
abbrev WJ:=aL->df->List (List Of×V)->It
end L2
namespace VL
open PySem PySem.Spec PyProof.Rows L2
section
variable {K:aE} {P:b9} {w:cW} {mg:aq->Option aI} {base:bp}
theorem DC{x:aq}{st:bq}{N d:List aq}{k n:Nat}{O:List Nat}(m:Nat)(f:XS)(D:Def K mg x st)(S:Zq N d (Zf st))
  (p:∀(kV doc pm:aI)(an:Option aL)(b ct:aI)(us:List aI),us.length=d.length->i6 (dD x x (XZ st) (Yv st) (Zf st) .none kV doc pm an b ct) ⟨us,[]⟩=pure (d.zip us))
  (j:d.length=n) (o:N.length=m) (g:∀i∈O,n<=i)
  (c:∀(e:aL)(b:aI)(A:cL)(a:List kK)(s:aO)(H:Hp)(E:XK),Room k (A.deeper (gY x (Zf st) s.heap.objs.size e b))->IZ (QI L3 P w K mg base N x (Zf st) e b A a s H E).nox O (Yv st) f) :
  Xi P w K mg base x d (YX K (YO m f) n) (k+1):=by
 subst o;refine D.cal S p (λvs H Q E h=>by rw[j];exact h.1) λe b A a s H vs Q E l h=>⟨_,c e b A a s H E l,Ff g h⟩
end
theorem DD{K:aE}:RB K Za3 GX:=λH x y a b l A fb o w e Q k=>by
 cases a with
 | lst m=>cases b with
  | lst n=>
   have e:(if m.length+n.length<=10000 then aA (PV.lst (m++n)) else none)=aA l:=e;split at e
   case isFalse=>cases e
   rename_i j;cases e;obtain⟨p,z,t,rfl,v,i,rfl⟩:=o.lst_inv;obtain⟨s,u,f,rfl,g,d,rfl⟩:=w.lst_inv;refine⟨p,s,z,u,rfl,rfl,v,g,by rw[i.len,d.len];exact cU (lt_size j),λq h=>?_⟩;refine k _ _ (q::(t++f)) (Same.new h _) (Is.lst Zx ((i.append d).mono (Same.new h _))) λr c=>?_;rcases af.mp c with rfl | c
   ·exact .inr (.inr h)
   ·rcases b6.mp c with c | c
    ·exact .inl (aT _ c)
    ·exact .inr (.inl (aT _ c))
  | _=>cases e
 | _=>cases e
theorem DE{X:Cx}{a b:az}{c fb:XE}{pos:fS}(e:VE X a c)(d:VE X b fb):VE X (.BinOp a .Add b pos) (Zk GX c fb):=WL Gv DD e d
end VL
namespace PW
open PySem L2 VL
noncomputable def Fl:XS:=(Zp (Zr 3 (eP (Zk Wc (Zk R5 (Zk Ym (Zk Wc (Za 0) (eC (.int 999983))) (Za 1)) (Zk Ym (Za 1) (eC (.int 389)))) (eC (.int 999983)))))
  (Zp (Zr 3 (eP (Zk Wc (Zk Ym (Zk Ym (Zk R5 (Za 3) (Za 3)) (Zk QT (Za 0) (eC (.int 999983)))) (Za 1)) (eC (.int 999979)))))
  (ZK (eP (Zk Wc (Zk QT (Za 3) (eC (.int 3))) (Za 2))))))
noncomputable def Z8:List PV->Option PV:=YO 4 Fl
noncomputable def V2:XS:=(Zp (Zr 3 (eP (Zk ZN (Za 1) (Zk Wc (Za 0) (Zc Ys [Za 1])))))
  (Zp (Zr 0 (eP (Zk QT (Za 0) (Zc Ys [Za 1]))))
  (Zp (Zr 4 (WX []))
  (Zp (Zr 5 (WX []))
  (Zp (Xo [4,5,9] (Yp [Za 3]) (.one 6) (Zp (UT 4 (Zk Wc (Za 0) (Zk Ym (Za 6) (eC (.int 1)))) (Za 6))
  (Zr 0 (eP (Zk QT (Za 0) (Zk Ym (Za 6) (eC (.int 1))))))))
  (Zp (Xo [4,5,9] (Uw [eC (.int 1),Za 3]) (.one 6) (Zp (Xd 5 (eP (R6 [Za 6,Zk Wc (Za 0) (Za 6)])))
  (Zr 0 (eP (Zk QT (Za 0) (Za 6))))))
  (Zp (Zr 7 (eP (Zk R5 (Zc QZ [Zk L5 (Za 3) (eC (.int 1))]) (Zk Wc (Za 0) (Zk Ym (Zk Wb (Za 2) (Za 3)) (eC (.int 2)))))))
  (Zp (Zr 0 (eP (Zk QT (Za 0) (Zk Ym (Zk Wb (Za 2) (Za 3)) (eC (.int 2))))))
  (Zp (Xo [4,5,9] (Yp [Za 7]) (.one 6) (Zp (Zr 8 (eP (Zk Wc (Za 0) (Za 3))))
  (Zp (Zr 0 (eP (Zk QT (Za 0) (Za 3))))
  (Zp (Xd 5 (eP (R6 [Za 8,Zk Wc (Zk Ym (Zk Ym (Za 8) (eC (.int 1))) (Zk Wc (Za 0) (Zk Wb (Za 3) (eC (.int 1))))) (Za 3)])))
  (Zr 0 (eP (Zk QT (Za 0) (Zk Wb (Za 3) (eC (.int 1))))))))))
  (Zp (Zr 9 (Zt 1 [3] (Yp [Za 3]) (.one 0) Zz (Zk NF (WX [eC (.int 0)]) (Za 1))))
  (Zp (Xo [9] (Xw (Za 5)) (.many [8,10]) (Zp (Zr 11 (eP (Zk Ym (Zk ZN (Zk ZN (Za 9) (Zk ZN (Za 4) (Za 8))) (Zk ZN (Za 4) (Za 10))) (eC (.int 1)))))
  (Zp (Ww 9 (Zk ZN (Za 4) (Za 8)) (Zk ZN (Za 4) (Za 10)) (Za 11))
  (Ww 9 (Zk ZN (Za 4) (Za 10)) (Zk ZN (Za 4) (Za 8)) (Za 11)))))
  (ZK (eP (Zc ZI [Zt 1 [] (Xw (Za 9)) (.one 0) Zz (Zc ZI [Za 0])]))))))))))))))
noncomputable def V3:List PV->Option PV:=YO 12 V2
noncomputable def AE:XS:=(ZK (eP (IM (xB (Zk MA (Za 1) (Zc Ys [Za 0]))) (Zk ZN (Za 0) (Za 1)) (eC (.int 0)))))
noncomputable def Vf:List PV->Option PV:=YO 2 AE
noncomputable def JP:XS:=(Zp (Tj (xB (Zk (Wr aB) (Zk Wc (Zc Vf [Za 0,eC (.int 0)]) (eC (.int 2))) (eC (.int 1)))) (ZK (Zc V3 [Zc Vf [Za 0,eC (.int 1)],Za 1,Za 2])) Yq)
  (Zp (Zr 3 (eP (Zk ZN (Za 1) (Zc Z8 [Zc Vf [Za 0,eC (.int 0)],eC (.int 1),Zc Ys [Za 1]]))))
  (Zp (Zr 4 (Zt 1 [3] (Yp [Za 3]) (.one 0) Zz (Zk NF (WX [eC (.int 0)]) (Za 1))))
  (Zp (Zr 5 (eP (eC (.int 0))))
  (Zp (Xo [4] (Uw [eC (.int 1),eC (.int 13)]) (.one 6) (Zp (Zr 7 (Zc Vf [Za 0,Za 6]))
  (Zp (Zr 8 (Zc Z8 [Za 7,eC (.int 13),Za 3]))
  (Zp (Zr 9 (eP (Zk Wc (Zk Ym (Zk Ym (Za 8) (eC (.int 1))) (Zc Z8 [Za 7,eC (.int 17),Zc Jx [eC (.int 1),Zk Wb (Za 3) (eC (.int 1))]])) (Za 3))))
  (Zp (Tj (xB (Zk MA (Za 6) (Za 3))) (Zp (Zr 8 (eP (Za 6)))
  (Zr 9 (Zc Z8 [Za 7,eC (.int 5),Za 6]))) Yq)
  (Zp (Zr 10 (eP (L8 (Zk L5 (Za 3) (eC (.int 1))) (L8 (Zk MA (Za 5) (Za 2)) (Zk L5 (Zc Z8 [Za 7,eC (.int 3),eC (.int 3)]) (eC (.int 0)))))))
  (Tj (IL (xB (Zk MA (Za 6) (Za 3))) (xB (Za 10))) (Zp (Ww 4 (Za 8) (Za 9) (Zk Ym (Zk ZN (Zk ZN (Za 4) (Za 8)) (Za 9)) (eC (.int 1))))
  (Zp (Ww 4 (Za 9) (Za 8) (Zk ZN (Zk ZN (Za 4) (Za 8)) (Za 9)))
  (Zr 5 (eP (Zk Ym (Za 5) (eC (.int 1))))))) Yq)))))))
  (Zp (Zr 11 (Zc Z8 [Zc Vf [Za 0,eC (.int 0)],eC (.int 7),Za 3]))
  (Zp (Zr 4 (Zt 1 [11] (Xw (Zk GX (Up Xx (Za 4) (WN (Za 11)) So) (Up Xx (Za 4) So (WN (Za 11))))) (.one 0) Zz (Zk Uh (Up Xx (Za 0) (WN (Za 1)) So) (Up Xx (Za 0) So (WN (Za 1))))))
  (ZK (eP (Zc ZI [Zt 1 [] (Xw (Za 4)) (.one 0) Zz (Zc ZI [Za 0])]))))))))))
noncomputable def NQ:List PV->Option PV:=YO 12 JP
noncomputable def Fm:XS:=(Zp (Zr 3 (WX []))
  (Zp (Xo [3] (Yp [Zc Ys [Za 0]]) (.one 4) (Zp (Zr 5 (eP (Zk ZN (Za 1) (Za 4))))
  (Zp (Xo [3] (Yp [Zc Ys [Za 0]]) (.one 6) (Zp (Zr 7 (eP (Zk Wb (Zk ZN (Za 2) (Za 4)) (Zk ZN (Za 2) (Za 6)))))
  (Zr 5 (eP (Zk Wb (Za 5) (Zk R5 (Zk ZN (Zk ZN (Za 0) (Za 4)) (Za 6)) (Za 7)))))))
  (Xd 3 (eP (Za 5))))))
  (ZK (eP (Zc ZI [Za 3])))))
noncomputable def Vx:List PV->Option PV:=YO 8 Fm
noncomputable def Kl:XS:=(Zp (Tj (IL (Nx (xB (Zc Tc [Za 0,eC (.ty "tuple")]))) (xB (Zk (Wr aC) (Zc Ys [Za 0]) (Za 1)))) (ZK (eP (eC (.bl aB)))) Yq)
  (ZK (eP (Zc GJ [Zt 1 [] (SE (Za 0)) (.one 0) Zz (Zc Vv [Za 0])]))))
noncomputable def Tp:List PV->Option PV:=YO 2 Kl
end PW
namespace VL
open PySem PySem.W PyProof.Rows
section
variable {r:Nat->Int} {n:Nat}
noncomputable def at0(p:Array Nat)(i:Nat):Nat:=p.getD i 0
end
end VL
namespace VL
open PySem PySem.Spec PyProof.Rows L2
variable {K:aE}
instance (x:aq) (n:Int):Decidable (MulOk x n):=by unfold MulOk;infer_instance
end VL
set_option maxHeartbeats 3200000
namespace VX
open PySem PySem.Spec PyProof.Rows L2 VL
abbrev XR:=ZF->Option aq
noncomputable def tFX(K:aE)(O:List Nat)(fx:XR)(E:XK):TS:=λ_ σ H=>∃H0 fps s n,Rel K O H0 fps s σ H/\fx s=aA n/\∀C H',iu K cq n=aA (aA (.ref C))->Same H0 H'->E (.ref C) none H'
noncomputable def VX(X:Cx)(O:List Nat)(E:XK)(st:bq)(fx:XR):Prop:=PS X st (tFX X.K O fx E)
abbrev XF:=ZF->Option (aq×PV)
end VX
namespace VL
open PySem PySem.Spec PyProof.Rows L2
theorem Zbn{X:Cx}{g e:az}{f:XE}(h:VE X e f):VI X g e (AB f):=by
 intro a s d H R I ⟨b,st,ls,c,env,e,k⟩;unfold AB at e
 cases q:Xw f st with
 | some m=>
  rw[q] at e;cases e;exact YG h a s d H R I ⟨b,st,_,c,env,q,k⟩
 | none=>
  rw[q] at e;exact SF h a s d H R I ⟨b,st,ls,c,env,e,k⟩
theorem Inv.freezeL{X:Cx}{i:List (aL×df)}{j:R4}{H:Hp}{s:aO}{d:aL}{f:List V}{o:df}(I:L2.Inv X i j H s)(g:H d=aA (.lst f))(m:s.heap.get? d=aA o) :
  L2.Inv X i j (upd H d (.frz o (.lst f))) s:=by
 have ne:∀b u,H b=aA u->(∀k,u≠.lst k)->b≠d:=λb u q n z=>by rw[z,g] at q;exact n _ (aw q).symm
 have p:∀b,H b=none->b≠d:=λb q z=>by rw[z,g] at q;cases q
 have un:Un X.fs [] H (upd H d (.frz o (.lst f))) s.heap s.heap:=
  ⟨λb o q _ _ _=>q,λb o q _ _ _=>⟨o.slots,q⟩,λb o q n _=>by rw[upd_ne (p b n)];exact n,λb o q _=>⟨o,q⟩,
   λb f q=>by rw[upd_ne (ne b _ q λ_ z=>nomatch z)];exact q,λb o u q=>by rw[upd_ne (ne b _ q λ_ z=>nomatch z)];exact q,λb t q=>⟨#[],by rw[upd_ne (ne b _ q λ_ z=>nomatch z),q];simp⟩⟩
 have h:HOk X.prog X.w (upd H d (.frz o (.lst f))) s.heap:=λb u q=>by
  have e:∀c y,H c=aA (.own y)->upd H d (.frz o (.lst f)) c=aA (.own y):=λc y z=>by rw[upd_ne (ne c _ z λ_ z=>nomatch z)];exact z
  have a:∀c xs',H c=aA (.tup xs')->upd H d (.frz o (.lst f)) c=aA (.tup xs'):=λc y z=>by rw[upd_ne (ne c _ z λ_ z=>nomatch z)];exact z
  by_cases l:b=d
  ·subst l;rw[Zx] at q;cases q;exact⟨m,(I.hok b _ g).stay (λ_ _ _ z=>z) (λc z=>e c _ z) a λc u z=>by rw[upd_ne (ne c _ z λ_ z=>nomatch z)];exact z⟩
  ·rw[upd_ne l] at q;exact(I.hok b u q).stay (λ_ _ _ z=>z) (λc z=>e c _ z) a λc u z=>by rw[upd_ne (ne c _ z λ_ z=>nomatch z)];exact z
 have:=I.un (t':=s.toks) un h;exact this
noncomputable def Ot(f:XE):XE:=λs=>(f s).bind λl=>match l with
 | .lst m=>(Wd m).map λns=>.cst (iL ns)
 | _=>none
theorem SO{X:Cx}{e:az}{f:XE}(h:VM X e f):VE X e (Ot f):=by
 intro E s G H Q I ⟨R,st,l,P,env,y,k⟩;obtain⟨m,J,j⟩:=Zg (y)
 cases m with
 | lst ms=>
  obtain⟨g,L,F⟩:=map_some (j);subst F;have t:=X3 L;subst t;refine YW (h E s G H (λv d=>∃p,v = .ref p/\d p=aA (.lst (g.map V.int))/\Same H d/\H p=none) I ⟨st,.lst (iL g),env.free,J,λv N U c is O C=>?_⟩) λu s1 ⟨v,d,i,x,p,D,a,c,B⟩=>?_
  ·obtain⟨p,W,S,rfl,a,A,rfl⟩:=is.lst_inv;obtain⟨rfl,rfl⟩:=A.iL;exact⟨p,rfl,a,c,(C p (by simp)).1⟩
  ·subst D;obtain⟨z,T,n,r,M,e⟩:=i.lstM a;refine⟨.ref p,_,Inv.freezeL i a e,x,k _ _ [] (λb o q=>?_) ?_ (by simp)⟩
   ·rw[upd_ne (λw=>by rw[w,B] at q;cases q)];exact c b o q
   ·unfold Is;exact⟨p,_,rfl,.inl ⟨_,Zx⟩,Iss.ofInts _⟩
 | _=>cases j
end VL
namespace L2
open PySem PySem.Spec PyProof.Rows
abbrev JQ(x:aq):aq->Bool:=λy=>y==x
structure CellF(N:List aq)(around scope:dw)(x:aq)(fr:List aq)(ix:List Nat):Prop where
 kind:scope.kind = .function
 cf:∀n acc,gz n scope.names acc=(x,n)::acc
 pc:∀h,kQ h scope.names=h.push { cls:=.type "cell",data:=.cell none }
 cells:∀y∈scope.names,y.2 = .cell->y.1=x
 names:∀y∈scope.names,y.2 = .local->scope.names.lookup y.1=aA .local
 frees:∀y∈scope.names,y.2 = .free->(around.names.lookup y.1=aA .cell\/around.names.lookup y.1=aA .free)
 slots:fr.map aA=ix.map (λi=>N[i]?)
 outs:∀z∈fr,(z,bW)∈scope.names
 apart:∀z∈fr,scope.names.lookup z=aA .free
 ne:∀z∈fr,z≠x
theorem CellF.clos{X:Cx}{d:List (aL×df)}{g:St}{H:Hp}{s:aO}{a:dw}{x:aq}{fr:List aq}{ix:List Nat}(S:CellF X.N X.env.scope a x fr ix)(I:Inv X d g H s):∀y∈a.names,y.2 = .free->(X.env.cells.lookup y.1).isSome=aC:=λy b f=>by obtain⟨c,e⟩:=I.ok.has y.1 (S.frees y b f);rw[e];rfl
theorem Hh{M:Model}{A:cL}{E:aI->aO->Prop}{s:aO}{N:List aq}{d b:dw}{a:aL}{f:aq}{c:kK}{x:aq}{fr:List aq}{ix:List Nat}{cl:List (aq×aL)}{Q:kK->aO->Prop}(S:CellF N d b x fr ix)
  (i:Q (newEnv b s.heap.objs.size a ((x,s.heap.objs.size+1)::cl) f none .none (aA c) ja) { s with heap:=(s.heap.push { cls:=.type "dict",data:=.dict #[] }).push { cls:=.type "cell",data:=.cell none } }) :
  bJ M A (iA b a cl [] f none .none (aA c)) Q E s:=by
 simp only[iA,Option.isSome_some,if_true];refine aN (wpAny_alloc ?_);refine aN (wpAny_layCells _ (λh g cells=>by cases hkc:g==cB<;>simp[hkc]) _ _ _ _ ?_);refine aN (ak (ak ?_));have e:(s.heap.push { cls:=.type "dict",data:=.dict #[] }).objs.size=s.heap.objs.size+1:=cG ..;rw[S.pc];simp only[S.cf,e];exact i
theorem YV{x y:aq}{a c:aL}{cl:List (aq×aL)}(h:((x,a)::cl).lookup y=aA c):(y=x/\c=a)\/(y≠x/\cl.lookup y=aA c):=by
 rw[bY] at h
 cases q:y==x with
 | true=>rw[q] at h;exact .inl ⟨by simpa using q,by simpa using h.symm⟩
 | false=>rw[q] at h;exact .inr ⟨by simpa using q,h⟩
section
variable {X:Cx} {tg l9 iter:az} {l8:List az} {scope:dw} {pos:fS} {x:aq} {fr:List aq} {ix:List Nat} {wi:TI} {g:TG} {tt:TT} {te:TE}
abbrev clF(X:Cx)(scope:dw)(x:aq)(C:aL):List (aq×aL):=(x,C+1)::X1 X.env.cells scope.names []
theorem Km{l4:List (aL×df)}{G:St}{I:Hp}{s2:aO}{L:List aL}{h₁:bp}{tk:Nat}{C:aL}(S:CellF X.N X.env.scope scope x fr ix)(a:Inv X l4 G I s2)(f2:∀b∈L,VG X l4 I b)(J:∀b∈L,b<s2.heap.objs.size)
  (F:s2.heap.objs.size<=C) (Z:h₁.Ns C λ_=>none) (Y:h₁.IsCell (C+1) none) (t:∀b o,s2.heap.get? b=aA o->h₁.get? b=aA o) :
  Inv (Mz (JQ x) X (x::fr) scope (clF X scope x C) C s2 I L) [] (ZX 1 ix G) I { s2 with heap:=h₁,toks:=tk }:=by
 have P:=a.stkSub;have cs:=S.clos a;have sub:∀y c,(X1 X.env.cells scope.names []).lookup y=aA c->X.env.cells.lookup y=aA c:=λy c e=>Vq scope.names [] cs (λh=>by simp at h) e;have lt:∀y c,(X1 X.env.cells scope.names []).lookup y=aA c->c<s2.heap.objs.size:=λy c e=>by obtain⟨v,q⟩:=a.cell y c (sub y c e);exact q.lt
 have Q:(Mz (JQ x) X (x::fr) scope (clF X scope x C) C s2 I L).Ok:=by
  refine⟨a.ok.mod,S.kind,a.ok.glob,a.ok.blt,F,λy z c w f=>?_,λy M=>?_,λy c N e=>?_,a.ok.hd,a.ok.frames,.inl rfl,λb A=>⟨?_,λy c e=>?_⟩,a.bs,?_,λb o e A=>?_,λb A z=>?_,a.stack,a.stkFree,a.ok.tab.un a.base,λ_ z=>absurd rfl z⟩
  ·rcases YV w with⟨g,d⟩ | ⟨g,d⟩<;>rcases YV f with⟨b1,b2⟩ | ⟨b1,b2⟩
   ·rw[g,b1]
   ·have h:=lt z c b2;rw[d] at h;exact absurd (a9 h F) (iB.mpr (jR C))
   ·have h:=lt y c d;rw[b2] at h;exact absurd (a9 h F) (iB.mpr (jR C))
   ·exact a.ok.inj y z c (sub y c d) (sub z c b2)
  ·have M:=M
   have:∃k',(relabel scope X.env).names.lookup y=aA k'/\(k' = .cell\/k' = .free):=by
    rcases M with h | h
    ·exact⟨_,h,.inl rfl⟩
    ·exact⟨_,h,.inr rfl⟩
   obtain⟨k',e,U⟩:=this;obtain⟨k,e0⟩:=Wu e;have W:=YZ (env:=X.env) e0;have e:(scope.names.map λ(n,k)=>if(k==bW&&X.env.scope.kind==.function&&X.env.kindOf n==aA .cell) then(n,cB) else(n,k)).lookup y=aA k':=e;rw[W] at e;have m:=dH e0;by_cases D:y=x
   ·subst D;exact⟨C+1,by show((y,C+1)::_:List (aq×aL)).lookup y=_;simp[bY]⟩
   cases k with
   | free=>
    obtain⟨c,T⟩:=cA.mp (Vr (cells:=X.env.cells) _ [] m);refine⟨c,?_⟩;show((x,C+1)::_:List (aq×aL)).lookup y=_;rw[bY,show(y==x)=aB by simpa using D];exact T
   | cell=>exact absurd (S.cells _ m rfl) D
   | _=>simp at e;subst e;rcases U with z | z<;>cases z
  ·show s2.heap.objs.size<=c;have N:(y==x)=aC:=N;rcases YV e with⟨g,d⟩ | ⟨g,d⟩
   ·rw[d];exact gR F
   ·exact absurd (by simpa using N) g
  ·exact bC (a9 (J b A) F)
  ·rcases YV e with⟨g,d⟩ | ⟨g,d⟩
   ·rw[d];exact fT (a9 (J b A) (gR F))
   ·exact(f2 b A).2.2.2.2.1 y c (sub y c d)
  ·exact aP a.ok.bsz a.sz
  ·rcases(f2 b A).2.2.2.1 with z | z
   ·exact a.ok.noex b o e z
   ·exact absurd (a9 (aW (a.ok.bs b o e).1) z) (cP _)
  ·rcases af.mp (P b z) with e | e
   ·exact(f2 b A).2.1 e
   ·exact(f2 b A).2.2.1 e
 have sl:fr.length=ix.length:=by simpa using congrArg g9 S.slots
 refine⟨Q,rfl,a.bare,Un.kept t,⟨_,Z,λi y v w f s=>?_⟩,λy c e=>?_,a.hok.fresh F,λy c e=>?_,λp hp=>absurd (show p∈([]:List (aL×df)) from hp) (by simp),a.hok.kept t,?_⟩
 ·have w:(x::fr)[i]?=aA y:=w;unfold ZX at f
  cases i with
  | zero=>simp at f
  | succ i=>
   have w:fr[i]?=aA y:=by simpa using w
   have f:(ix.map λi=>(G[i]?).join)[i]?=aA (aA v):=by simpa using f
   rw[aU] at f
   cases ej:ix[i]? with
   | none=>rw[ej] at f;cases f
   | some j=>
    rw[ej] at f;have f:(G[j]?).join=aA v:=by simpa using f
    have f:G[j]?=aA (aA v):=by
     cases q:G[j]? with
     | none=>rw[q] at f;cases f
     | some z=>rw[q] at f;exact congrArg aA f
    have hN:X.N[j]?=aA y:=by have q:=congrArg (λl=>l[i]?) S.slots;simp only[aU,w,ej] at q;exact(aw q).symm
    have E:=cE w;have hm:=S.outs y E;have hk:=S.frees _ hm rfl;obtain⟨m,hn,hl⟩:=a.loc;obtain⟨u,r,l⟩:=hl j y v hN f (by rcases hk with k | k;exact .inr (.inl k);exact .inr (.inr k));refine⟨u,r,?_⟩;rcases l with⟨k,_⟩ | ⟨_,c,T,B⟩
    ·have k:X.env.scope.names.lookup y=aA .local:=k;rcases hk with q | q<;>rw[k] at q<;>cases q
    ·obtain⟨c',H⟩:=cA.mp (Vr _ [] hm);have ec:=sub y c' H;rw[T] at ec;cases ec;refine .inr ⟨?_,c,?_,?_⟩
     ·have s:=s;rcases s with s | s
      ·have W:=YZ (env:=X.env) (S.apart y E);have s:(scope.names.map λ(n,k)=>if(k==bW&&X.env.scope.kind==.function&&X.env.kindOf n==aA .cell) then(n,cB) else(n,k)).lookup y=aA .local:=s;rw[W] at s;exfalso;split at s<;>cases s
      ·exact s
     ·show((x,C+1)::_:List (aq×aL)).lookup y=_;rw[bY,show(y==x)=aB by simpa using S.ne y E];exact H
     ·obtain⟨o,O,R⟩:=B;exact⟨o,t _ _ O,R⟩
 ·rcases YV e with⟨g,d⟩ | ⟨g,d⟩
  ·rw[d];exact⟨_,Y⟩
  ·obtain⟨v,o,O,R⟩:=a.cell y c (sub y c d);exact⟨v,o,t _ _ O,R⟩
 ·rcases YV e with⟨g,d⟩ | ⟨g,d⟩
  ·rw[d];exact a.hok.fresh (by omega)
  ·exact a.freeC y c (sub y c d)
 ·show(ZX 1 ix G).length=(x::fr).length;unfold ZX;rw[au,dI,aM,cH,sl];omega
theorem NR{M:List (aL×df)}{P:St}{w:Hp}{s2:aO}{Z:List aL}{it:aL}{tn:Nat->bp->Prop}{J:It}{Fin:List V->Hp->Prop}{RR:aI->aL->lG->aO->Prop}{E:aI->aO->Prop}
  (j:X.calm=aC) (S:CellF X.N X.env.scope scope x fr ix)
  (hg:∀cl C s H ex,PG (Mz (JQ x) X (x::fr) scope cl C s H ex) tg g) (ht:∀cl C s H ex,L4 (Mz (JQ x) X (x::fr) scope cl C s H ex) l8 tt) (he:∀cl C s H ex,PE (Mz (JQ x) X (x::fr) scope cl C s H ex) l9 te)
  (O:Inv X M P w s2) (T:Ni X.prog X.w X.K tg J Z it tn) (B:tn 0 s2.heap) (f2:∀b∈Z,VG X M w b)
  {W:Nat->Nat->List V->Hp->Prop} {m0:Nat} (w0:W 0 m0 [] w)
  (Uc:∀i m ys H,W i m ys H->ys.length<=sizeLine/\
   ((J.stop i H/\Fin ys H)\/
    (J.go i H/\∃N:List V->Hp->Prop,(∀ys' H',N ys' H'->∃m',m'<m/\W (i+1) m' ys' H')/\
     ∀x H',J.yld i H x H'->g x (ZX 1 ix P) H' λp w=>p.drop 1=(ZX 1 ix P).drop 1/\tt p w λb H3=>if b=aC then te p H3 λy H4=>N (ys++[y]) H4 else N ys H3)))
  (R:∀(D C:aL)(oC:df)(m:aq->Option aI)(s':aO)(H':Hp)(ys:List V),Inv X (M++[(C,oC)]) P (upd H' D (.lst ys)) s'->s'.heap.get? C=aA oC->s'.heap.Ns C m->VG X M (upd H' D (.lst ys)) C->H' D=none->Fin ys H'->RR (.ref D) C (.ok .next) s') :
  bJ (model X.prog X.w) X.A (newList []) (λG A=>bJ (model X.prog X.w) X.A (iA scope X.env.globals (X1 X.env.cells scope.names []) [] X.env.qual none .none (aA X.env)) (λf t=>
   ij (model X.prog X.w) X.A (.compStart (.ListComp l9 [⟨tg,iter,l8,0⟩] scope pos) 0 (.ref it) G { f with scope:=relabel scope X.env }) (RR G f.locals) t) E A) E s2:=by
 have I:∀b∈Z,b<s2.heap.objs.size:=λb Q=>by obtain⟨o,e,_⟩:=T.obj 0 s2.heap B b Q;exact aW e
 refine dZ (Hh S ?_)
 dsimp only
 generalize l:s2.heap.push { cls:=.type "list",dict:=none,data:=.seq ([]:List aI).toArray }=G2;have U:G2.objs.size=s2.heap.objs.size+1:=by rw[<-l,cG]
 have a:=(bp.Ns.new G2 (.type "dict")).push { cls:=.type "cell",data:=.cell none };generalize d:(G2.push { cls:=.type "dict",data:=.dict #[] }).push { cls:=.type "cell",data:=.cell none }=h₁ at a ⊢;have ext:∀b o,G2.get? b=aA o->h₁.get? b=aA o:=λb o e=>d▸aH _ (aH _ e);have L:h₁.IsCell (G2.objs.size+1) none:=by refine⟨{ cls:=.type "cell",data:=.cell none },?_,rfl⟩;rw[<-d,show G2.objs.size+1=(G2.push { cls:=.type "dict",data:=.dict #[] }).objs.size from(cG ..).symm];exact ag _ rfl
 generalize hCC:G2.objs.size=C at a U L ⊢;generalize k:s2.heap.objs.size=D at U ⊢;have hDC:D≠C:=by omega
 have n:∀b,b<s2.heap.objs.size->b≠C/\b≠D:=λb Q=>by rw[k] at Q;exact⟨bC (by omega),bC Q⟩
 have F:∀b o,s2.heap.get? b=aA o->h₁.get? b=aA o:=λb o e=>ext b o (l▸aH _ e)
 have u:h₁.get? D=aA { cls:=.type "list",data:=.seq ([]:List aI).toArray 0 }:=by
  have e0:G2.get? D=aA { cls:=.type "list",data:=.seq ([]:List aI).toArray 0 }:=by rw[<-l,<-k];exact ag _ rfl
  exact ext _ _ e0
 have I0:=λtk=>Km (tk:=tk) S O f2 I (C:=C) (by omega) a L F;refine OL (s2:=s2) (h₁:=h₁) (fv:=JQ x) (N:=x::fr) (C:=C) (D:=D) (cl:=clF X scope x C) (kk:=1) (ix:=ix) j (hg _ _ _ _ _) (ht _ _ _ _ _) (he _ _ _ _ _) O T B f2 w0 Uc R I U k F u I0 λy c e z=>?_;rcases YV e with⟨a1,Y⟩ | ⟨a1,Y⟩
 ·have q:C+1=D:=Y.symm.trans z;omega
 ·obtain⟨v,q⟩:=O.cell y c (Vq scope.names [] (S.clos O) (λh=>by simp at h) Y);exact(n c q.lt).2 z
theorem Hi(c:X.calm=aC)(k:PI X tg iter wi)(S:CellF X.N X.env.scope scope x fr ix)
  (F:∀cl C s H ex,PG (Mz (JQ x) X (x::fr) scope cl C s H ex) tg g) (j:∀cl C s H ex,L4 (Mz (JQ x) X (x::fr) scope cl C s H ex) l8 tt) (n:∀cl C s H ex,PE (Mz (JQ x) X (x::fr) scope cl C s H ex) l9 te)
  (u:∀x,bj iter X.env x=pure x:=by intro _;rfl):PE X (.ListComp l9 [⟨tg,iter,l8,0⟩] scope pos) (QM 1 ix wi g tt te):=by
 intro w s B H Q I h;refine f7 rfl u (Vc (S.clos I)) S.kind S.names (YW (k w s B H _ I h) λv s1 z=>YW z λM s2 y=>?_);obtain⟨it,Y,O,J,Z,e,A,T,f,f2,W,⟨R,q⟩,Uc⟩:=y;subst e;refine NR c S F j n A T f f2 q Uc ?_;intro D C P m U p L G E l a t i;refine⟨m,l,λh' d=>⟨.ref D,upd p D (.lst L),?_,rfl,i D t⟩⟩;exact(G.unpinned).turned (λb o N e=>d.extBut b o N e) a.1 a.2.1 a.2.2.2.1 a.2.2.2.2.1 a.2.2.2.2.2
noncomputable def Kn(N:List aq)(around scope:dw)(x:aq)(fr:List aq)(ix:List Nat):Bool:=
 (match scope.kind with | .function=>aC | _=>aB)&&(scope.names.filter (λy=>y.2==.cell)==[(x,.cell)])&&scope.names.all (λy=>y.2 != .local || scope.names.lookup y.1==aA .local)&&
 scope.names.all (λy=>y.2 != .free || (around.names.lookup y.1==aA .cell || around.names.lookup y.1==aA .free))&&(fr.map aA==ix.map (λi=>N[i]?))&&
 fr.all (λz=>scope.names.contains (z,bW))&&fr.all (λz=>scope.names.lookup z==aA .free)&&fr.all (λz=>z != x)
theorem C2{x:aq}:∀(names:List (aq×dy))(n:Nat)(a:List (aq×aL)),(names.filter (λy=>y.2==.cell)=[(x,.cell)]->gz n names a=(x,n)::a)/\(names.filter (λy=>y.2==.cell)=[]->gz n names a=a)
 | [],n,a=>⟨λh=>by simp at h,λ_=>rfl⟩
 | (y,k)::r,n,a=>by
  have b:=λn a=>C2 (x:=x) r n a;unfold gz
  cases q:k==cB with
  | true=>
   rw[lQ rfl,g6,show((y,k).2==cB)=aC from q,lQ rfl];refine⟨λh=>?_,λh=>by simp at h⟩;injection h with h1 h2;cases h1;exact(b _ _).2 h2
  | false=>
   rw[lU bO,g6,show((y,k).2==cB)=aB from q,lU bO];exact b n a
theorem C3{x:aq}:∀(names:List (aq×dy))(h:bp),(names.filter (λy=>y.2==.cell)=[(x,.cell)]->kQ h names=h.push { cls:=.type "cell",data:=.cell none })/\(names.filter (λy=>y.2==.cell)=[]->kQ h names=h)
 | [],h=>⟨λh=>by simp at h,λ_=>rfl⟩
 | (y,k)::r,h=>by
  have a:=λh=>C3 (x:=x) r h;unfold kQ
  cases q:k==cB with
  | true=>
   rw[lQ rfl,g6,show((y,k).2==cB)=aC from q,lQ rfl];refine⟨λh=>?_,λh=>by simp at h⟩;injection h with h1 h2;exact(a _).2 h2
  | false=>
   rw[lU bO,g6,show((y,k).2==cB)=aB from q,lU bO];exact a h
theorem Hj{N:List aq}{b a:dw}{x:aq}{fr:List aq}{ix:List Nat}(h:Kn N b a x fr ix=aC):CellF N b a x fr ix:=by
 unfold Kn at h;simp only[ba] at h;obtain⟨⟨⟨⟨⟨⟨⟨i,f⟩,o⟩,p⟩,j⟩,m⟩,k⟩,l⟩:=h;have f:a.names.filter (λy=>y.2==.cell)=[(x,.cell)]:=by simpa using f
 refine⟨?_,λn g=>(C2 _ n g).1 f,λh=>(C3 _ h).1 f,λy c e=>?_,λy c e=>?_,λy c e=>?_,by simpa using j,λz d=>?_,λz d=>?_,λz d=>?_⟩
 ·split at i
  ·assumption
  ·cases i
 ·have:y∈a.names.filter (λy=>y.2==.cell):=gj.mpr ⟨c,by rw[e];rfl⟩;rw[f] at this;rw[ah.mp this]
 ·have:=ar.mp o y c;rw[e] at this;simpa using this
 ·have:=ar.mp p y c;rw[e] at this;simpa using this
 ·simpa using ar.mp m z d
 ·simpa using ar.mp k z d
 ·simpa using ar.mp l z d
end
end L2
namespace VL
open PySem PySem.Spec PyProof.Rows L2
section
variable {X:Cx} {tg l9 iter:az} {l8:List az} {scope:dw} {pos:fS} {fi:XL} {T:Tgt} {ft:XT} {fe:XE}
theorem Hk(x:aq)(fr:List aq)(ix:List Nat)(b:X.calm=aC)(f:VI X tg iter fi)(S:Kn X.N X.env.scope scope x fr ix=aC)
  (e:∀cl C s H a,PG (Mz (JQ x) X (x::fr) scope cl C s H a) tg (gT X.K T)) (c:∀cl C s H a,A9 (Mz (JQ x) X (x::fr) scope cl C s H a) l8 ft) (h:∀cl C s H a,VM (Mz (JQ x) X (x::fr) scope cl C s H a) l9 fe)
  (g:∀i∈T.slots,i<1:=by decide) (d:∀x,bj iter X.env x=pure x:=by intro _;rfl):VM X (.ListComp l9 [⟨tg,iter,l8,0⟩] scope pos) (Zt 1 ix fi T ft fe):=
 PE.imp (Hi b f (Hj S) e (λcl C s H a=>(show L4 (Mz (JQ x) X (x::fr) scope cl C s H a) l8 (MU X.K ft) from c cl C s H a)) (λcl C s H a=>(show PE (Mz (JQ x) X (x::fr) scope cl C s H a) l9 (tM X.K fe) from h cl C s H a)) d) (NC g)
end
end VL
namespace L2
open PySem PySem.Spec PyProof.Rows
theorem Hl{X:Cx}(B:X.calm=aC):XA X (.builtin "any") (λn H Q=>∃(b:Bool) (p:aL) (ns:List Int),n=[.ref p]/\RO b X.K H p (ns.map V.int)/\Q (.bl (ns.any λz=>z != 0)) H):=by
 intro R s T H n O Q I r h;obtain⟨b,p,bs,rfl,C,q⟩:=h;obtain⟨u,rfl,y⟩:=Ur r;cases y;obtain⟨j,l,a,P⟩:=I.seqB C;have J:p<s.heap.objs.size:=let⟨_,e⟩:=a.has;aW e;have k:=l.length;rw[aM] at k;refine call_any_walk (Yj a ?_);refine⟨_,_,_,_,_,_,λi=>bs.getD i 0 != 0,rfl,Walks.seqB (A:=X.A.in1) b (I.ok.hd B) s.heap.objs.size p (bC J) j.toArray,⟨IterB.new (ag _ rfl),a.at λo e=>aH _ e⟩,λi v N M L g E=>?_,λS tk D=>?_⟩
 ·have g:j.toArray[i]?=aA v:=g;have g:j[i]?=aA v:=by simpa using g
  have d:i<bs.length:=by rw[k];exact(aQ.mp g).1
  obtain⟨u,m,F⟩:=l.get (i:=i) (x:=.int bs[i]) (by rw[aU,aG d];rfl);rw[g] at m;cases m;obtain⟨t,rfl⟩:=F;refine PyProof.Rows.truthy_int ?_;have e:bs.getD i 0=bs[i]:=by rw[aD,aG d];rfl
  rw[<-e];exact E
 ·have e:(aF j.toArray.size).any (λi=>bs.getD i 0 != 0)=bs.any λz=>z != 0:=by
   rw[aR,<-k,f9,fC,fC];constructor
   ·rintro⟨i,d,h⟩;have d:=aS.mp d;rw[aD,aG d] at h;exact⟨_,dO d,h⟩
   ·rintro⟨x,w,h⟩;obtain⟨i,d,rfl⟩:=eU.mp w;refine⟨i,aS.mpr d,?_⟩;rw[aD,aG d];exact h
  rw[e];refine⟨.bl (bs.any λz=>z != 0),H,I.kept (λc o f=>D c o ?_ (aH _ f)),rfl,q⟩;intro G;rw[ah.mp G] at f;exact absurd (aW f) (cP _)
end L2
namespace VL
open PySem PySem.Spec PyProof.Rows L2
variable {K:aE}
noncomputable def Pm:List PV->Option PV
 | [l]=>(Th l).bind λm=>(Wd m).map λns=>.bl (ns.any λz=>z != 0)
 | _=>none
theorem DF:RC K (λd H Q=>∃(b:Bool) (p:aL) (a:List Int),d=[.ref p]/\RO b K H p (a.map V.int)/\Q (.bl (a.any λz=>z != 0)) H) Pm:=λH vs ls l u h e Q k=>by
 unfold Pm at e;split at e
 ·obtain⟨m,j,n⟩:=Zg e;obtain⟨a,o,rfl⟩:=map_some n;obtain⟨v,rfl,i⟩:=h.one_inv;obtain⟨p,d,t,rfl,c,g,s⟩:=Wv (K:=K) i j;have f:=X3 o;subst f;obtain⟨rfl,rfl⟩:=g.iL;obtain⟨b,q⟩:=QY c;exact⟨b,p,a,rfl,q,k _ H [] (Same.refl H) (Is.bl _) λp c=>by simp at c⟩
 ·cases e
abbrev C4:=IK (λ_ j=>j≠0) Int.fmod
theorem DG{X:Cx}{a b:az}{c fb:XE}{pos:fS}(e:VE X a c)(d:VE X b fb):VE X (.BinOp a .Mod b pos) (Zk C4 c fb):=WL EI (RP _ _) e d
end VL
namespace VL
open PySem PySem.Spec PyProof.Rows L2
section
variable {X:Cx} {a b:az} {fa fb:XE} {pos:fS}
theorem Fo(d:X.prog.given.tree=none)(e:Room 35 X.A)(c:X.stack=X.env::X.outer)(a:X.env.scope.isGenerator=aB)(b:X.env.scope.isCoroutine=aB):TN X (dU .FloorDiv) (rI (λ_ j=>j≠0) λi j=>.int (i.fdiv j)):=by
 intro l s m H x y v u Q I f k h;obtain⟨i,j,rfl,rfl,g,q⟩:=h;obtain⟨t,rfl⟩:=f;obtain⟨t',rfl⟩:=k;refine js g ⟨.int (i.fdiv j),H,I.tok _,⟨_,rfl⟩,q⟩ (.inr (lJ I.nolimit ?_ ?_))
 ·have:=e.dp;show X.A.depth+100<jO;omega
 ·exact PySem.SeerAt.of (I.ok.mod.seer.keeps I.bk) d (by rw[I.ok.frames,c]) a b I.ok.blt I.ok.glob
abbrev Fp:=IK (λ_ j=>j≠0) gS
theorem Fq(f:X.prog.given.tree=none)(h:Room 35 X.A)(i:VE X a fa)(g:VE X b fb)(e:X.stack=X.env::X.outer:=by rfl)(c:X.env.scope.isGenerator=aB:=by rfl)(d:X.env.scope.isCoroutine=aB:=by rfl):VE X (.BinOp a .FloorDiv b pos) (Zk Fp fa fb):=WL (Fo f h e c d) (RP _ _) i g
end
end VL
namespace PW
open PySem L2 VL VX
noncomputable def O3:XS:=(Zp (Tj (xB (Zk (Wr aB) (Zk Wc (Za 1) (eC (.int 2))) (eC (.int 1)))) (Zp (Zr 2 (eP (Zk RU (Za 1) (eC (.int 2)))))
  (Zp (Zr 3 (WX []))
  (Zp (Xo [3] (Yp [Zc Ys [Za 0]]) (.one 4) (Zp (Xd 3 (eP (Zk Wb (Zk Wc (Za 2) (Zk Ym (Zk Ui (eC (.int 2)) (Zk Nv (eC (.int 10)) (eC (.int 20)))) (eC (.int 1)))) (Zk Nv (eC (.int 10)) (eC (.int 20))))))
  (Zr 2 (eP (Zk RU (Za 2) (Zk Ym (Zk Ui (eC (.int 2)) (Zk Nv (eC (.int 10)) (eC (.int 20)))) (eC (.int 1))))))))
  (ZK (eP (Zc ZI [Za 3])))))) Yq)
  (Zp (Zr 5 (eP (Zk ZN (WX [eC (.int 1),eC (.int 1),Zk Ym (Zk Nv (eC (.int 10)) (eC (.int 20))) (eC (.int 39))]) (Zc Z8 [Za 1,eC (.int 281),eC (.int 3)]))))
  (ZK (eP (Zc ZI [Zt 1 [5,1] (Yp [Zc Ys [Za 0]]) (.one 0) Zz (Zk Ui (Zk Wb (Zc Z8 [Zk Ym (Za 2) (Zk Ui (eC (.int 5)) (Za 0)),eC (.int 283),eC (.int 9)]) (eC (.int 4))) (Za 1))])))))
noncomputable def SQ:List PV->Option PV:=YO 6 O3
noncomputable def O4:XS:=(Zp (Zr 3 (Zc VP [Zc Vx [Za 0,Za 1,Zt 1 [2] (Yp [Zc Ys [Za 0]]) (.one 0) Zz (Zk Wb (Zc Z8 [Zk Ym (Za 1) (Za 0),eC (.int 293),eC (.int 7)]) (eC (.int 3)))]]))
  (Zp (Tj (xB (Zk (Wr aB) (Zc Z8 [Za 2,eC (.int 307),eC (.int 3)]) (eC (.int 0)))) (Zp (Zr 4 (Zc Z8 [Za 2,eC (.int 311),Zc Ys [Za 0]]))
  (Zp (XI 3 (Za 4) (Zk Wb (Zk ZN (Za 3) (Za 4)) (eC (.int 1))))
  (Zp (Zr 5 (Zc Z8 [Za 2,eC (.int 313),Zc Ys [Za 0]]))
  (XI 3 (Za 5) (Zk Ym (Zk ZN (Za 3) (Za 5)) (eC (.int 1))))))) Yq)
  (ZK (eP (Zc ZI [Za 3])))))
noncomputable def SR:List PV->Option PV:=YO 6 O4
noncomputable def Hm:XS:=(Zp (Zr 3 (Zc Y5 [Za 0,Za 1,Za 2]))
  (Zp (Tj (xB (Uu aB (Za 3))) (ZK (eP (eC (.bl aB)))) Yq)
  (Zp (Tj (IL (Nx (xB (Zc Tp [Za 3,Zc Ys [Za 0]]))) (xB (Zk (Wr aC) (Zc JK [Za 3]) (eC (.int 0))))) (ZK (eP (eC .non))) Yq)
  (Zp (Tj (xB (Zk (Wr aC) (Zc Vx [Za 0,Za 1,Za 3]) (Za 2))) (ZK (eP (eC .non))) Yq)
  (ZK (eP (eC (.bl aC))))))))
noncomputable def SS:List PV->Option PV:=YO 4 Hm
noncomputable def Fs:XS:=(ZK (eP (Zc TV [Zt 2 [] (Um aB aB [Za 0,Za 1]) (.many [0,1]) Zz (Zk Ui (Za 0) (Za 1))])))
noncomputable def Pn:List PV->Option PV:=YO 2 Fs
noncomputable def DH:XS:=(Zp (Zr 2 (eP (Zk ZN (Za 0) (eC (.int 0)))))
  (ZK (eP (Zc ZI [Zt 2 [1] (Um aB aB [Za 2,Zk ZN (Za 0) (eC (.int 4))]) (.many [0,1]) Zz (Zk Wc (Zc Pn [Za 0,Up R7 (Za 2) (WN (eC (.int 1))) So]) (Za 1))]))))
noncomputable def T8:List PV->Option PV:=YO 3 DH
noncomputable def La:XS:=(ZK (Zc Y4 [Za 0,eC (.int 0)]))
noncomputable def Uz:List PV->Option PV:=YO 1 La
noncomputable def Ko:XS:=(ZK (Zt 1 [1] (Yp [Za 0]) (.one 0) Zz (eP (IM (xB (Zk (Wr aB) (Za 0) (Za 1))) (eC (.int 1)) (eC (.int 0))))))
noncomputable def V4:List PV->Option PV:=YO 2 Ko
noncomputable def Kp:XS:=(Zp (Zr 1 (eP (Zc Ys [Za 0])))
  (Zp (Zr 2 (Zt 2 [1] (XB aB [Za 0]) (.many [0,1]) Zz (eP (Ot (Zk Uh (Zc VP [Za 1]) (Zc V4 [Za 2,Za 0]))))))
  (Zp (Zr 3 (Zt 1 [1] (Yp [Za 1]) (.one 0) Zz (eP (Ot (Zk Uh (Zc V4 [Za 1,Za 0]) (Zk NF (WX [eC (.int 0)]) (Za 1)))))))
  (ZK (Zk Uh (Za 2) (Za 3))))))
noncomputable def Tq:List PV->Option PV:=YO 4 Kp
noncomputable def Qb:XS:=(ZK (Zt 1 [2,0] (Uw [Zk Ym (Za 2) (eC (.int 1)),Za 1]) (.one 0) (xB (Zk (Wr aC) (Zk ZN (Zk ZN (Za 2) (Za 0)) (Za 1)) (eC (.int 0)))) (eP (Za 0))))
noncomputable def Xe:List PV->Option PV:=YO 3 Qb
noncomputable def AF:XS:=(ZK (Zt 2 [2] (Um aC aC [Za 0,Za 1]) (.many [0,1]) Zz (eP (Zk Wb (Za 0) (Zk Ui (Za 2) (Za 1))))))
noncomputable def SU:List PV->Option PV:=YO 3 AF
noncomputable def Uj:XS:=(Zp (Zr 3 (Zc VP [Za 0]))
  (Zp (Zr 4 (Zc Xe [Za 3,Za 1,Za 2]))
  (Zp (Xp (xB (Zk L5 (Zc Ys [Za 4]) (eC (.int 0)))) (Zp (Zr 5 (eP (Zk ZN (Za 4) (eC (.int 0)))))
  (Zp (Tj (IL (xB (Zk (Wr aB) (Zk ZN (Zk ZN (Za 3) (Za 2)) (Za 2)) (eC (.int 0)))) (xB (Zk MA (Zc Kd [Zk ZN (Zk ZN (Za 3) (Za 5)) (Za 2)]) (Zc Kd [Zk ZN (Zk ZN (Za 3) (Za 2)) (Za 2)])))) (Zp (Zr 6 (eP (Zk ZN (Za 3) (Za 2))))
  (Zp (XI 3 (Za 2) (Zk ZN (Za 3) (Za 5)))
  (XI 3 (Za 5) (Za 6)))) Yq)
  (Zp (Xo [3] (Xw (Za 4)) (.one 7) (XI 3 (Za 7) (Ot (Zc SU [Zk ZN (Za 3) (Za 7),Zk ZN (Za 3) (Za 2),Zk Fp (Zk ZN (Zk ZN (Za 3) (Za 7)) (Za 2)) (Zk ZN (Zk ZN (Za 3) (Za 2)) (Za 2))]))))
  (Zr 4 (Zc Xe [Za 3,Za 1,Za 2]))))))
  (ZK (Za 3)))))
noncomputable def ZQ:List PV->Option PV:=YO 8 Uj
noncomputable def Ou:XS:=(ZK (Zt 1 [0] (Yp [Zc Ys [Za 0]]) (.one 0) Zz (eP (Ot (Zt 1 [0] (Xw (Za 1)) (.one 0) Zz (eP (Zk ZN (Za 0) (Za 1))))))))
noncomputable def YL:List PV->Option PV:=YO 1 Ou
noncomputable def Vg:XS:=(Zp (Zr 3 (Zc ZQ [Za 0,Za 1,Za 2]))
  (Zp (Xp (xB (Zc Pm [Up Xx (Zk ZN (Za 3) (Za 2)) (WN (Zk Ym (Za 2) (eC (.int 1)))) (WN (Za 1))])) (Zp (Zr 3 (Zc YL [Zc ZQ [Zc YL [Za 3],Za 1,Za 2]]))
  (Zr 3 (Zc ZQ [Za 3,Za 1,Za 2]))))
  (ZK (Za 3))))
noncomputable def Xb:List PV->Option PV:=YO 4 Vg
noncomputable def Lb:XS:=(Zp (Zr 3 (eP (Zk ZN (Zk ZN (Za 0) (Za 2)) (Za 2))))
  (Zp (Xo [] (Uw [Zk Ym (Za 2) (eC (.int 1)),Za 1]) (.one 4) (Tj (xB (Zc GK [Zt 1 [3] (Xw (Up Xx (Zk ZN (Za 0) (Za 4)) So (WN (Za 1)))) (.one 0) Zz (Zk (Wr aC) (Zk C4 (Za 0) (Za 1)) (eC (.int 0)))])) (ZK (eP (Za 4))) Yq))
  (ZK (eP (eC .non)))))
noncomputable def W7:List PV->Option PV:=YO 5 Lb
noncomputable def T9:XS:=(Zp (Zr 3 (Zc Xb [Za 0,Za 1,Za 2]))
  (Zp (Zr 4 (Zc W7 [Za 3,Za 1,Za 2]))
  (Zp (Xp (xB (Uu aC (Za 4))) (Zp (XI 3 (Za 2) (Ot (Zc SU [Zk ZN (Za 3) (Za 2),Zk ZN (Za 3) (Za 4),eC (.int 1)])))
  (Zp (Zr 3 (Zc Xb [Za 3,Za 1,Za 2]))
  (Zr 4 (Zc W7 [Za 3,Za 1,Za 2])))))
  (Zp (Tj (xB (Zk MA (Zk ZN (Zk ZN (Za 3) (Za 2)) (Za 2)) (eC (.int 0)))) (XI 3 (Za 2) (Ot (Zt 1 [] (Xw (Zk ZN (Za 3) (Za 2))) (.one 0) Zz (eP (GI MX (Za 0)))))) Yq)
  (ZK (Za 3))))))
noncomputable def Wx:List PV->Option PV:=YO 5 T9
noncomputable def Hn:XS:=(ZK (eP (Zc ZI [Zt 2 [] (Um aB aB [Za 0,Za 1]) (.many [0,1]) Zz (Zk RU (Za 0) (Za 1))])))
noncomputable def U4:List PV->Option PV:=YO 2 Hn
noncomputable def Qc:XS:=(ZK (eP (Zc TV [Zt 2 [2,1] (XB aB [Za 0]) (.many [0,1]) Zz (Zk Ui (Za 1) (Zk ZN (Zk ZN (Za 3) (Za 0)) (Za 2)))])))
noncomputable def We:List PV->Option PV:=YO 3 Qc
noncomputable def Lc:XS:=(ZK (eP (Zc ZI [Zt 1 [0,1] (Yp [Zc Ys [Za 0]]) (.one 0) Zz (Zc We [Za 1,Za 2,Za 0])])))
noncomputable def UA:List PV->Option PV:=YO 2 Lc
noncomputable def NS:XS:=(ZK (eP (Zc ZI [Zt 1 [1] (SE (Za 0)) (.one 0) Zz (Zc UA [Za 0,Za 1])])))
noncomputable def Y6:List PV->Option PV:=YO 2 NS
noncomputable def JR:XS:=(Zp (Zr 1 (Zc Uz [Za 0]))
  (Zp (Zr 2 (eP (Zc Ys [Za 1])))
  (Zp (Zr 3 (Zc Tq [Za 1]))
  (Zp (Xo [] (Yp [Za 2]) (.one 4) (Zr 3 (Zc Wx [Za 3,Za 2,Za 4])))
  (Zp (Zr 5 (eP (Zc ZI [Zt 1 [3] (Yp [Za 2]) (.one 0) Zz (Zk ZN (Zk ZN (Za 1) (Za 0)) (Za 0))])))
  (Zp (Zr 6 (eP (Zc ZI [Zt 1 [2] (Xw (Up Xx (Za 3) So (WN (Za 2)))) (.one 0) Zz (Zc ZI [Up Xx (Za 0) (WN (Za 1)) So])])))
  (Zp (Zr 7 (eP (Zc ZI [Zt 1 [2] (Xw (Up Xx (Za 3) (WN (Za 2)) So)) (.one 0) Zz (Zc ZI [Up Xx (Za 0) So (WN (Za 1))])])))
  (Zp (Zr 8 (eP (Zc ZI [Zt 1 [5] (SE (Zc Y6 [Za 1,Za 7])) (.one 0) Zz (Zc U4 [Za 0,Za 1])])))
  (Zp (Zr 9 (eP (Zc ZI [Zt 2 [2] (Um aB aB [Zc Y6 [Za 6,Za 1],Za 5]) (.many [0,1]) Zz (Zc U4 [Za 0,Zk M7 (R6 [Za 1]) (Za 2)])])))
  (ZK (eP (R6 [Za 6,Za 8,Za 7,Za 9,Za 5]))))))))))))
noncomputable def Sa:List PV->Option PV:=YO 10 JR
noncomputable def Kq:XS:=(ZK (eP (Zk OZ (R6 [Zc U2 [Za 1]]) (Zc T8 [Zc Sa [Za 0],Za 1]))))
noncomputable def XJ:List PV->Option PV:=YO 2 Kq
noncomputable def SV:XS:=(Zp (Zr 2 (eP (Za 0)))
  (Zp (Zr 3 (eP (Za 1)))
  (Zp (Xp (xB (Zk (Wr aC) (Za 3) (eC (.int 0)))) (Zp (Zr 4 (eP (Zk Wc (Za 2) (Za 3))))
  (Zp (Zr 2 (eP (Za 3)))
  (Zr 3 (eP (Za 4))))))
  (ZK (eP (Za 2))))))
noncomputable def Y7:List PV->Option PV:=YO 5 SV
noncomputable def Kr:XS:=(Zp (Tj (xB (Zk (Wr aC) (Zc U2 [Za 1]) (eC (.int 0)))) Fc Yq)
  (Zp (Zr 2 (Zc Sa [Za 0]))
  (Zp (Zr 3 (eP (eC (.int 1))))
  (Zp (Xo [] (Um aB aB [Zc T8 [Za 2,Za 1],Zk ZN (Za 2) (eC (.int 4))]) (.many [4,5]) (Zp (Zr 6 (eP (Zk RU (Za 5) (Zc Y7 [Za 4,Za 5]))))
  (Zr 3 (eP (Zk RU (Zk Ui (Za 3) (Za 6)) (Zc Y7 [Za 3,Za 6]))))))
  (ZK (eP (Za 3)))))))
noncomputable def Tr:List PV->Option PV:=YO 7 Kr
noncomputable def Ho:XS:=(Zp (Zr 3 (eP (Zc ZI [Zt 2 [] (Um aB aB [Za 1,Za 2]) (.many [0,1]) Zz (Zk Wb (Za 0) (Za 1))])))
  (Zp (Zr 4 (eP (Zc ZI [Zk NF (WX [eC (.int 0)]) (Zc Ys [Za 0])])))
  (Zp (Zr 5 (Zc Tr [Za 0,Za 3]))
  (Zp (Tj (IL (Nx (xB (Zc Vv [Za 5]))) (xB (Zk MA (Za 5) (eC (.int 1))))) (ZK (eP (eC (.bl aB)))) Yq)
  (Zp (Tj (xB (Uu aB (Zc Y5 [Za 0,Zc ZI [Zt 1 [5] (SE (Za 3)) (.one 0) Zz (Zk R5 (Za 1) (Za 0))],Za 4]))) (ZK (eP (eC (.bl aB)))) Yq)
  (ZK (eP (eOr (Zk (Wr aB) (Za 5) (eC (.int 1))) (Uu aB (Zc Y5 [Za 0,Za 3,Za 4]))))))))))
noncomputable def SW:List PV->Option PV:=YO 6 Ho
noncomputable def C5:XS:=(Zp (Zr 1 (Zc NQ [Za 0,WX [eC (.int 1),eC (.int 2),eC (.int 3),eC (.int 4),eC (.int 5)],eC (.int 8)]))
  (Zp (Zr 2 (Zc Z8 [Zc Vf [Za 0,eC (.int 13)],eC (.int 317),Zc Ys [Za 1]]))
  (Zp (Xo [] (Xw (Zk Uh (WX [Zc Vf [Za 0,eC (.int 12)]]) (Up Xx (Za 0) (WN (eC (.int 13))) (WN (eC (.int 24)))))) (.one 3) (Zp (Zr 4 (Zc SQ [Za 1,Za 3]))
  (Zp (Zr 5 (Zc SR [Za 1,Za 4,Za 3]))
  (Zp (Zr 6 (Zc SS [Za 1,Za 4,Za 5]))
  (Zp (Zr 7 (WX [Zc XJ [Za 1,Za 4],Zc XJ [Za 1,Za 5]]))
  (Zp (Tj (IL (xB (Uu aB (Za 6))) (IL (Nx (xB (Zc Tc [Zk ZN (Za 7) (eC (.int 0)),eC (.ty "tuple")]))) (xB (Zk (Wr aC) (Zk ZN (Zk ZN (Za 7) (eC (.int 0))) (eC (.int 0))) (Zc TV [Za 4]))))) (ZK (eP (eC (.bl aB)))) Yq)
  (Zp (Tj (xB (Zk (Wr aC) (Za 6) (Zk (Wr aB) (Zk ZN (Za 7) (eC (.int 0))) (Zk ZN (Za 7) (eC (.int 1)))))) (ZK (eP (eC (.bl aB)))) Yq)
  (Zp (Tj (xB (Zk (Wr aC) (Za 6) (Zk (Wr aB) (Zk ZN (Zc Z2 [Za 1,Za 4,Za 2]) (eC (.int 1))) (Zk ZN (Zc Z2 [Za 1,Za 5,Za 2]) (eC (.int 1)))))) (ZK (eP (eC (.bl aB)))) Yq)
  (Tj (Nx (xB (Zc SW [Za 1,Za 4,Za 5]))) (ZK (eP (eC (.bl aB)))) Yq)))))))))
  (ZK (eP (eC (.bl aC)))))))
noncomputable def D_law:List PV->Option PV:=YO 8 C5
end PW
namespace VL
open PySem PySem.Spec PyProof.Rows L2
theorem X9{N P:List aq}{h:dw}(a:h.kind = .function:=by rfl)(b:h.isCoroutine=aB:=by rfl)(c:h.isGenerator=aB:=by rfl)(d:N.Nodup:=by decide +kernel)(e:N.take P.length=P:=by rfl)
  (f:∀x∈P,h.names.lookup x=aA .local\/h.names.lookup x=aA .cell:=by decide +kernel) (g:∀y∈h.names,y.2≠.free:=by decide +kernel):Zq N P h:=⟨a,b,c,d,e,f,g⟩
section
variable {X:Cx} {e e1 e2 e3 e4 e5:az} {f f1 f2 f3 f4 f5:XE} {es:List az} {fs:List XE} {x:aq} {p pos pos':fS} {k k' n:Nat} {O W:List Nat}
theorem vo(i:Nat)(b:X.N[i]?=aA x:=by rfl)(c:Vis X.env.scope x:=by first | exact jg rfl | exact jP (jg rfl) | exact jP (jP rfl))(d:(x==("__debug__" : aq))=aB:=by decide)
  (a:(x==("__classdict__" : aq))=aB:=by decide):VE X (.Name x pos) (Za i):=Zba (pv i b c d a)
theorem YE(a:VE X e1 f1)(b:aX [e1] X.env=(aB,eval e1 X.env)::aX [] X.env:=by rfl):VA X [e1] [f1]:=UR a Aa b
theorem X4(a:VE X e1 f1)(b:VE X e2 f2)(d:aX [e1,e2] X.env=(aB,eval e1 X.env)::aX [e2] X.env:=by rfl)(c:aX [e2] X.env=(aB,eval e2 X.env)::aX [] X.env:=by rfl):VA X [e1,e2] [f1,f2]:=UR a (YE b c) d
theorem Wf(a:VE X e1 f1)(b:VE X e2 f2)(c:VE X e3 f3)(d:aX [e1,e2,e3] X.env=(aB,eval e1 X.env)::aX [e2,e3] X.env:=by rfl)(e:aX [e2,e3] X.env=(aB,eval e2 X.env)::aX [e3] X.env:=by rfl)(f:aX [e3] X.env=(aB,eval e3 X.env)::aX [] X.env:=by rfl):VA X [e1,e2,e3] [f1,f2,f3]:=UR a (X4 b c e f) d
theorem va4(a:VE X e1 f1)(b:VE X e2 f2)(c:VE X e3 f3)(d:VE X e4 f4)(e:aX [e1,e2,e3,e4] X.env=(aB,eval e1 X.env)::aX [e2,e3,e4] X.env:=by rfl)(f:aX [e2,e3,e4] X.env=(aB,eval e2 X.env)::aX [e3,e4] X.env:=by rfl)(h:aX [e3,e4] X.env=(aB,eval e3 X.env)::aX [e4] X.env:=by rfl)(g:aX [e4] X.env=(aB,eval e4 X.env)::aX [] X.env:=by rfl):VA X [e1,e2,e3,e4] [f1,f2,f3,f4]:=UR a (Wf b c d f h g) e
theorem WB{d:List aq}{D:List PV->Option PV}(C:Xi X.prog X.w X.K X.mg X.base x d (YX X.K D n) k)(g:Room k' X.A)(j:VA X (e::es) fs)(h:k<=k':=by decide)(c:Gl X x:=by rfl)(f:fs.length=n:=by rfl)
  (a:(x==("__debug__" : aq))=aB:=by decide) (i:aX (e::es) X.env=(aB,eval e X.env)::aX es X.env:=by rfl) (b:(fu pos (aX es X.env)).any (·.1)=aB:=by rfl) :
  VM X (.Call (.Name x p) (e::es) [] pos) (Zc D fs):=Jw C (g.mono h) c j f a i b
theorem WC{d:List aq}{D:List PV->Option PV}(C:Xi X.prog X.w X.K X.mg X.base x d (YX X.K D n) k)(g:Room k' X.A)(j:VA X (e::es) fs)(h:k<=k':=by decide)(c:Gl X x:=by rfl)(f:fs.length=n:=by rfl)
  (a:(x==("__debug__" : aq))=aB:=by decide) (i:aX (e::es) X.env=(aB,eval e X.env)::aX es X.env:=by rfl) (b:(fu pos (aX es X.env)).any (·.1)=aB:=by rfl) :
  VE X (.Call (.Name x p) (e::es) [] pos) (Zc D fs):=VM.ve (Jw C (g.mono h) c j f a i b)
theorem vb{id:String}{r:List V->Hp->VK->Prop}{g:List PV->Option PV}(j:XA X (.builtin id) r)(i:RC X.K r g)(d:X.mg x=none)(l:VA X (e::es) fs)(c:Gl X x:=by rfl)(h:dP x=aA (.builtin id):=by decide +kernel)(f:x≠"__name__":=by decide)(a:(x==("__debug__" : aq))=aB:=by decide)
  (k:aX (e::es) X.env=(aB,eval e X.env)::aX es X.env:=by rfl) (b:(fu pos (aX es X.env)).any (·.1)=aB:=by rfl):VE X (.Call (.Name x p) (e::es) [] pos) (Zc g fs):=MY j i c d h l f a k b
theorem Qq(d:X.mg "len" = none)(g:VE X e f)(c:Gl X "len":=by rfl)(b:aX [e] X.env=(aB,eval e X.env)::aX [] X.env:=by rfl)(a:(fu pos (aX [] X.env)).any (·.1)=aB:=by rfl):VE X (.Call (.Name "len" p) [e] [] pos) (Zc Ys [f]):=
 MY Gp Ad c d (by decide +kernel) (YE g b) (by decide) (by decide) b a
theorem Yi{a:XE}(i:Nat)(f:X.N.Nodup)(h:VM X e a)(d:X.N[i]?=aA x:=by rfl)(g:Ez X.env.scope x:=by first | exact jg rfl | exact jP rfl)(b:gy e (aA (.Name x pos')) pos.line X.env=pure aB:=by rfl)(c:X.fn x=aC\/X.env.scope.names.lookup x=aA .local:=by first | exact .inl rfl | exact .inr rfl | assumption) :
  VS X O [i] (.Assign [.Name x pos'] e pos) (Zr i a):=Am f d g h b c
theorem MB(i:Nat)(c:X.N.Nodup)(b:X.N[i]?=aA x:=by rfl)(d:Ez X.env.scope x:=by first | exact jg rfl | exact jP rfl)(a:X.fn x=aC\/X.env.scope.names.lookup x=aA .local:=by first | exact .inl rfl | exact .inr rfl | assumption):PG X (.Name x pos) (TQ i):=Qh c b d a
theorem Vo(i:Nat){N:List aq}{a:dw}{cl:List (aq×aL)}{C:aL}{s:aO}{H:Hp}{b:List aL}(e:N.Nodup:=by decide +kernel)(d:N[i]?=aA x:=by rfl)(f:Ez (ZM X N a cl C s H b).env.scope x:=by exact jg rfl)(c:(ZM X N a cl C s H b).env.scope.names.lookup x=aA .local:=by rfl):PG (ZM X N a cl C s H b) (.Name x pos) (TQ i):=Qh e d f (.inr c)
end
section
variable {X:Cx} {tg iter l9 e1 e2:az} {fi:XL} {T:Tgt} {ft:XT} {fe f1 f2:XE} {p pos pos':fS} {O W:List Nat} {body:List bq} {fb:XS} {scope:dw}
theorem Ks(c:VI X tg iter fi)(b:PG X tg (gT X.K T))(f:VSs X O W body fb)(e:jZ (model X.prog X.w) X.A X.env X.xe:=by exact eQ)(g:X.calm=aC:=by rfl)(d:∀i∈T.slots,i∉O:=by decide)
  (a:∀x,bj iter X.env x=pure x:=by intro _;rfl):VS X O (T.slots++W) (.For tg iter body [] pos) (Xo O fi T fb):=An e g c b f d a
theorem MC(b:X.mg "range" = none)(d:VE X e1 f1)(c:Gl X "range":=by rfl)(a:aX [e1] X.env=[(aB,eval e1 X.env)]:=by rfl):VI X tg (.Call (.Name "range" p) [e1] [] pos) (Yp [f1]):=IT c b (YE d (by rw[a];rfl)) a
theorem vr2(d:X.mg "range" = none)(f:VE X e1 f1)(e:VE X e2 f2)(c:Gl X "range":=by rfl)(b:aX [e1,e2] X.env=[(aB,eval e1 X.env),(aB,eval e2 X.env)]:=by rfl)(a:aX [e2] X.env=[(aB,eval e2 X.env)]:=by rfl):VI X tg (.Call (.Name "range" p) [e1,e2] [] pos) (Uw [f1,f2]):=IU c d (X4 f e (by rw[b,a]) (by rw[a];rfl)) b a
theorem MD(o:aq)(fr:List aq)(ix:List Nat)(a:VI X (.Name o pos') iter fi)(g:∀{cl C s H ex},VE (ZM X ([o]++fr) scope cl C s H ex) l9 fe)(S:Us X.N X.env.scope scope [o] fr ix=aC:=by kernel_rfl)
  (c:([o]++fr).Nodup:=by decide +kernel) (d:∀cl C s H ex,Ez (ZM X ([o]++fr) scope cl C s H ex).env.scope o:=by intro _ _ _ _ _;exact jg rfl) (f:∀cl C s H ex,(ZM X ([o]++fr) scope cl C s H ex).env.scope.names.lookup o=aA .local:=by intro _ _ _ _ _;rfl) (e:X.calm=aC:=by rfl) (b:∀x,bj iter X.env x=pure x:=by intro _;rfl) :
  VE X (.ListComp l9 [⟨.Name o pos',iter,[],0⟩] scope pos) (Zt 1 ix fi (.one 0) Zz fe):=Y1 [o] fr ix e a S (λ_ _ _ _ _=>Qh (i:=0) c rfl (d _ _ _ _ _) (.inr (f _ _ _ _ _))) (λ_ _ _ _ _=>ZW) (λ_ _ _ _ _=>g) (λi a=>by cases a with | head=>exact Nat.zero_lt_one | tail _ h=>cases h) b
end
section
variable {K:aE} {P:b9} {w:cW} {mg:aq->Option aI} {base:bp} {x a b c d e:aq} {st:bq} {N:List aq} {k m:Nat} {O W:List Nat} {f:XS}
abbrev BdA(x:aq)(st:bq)(us:List aI)(r:List (aq×aI)):Prop:=∀(kV doc pm:aI)(an:Option aL)(cdv ct:aI),i6 (dD x x (XZ st) (Yv st) (Zf st) .none kV doc pm an cdv ct) ⟨us,[]⟩=pure r
abbrev DI(P:b9)(w:cW)(K:aE)(mg:aq->Option aI)(base:bp)(N:List aq)(x:aq)(st:bq)(k:Nat)(O W:List Nat)(f:XS):Prop:=∀{fa:aL}{cdv:aI}{A:cL}{outer:List kK}{s:aO}{H:Hp}{E:XK},Room k (A.deeper (gY x (Zf st) s.heap.objs.size fa cdv))->VSs (QI L3 P w K mg base N x (Zf st) fa cdv A outer s H E).nox O W (Yv st) f
theorem C6(O:List Nat)(D:Def K mg x st)(S:Zq N [a] (Zf st))(q:DI P w K mg base N x st k O W f)(h:∀t,BdA x st [t] [(a,t)]:=by intro _ _ _ _ _ _ _;rfl)(c:N.length=m:=by rfl)(e:∀i∈O,1<=i:=by decide):Xi P w K mg base x [a] (YX K (YO m f) 1) (k+1):=
 NH m f D S (λ_ _ _ _ _ _ b g=>match b,g with | [t],_=>h t _ _ _ _ _ _) rfl c e λ_ _ _ _ _ _ _ d=>q d
theorem NT(O:List Nat)(D:Def K mg x st)(S:Zq N [a,b] (Zf st))(q:DI P w K mg base N x st k O W f)(j:∀t u,BdA x st [t,u] [(a,t),(b,u)]:=by intro _ _ _ _ _ _ _ _;rfl)(d:N.length=m:=by rfl)(g:∀i∈O,2<=i:=by decide):Xi P w K mg base x [a,b] (YX K (YO m f) 2) (k+1):=
 NH m f D S (λ_ _ _ _ _ _ c h=>match c,h with | [t,u],_=>j t u _ _ _ _ _ _) rfl d g λ_ _ _ _ _ _ _ e=>q e
theorem Og(O:List Nat)(D:Def K mg x st)(S:Zq N [a,b,c] (Zf st))(q:DI P w K mg base N x st k O W f)(l:∀t u v,BdA x st [t,u,v] [(a,t),(b,u),(c,v)]:=by intro _ _ _ _ _ _ _ _ _;rfl)(e:N.length=m:=by rfl)(h:∀i∈O,3<=i:=by decide):Xi P w K mg base x [a,b,c] (YX K (YO m f) 3) (k+1):=
 NH m f D S (λ_ _ _ _ _ _ d j=>match d,j with | [t,u,v],_=>l t u v _ _ _ _ _ _) rfl e h λ_ _ _ _ _ _ _ g=>q g
theorem dk4(O:List Nat)(D:Def K mg x st)(S:Zq N [a,b,c,d] (Zf st))(q:DI P w K mg base N x st k O W f)(n:∀t u v y,BdA x st [t,u,v,y] [(a,t),(b,u),(c,v),(d,y)]:=by intro _ _ _ _ _ _ _ _ _ _;rfl)(g:N.length=m:=by rfl)(j:∀i∈O,4<=i:=by decide):Xi P w K mg base x [a,b,c,d] (YX K (YO m f) 4) (k+1):=
 NH m f D S (λ_ _ _ _ _ _ e l=>match e,l with | [t,u,v,y],_=>n t u v y _ _ _ _ _ _) rfl g j λ_ _ _ _ _ _ _ h=>q h
end
end VL
namespace PW
open PySem L2 VL VX
noncomputable def Wa(i:Nat):bq:=gh.main.body.getD i (.Pass ⟨0,0,0,0⟩)
section
variable (P:b9) (w:cW) (K:aE) (mg:aq->Option aI) (base:bp)
abbrev Vy:Prop:=Xi P w K mg base "_law_pick" ["_law_cell","_law_salt","_law_many"] (YX K Z8 3) 1
abbrev V5:Prop:=Xi P w K mg base "_law_read_web" ["_law_number","_law_sizes","_law_most"] (YX K V3 3) 1
abbrev NU:Prop:=Xi P w K mg base "_law_at" ["_law_script","_law_k"] (YX K Vf 2) 1
abbrev NV:Prop:=Xi P w K mg base "_law_web" ["_law_script","_law_sizes","_law_most"] (YX K NQ 3) 2
abbrev SX:Prop:=Xi P w K mg base "_law_purse" ["_law_web_here","_law_cell"] (YX K SQ 2) 2
abbrev Sb:Prop:=Xi P w K mg base "_law_lend" ["_law_web_here","_law_purse_here","_law_script"] (YX K Vx 3) 1
abbrev SY:Prop:=Xi P w K mg base "_law_other" ["_law_web_here","_law_purse_here","_law_cell"] (YX K SR 3) 2
abbrev S1:Prop:=Xi P w K mg base "reduced" ["row","by","place","divisor"] (YX K SM 4) 1
abbrev Po:Prop:=Xi P w K mg base "evened" ["rows"] (YX K Ph 1) 2
abbrev WS:Prop:=Xi P w K mg base "solved_below" ["square","column"] (YX K WR 2) 3
abbrev S2:Prop:=Xi P w K mg base "ties_at" ["web","house"] (YX K U1 2) 1
abbrev Pp:Prop:=Xi P w K mg base "row_of" ["web","house","others"] (YX K Pk 3) 2
abbrev Y8:Prop:=Xi P w K mg base "square_without" ["web","base"] (YX K Y4 2) 3
abbrev S3:Prop:=Xi P w K mg base "nearing" ["web","purse","base"] (YX K WA 3) 4
abbrev Kt:Prop:=Xi P w K mg base "gain" ["web","script","house"] (YX K Pe 3) 1
abbrev Ft:Prop:=Xi P w K mg base "run" ["web","purse","script"] (YX K Td 3) 2
abbrev S4:Prop:=Xi P w K mg base "in_debt" ["purse","base"] (YX K Y3 2) 1
abbrev UB:Prop:=Xi P w K mg base "borrowing" ["web","houses"] (YX K Xk 2) 1
abbrev Ku:Prop:=Xi P w K mg base "plus" ["one","other"] (YX K To 2) 1
abbrev Qr:Prop:=Xi P w K mg base "least" ["script"] (YX K V1 1) 1
abbrev S5:Prop:=Xi P w K mg base "ties_to" ["web","house","others"] (YX K Vw 3) 1
abbrev Wg:Prop:=Xi P w K mg base "house_to_burn" ["web","purse","fire"] (YX K Z5 3) 2
abbrev NW:Prop:=Xi P w K mg base "burnt" ["web","purse","base"] (YX K Qp 3) 3
abbrev Sd:Prop:=Xi P w K mg base "settle" ["web","purse","base"] (YX K Z2 3) 5
abbrev NX:Prop:=Xi P w K mg base "minus" ["one","other"] (YX K U3 2) 1
abbrev Qs:Prop:=Xi P w K mg base "alike" ["web","one","other"] (YX K Y5 3) 6
abbrev U5:Prop:=Xi P w K mg base "_law_whole" ["_law_found"] (YX K Vv 1) 1
abbrev Ts:Prop:=Xi P w K mg base "_law_wholes" ["_law_found","_law_many"] (YX K Tp 2) 2
abbrev S6:Prop:=Xi P w K mg base "_law_alike" ["_law_web_here","_law_one","_law_other_here"] (YX K SS 3) 7
abbrev Pq:Prop:=Xi P w K mg base "by_row" ["line","coins"] (YX K Pn 2) 1
abbrev Qt:Prop:=Xi P w K mg base "rests" ["told","purse"] (YX K T8 2) 2
abbrev Qu:Prop:=Xi P w K mg base "total" ["purse"] (YX K U2 1) 1
abbrev UC:Prop:=Xi P w K mg base "square_of" ["web"] (YX K Uz 1) 4
abbrev Tt:Prop:=Xi P w K mg base "unit_row" ["many","at"] (YX K V4 2) 1
abbrev Tu:Prop:=Xi P w K mg base "block_of" ["square"] (YX K Tq 1) 2
abbrev Wh:Prop:=Xi P w K mg base "rows_to_clear" ["rows","many","place"] (YX K Xe 3) 1
abbrev NY:Prop:=Xi P w K mg base "less" ["row","by","often"] (YX K SU 3) 1
abbrev Wi:Prop:=Xi P w K mg base "cleared_below" ["block","many","place"] (YX K ZQ 3) 36
abbrev Vh:Prop:=Xi P w K mg base "turned_over" ["block"] (YX K YL 1) 1
abbrev Vi:Prop:=Xi P w K mg base "crossed_out" ["block","many","place"] (YX K Xb 3) 37
abbrev UD:Prop:=Xi P w K mg base "unfit_row" ["block","many","place"] (YX K W7 3) 1
abbrev V6:Prop:=Xi P w K mg base "part_found" ["block","many","place"] (YX K Wx 3) 38
abbrev S7:Prop:=Xi P w K mg base "divided" ["line","row"] (YX K U4 2) 1
abbrev Wj:Prop:=Xi P w K mg base "row_by_column" ["row","square","column"] (YX K We 3) 1
abbrev UE:Prop:=Xi P w K mg base "row_times" ["row","square"] (YX K UA 2) 2
abbrev V7:Prop:=Xi P w K mg base "multiplied" ["one","other"] (YX K Y6 2) 3
abbrev Qv:Prop:=Xi P w K mg base "parts" ["web"] (YX K Sa 1) 39
abbrev Tv:Prop:=Xi P w K mg base "place_of" ["web","purse"] (YX K XJ 2) 40
abbrev XM:Prop:=Xi P w K mg base "common_divisor" ["one","other"] (YX K Y7 2) 1
abbrev Tw:Prop:=Xi P w K mg base "round_of" ["web","purse"] (YX K Tr 2) 40
abbrev S8:Prop:=Xi P w K mg base "_law_round" ["_law_web_here","_law_one","_law_other_here"] (YX K SW 3) 41
end
section
variable {P:b9} {w:cW} {K:aE} {mg:aq->Option aI} {base:bp}
abbrev Pr:bq:=Wa 53
theorem sc_l_pick:Zq ["_law_cell","_law_salt","_law_many","_law_number"] ["_law_cell","_law_salt","_law_many"] (Zf Pr):=X9
theorem Hq(a:Def K mg "_law_pick" Pr)(B:X2 mg):Vy P w K mg base:=
 Og [] a sc_l_pick λb=>
  (Zd (Yi 3 sc_l_pick.nd (VE.pure (YT (Sx (Z9 (YT (vo 0) Ze) (vo 1)) (Z9 (vo 1) Ze)) Ze)))
  (Zd (Yi 3 sc_l_pick.nd (VE.pure (YT (Z9 (Z9 (Sx (vo 3) (vo 3)) (WZ (vo 0) Ze)) (vo 1)) Ze)))
  (Zh (Zs (VE.pure (YT (WZ (vo 3) Ze) (vo 2)))))))
abbrev V8:bq:=Wa 54
theorem sc_l_read_web:Zq ["_law_number","_law_sizes","_law_most","_law_many","_law_order","_law_pairs","_law_k","_law_more","_law_one","_law_rows","_law_other_here","_law_times"] ["_law_number","_law_sizes","_law_most"] (Zf V8):=X9
theorem Ov(d:Def K mg "_law_read_web" V8)(B:X2 mg):V5 P w K mg base:=
 DC (O:=[4,5,9]) (k:=0) 12 V2 d sc_l_read_web (λ_ _ _ _ _ _ b e=>match b,e with | [_,_,_],_=>rfl) rfl rfl (by decide) (λf c A a s H E g=>
  (YJ (Yi 3 sc_l_read_web.nd (VE.pure (Zj (vo 1) (YT (vo 0) (Qq B.len (vo 1))))))
  (YJ (Yi 0 sc_l_read_web.nd (VE.pure (WZ (vo 0) (Qq B.len (vo 1)))))
  (YJ (Yi 4 sc_l_read_web.nd (SD VN))
  (YJ (Yi 5 sc_l_read_web.nd (SD VN))
  (YJ (Ks (MC B.range (vo 3)) (MB 6 sc_l_read_web.nd) (Zd (OW (VF (QK cM iV iW ON (pv 4) (YY (YT (vo 0) (Z9 (vo 6) Ze)) (YY (vo 6) Vb)))))
  (Zh (Yi 0 sc_l_read_web.nd (VE.pure (WZ (vo 0) (Z9 (vo 6) Ze)))))))
  (YJ (Ks (vr2 B.range Ze (vo 3)) (MB 6 sc_l_read_web.nd) (Zd (Vu (VF (QK cM dR dS Vp (pv 5) (YY (VE.pure (SA (X4 (vo 6) (YT (vo 0) (vo 6))))) Vb))))
  (Zh (Yi 0 sc_l_read_web.nd (VE.pure (WZ (vo 0) (vo 6)))))))
  (YJ (Yi 7 sc_l_read_web.nd (VE.pure (Sx (Zv IA Dm rfl B.int (by decide +kernel) (YE (GC (vo 3) Ze))) (YT (vo 0) (Z9 (YS (vo 2) (vo 3)) Ze)))))
  (YJ (Yi 0 sc_l_read_web.nd (VE.pure (WZ (vo 0) (Z9 (YS (vo 2) (vo 3)) Ze))))
  (YJ (Ks (MC B.range (vo 7)) (MB 6 sc_l_read_web.nd) (Zd (Yi 8 sc_l_read_web.nd (VE.pure (YT (vo 0) (vo 3))))
  (Zd (Yi 0 sc_l_read_web.nd (VE.pure (WZ (vo 0) (vo 3))))
  (Zd (Vu (VF (QK cM dR dS Vp (pv 5) (YY (VE.pure (SA (X4 (vo 8) (YT (Z9 (Z9 (vo 8) Ze) (YT (vo 0) (YS (vo 3) Ze))) (vo 3))))) Vb))))
  (Zh (Yi 0 sc_l_read_web.nd (VE.pure (WZ (vo 0) (YS (vo 3) Ze)))))))))
  (YJ (UW (["_law_house"]:List aq) (["_law_many"]:List aq) [3] (i:=9) sc_l_read_web.nd rfl rfl rfl (MC B.range (vo 3)) (by kernel_rfl) (λ_ _ _ _ _=>(Vo 0)) (λ_ _ _ _ _=>ZW) (λ_ _ _ _ _=>(NG (Tg (YE Ze)) (vo 1))))
  (Ha (O':=[9]) (VSs.r (Zd (Ks (YG (vo 5)) (YF (n:=2) rfl (Zu (MB 8 sc_l_read_web.nd) (Zu (MB 10 sc_l_read_web.nd) Yh))) (Zd (Yi 11 sc_l_read_web.nd (VE.pure (Z9 (Zj (Zj (vo 9) (Zj (vo 4) (vo 8))) (Zj (vo 4) (vo 10))) Ze)))
  (Zd (UU (WI (vo 11) (WH (MN ix_list (pv 9) (Zj (vo 4) (vo 8)) (λ_ _=>rfl)) (Zj (vo 4) (vo 10)) YR)))
  (Zh (UU (WI (vo 11) (WH (MN ix_list (pv 9) (Zj (vo 4) (vo 10)) (λ_ _=>rfl)) (Zj (vo 4) (vo 8)) YR)))))))
  (Zh (Zs (VE.pure (Zv Zn ZA rfl B.tuple (by decide +kernel) (YE (MD "_law_row" [] [] (YG (vo 9)) (Zv Zn ZA rfl B.tuple (by decide +kernel) (YE (vo 0)))))))))))))))))))))))
abbrev Kv:bq:=Wa 52
theorem DJ:Zq ["_law_script","_law_k"] ["_law_script","_law_k"] (Zf Kv):=X9
theorem DK(a:Def K mg "_law_at" Kv)(B:X2 mg):NU P w K mg base:=
 NT [] a DJ λb=>
  (Zh (Zs (VE.pure (MW (RQ (vo 1) (Qq B.len (vo 0))) (Zj (vo 0) (vo 1)) Ze))))
abbrev NZ:bq:=Wa 55
theorem sc_p_web:Zq ["_law_script","_law_sizes","_law_most","_law_many","_law_rows","_law_ties","_law_k","_law_cell","_law_one","_law_other_here","_law_more","_law_by"] ["_law_script","_law_sizes","_law_most"] (Zf NZ):=X9
theorem Fu(e:Def K mg "_law_web" NZ)(B:X2 mg)(b:NU P w K mg base)(c:V5 P w K mg base)(a:Vy P w K mg base):NV P w K mg base:=
 Og [4] e sc_p_web λd=>
  (Zd (Xa (Q5 d.units (YT (WC b d (X4 (vo 0) Ze)) Ze) Ze) (Zh (Zs (WB c d (Wf (WC b d (X4 (vo 0) Ze)) (vo 1) (vo 2))))) Yb)
  (Zd (Yi 3 sc_p_web.nd (VE.pure (Zj (vo 1) (WC a d (Wf (WC b d (X4 (vo 0) Ze)) Ze (Qq B.len (vo 1)))))))
  (Zd (UW (["_law_house"]:List aq) (["_law_many"]:List aq) [3] (i:=4) sc_p_web.nd rfl rfl rfl (MC B.range (vo 3)) (by kernel_rfl) (λ_ _ _ _ _=>(Vo 0)) (λ_ _ _ _ _=>ZW) (λ_ _ _ _ _=>(NG (Tg (YE Ze)) (vo 1))))
  (Zd (Yi 5 sc_p_web.nd (VE.pure Ze))
  (Zd (Ks (vr2 B.range Ze Ze) (MB 6 sc_p_web.nd) (Zd (Yi 7 sc_p_web.nd (WB b d (X4 (vo 0) (vo 6))))
  (Zd (Yi 8 sc_p_web.nd (WB a d (Wf (vo 7) Ze (vo 3))))
  (Zd (Yi 9 sc_p_web.nd (VE.pure (YT (Z9 (Z9 (vo 8) Ze) (WC a d (Wf (vo 7) Ze (vb (Iz rfl) Dl B.max (X4 Ze (YS (vo 3) Ze)))))) (vo 3))))
  (Zd (Xa (RQ (vo 6) (vo 3)) (Zd (Yi 8 sc_p_web.nd (VE.pure (vo 6)))
  (Zh (Yi 9 sc_p_web.nd (WB a d (Wf (vo 7) Ze (vo 6)))))) Yb)
  (Zd (Yi 10 sc_p_web.nd (VE.pure (Ka (GC (vo 3) Ze) (Ka (Zbd (vo 5) (vo 2)) (L9 (GC (WC a d (Wf (vo 7) Ze Ze)) Ze))))))
  (Zh (Xa (VW.vt (QU (RQ (vo 6) (vo 3)) (Sz (Ut (vo 10))))) (Zd (UU (WI (Z9 (Zj (Zj (vo 4) (vo 8)) (vo 9)) Ze) (WH (MN ix_list (pv 4) (vo 8) (λ_ _=>rfl)) (vo 9) YR)))
  (Zd (UU (WI (Zj (Zj (vo 4) (vo 8)) (vo 9)) (WH (MN ix_list (pv 4) (vo 9) (λ_ _=>rfl)) (vo 8) YR)))
  (Zh (Yi 5 sc_p_web.nd (VE.pure (Z9 (vo 5) Ze)))))) Yb))))))))
  (Zd (Yi 11 sc_p_web.nd (WB a d (Wf (WC b d (X4 (vo 0) Ze)) Ze (vo 3))))
  (Zd (UW (["_law_row"]:List aq) (["_law_by"]:List aq) [11] (i:=4) sc_p_web.nd rfl rfl rfl (YG (DE (Yz (vo 4) (Yy (vo 11)) Xc) (Yz (vo 4) Xc (Yy (vo 11))))) (by kernel_rfl) (λ_ _ _ _ _=>(Vo 0)) (λ_ _ _ _ _=>ZW) (λ_ _ _ _ _=>(T3 (Yz (vo 0) (Yy (vo 1)) Xc) (Yz (vo 0) Xc (Yy (vo 1))))))
  (Zh (Zs (VE.pure (Zv Zn ZA rfl B.tuple (by decide +kernel) (YE (MD "_law_row" [] [] (YG (vo 4)) (Zv Zn ZA rfl B.tuple (by decide +kernel) (YE (vo 0))))))))))))))))
abbrev S9:bq:=Wa 60
theorem sc_t_purse:Zq ["_law_web_here","_law_cell","_law_number","_law_coins","_law_house","_law_far"] ["_law_web_here","_law_cell"] (Zf S9):=X9
theorem Kw(c:Def K mg "_law_purse" S9)(B:X2 mg)(a:Vy P w K mg base):SX P w K mg base:=
 NT [3] c sc_t_purse λb=>
  (Zd (Xa (Q5 b.units (YT (vo 1) Ze) Ze) (Zd (Yi 2 sc_t_purse.nd (VE.pure (WQ (vo 1) Ze)))
  (Zd (Yi 3 sc_t_purse.nd (SD VN))
  (Zd (Ks (MC B.range (Qq B.len (vo 0))) (MB 4 sc_t_purse.nd) (Zd (Vu (VF (QK cM dR dS Vp (pv 3) (YY (VE.pure (YS (YT (vo 2) (Z9 (X0 Ze (Nw Ze Ze)) Ze)) (Nw Ze Ze))) Vb))))
  (Zh (Yi 2 sc_t_purse.nd (VE.pure (WQ (vo 2) (Z9 (X0 Ze (Nw Ze Ze)) Ze)))))))
  (Zh (Zs (VE.pure (Zv Zn ZA rfl B.tuple (by decide +kernel) (YE (vo 3))))))))) Yb)
  (Zd (Yi 5 sc_t_purse.nd (VE.pure (Zj (Tg (Wf Ze Ze (Z9 (Nw Ze Ze) Ze))) (WC a b (Wf (vo 1) Ze Ze)))))
  (Zh (Zs (VE.pure (Zv Zn ZA rfl B.tuple (by decide +kernel) (YE (MD "_law_k" ["_law_far","_law_cell"] [5,1] (MC B.range (Qq B.len (vo 0))) (X0 (YS (WC a b (Wf (Z9 (vo 2) (X0 Ze (vo 0))) Ze Ze)) Ze) (vo 1))))))))))
abbrev Pu:bq:=Wa 58
theorem sc_l_lend:Zq ["_law_web_here","_law_purse_here","_law_script","_law_found","_law_house","_law_coins","_law_other_here","_law_step"] ["_law_web_here","_law_purse_here","_law_script"] (Zf Pu):=X9
theorem Hr(a:Def K mg "_law_lend" Pu)(B:X2 mg):Sb P w K mg base:=
 Og [3] a sc_l_lend λb=>
  (Zd (Yi 3 sc_l_lend.nd (SD VN))
  (Zd (Ks (MC B.range (Qq B.len (vo 0))) (MB 4 sc_l_lend.nd) (Zd (Yi 5 sc_l_lend.nd (VE.pure (Zj (vo 1) (vo 4))))
  (Zd (Ks (MC B.range (Qq B.len (vo 0))) (MB 6 sc_l_lend.nd) (Zd (Yi 7 sc_l_lend.nd (VE.pure (YS (Zj (vo 2) (vo 4)) (Zj (vo 2) (vo 6)))))
  (Zh (Yi 5 sc_l_lend.nd (VE.pure (YS (vo 5) (Sx (Zj (Zj (vo 0) (vo 4)) (vo 6)) (vo 7))))))))
  (Zh (Vu (VF (QK cM dR dS Vp (pv 3) (YY (VE.pure (vo 5)) Vb))))))))
  (Zh (Zs (VE.pure (Zv Zn ZA rfl B.tuple (by decide +kernel) (YE (vo 3))))))))
abbrev Ra:bq:=Wa 61
theorem sc_t_other:Zq ["_law_web_here","_law_purse_here","_law_cell","_law_coins","_law_one","_law_other_here"] ["_law_web_here","_law_purse_here","_law_cell"] (Zf Ra):=X9
theorem Kx(d:Def K mg "_law_other" Ra)(B:X2 mg)(b:Sb P w K mg base)(a:Vy P w K mg base):SY P w K mg base:=
 Og [3] d sc_t_other λc=>
  (Zd (Yi 3 sc_t_other.nd (US Wt TU rfl B.list (by decide +kernel) (YE (WC b c (Wf (vo 0) (vo 1) (MD "_law_k" ["_law_cell"] [2] (MC B.range (Qq B.len (vo 0))) (YS (WC a c (Wf (Z9 (vo 1) (vo 0)) Ze Ze)) Ze)))))))
  (Zd (Xa (Q5 c.units (WC a c (Wf (vo 2) Ze Ze)) Ze) (Zd (Yi 4 sc_t_other.nd (WB a c (Wf (vo 2) Ze (Qq B.len (vo 0)))))
  (Zd (WO (WI (YS (Zj (vo 3) (vo 4)) Ze) (WH (pv 3) (vo 4) YR)))
  (Zd (Yi 5 sc_t_other.nd (WB a c (Wf (vo 2) Ze (Qq B.len (vo 0)))))
  (Zh (WO (WI (Z9 (Zj (vo 3) (vo 5)) Ze) (WH (pv 3) (vo 5) YR))))))) Yb)
  (Zh (Zs (VE.pure (Zv Zn ZA rfl B.tuple (by decide +kernel) (YE (vo 3))))))))
abbrev Rc:bq:=Wa 44
theorem Ky:Zq ["row","by","place","divisor"] ["row","by","place","divisor"] (Zf Rc):=X9
theorem Kz(a:Def K mg "reduced" Rc)(B:X2 mg):S1 P w K mg base:=
 dk4 [] a Ky λb=>
  (Zh (Zs (VE.pure (Zv Zn ZA rfl B.tuple (by decide +kernel) (YE (Y1 (["number","other"]:List aq) (["divisor","by","place","row"]:List aq) [3,1,2,0] rfl (WM aB aB rfl B.zip (X4 (vo 0) (vo 1))) (by kernel_rfl) (λ_ _ _ _ _=>(YF (n:=2) rfl (Zu (Vo 0) (Zu (Vo 1) Yh)))) (λ_ _ _ _ _=>ZW) (λ_ _ _ _ _=>(WQ (YS (X0 (Zj (vo 3) (vo 4)) (vo 0)) (X0 (Zj (vo 5) (vo 4)) (vo 1))) (vo 2)))))))))
abbrev Pw:bq:=Wa 43
theorem sc_evened:Zq ["rows","left","divisor","place","by"] ["rows"] (Zf Pw):=X9
theorem Hs(c:Def K mg "evened" Pw)(B:X2 mg)(a:S1 P w K mg base):Po P w K mg base:=
 C6 [1] c sc_evened λb=>
  (Zd (Yi 1 sc_evened.nd (US Wt TU rfl B.list (by decide +kernel) (YE (vo 0))))
  (Zd (Yi 2 sc_evened.nd (VE.pure Ze))
  (Zd (Ks (MC B.range (Qq B.len (vo 0))) (MB 3 sc_evened.nd) (Zd (Yi 4 sc_evened.nd (VE.pure (Zj (vo 1) (vo 3))))
  (Zd (UW (["at","row"]:List aq) (["place","by","divisor"]:List aq) [3,4,2] (i:=1) sc_evened.nd rfl rfl rfl (VU aC rfl B.enumerate (YE (vo 1))) (by kernel_rfl) (λ_ _ _ _ _=>(YF (n:=2) rfl (Zu (Vo 0) (Zu (Vo 1) Yh)))) (λ_ _ _ _ _=>ZW) (λ_ _ _ _ _=>(VE.pure (MW (Q5 b.units (vo 0) (vo 2)) (vo 1) (WC a b (va4 (vo 1) (vo 3) (vo 2) (vo 4)))))))
  (Zh (Yi 2 sc_evened.nd (VE.pure (Zj (vo 4) (vo 3))))))))
  (Zh (Fh (LW (YY (vo 2) (YY (pv 1) Vb))))))))
abbrev WT:bq:=Wa 42
theorem sc_solved_below:Zq ["square","column","told"] ["square","column"] (Zf WT):=X9
theorem Qd(b:Def K mg "solved_below" WT)(B:X2 mg)(a:Po P w K mg base):WS P w K mg base:=
 NT [] b sc_solved_below λc=>
  (Zd (Yi 2 sc_solved_below.nd (WB a c (YE (Y1 (["row","number"]:List aq) ([]:List aq) [] rfl (WM aB aB rfl B.zip (X4 (vo 0) (vo 1))) (by kernel_rfl) (λ_ _ _ _ _=>(YF (n:=2) rfl (Zu (Vo 0) (Zu (Vo 1) Yh)))) (λ_ _ _ _ _=>ZW) (λ_ _ _ _ _=>(WL NN NO (vo 0) (SA (YE (vo 1)))))))))
  (Zh (Zs (W4 (["row"]:List aq) (["told"]:List aq) [2] rfl (YG (Zj (vo 2) Ze)) (by kernel_rfl) (λ_ _ _ _ _=>(Vo 0)) (λ_ _ _ _ _=>ZW) (λ_ _ _ _ _=>(VE.pure (WQ (Zj (vo 0) (Ny Ze)) (Zj (vo 1) Ze))))))))
abbrev Rf:bq:=Wa 4
theorem KA:Zq ["web","house"] ["web","house"] (Zf Rf):=X9
theorem KC(a:Def K mg "ties_at" Rf)(B:X2 mg):S2 P w K mg base:=
 NT [] a KA λb=>
  (Zh (Zs (VE.pure (vb (XG rfl) Ti B.sum (YE (Zj (vo 0) (vo 1)))))))
abbrev Px:bq:=Wa 15
theorem Ht:Zq ["web","house","others"] ["web","house","others"] (Zf Px):=X9
theorem Hu(c:Def K mg "row_of" Px)(B:X2 mg)(a:S2 P w K mg base):Pp P w K mg base:=
 Og [] c Ht λb=>
  (Zh (Zs (VE.pure (Zv Zn ZA rfl B.tuple (by decide +kernel) (YE (MD "other" ["house","web"] [1,0] (YG (vo 2)) (MW (Q5 b.units (vo 0) (vo 1)) (WC a b (X4 (vo 2) (vo 1))) (Ny (Zj (Zj (vo 2) (vo 1)) (vo 0))))))))))
abbrev XN:bq:=Wa 14
theorem sc_square_without:Zq ["web","base","others"] ["web","base"] (Zf XN):=X9
theorem Se(c:Def K mg "square_without" XN)(B:X2 mg)(a:Pp P w K mg base):Y8 P w K mg base:=
 NT [] c sc_square_without λb=>
  (Zd (Yi 2 sc_square_without.nd (W4 (["house"]:List aq) (["base"]:List aq) [1] rfl (MC B.range (Qq B.len (vo 0))) (by kernel_rfl) (λ_ _ _ _ _=>(Vo 0)) (λ_ _ _ _ _=>(ND (Ug b.units (vo 0) (vo 1)))) (λ_ _ _ _ _=>(VE.pure (vo 0)))))
  (Zh (Zs (VE.pure (Zv Zn ZA rfl B.tuple (by decide +kernel) (YE (MD "house" ["web","others"] [0,2] (YG (vo 2)) (WC a b (Wf (vo 1) (vo 0) (vo 2))))))))))
abbrev Rh:bq:=Wa 47
theorem sc_nearing:Zq ["web","purse","base","column","script"] ["web","purse","base"] (Zf Rh):=X9
theorem KD(d:Def K mg "nearing" Rh)(B:X2 mg)(b:WS P w K mg base)(a:Y8 P w K mg base):S3 P w K mg base:=
 Og [4] d sc_nearing λc=>
  (Zd (Yi 3 sc_nearing.nd (VE.pure (WL NN NO (SG (vo 1) Xc (Yy (vo 2))) (SG (vo 1) (Yy (Z9 (vo 2) Ze)) Xc))))
  (Zd (Yi 4 sc_nearing.nd (WB b c (X4 (WC a c (X4 (vo 0) (vo 2))) (vo 3))))
  (Zd (OW (VF (QK cM iV iW ON (pv 4) (YY (vo 2) (YY Ze Vb)))))
  (Zh (Zs (VE.pure (Zv Zn ZA rfl B.tuple (by decide +kernel) (YE (vo 4)))))))))
abbrev KG:bq:=Wa 8
theorem DL:Zq ["web","script","house"] ["web","script","house"] (Zf KG):=X9
theorem DM(a:Def K mg "gain" KG)(B:X2 mg):Kt P w K mg base:=
 Og [] a DL λb=>
  (Zh (Zs (VE.pure (vb (XG rfl) Ti B.sum (YE (Y1 (["other","times"]:List aq) (["script","house"]:List aq) [1,2] rfl (VU aB rfl B.enumerate (YE (Zj (vo 0) (vo 2)))) (by kernel_rfl) (λ_ _ _ _ _=>(YF (n:=2) rfl (Zu (Vo 0) (Zu (Vo 1) Yh)))) (λ_ _ _ _ _=>ZW) (λ_ _ _ _ _=>(Sx (vo 1) (YS (Zj (vo 2) (vo 0)) (Zj (vo 2) (vo 3)))))))))))
abbrev Fv:bq:=Wa 7
theorem AG:Zq ["web","purse","script"] ["web","purse","script"] (Zf Fv):=X9
theorem AH(b:Def K mg "run" Fv)(B:X2 mg)(a:Kt P w K mg base):Ft P w K mg base:=
 Og [] b AG λc=>
  (Zh (Zs (VE.pure (Zv Zn ZA rfl B.tuple (by decide +kernel) (YE (Y1 (["house","coins"]:List aq) (["web","script"]:List aq) [0,2] rfl (VU aB rfl B.enumerate (YE (vo 1))) (by kernel_rfl) (λ_ _ _ _ _=>(YF (n:=2) rfl (Zu (Vo 0) (Zu (Vo 1) Yh)))) (λ_ _ _ _ _=>ZW) (λ_ _ _ _ _=>(Z9 (vo 1) (WC a c (Wf (vo 2) (vo 3) (vo 0)))))))))))
abbrev Rj:bq:=Wa 40
theorem KH:Zq ["purse","base"] ["purse","base"] (Zf Rj):=X9
theorem KI(b:Def K mg "in_debt" Rj)(B:X2 mg):S4 P w K mg base:=
 NT [] b KH λa=>
  (Zh (Zs (W4 (["house","coins"]:List aq) (["base"]:List aq) [1] rfl (VU aB rfl B.enumerate (YE (vo 0))) (by kernel_rfl) (λ_ _ _ _ _=>(YF (n:=2) rfl (Zu (Vo 0) (Zu (Vo 1) Yh)))) (λ_ _ _ _ _=>(ND (VW.vt (GF (Ug a.units (vo 0) (vo 2)) (Jr (RQ (vo 1) Ze)))))) (λ_ _ _ _ _=>(VE.pure (vo 0))))))
abbrev UG:bq:=Wa 48
theorem N0:Zq ["web","houses"] ["web","houses"] (Zf UG):=X9
theorem N1(b:Def K mg "borrowing" UG)(B:X2 mg):UB P w K mg base:=
 NT [] b N0 λa=>
  (Zh (Zs (VE.pure (Zv Zn ZA rfl B.tuple (by decide +kernel) (YE (MD "house" ["houses"] [1] (MC B.range (Qq B.len (vo 0))) (MW (Zbk a.units (vo 0) (vo 1)) (Ny Ze) Ze)))))))
abbrev KJ:bq:=Wa 10
theorem DN:Zq ["one","other"] ["one","other"] (Zf KJ):=X9
theorem DO(a:Def K mg "plus" KJ)(B:X2 mg):Ku P w K mg base:=
 NT [] a DN λb=>
  (Zh (Zs (VE.pure (Zv Zn ZA rfl B.tuple (by decide +kernel) (YE (Y1 (["first","second"]:List aq) ([]:List aq) [] rfl (WM aB aB rfl B.zip (X4 (vo 0) (vo 1))) (by kernel_rfl) (λ_ _ _ _ _=>(YF (n:=2) rfl (Zu (Vo 0) (Zu (Vo 1) Yh)))) (λ_ _ _ _ _=>ZW) (λ_ _ _ _ _=>(Z9 (vo 0) (vo 1)))))))))
abbrev N2:bq:=Wa 9
theorem sc_least:Zq ["script","lowest"] ["script"] (Zf N2):=X9
theorem Fw(a:Def K mg "least" N2)(B:X2 mg):Qr P w K mg base:=
 C6 [] a sc_least λb=>
  (Zd (Yi 1 sc_least.nd (VE.pure (vb (O2 rfl) JL B.min (YE (vo 0)))))
  (Zh (Zs (VE.pure (Zv Zn ZA rfl B.tuple (by decide +kernel) (YE (MD "often" ["lowest"] [1] (SF (vo 0)) (YS (vo 0) (vo 1)))))))))
abbrev Rk:bq:=Wa 39
theorem KN:Zq ["web","house","others"] ["web","house","others"] (Zf Rk):=X9
theorem KO(a:Def K mg "ties_to" Rk)(B:X2 mg):S5 P w K mg base:=
 Og [] a KN λb=>
  (Zh (Zs (VE.pure (vb (XG rfl) Ti B.sum (YE (MD "other" ["web","house"] [0,1] (Zbn (vo 2)) (Zj (Zj (vo 1) (vo 2)) (vo 0))))))))
abbrev Wk:bq:=Wa 38
theorem sc_house_to_burn:Zq ["web","purse","fire","house","coins"] ["web","purse","fire"] (Zf Wk):=X9
theorem Rl(c:Def K mg "house_to_burn" Wk)(B:X2 mg)(a:S5 P w K mg base):Wg P w K mg base:=
 Og [] c sc_house_to_burn λb=>
  (Zd (Ks (VU aB rfl B.enumerate (YE (vo 1))) (YF (n:=2) rfl (Zu (MB 3 sc_house_to_burn.nd) (Zu (MB 4 sc_house_to_burn.nd) Yh))) (Zh (Xa (VW.vt (GF (GW b.units (vo 3) (vo 2)) (Jr (RQ (vo 4) (WC a b (Wf (vo 0) (vo 3) (vo 2))))))) (Zh (Zs (VE.pure (vo 3)))) Yb)))
  (Zh (Zs (VE.pure QR))))
abbrev N3:bq:=Wa 37
theorem sc_burnt:Zq ["web","purse","base","fire","house"] ["web","purse","base"] (Zf N3):=X9
theorem Fx(c:Def K mg "burnt" N3)(B:X2 mg)(a:Wg P w K mg base):NW P w K mg base:=
 Og [3] c sc_burnt λb=>
  (Zd (Yi 3 sc_burnt.nd (SD (Vs (VE.pure (vo 2)) VN)))
  (Zd (Yi 4 sc_burnt.nd (WB a b (Wf (vo 0) (vo 1) (vo 3))))
  (Zd (Vt eQ (Ju (vo 4)) (Zd (Vu (VF (QK cM dR dS Vp (pv 3) (YY (VE.pure (vo 4)) Vb))))
  (Zh (Yi 4 sc_burnt.nd (WB a b (Wf (vo 0) (vo 1) (vo 3)))))))
  (Zh (Qk (pv 3))))))
abbrev Py:bq:=Wa 46
theorem sc_settle:Zq ["web","purse","base","script","near","indebted","step"] ["web","purse","base"] (Zf Py):=X9
theorem Hv(i:Def K mg "settle" Py)(B:X2 mg)(c:S3 P w K mg base)(f:Ft P w K mg base)(a:S4 P w K mg base)(b:UB P w K mg base)(h:Ku P w K mg base)(d:NW P w K mg base)(e:Qr P w K mg base):Sd P w K mg base:=
 Og [] i sc_settle λg=>
  (Zd (Yi 3 sc_settle.nd (WB c g (Wf (vo 0) (vo 1) (vo 2))))
  (Zd (Yi 4 sc_settle.nd (WB f g (Wf (vo 0) (vo 1) (vo 3))))
  (Zd (Yi 5 sc_settle.nd (WB a g (X4 (vo 4) (vo 2))))
  (Zd (Vt eQ (CU (Qq B.len (vo 5)) Ze) (Zd (Yi 6 sc_settle.nd (WB b g (X4 (vo 0) (vo 5))))
  (Zd (Yi 3 sc_settle.nd (WB h g (X4 (vo 3) (vo 6))))
  (Zd (Yi 4 sc_settle.nd (WB f g (Wf (vo 0) (vo 4) (vo 6))))
  (Zh (Yi 5 sc_settle.nd (WB a g (X4 (vo 4) (vo 2)))))))))
  (Zh (Zs (Ac (Vs (WB e g (YE (vo 3))) (Vs (VE.pure (vo 4)) (Vs (WB d g (Wf (vo 0) (vo 4) (vo 2))) VN))))))))))
abbrev N4:bq:=Wa 11
theorem Fy:Zq ["one","other"] ["one","other"] (Zf N4):=X9
theorem Fz(a:Def K mg "minus" N4)(B:X2 mg):NX P w K mg base:=
 NT [] a Fy λb=>
  (Zh (Zs (VE.pure (Zv Zn ZA rfl B.tuple (by decide +kernel) (YE (Y1 (["first","second"]:List aq) ([]:List aq) [] rfl (WM aB aB rfl B.zip (X4 (vo 0) (vo 1))) (by kernel_rfl) (λ_ _ _ _ _=>(YF (n:=2) rfl (Zu (Vo 0) (Zu (Vo 1) Yh)))) (λ_ _ _ _ _=>ZW) (λ_ _ _ _ _=>(YS (vo 0) (vo 1)))))))))
abbrev N5:bq:=Wa 50
theorem sc_alike:Zq ["web","one","other","from_one","from_other"] ["web","one","other"] (Zf N5):=X9
theorem FA(e:Def K mg "alike" N5)(B:X2 mg)(a:Sd P w K mg base)(b:Qr P w K mg base)(c:NX P w K mg base):Qs P w K mg base:=
 Og [] e sc_alike λd=>
  (Zd (Yi 3 sc_alike.nd (WB a d (Wf (vo 0) (vo 1) Ze)))
  (Zd (Yi 4 sc_alike.nd (WB a d (Wf (vo 0) (vo 2) Ze)))
  (Zd (Xa (Ug d.units (Zj (vo 3) Ze) (Zj (vo 4) Ze)) (Zh (Zs (VE.pure QR))) Yb)
  (Zh (Zs (WB b d (YE (WC c d (X4 (Zj (vo 3) Ze) (Zj (vo 4) Ze))))))))))
abbrev Rq:bq:=Wa 56
theorem KP:Zq ["_law_found"] ["_law_found"] (Zf Rq):=X9
theorem KQ(a:Def K mg "_law_whole" Rq)(B:X2 mg):U5 P w K mg base:=
 C6 [] a KP λb=>
  (Zh (Zs (VE.pure (Ka (vb WY Qi B.isinstance (X4 (vo 0) (Jy rfl B.int (by decide +kernel)))) (L9 (B8 (vb WY Qi B.isinstance (X4 (vo 0) (Jy rfl B.bool (by decide +kernel))))))))))
abbrev Tx:bq:=Wa 57
theorem Ld:Zq ["_law_found","_law_many"] ["_law_found","_law_many"] (Zf Tx):=X9
theorem Lf(c:Def K mg "_law_wholes" Tx)(B:X2 mg)(a:U5 P w K mg base):Ts P w K mg base:=
 NT [] c Ld λb=>
  (Zd (Xa (VW.vt (QU (QV (Ut (vb WY Qi B.isinstance (X4 (vo 0) (Jy rfl B.tuple (by decide +kernel)))))) (Sz (Ug b.units (Qq B.len (vo 0)) (vo 1))))) (Zh (Zs (VE.pure Ta))) Yb)
  (Zh (Zs (VE.pure (vb (IH rfl) Ae B.all (YE (MD "_law_one" [] [] (SF (vo 0)) (WC a b (YE (vo 0))))))))))
abbrev Rr:bq:=Wa 62
theorem sc_t_alike:Zq ["_law_web_here","_law_one","_law_other_here","_law_script"] ["_law_web_here","_law_one","_law_other_here"] (Zf Rr):=X9
theorem KR(e:Def K mg "_law_alike" Rr)(B:X2 mg)(c:Qs P w K mg base)(a:Ts P w K mg base)(b:Sb P w K mg base):S6 P w K mg base:=
 Og [] e sc_t_alike λd=>
  (Zd (Yi 3 sc_t_alike.nd (WB c d (Wf (vo 0) (vo 1) (vo 2))))
  (Zd (Xa (Kc (vo 3)) (Zh (Zs (VE.pure Ta))) Yb)
  (Zd (Xa (VW.vt (QU (QV (Ut (WC a d (X4 (vo 3) (Qq B.len (vo 0)))))) (Sz (Ug d.units (vb (O2 rfl) JL B.min (YE (vo 3))) Ze)))) (Zh (Zs (VE.pure QR))) Yb)
  (Zd (Xa (Ug d.units (WC b d (Wf (vo 0) (vo 1) (vo 3))) (vo 2)) (Zh (Zs (VE.pure QR))) Yb)
  (Zh (Zs (VE.pure Ta)))))))
abbrev Pz:bq:=Wa 33
theorem Hw:Zq ["line","coins"] ["line","coins"] (Zf Pz):=X9
theorem Hx(a:Def K mg "by_row" Pz)(B:X2 mg):Pq P w K mg base:=
 NT [] a Hw λb=>
  (Zh (Zs (VE.pure (vb (XG rfl) Ti B.sum (YE (Y1 (["number","each"]:List aq) ([]:List aq) [] rfl (WM aB aB rfl B.zip (X4 (vo 0) (vo 1))) (by kernel_rfl) (λ_ _ _ _ _=>(YF (n:=2) rfl (Zu (Vo 0) (Zu (Vo 1) Yh)))) (λ_ _ _ _ _=>ZW) (λ_ _ _ _ _=>(X0 (vo 0) (vo 1)))))))))
abbrev N6:bq:=Wa 32
theorem sc_rests:Zq ["told","purse","left"] ["told","purse"] (Zf N6):=X9
theorem FC(b:Def K mg "rests" N6)(B:X2 mg)(a:Pq P w K mg base):Qt P w K mg base:=
 NT [] b sc_rests λc=>
  (Zd (Yi 2 sc_rests.nd (VE.pure (Zj (vo 0) Ze)))
  (Zh (Zs (VE.pure (Zv Zn ZA rfl B.tuple (by decide +kernel) (YE (Y1 (["line","by"]:List aq) (["purse"]:List aq) [1] rfl (WM aB aB rfl B.zip (X4 (vo 2) (Zj (vo 0) Ze))) (by kernel_rfl) (λ_ _ _ _ _=>(YF (n:=2) rfl (Zu (Vo 0) (Zu (Vo 1) Yh)))) (λ_ _ _ _ _=>ZW) (λ_ _ _ _ _=>(YT (WC a c (X4 (vo 0) (SG (vo 2) (Yy Ze) Xc))) (vo 1))))))))))
abbrev N7:bq:=Wa 6
theorem FD:Zq ["purse"] ["purse"] (Zf N7):=X9
theorem FE(a:Def K mg "total" N7)(B:X2 mg):Qu P w K mg base:=
 C6 [] a FD λb=>
  (Zh (Zs (VE.pure (vb (XG rfl) Ti B.sum (YE (vo 0))))))
abbrev UH:bq:=Wa 13
theorem N8:Zq ["web"] ["web"] (Zf UH):=X9
theorem N9(c:Def K mg "square_of" UH)(B:X2 mg)(a:Y8 P w K mg base):UC P w K mg base:=
 C6 [] c N8 λb=>
  (Zh (Zs (WB a b (X4 (vo 0) Ze))))
abbrev Tz:bq:=Wa 22
theorem Lg:Zq ["many","at"] ["many","at"] (Zf Tz):=X9
theorem Lh(b:Def K mg "unit_row" Tz)(B:X2 mg):Tt P w K mg base:=
 NT [] b Lg λa=>
  (Zh (Zs (W4 (["column"]:List aq) (["at"]:List aq) [1] rfl (MC B.range (vo 0)) (by kernel_rfl) (λ_ _ _ _ _=>(Vo 0)) (λ_ _ _ _ _=>ZW) (λ_ _ _ _ _=>(VE.pure (MW (Q5 a.units (vo 0) (vo 1)) Ze Ze))))))
abbrev TB:bq:=Wa 21
theorem sc_block_of:Zq ["square","many","upper","lower"] ["square"] (Zf TB):=X9
theorem Li(c:Def K mg "block_of" TB)(B:X2 mg)(a:Tt P w K mg base):Tu P w K mg base:=
 C6 [] c sc_block_of λb=>
  (Zd (Yi 1 sc_block_of.nd (VE.pure (Qq B.len (vo 0))))
  (Zd (UW (["at","row"]:List aq) (["many"]:List aq) [1] (i:=2) sc_block_of.nd rfl rfl rfl (VU aB rfl B.enumerate (YE (vo 0))) (by kernel_rfl) (λ_ _ _ _ _=>(YF (n:=2) rfl (Zu (Vo 0) (Zu (Vo 1) Yh)))) (λ_ _ _ _ _=>ZW) (λ_ _ _ _ _=>(VE.pure (SO (T3 (VM.ve (US Wt TU rfl B.list (by decide +kernel) (YE (vo 1)))) (WC a b (X4 (vo 2) (vo 0))))))))
  (Zd (UW (["at"]:List aq) (["many"]:List aq) [1] (i:=3) sc_block_of.nd rfl rfl rfl (MC B.range (vo 1)) (by kernel_rfl) (λ_ _ _ _ _=>(Vo 0)) (λ_ _ _ _ _=>ZW) (λ_ _ _ _ _=>(VE.pure (SO (T3 (WC a b (X4 (vo 1) (vo 0))) (VM.ve (NG (Tg (YE Ze)) (vo 1))))))))
  (Zh (Zs (T3 (vo 2) (vo 3)))))))
abbrev Wl:bq:=Wa 27
theorem Rt:Zq ["rows","many","place"] ["rows","many","place"] (Zf Wl):=X9
theorem Ru(b:Def K mg "rows_to_clear" Wl)(B:X2 mg):Wh P w K mg base:=
 Og [] b Rt λa=>
  (Zh (Zs (W4 (["at"]:List aq) (["place","rows"]:List aq) [2,0] rfl (vr2 B.range (Z9 (vo 2) Ze) (vo 1)) (by kernel_rfl) (λ_ _ _ _ _=>(Vo 0)) (λ_ _ _ _ _=>(ND (Ug a.units (Zj (Zj (vo 2) (vo 0)) (vo 1)) Ze))) (λ_ _ _ _ _=>(VE.pure (vo 0))))))
abbrev KS:bq:=Wa 28
theorem DP:Zq ["row","by","often"] ["row","by","often"] (Zf KS):=X9
theorem DQ(a:Def K mg "less" KS)(B:X2 mg):NY P w K mg base:=
 Og [] a DP λb=>
  (Zh (Zs (W4 (["number","other"]:List aq) (["often"]:List aq) [2] rfl (WM aC aC rfl B.zip (X4 (vo 0) (vo 1))) (by kernel_rfl) (λ_ _ _ _ _=>(YF (n:=2) rfl (Zu (Vo 0) (Zu (Vo 1) Yh)))) (λ_ _ _ _ _=>ZW) (λ_ _ _ _ _=>(VE.pure (YS (vo 0) (X0 (vo 2) (vo 1))))))))
abbrev Wm:bq:=Wa 26
theorem sc_cleared_below:Zq ["block","many","place","rows","below","first","kept","at"] ["block","many","place"] (Zf Wm):=X9
theorem Rv(d:Def K mg "cleared_below" Wm)(B:X2 mg)(T:P.given.tree=none)(a:Wh P w K mg base)(b:NY P w K mg base):Wi P w K mg base:=
 Og [3] d sc_cleared_below λc=>
  (Zd (Yi 3 sc_cleared_below.nd (US Wt TU rfl B.list (by decide +kernel) (YE (vo 0))))
  (Zd (Yi 4 sc_cleared_below.nd (WB a c (Wf (vo 3) (vo 1) (vo 2))))
  (Zd (Vt eQ (CU (Qq B.len (vo 4)) Ze) (Zd (Yi 5 sc_cleared_below.nd (VE.pure (Zj (vo 4) Ze)))
  (Zd (Xa (VW.vt (QU (Q5 c.units (Zj (Zj (vo 3) (vo 2)) (vo 2)) Ze) (Sz (RQ (vb MJ GL B.abs (YE (Zj (Zj (vo 3) (vo 5)) (vo 2)))) (vb MJ GL B.abs (YE (Zj (Zj (vo 3) (vo 2)) (vo 2)))))))) (Zd (Yi 6 sc_cleared_below.nd (VE.pure (Zj (vo 3) (vo 2))))
  (Zd (WO (WI (Zj (vo 3) (vo 5)) (WH (pv 3) (vo 2) YR)))
  (Zh (WO (WI (vo 6) (WH (pv 3) (vo 5) YR)))))) Yb)
  (Zd (Ks (YG (vo 4)) (MB 7 sc_cleared_below.nd) (Zh (WO (WI (SO (WB b c (Wf (Zj (vo 3) (vo 7)) (Zj (vo 3) (vo 2)) (Fq T (c.mono (by decide)) (Zj (Zj (vo 3) (vo 7)) (vo 2)) (Zj (Zj (vo 3) (vo 2)) (vo 2)))))) (WH (pv 3) (vo 7) YR)))))
  (Zh (Yi 4 sc_cleared_below.nd (WB a c (Wf (vo 3) (vo 1) (vo 2)))))))))
  (Zh (Qk (pv 3))))))
abbrev Vj:bq:=Wa 29
theorem PB:Zq ["block"] ["block"] (Zf Vj):=X9
theorem PD(a:Def K mg "turned_over" Vj)(B:X2 mg):Vh P w K mg base:=
 C6 [] a PB λb=>
  (Zh (Zs (Hk "at" (["block"]:List aq) [0] rfl (MC B.range (Qq B.len (vo 0))) (by kernel_rfl) (λ_ _ _ _ _=>(Qh (i:=0) (show((["at","block"]:List aq)).Nodup by decide +kernel) rfl (jP rfl) (.inl (beq_self_eq_true _)))) (λ_ _ _ _ _=>ZW) (λ_ _ _ _ _=>(VE.pure (SO (W4 (["row"]:List aq) (["at"]:List aq) [0] rfl (YG (vo 1)) (by kernel_rfl) (λ_ _ _ _ _=>(Vo 0)) (λ_ _ _ _ _=>ZW) (λ_ _ _ _ _=>(VE.pure (Zj (vo 0) (vo 1)))))))))))
abbrev Vk:bq:=Wa 25
theorem sc_crossed_out:Zq ["block","many","place","crossed"] ["block","many","place"] (Zf Vk):=X9
theorem PF(d:Def K mg "crossed_out" Vk)(B:X2 mg)(a:Wi P w K mg base)(b:Vh P w K mg base):Vi P w K mg base:=
 Og [3] d sc_crossed_out λc=>
  (Zd (Yi 3 sc_crossed_out.nd (WB a c (Wf (vo 0) (vo 1) (vo 2))))
  (Zd (Vt eQ (Ut (vb (Hl rfl) DF B.any (YE (Yz (Zj (vo 3) (vo 2)) (Yy (Z9 (vo 2) Ze)) (Yy (vo 1)))))) (Zd (Yi 3 sc_crossed_out.nd (WB b c (YE (WC a c (Wf (WC b c (YE (vo 3))) (vo 1) (vo 2))))))
  (Zh (Yi 3 sc_crossed_out.nd (WB a c (Wf (vo 3) (vo 1) (vo 2)))))))
  (Zh (Qk (pv 3)))))
abbrev UI:bq:=Wa 24
theorem sc_unfit_row:Zq ["block","many","place","part","at"] ["block","many","place"] (Zf UI):=X9
theorem Ma(b:Def K mg "unfit_row" UI)(B:X2 mg):UD P w K mg base:=
 Og [] b sc_unfit_row λa=>
  (Zd (Yi 3 sc_unfit_row.nd (VE.pure (Zj (Zj (vo 0) (vo 2)) (vo 2))))
  (Zd (Ks (vr2 B.range (Z9 (vo 2) Ze) (vo 1)) (MB 4 sc_unfit_row.nd) (Zh (Xa (Ut (vb (II rfl) Af B.any (YE (MD "number" ["part"] [3] (YG (Yz (Zj (vo 0) (vo 4)) Xc (Yy (vo 1)))) (Zbj a.units (DG (vo 0) (vo 1)) Ze))))) (Zh (Zs (VE.pure (vo 4)))) Yb)))
  (Zh (Zs (VE.pure QR)))))
abbrev V9:bq:=Wa 23
theorem sc_part_found:Zq ["block","many","place","found","unfit"] ["block","many","place"] (Zf V9):=X9
theorem Ox(e:Def K mg "part_found" V9)(B:X2 mg)(a:Vi P w K mg base)(b:UD P w K mg base)(c:NY P w K mg base):V6 P w K mg base:=
 Og [3] e sc_part_found λd=>
  (Zd (Yi 3 sc_part_found.nd (WB a d (Wf (vo 0) (vo 1) (vo 2))))
  (Zd (Yi 4 sc_part_found.nd (WB b d (Wf (vo 3) (vo 1) (vo 2))))
  (Zd (Vt eQ (Ju (vo 4)) (Zd (WO (WI (SO (WB c d (Wf (Zj (vo 3) (vo 2)) (Zj (vo 3) (vo 4)) Ze))) (WH (pv 3) (vo 2) YR)))
  (Zd (Yi 3 sc_part_found.nd (WB a d (Wf (vo 3) (vo 1) (vo 2))))
  (Zh (Yi 4 sc_part_found.nd (WB b d (Wf (vo 3) (vo 1) (vo 2))))))))
  (Zd (Xa (RQ (Zj (Zj (vo 3) (vo 2)) (vo 2)) Ze) (Zh (WO (WI (SO (W4 (["number"]:List aq) ([]:List aq) [] rfl (YG (Zj (vo 3) (vo 2))) (by kernel_rfl) (λ_ _ _ _ _=>(Vo 0)) (λ_ _ _ _ _=>ZW) (λ_ _ _ _ _=>(VE.pure (Ny (vo 0)))))) (WH (pv 3) (vo 2) YR)))) Yb)
  (Zh (Qk (pv 3)))))))
abbrev Rw:bq:=Wa 30
theorem KU:Zq ["line","row"] ["line","row"] (Zf Rw):=X9
theorem KW(a:Def K mg "divided" Rw)(B:X2 mg):S7 P w K mg base:=
 NT [] a KU λb=>
  (Zh (Zs (VE.pure (Zv Zn ZA rfl B.tuple (by decide +kernel) (YE (Y1 (["number","by"]:List aq) ([]:List aq) [] rfl (WM aB aB rfl B.zip (X4 (vo 0) (vo 1))) (by kernel_rfl) (λ_ _ _ _ _=>(YF (n:=2) rfl (Zu (Vo 0) (Zu (Vo 1) Yh)))) (λ_ _ _ _ _=>ZW) (λ_ _ _ _ _=>(WQ (vo 0) (vo 1)))))))))
abbrev Wn:bq:=Wa 18
theorem Rx:Zq ["row","square","column"] ["row","square","column"] (Zf Wn):=X9
theorem Ry(a:Def K mg "row_by_column" Wn)(B:X2 mg):Wj P w K mg base:=
 Og [] a Rx λb=>
  (Zh (Zs (VE.pure (vb (XG rfl) Ti B.sum (YE (Y1 (["at","number"]:List aq) (["column","square"]:List aq) [2,1] rfl (VU aB rfl B.enumerate (YE (vo 0))) (by kernel_rfl) (λ_ _ _ _ _=>(YF (n:=2) rfl (Zu (Vo 0) (Zu (Vo 1) Yh)))) (λ_ _ _ _ _=>ZW) (λ_ _ _ _ _=>(X0 (vo 1) (Zj (Zj (vo 3) (vo 0)) (vo 2))))))))))
abbrev UJ:bq:=Wa 17
theorem Mc:Zq ["row","square"] ["row","square"] (Zf UJ):=X9
theorem Md(b:Def K mg "row_times" UJ)(B:X2 mg)(a:Wj P w K mg base):UE P w K mg base:=
 NT [] b Mc λc=>
  (Zh (Zs (VE.pure (Zv Zn ZA rfl B.tuple (by decide +kernel) (YE (MD "column" ["row","square"] [0,1] (MC B.range (Qq B.len (vo 0))) (WC a c (Wf (vo 1) (vo 2) (vo 0)))))))))
abbrev Ua:bq:=Wa 16
theorem Oy:Zq ["one","other"] ["one","other"] (Zf Ua):=X9
theorem Oz(c:Def K mg "multiplied" Ua)(B:X2 mg)(a:UE P w K mg base):V7 P w K mg base:=
 NT [] c Oy λb=>
  (Zh (Zs (VE.pure (Zv Zn ZA rfl B.tuple (by decide +kernel) (YE (MD "row" ["other"] [1] (SF (vo 0)) (WC a b (X4 (vo 0) (vo 1)))))))))
abbrev Me:bq:=Wa 20
theorem sc_parts:Zq ["web","square","many","block","place","row","left","right","back","forth"] ["web"] (Zf Me):=X9
theorem FF(g:Def K mg "parts" Me)(B:X2 mg)(d:UC P w K mg base)(e:Tu P w K mg base)(c:V6 P w K mg base)(b:S7 P w K mg base)(a:V7 P w K mg base):Qv P w K mg base:=
 C6 [] g sc_parts λf=>
  (Zd (Yi 1 sc_parts.nd (WB d f (YE (vo 0))))
  (Zd (Yi 2 sc_parts.nd (VE.pure (Qq B.len (vo 1))))
  (Zd (Yi 3 sc_parts.nd (WB e f (YE (vo 1))))
  (Zd (Ks (MC B.range (vo 2)) (MB 4 sc_parts.nd) (Zh (Yi 3 sc_parts.nd (WB c f (Wf (vo 3) (vo 2) (vo 4))))))
  (Zd (Yi 5 sc_parts.nd (VE.pure (Zv Zn ZA rfl B.tuple (by decide +kernel) (YE (MD "at" ["block"] [3] (MC B.range (vo 2)) (Zj (Zj (vo 1) (vo 0)) (vo 0)))))))
  (Zd (Yi 6 sc_parts.nd (VE.pure (Zv Zn ZA rfl B.tuple (by decide +kernel) (YE (MD "line" ["many"] [2] (YG (Yz (vo 3) Xc (Yy (vo 2)))) (Zv Zn ZA rfl B.tuple (by decide +kernel) (YE (Yz (vo 0) (Yy (vo 1)) Xc))))))))
  (Zd (Yi 7 sc_parts.nd (VE.pure (Zv Zn ZA rfl B.tuple (by decide +kernel) (YE (MD "line" ["many"] [2] (YG (Yz (vo 3) (Yy (vo 2)) Xc)) (Zv Zn ZA rfl B.tuple (by decide +kernel) (YE (Yz (vo 0) Xc (Yy (vo 1))))))))))
  (Zd (Yi 8 sc_parts.nd (VE.pure (Zv Zn ZA rfl B.tuple (by decide +kernel) (YE (MD "line" ["row"] [5] (SF (WC a f (X4 (vo 1) (vo 7)))) (WC b f (X4 (vo 0) (vo 1))))))))
  (Zd (Yi 9 sc_parts.nd (VE.pure (Zv Zn ZA rfl B.tuple (by decide +kernel) (YE (Y1 (["line","by"]:List aq) (["many"]:List aq) [2] rfl (WM aB aB rfl B.zip (X4 (WC a f (X4 (vo 6) (vo 1))) (vo 5))) (by kernel_rfl) (λ_ _ _ _ _=>(YF (n:=2) rfl (Zu (Vo 0) (Zu (Vo 1) Yh)))) (λ_ _ _ _ _=>ZW) (λ_ _ _ _ _=>(WC b f (X4 (vo 0) (WL Dx Dy (SA (YE (vo 1))) (vo 2))))))))))
  (Zh (Zs (VE.pure (SA (UR (vo 6) (va4 (vo 8) (vo 7) (vo 9) (vo 5))))))))))))))))
abbrev TC:bq:=Wa 31
theorem Lj:Zq ["web","purse"] ["web","purse"] (Zf TC):=X9
theorem Lk(e:Def K mg "place_of" TC)(B:X2 mg)(c:Qu P w K mg base)(a:Qt P w K mg base)(b:Qv P w K mg base):Tv P w K mg base:=
 NT [] e Lj λd=>
  (Zh (Zs (VE.pure (WL NN NO (SA (YE (WC c d (YE (vo 1))))) (WC a d (X4 (WC b d (YE (vo 0))) (vo 1)))))))
abbrev XQ:bq:=Wa 35
theorem sc_common_divisor:Zq ["one","other","greater","lesser","rest"] ["one","other"] (Zf XQ):=X9
theorem Sf(b:Def K mg "common_divisor" XQ)(B:X2 mg):XM P w K mg base:=
 NT [] b sc_common_divisor λa=>
  (Zd (Yi 2 sc_common_divisor.nd (VE.pure (vo 0)))
  (Zd (Yi 3 sc_common_divisor.nd (VE.pure (vo 1)))
  (Zd (Vt eQ (Ug a.units (vo 3) Ze) (Zd (Yi 4 sc_common_divisor.nd (VE.pure (YT (vo 2) (vo 3))))
  (Zd (Yi 2 sc_common_divisor.nd (VE.pure (vo 3)))
  (Zh (Yi 3 sc_common_divisor.nd (VE.pure (vo 4)))))))
  (Zh (Zs (VE.pure (vo 2)))))))
abbrev TF:bq:=Wa 34
theorem sc_round_of:Zq ["web","purse","told","often","rest","by","own"] ["web","purse"] (Zf TF):=X9
theorem Ll(f:Def K mg "round_of" TF)(B:X2 mg)(d:Qu P w K mg base)(c:Qv P w K mg base)(b:Qt P w K mg base)(a:XM P w K mg base):Tw P w K mg base:=
 NT [] f sc_round_of λe=>
  (Zd (Xa (Ug e.units (WC d e (YE (vo 1))) Ze) (Zh (Fd (W:=[]))) Yb)
  (Zd (Yi 2 sc_round_of.nd (WB c e (YE (vo 0))))
  (Zd (Yi 3 sc_round_of.nd (VE.pure Ze))
  (Zd (Ks (WM aB aB rfl B.zip (X4 (WC b e (X4 (vo 2) (vo 1))) (Zj (vo 2) Ze))) (YF (n:=2) rfl (Zu (MB 4 sc_round_of.nd) (Zu (MB 5 sc_round_of.nd) Yh))) (Zd (Yi 6 sc_round_of.nd (VE.pure (WQ (vo 5) (WC a e (X4 (vo 4) (vo 5))))))
  (Zh (Yi 3 sc_round_of.nd (VE.pure (WQ (X0 (vo 3) (vo 6)) (WC a e (X4 (vo 3) (vo 6)))))))))
  (Zh (Zs (VE.pure (vo 3))))))))
abbrev Rz:bq:=Wa 63
theorem sc_t_round:Zq ["_law_web_here","_law_one","_law_other_here","_law_gap","_law_noughts","_law_often"] ["_law_web_here","_law_one","_law_other_here"] (Zf Rz):=X9
theorem KY(e:Def K mg "_law_round" Rz)(B:X2 mg)(b:Tw P w K mg base)(c:U5 P w K mg base)(a:Qs P w K mg base):S8 P w K mg base:=
 Og [] e sc_t_round λd=>
  (Zd (Yi 3 sc_t_round.nd (VE.pure (Zv Zn ZA rfl B.tuple (by decide +kernel) (YE (Y1 (["_law_a","_law_b"]:List aq) ([]:List aq) [] rfl (WM aB aB rfl B.zip (X4 (vo 1) (vo 2))) (by kernel_rfl) (λ_ _ _ _ _=>(YF (n:=2) rfl (Zu (Vo 0) (Zu (Vo 1) Yh)))) (λ_ _ _ _ _=>ZW) (λ_ _ _ _ _=>(YS (vo 0) (vo 1))))))))
  (Zd (Yi 4 sc_t_round.nd (VE.pure (Zv Zn ZA rfl B.tuple (by decide +kernel) (YE (VM.ve (NG (Tg (YE Ze)) (Qq B.len (vo 0))))))))
  (Zd (Yi 5 sc_t_round.nd (WB b d (X4 (vo 0) (vo 3))))
  (Zd (Xa (VW.vt (QU (QV (Ut (WC c d (YE (vo 5))))) (Sz (RQ (vo 5) Ze)))) (Zh (Zs (VE.pure Ta))) Yb)
  (Zd (Xa (Kc (WC a d (Wf (vo 0) (Zv Zn ZA rfl B.tuple (by decide +kernel) (YE (MD "_law_coins" ["_law_often"] [5] (SF (vo 3)) (Sx (vo 1) (vo 0))))) (vo 4)))) (Zh (Zs (VE.pure Ta))) Yb)
  (Zh (Zs (VE.pure (Zbf (GV d.units (vo 5) Ze) (L9 (B9 (WC a d (Wf (vo 0) (vo 3) (vo 4))))))))))))))
abbrev FG:bq:=Wa 64
theorem sc_law:Zq ["_law_script","_law_web_here","_law_base","_law_cell","_law_one","_law_other_here","_law_same","_law_spots"] ["_law_script"] (Zf FG):=X9
theorem AI{n:aL}{m:eh}(o:Fun K "law" "law" FG n m)(B:X2 mg)(j:NV P w K mg base)(i:Vy P w K mg base)(h:NU P w K mg base)(g:SX P w K mg base)(d:SY P w K mg base)(f:S6 P w K mg base)(a:Tv P w K mg base)(b:Sd P w K mg base)(e:S8 P w K mg base):RY P w K mg base L3 42 n m (["_law_script"]:List aq) (YX K D_law 1):=
 Ao (O:=[]) (k:=41) 8 C5 o sc_law rfl rfl (by decide) (λq p A l s H E c=>
  (Zd (Yi 1 sc_law.nd (WB j c (Wf (vo 0) (Tg (UR Ze (va4 Ze Ze Ze Ze))) Ze)))
  (Zd (Yi 2 sc_law.nd (WB i c (Wf (WC h c (X4 (vo 0) Ze)) Ze (Qq B.len (vo 1)))))
  (Zd (Ks (YG (VM.ve (T3 (Tg (YE (WC h c (X4 (vo 0) Ze)))) (Yz (vo 0) (Yy Ze) (Yy Ze))))) (MB 3 sc_law.nd) (Zd (Yi 4 sc_law.nd (WB g c (X4 (vo 1) (vo 3))))
  (Zd (Yi 5 sc_law.nd (WB d c (Wf (vo 1) (vo 4) (vo 3))))
  (Zd (Yi 6 sc_law.nd (WB f c (Wf (vo 1) (vo 4) (vo 5))))
  (Zd (Yi 7 sc_law.nd (SD (Vs (WB a c (X4 (vo 1) (vo 4))) (Vs (WB a c (X4 (vo 1) (vo 5))) VN))))
  (Zd (Xa (VW.vt (QU (Kc (vo 6)) (QU (QV (Ut (vb WY Qi B.isinstance (X4 (Zj (vo 7) Ze) (Jy rfl B.tuple (by decide +kernel)))))) (Sz (Ug c.units (Zj (Zj (vo 7) Ze) Ze) (vb (XG rfl) Ti B.sum (YE (vo 4)))))))) (Zh (Zs (VE.pure Ta))) Yb)
  (Zd (Xa (Ug c.units (vo 6) (GV c.units (Zj (vo 7) Ze) (Zj (vo 7) Ze))) (Zh (Zs (VE.pure Ta))) Yb)
  (Zd (Xa (Ug c.units (vo 6) (GV c.units (Zj (WC b c (Wf (vo 1) (vo 4) (vo 2))) Ze) (Zj (WC b c (Wf (vo 1) (vo 5) (vo 2))) Ze))) (Zh (Zs (VE.pure Ta))) Yb)
  (Zh (Xa (QV (Ut (WC e c (Wf (vo 1) (vo 4) (vo 5))))) (Zh (Zs (VE.pure Ta))) Yb))))))))))
  (Zh (Zs (VE.pure Ta)))))))
end
end PW
namespace PW
open L2 VL
theorem KZ{W:List (List Int)}{h:Nat}(a:h<W.length):U1 [wP W,.int (h:Int)]=aA (.int (ZH W h).sum):=by simp[U1,O0,YO,ZJ,UZ a]
theorem Lm(l:List Int):U2 [pP l]=aA (.int l.sum):=by simp[U2,JG,YO,ZJ]
noncomputable def K1(a b:List Int):List Int:=(aF a.length).map λi=>Zl a i+Zl b i
noncomputable def U7(a b:List Int):List Int:=(aF a.length).map λi=>Zl a i-Zl b i
theorem DR{a b:List Int}(h:b.length=a.length)(f:a.length<=1000):To [pP a,pP b]=aA (pP (K1 a b)):=by
 have d:Ve (iL a) (iL b)=(aF a.length).map λi=>.tup [.int (Zl a i),.int (Zl b i)]:=by rw[YU _ _ (by simpa using h),aM];apply ao;intro i c;have c:=aS.mp c;rw[YI a i c,YI b i (by omega)]
 have e:Zt 2 [] (Um aB aB [Za 0,Za 1]) (.many [0,1]) Zz (Zk Ym (Za 0) (Za 1)) [aA (pP a),aA (pP b)]=aA (.lst (iL (K1 a b))):=by rw[ZT (aF a.length) (λi=>.tup [.int (Zl a i),.int (Zl b i)]) (λi=>.int (Zl a i+Zl b i)) (by simp[d]) (by simp;omega) (λi _=>⟨_,rfl,rfl,by simp[setAll,ZR]⟩)];simp[K1]
 simp[To,G9,YO,ZJ,e]
theorem FH{a b:List Int}(h:b.length=a.length)(f:a.length<=1000):U3 [pP a,pP b]=aA (pP (U7 a b)):=by
 have d:Ve (iL a) (iL b)=(aF a.length).map λi=>.tup [.int (Zl a i),.int (Zl b i)]:=by rw[YU _ _ (by simpa using h),aM];apply ao;intro i c;have c:=aS.mp c;rw[YI a i c,YI b i (by omega)]
 have e:Zt 2 [] (Um aB aB [Za 0,Za 1]) (.many [0,1]) Zz (Zk Wb (Za 0) (Za 1)) [aA (pP a),aA (pP b)]=aA (.lst (iL (U7 a b))):=by rw[ZT (aF a.length) (λi=>.tup [.int (Zl a i),.int (Zl b i)]) (λi=>.int (Zl a i-Zl b i)) (by simp[d]) (by simp;omega) (λi _=>⟨_,rfl,rfl,by simp[setAll,ZR]⟩)];simp[U7]
 simp[U3,JH,YO,ZJ,e]
theorem Qw(l:List Int):W0 (iL l)=(aF l.length).map λ(i:Nat)=>.tup [.int (i:Int),.int (Zl l i)]:=by rw[W5,aM];apply ao;intro i a;rw[YI l i (aS.mp a)]
noncomputable def Ws(W:List (List Int))(S:List Int)(h:Nat):Int:=((aF W.length).map λi=>ZZ W h i*(Zl S i-Zl S h)).sum
theorem DS{W:List (List Int)}{S:List Int}{h:Nat}(ok:ZE W)(b:h<W.length)(g:S.length=W.length):Pe [wP W,pP S,.int (h:Int)]=aA (.int (Ws W S h)):=by
 have e:=ok.sq h b;have k:=ok.few
 have f:Zt 2 [1,2] (XB aB [Zk ZN (Za 0) (Za 2)]) (.many [0,1]) Zz (Zk R5 (Za 1) (Zk Wb (Zk ZN (Za 2) (Za 0)) (Zk ZN (Za 2) (Za 3)))) [aA (wP W),aA (pP S),aA (.int (h:Int))]=aA (.lst (iL ((aF W.length).map λi=>ZZ W h i*(Zl S i-Zl S h)))):=by
  rw[ZT (aF W.length) (λi=>.tup [.int (i:Int),.int (ZZ W h i)]) (λi=>.int (ZZ W h i*(Zl S i-Zl S h))) (by simp[UZ b,Qw,e];intro a _;rfl) (by simp;omega) (λi c=>?_)]
  ·simp
  ·have c:=aS.mp c;refine⟨_,rfl,rfl,?_⟩;have b1:=ok.lo h i b c;have b2:=ok.hi h i b c;have d:∀j,CMul (ZZ W h i) j:=λj=>Ay (by omega) (by omega);simp[setAll,ZR,YN (show i<S.length by omega),YN (show h<S.length by omega),d]
 simp[Pe,G8,YO,ZJ,f,Ws,-dF]
noncomputable def ZS(W:List (List Int))(D S:List Int):List Int:=(aF D.length).map λh=>Zl D h+Ws W S h
theorem FI{W:List (List Int)}{D S:List Int}(ok:ZE W)(e:D.length=W.length)(b:S.length=W.length):Td [wP W,pP D,pP S]=aA (pP (ZS W D S)):=by
 have d:=ok.few
 have c:Zt 2 [0,2] (XB aB [Za 1]) (.many [0,1]) Zz (Zk Ym (Za 1) (Zc Pe [Za 2,Za 3,Za 0])) [aA (wP W),aA (pP D),aA (pP S)]=aA (.lst (iL (ZS W D S))):=by
  rw[ZT (aF D.length) (λi=>.tup [.int (i:Int),.int (Zl D i)]) (λh=>.int (Zl D h+Ws W S h)) (by simp[Qw]) (by simp;omega) (λi a=>?_)]
  ·simp[ZS]
  ·have a:=aS.mp a;refine⟨_,rfl,rfl,?_⟩;simp[setAll,ZR,DS ok (show i<W.length by omega) b]
 simp[Td,C1,YO,ZJ,c]
noncomputable def FJ(W:List (List Int))(a b:Nat):List (List Int):=(aF (ZZ W a b).toNat).map λ(t:Nat)=>[(a:Int),(b:Int),(t:Int)]
noncomputable def C7(W:List (List Int))(a:Nat):List (List Int):=(aF (W.length-(a+1))).flatMap λj=>FJ W a (a+1+j)
noncomputable def Vz(W:List (List Int)):List (List Int):=(aF W.length).flatMap (C7 W)
theorem Hy{a:Type}(f:Nat->List a)(i:Nat):(aF (i+1)).flatMap f=(aF i).flatMap f++f i:=by rw[gn];simp
noncomputable def tk(e:Tie):List Of:=[.inl (e.1:Int),.inl (e.2.1:Int)]
noncomputable def Xr(W:List (List Int)):Prop:=∀P:Nat->Prop,(∀a b,a<W.length->b<W.length->0<ZZ W a b->(P a↔P b))->∀i j,i<W.length->j<W.length->(P i↔P j)
theorem PH:∀{l m:List Int},l.Nodup->(∀x∈l,x∈m)->l.length<=m.length
 | [],m,_,_=>dW _
 | x::r,m,nd,h=>by have c:x∈m:=h x (by simp);have a:=bU.mp nd;have:=PH (l:=r) (m:=m.erase x) a.2 λy b=>(List.mem_erase_of_ne (show y≠x from λz=>a.1 (by rw[<-z];exact b))).mpr (h y (by simp[b]));rw[List.length_erase_of_mem c] at this;have d:=List.length_pos_of_mem c;rw[cH];omega
theorem Zdf{n:Nat}{l:List Int}(b:l.Nodup)(h:∀x∈l,∃k:Nat,k<n/\x=(k:Int))(e:l.length=n){j:Nat}(d:j<n):(j:Int)∈l:=by
 by_cases q:(j:Int)∈l
 ·exact q
 ·have:=PH (bU.mpr ⟨q,b⟩) (λx a=>by
   rcases af.mp a with rfl | a
   ·exact bc.mpr ⟨j,aS.mpr d,rfl⟩
   ·obtain⟨k,c,rfl⟩:=h x a;exact bc.mpr ⟨k,aS.mpr c,rfl⟩)
  rw[cH,aM,bu] at this;omega
noncomputable def rL(M:List (List Int)):List PV:=M.map λr=>.lst (iL r)
theorem K2{M:List (List Int)}{a:Nat}(h:a<M.length):(rL M)[a]?=aA (.lst (iL (ZH M a))):=by unfold rL;rw[aU,MT h];rfl
theorem FK{M:List (List Int)}{a b:Nat}{t:Int}:(rL M).set a (.lst ((iL (ZH M a)).set b (.int t)))=rL (Sw M a b t):=by unfold rL Sw;rw[kD];show _=(kE (λr=>PV.lst (iL r)) M).set a (PV.lst (((ZH M a).set b t).map PV.int));rw[kD]
theorem AJ(l:List Int)(k:Nat)(x:Int):(iL l).take k++PV.int x::(iL l).drop k=iL (l.take k++x::l.drop k):=by simp
theorem C8(neg:Bool)(a:Int)(l:List Int):IQ neg (.int a) (.lst (iL l))=aA (.bl (if neg then !decide (a∈l) else decide (a∈l))):=by
 have c:((iL l).all λz=>Uv 8 z (.int a))=aC:=by rw[kC,ar];intro x _;rfl
 show(aA (iL l)).bind _=_;simp only[aY,lQ c]
 have:decide (PV.int a∈iL l)=decide (a∈l):=decide_eq_decide.mpr (by
  rw[bc];constructor
  ·rintro⟨x,b,e⟩;cases e;exact b
  ·intro h;exact⟨a,h,rfl⟩)
 rw[this]
theorem VB{f g:XS}{s s1:ZF}(a:f s=aA (.nx s1)):Zp f g s=g s1:=by simp only[M5,a,aY]
theorem FL(a b:List Int):(K1 a b).length=a.length:=by simp[K1]
theorem VC(a b:List Int):(U7 a b).length=a.length:=by simp[U7]
theorem Yc(W:List (List Int))(D S:List Int):(ZS W D S).length=D.length:=by simp[ZS]
theorem Ln{a b:List Int}{i:Nat}(h:i<a.length):Zl (K1 a b) i=Zl a i+Zl b i:=Z1 h
theorem PJ{a b:List Int}{i:Nat}(h:i<a.length):Zl (U7 a b) i=Zl a i-Zl b i:=Z1 h
theorem VD{W:List (List Int)}{a b:List Int}{i:Nat}(h:i<a.length):Zl (ZS W a b) i=Zl a i+Ws W b i:=Z1 h
theorem Wy{a b:List Int}(c:a.length=b.length)(h:∀i,i<a.length->Zl a i=Zl b i):a=b:=by rw[<-Sv a,<-Sv b,c];apply ao;intro i d;exact h i (by rw[c];exact aS.mp d)
theorem U6{W:List (List Int)}(ok:ZE W){i:Nat}(a:i<W.length):(ZH W i).sum=((aF W.length).map λj=>ZZ W i j).sum:=by rw[<-Nt (ZH W i),ok.sq i a];rfl
theorem K3{W:List (List Int)}(ok:ZE W):((Vz W).length:Int)=((aF W.length).map λa=>((aF (W.length-(a+1))).map λj=>ZZ W a (a+1+j)).sum).sum:=by
 have b:∀(f:Nat->List (List Int))(n:Nat),(((aF n).flatMap f).length:Int)=((aF n).map λi=>((f i).length:Int)).sum:=by
  intro f n
  induction n with
  | zero=>rfl
  | succ n ih=>rw[Hy,au,Z7];omega
 unfold Vz;rw[b];apply Yk;intro a c;unfold C7;rw[b];apply Yk;intro j d;have:=ok.lo a (a+1+j) c (by omega);unfold FJ;rw[aM,bu];omega
theorem Lo{W:List (List Int)}(ok:ZE W):((aF W.length).map λi=>(ZH W i).sum).sum=2*((Vz W).length:Int):=by rw[K3 ok,<-GA (λi j=>ZZ W i j) W.length (λi j a b=>ok.sym i j a b) (λi a=>ok.dia i a)];apply Yk;intro i a;exact U6 ok a
theorem WD{n m:Nat}{ix:List Nat}{c:XL}{d:XT}{b:XE}{s:ZF}(g:Nat->Int)(a:c s=aA (NA m))(f:m<=1000)(h:∀i:Nat,i<m->∃s1,Xn (.one 0) (.int (i:Int)) (ZR n ix s)=aA s1/\d s1=aA aC/\b s1=aA (.int (g i))) :
  Zt n ix c (.one 0) d b s=aA (.lst (iL ((aF m).map g))):=by
 rw[ZT (aF m) (λi=>.int (i:Int)) (λi=>.int (g i)) a (by simp;omega) (λi e=>h i (aS.mp e))];simp
theorem PK(f g:Nat->Int)(n:Nat):((aF n).map λi=>f i+g i).sum=((aF n).map f).sum+((aF n).map g).sum:=by
 induction n with
 | zero=>rfl
 | succ n ih=>rw[Z7,Z7,Z7,ih];omega
theorem FN(f:Nat->Nat->Int)(n m:Nat):((aF n).map λi=>((aF m).map λj=>f i j).sum).sum=((aF m).map λj=>((aF n).map λi=>f i j).sum).sum:=by
 induction n with
 | zero=>
  have:((aF m).map λj=>((aF 0).map λi=>f i j).sum).sum=0:=by have:=IJ 0 m;simpa using this
  rw[this];rfl
 | succ n ih=>
  rw[Z7,ih,<-PK];apply Yk;intro j _;rw[Z7]
theorem Hz{W:List (List Int)}{S U T:List Int}{h:Nat}(e:∀i,i<W.length->Zl T i=Zl S i+Zl U i)(a:h<W.length):Ws W T h=Ws W S h+Ws W U h:=by unfold Ws;rw[<-PK];apply Yk;intro i b;rw[e i b,e h a,<-fP];congr 1;omega
theorem JS{W:List (List Int)}{D S U T:List Int}(b:D.length=W.length)(e:∀i,i<W.length->Zl T i=Zl S i+Zl U i):ZS W (ZS W D S) U=ZS W D T:=Wy (by simp[Yc]) λi a=>by rw[Yc,Yc] at a;rw[VD (by rw[Yc];exact a),VD a,VD a,Hz e (by omega)];omega
theorem HA{W:List (List Int)}{S T:List Int}{h:Nat}(c:Int)(e:∀i,i<W.length->Zl T i=Zl S i+c)(a:h<W.length):Ws W T h=Ws W S h:=by unfold Ws;apply Yk;intro i b;rw[e i b,e h a];congr 1;omega
theorem FO{W:List (List Int)}(ok:ZE W)(S:List Int):((aF W.length).map λh=>Ws W S h).sum=0:=by
 have c:((aF W.length).map λh=>Ws W S h).sum=((aF W.length).map λi=>((aF W.length).map λj=>ZZ W i j*Zl S j).sum).sum-((aF W.length).map λi=>((aF W.length).map λj=>ZZ W i j*Zl S i).sum).sum:=by rw[<-Jp];apply Yk;intro i _;rw[<-Jp];apply Yk;intro j _;rw[dt]
 have d:((aF W.length).map λi=>((aF W.length).map λj=>ZZ W i j*Zl S i).sum).sum=((aF W.length).map λi=>((aF W.length).map λj=>ZZ W i j*Zl S j).sum).sum:=by rw[FN];apply Yk;intro i a;apply Yk;intro j b;rw[ok.sym j i b a]
 rw[c,d];omega
theorem JT{W:List (List Int)}{D S:List Int}(ok:ZE W)(a:D.length=W.length):(ZS W D S).sum=D.sum:=by unfold ZS;rw[PK,Nt,a,FO ok,gs]
theorem nth_set{l:List Int}{h i:Nat}{v:Int}(a:i<l.length):Zl (l.set h v) i=if i=h then v else Zl l i:=by
 unfold Zl;rw[aD,aD,bQ];by_cases e:h=i
 ·subst e;rw[lQ rfl,lQ rfl,lQ a];rfl
 ·rw[lU e,lU (bN e)]
theorem JU{n i:Nat}(c:Int)(a:i<n):Zl (aV n c) i=c:=by unfold Zl;rw[aD,bV,lQ a];rfl
theorem Mf(l:List Int)(k:Nat):Xg (iL l) none (aA (k:Int))=iL (l.take k):=by
 unfold Xg;rw[HT.sIx_none,HT.sIx_nat,aM,gU,gu,<-iX];congr 1;by_cases h:k<=l.length
 ·rw[ck h]
 ·rw[i8 (by omega),b7 (aJ _),b7 (by omega)]
theorem Mg(l:List Int)(k:Nat):Xg (iL l) (aA (k:Int)) none=iL (l.drop k):=by
 unfold Xg;rw[HT.sIx_none,HT.sIx_nat,aM,<-iY];congr 1;by_cases h:k<=l.length
 ·rw[ck h,b7 (by simp)]
 ·rw[i8 (by omega),gQ (aJ _),gQ (by omega)];simp
theorem JV{l:List Int}{i:Nat}(h:i<l.length):Zl l i∈l:=by unfold Zl;rw[aD,aG h];exact dO h
theorem Mh{l:List Int}{x:Int}(h:x∈l):∃i,i<l.length/\Zl l i=x:=by obtain⟨i,a,e⟩:=dj h;refine⟨i,a,?_⟩;unfold Zl;rw[aD,aG a,e];rfl
theorem O5{l d:List Int}(c:Int)(o:d.length=l.length)(m:0<l.length)(e:∀i,i<l.length->Zl d i=Zl l i+c):Xy d=Xy l+c:=by
 obtain⟨a,b⟩:=SK (l:=l) (di.mp m);obtain⟨i,h,f⟩:=Mh a;refine JI ?_ λx k=>?_
 ·have:=JV (l:=d) (i:=i) (by omega);rw[e i h,f] at this;exact this
 ·obtain⟨j,p,g⟩:=Mh k;have n:=b _ (JV (l:=l) (i:=j) (by omega));rw[e j (by omega)] at g;omega
noncomputable def ZP(l:List Int):List Int:=(aF l.length).map λi=>Zl l i-Xy l
theorem Yf(l:List Int):(ZP l).length=l.length:=by simp[ZP]
theorem XU{l:List Int}{i:Nat}(h:i<l.length):Zl (ZP l) i=Zl l i-Xy l:=Z1 h
theorem RV{l a:List Int}(c:Int)(d:a.length=l.length)(f:0<l.length)(e:∀i,i<l.length->Zl a i=Zl l i+c):ZP a=ZP l:=Wy (by rw[Yf,Yf,d]) λi b=>by rw[Yf] at b;rw[XU b,XU (by omega),O5 c d f e,e i (by omega)];omega
theorem HB{W:List (List Int)}{D S T:List Int}(c:Int)(b:D.length=W.length)(e:∀i,i<W.length->Zl T i=Zl S i+c):ZS W D T=ZS W D S:=Wy (by simp[Yc]) λi a=>by rw[Yc] at a;rw[VD a,VD a,HA c e (by omega)]
theorem DT{f g:XS}{s:ZF}{v:PV}(a:f s=aA (.rt v)):Zp f g s=aA (.rt v):=by rw[M5,a];rfl
section
variable {s:ZF} {f g:XE} {a b:Int} {C:Int->Int->Prop} [∀i j,Decidable (C i j)] {op:Int->Int->Int}
theorem vC(e:f s=aA (.int a))(d:g s=aA (.int b))(c:C a b):Zk (IK C op) f g s=aA (.int (op a b)):=by rw[VY,e,d];simp only[aY,Ar,lQ c]
theorem vI(d:f s=aA (.int a))(c:g s=aA (.int b)):Zk (gI op) f g s=aA (.int (op a b)):=by rw[VY,d,c];rfl
theorem vP(b:f s=aA (.int a)):eP f s=aA (.int a):=by rw[NI,b];rfl
theorem Lp{v:PV}(a:f s=aA v):ZK f s=aA (.rt v):=by rw[G1,a];rfl
end
noncomputable def HC(M:List (List Int))(a b:Nat)(t:Int):List (List Int):=Sw (Sw M a b t) b a t
theorem Qx{n:Nat}{M:List (List Int)}{a b:Nat}{t:Int}(ok:MatOk n M)(c:a<n)(d:b<n)(i j:Nat):ZZ (HC M a b t) i j=if b=i/\a=j then t else if a=i/\b=j then t else ZZ M i j:=by obtain⟨f,e⟩:=WK ok.len ok.row c;unfold HC;rw[QQ f e d c,QQ ok.len ok.row c d]
theorem AK{n:Nat}{M:List (List Int)}{a b:Nat}{t:Int}(ok:MatOk n M)(f:a<n)(g:b<n)(d:a≠b)(o:0<=t)(q:t<=9):MatOk n (HC M a b t):=by
 obtain⟨l,m⟩:=WK ok.len ok.row f;obtain⟨k,h⟩:=WK l m g;have E:=Qx (t:=t) ok f g;refine⟨k,h,λi j c e=>?_,λi j c e=>?_,λi j c e=>?_,λi c=>?_⟩
 ·have:=ok.lo i j c e;rw[E];split<;>(try split)<;>omega
 ·have:=ok.hi i j c e;rw[E];split<;>(try split)<;>omega
 ·have:=ok.sym i j c e;rw[E,E];by_cases p:b=i/\a=j
  ·rw[lQ p];by_cases p2:b=j/\a=i
   ·rw[lQ p2]
   ·rw[lU p2,lQ ⟨p.2,p.1⟩]
  ·rw[lU p];by_cases p2:a=i/\b=j
   ·rw[lQ p2,lQ ⟨p2.2,p2.1⟩]
   ·rw[lU p2,lU (λz=>p2 ⟨z.2,z.1⟩),lU (λz=>p ⟨z.2,z.1⟩)];exact this
 ·rw[E,lU (λz=>d (by omega)),lU (λz=>d (by omega))];exact ok.dia i c
theorem O6{s:ZF}{n:Nat}(h:s[3]?=aA (aA (.int (n:Int))))(a:n<=7):Zt 1 [3] (Yp [Za 3]) (.one 0) Zz (Zk NF (WX [eC (.int 0)]) (Za 1)) s=aA (.lst (rL (aV n (aV n 0)))):=by
 rw[ZT (aF n) (λi=>.int (i:Int)) (λ_=>.lst (iL (aV n 0))) (YC (by simp[h]) (by omega)) (by simp;omega) (λi _=>⟨_,rfl,rfl,?_⟩)]
 ·unfold rL;rw[List.map_const',bu,List.map_replicate]
 ·have e:NF (.lst [.int 0]) (.int (n:Int))=aA (.lst (iL (aV n 0))):=by show(if ZO [PV.int 0]=aC/\(-1000000:Int)<=(n:Int)/\(n:Int)<=1000000/\[PV.int 0].length*((n:Int)).toNat<=10000 then aA (PV.lst (aV ((n:Int)).toNat [PV.int 0]).flatten) else none)=_;rw[lQ ⟨rfl,by omega,by omega,by simp;omega⟩];simp
  simp[ZR,h,e]
noncomputable def Grown(M:List (List Int))(l:List Int)(k:Nat):Prop:=∀j,1<=j->j<k->∃j',j'<j/\0<ZZ M (Zl l j).toNat (Zl l j').toNat
theorem Grown.mono{M c:List (List Int)}{l:List Int}{k:Nat}(h:Grown M l k)(g:∀i j,0<ZZ M i j->0<ZZ c i j):Grown c l k:=λj d e=>by obtain⟨f,a,b⟩:=h j d e;exact⟨f,a,g _ _ b⟩
theorem Grown.conn{M:List (List Int)}{l:List Int}{n:Nat}(h:Grown M l n)(t:M.length=n)(d:NamesOk n l):Xr M:=by
 intro P u i j g p;rw[t] at g p;have lt:∀x,x<n->(Zl l x).toNat<M.length:=λx c=>by have:=d.at c;omega
 have all:∀k,k<n->(P (Zl l k).toNat↔P (Zl l 0).toNat):=by
  intro k
  induction k using k5 with
  | ind k ih=>
   intro o;by_cases q:k=0
   ·subst q;exact Iff.rfl
   ·obtain⟨m,a,b⟩:=h k (by omega) o;exact(u _ _ (lt k o) (lt m (by omega)) b).trans (ih m a (by omega))
 have f:∀i,i<n->∃x,x<n/\(Zl l x).toNat=i:=λi g=>by have:=Zdf d.nd (λx c=>⟨x.toNat,by have:=d.hi x c;omega,by have:=d.lo x c;omega⟩) d.len g;obtain⟨x,c,e⟩:=Mh this;exact⟨x,by rw[<-d.len];exact c,by rw[e];rfl⟩
 obtain⟨x,c,rfl⟩:=f i g;obtain⟨y,s,rfl⟩:=f j p;exact(all x c).trans (all y s).symm
theorem DU{n:Nat}{M:List (List Int)}{a b:Nat}{t:Int}(ok:MatOk n M)(e:a<n)(d:b<n)(c:0<t):(∀i j,0<ZZ M i j->0<ZZ (HC M a b t) i j)/\0<ZZ (HC M a b t) a b:=by
 refine⟨λi j h=>?_,?_⟩
 ·rw[Qx ok e d];split
  ·exact c
  ·split
   ·exact c
   ·exact h
 ·rw[Qx ok e d];split
  ·exact c
  ·rw[lQ ⟨rfl,rfl⟩];exact c
noncomputable def nL(l:List Nat):List Int:=l.map λ(i:Nat)=>(i:Int)
theorem FP{y:Nat}{l:List Nat}:(y:Int)∈nL l↔y∈l:=by unfold nL;rw[bc];exact⟨λ⟨a,h,e⟩=>by rw[show y=a by omega];exact h,λh=>⟨y,h,rfl⟩⟩
noncomputable def XW(W:List (List Int))(h:Nat)(F:List Nat):Int:=(F.map λo=>ZZ W h o).sum
theorem ties_comp2{W:List (List Int)}{h i j k:Nat}{F:List Nat}{s:ZF}(ok:ZE W)(a:h<W.length)(e:∀x∈F,x<W.length)(m:F.length<=100)(c:s[i]?=aA (aA (wP W)))(g:s[j]?=aA (aA (.int (h:Int))))(l:s[k]?=aA (aA (.lst (iL (nL F))))) :
  Zc TV [Zt 1 [i,j] (Xw (Za k)) (.one 0) Zz (Zk ZN (Zk ZN (Za 1) (Za 2)) (Za 0))] s=aA (.int (XW W h F)):=by
 have f:Zt 1 [i,j] (Xw (Za k)) (.one 0) Zz (Zk ZN (Zk ZN (Za 1) (Za 2)) (Za 0)) s=aA (.lst (iL (F.map λo=>ZZ W h o))):=by
  rw[ZT F (λo=>.int (o:Int)) (λo=>.int (ZZ W h o)) (by simp[l,nL]) (by omega) (λo d=>⟨_,rfl,rfl,?_⟩)]
  ·simp
  ·have b:=ok.sq h a;have:=YN (by rw[b];exact e o d);simp[ZR,c,g,UZ a,this];rfl
 simp only[Y2,Zw,f];exact NL _
theorem Lq{W:List (List Int)}{h:Nat}{F:List Nat}{X:PV}(ok:ZE W)(a:h<W.length)(d:∀x∈F,x<W.length)(f:F.length<=100)(b:AB (Za 2) [aA (wP W),aA (.int (h:Int)),aA X]=aA (iL (nL F))):Vw [wP W,.int (h:Int),X]=aA (.int (XW W h F)):=by
 have e:Zt 1 [0,1] (AB (Za 2)) (.one 0) Zz (Zk ZN (Zk ZN (Za 1) (Za 2)) (Za 0)) [aA (wP W),aA (.int (h:Int)),aA X]=aA (.lst (iL (F.map λo=>ZZ W h o))):=by
  rw[ZT F (λo=>.int (o:Int)) (λo=>.int (ZZ W h o)) (by rw[b];simp[nL]) (by omega) (λo c=>⟨_,rfl,rfl,?_⟩)]
  ·simp
  ·have:=YN (by rw[ok.sq h a];exact d o c);simp[ZR,UZ a,this];rfl
 show(ZK _ [aA (wP W),aA (.int (h:Int)),aA X]).bind SH=_
 rw[Lp (vP (by
  simp only[Y2,Zw,e];exact NL _))]
 rfl
theorem K4{W:List (List Int)}{h:Nat}{F:List Nat}(ok:ZE W)(a:h<W.length)(c:∀x∈F,x<W.length)(b:F.length<=100):Vw [wP W,.int (h:Int),.lst (iL (nL F))]=aA (.int (XW W h F)):=Lq ok a c b (Zbl rfl)
theorem RA{d:Type}{T:Tgt}{fb:XS}{q g:d->PV}{c:d->Bool}(S:ZF->Prop):∀{ls:List d}{s:ZF},(∀a∈ls,∀s,S s->∃s1,Xn T (q a) s=aA s1/\((c a=aC->fb s1=aA (.rt (g a)))/\(c a=aB->∃s2,fb s1=aA (.nx s2)/\S s2)))->S s->
  match ls.find? c with | some a=>Uo T fb (ls.map q) s=aA (.rt (g a)) | none=>∃s',Uo T fb (ls.map q) s=aA (.nx s')/\S s'
 | [],s,_,h0=>⟨s,rfl,h0⟩
 | a::r,s,h,h0=>by
  obtain⟨s1,f,i,j⟩:=h a aa s h0;rw[List.find?_cons]
  cases ca:c a with
  | true=>
   show Uo T fb (q a::r.map q) s=_;unfold Uo;rw[f];simp only[aY,i ca]
  | false=>
   obtain⟨s2,n,k⟩:=j ca;have l:=RA S (ls:=r) (s:=s2) (λb m=>h b (aT _ m)) k
   have e:Uo T fb ((a::r).map q) s=Uo T fb (r.map q) s2:=by
    show Uo T fb (q a::r.map q) s=_;unfold Uo;rw[f];simp only[aY,n];cases r.map q<;>rfl
   rw[e];exact l
noncomputable def Xs(W:List (List Int))(D:List Int)(F:List Nat):Option Nat:=(aF W.length).find? λh=>!decide (h∈F)&&decide (Zl D h<XW W h F)
noncomputable def PL:Option Nat->PV
 | none=>.non
 | some h=>.int (h:Int)
theorem K5(y:Nat)(l:List Nat):IQ aC (.int (y:Int)) (.lst (iL (nL l)))=aA (.bl (!decide (y∈l))):=by rw[C8];have:=FP (y:=y) (l:=l);simp[this]
theorem DV(y:Nat)(l:List Nat):IQ aB (.int (y:Int)) (.lst (iL (nL l)))=aA (.bl (decide (y∈l))):=by rw[C8];have:=FP (y:=y) (l:=l);simp[this]
theorem RD{W:List (List Int)}{D:List Int}{F:List Nat}(ok:ZE W)(k:D.length=W.length)(m:∀x∈F,x<W.length)(j:F.length<=100):Z5 [wP W,pP D,.lst (iL (nL F))]=aA (PL (Xs W D F)):=by
 have a:=RA (T:=.many [3,4]) (fb:=Tj (MV (xB (Zk (IQ aC) (Za 3) (Za 2))) (xB (Zk MA (Za 4) (Zc Vw [Za 0,Za 3,Za 2])))) (ZK (eP (Za 3))) Yq) (q:=λ(i:Nat)=>.tup [.int (i:Int),.int (Zl D i)]) (g:=λi=>.int (i:Int)) (c:=λh=>!decide (h∈F)&&decide (Zl D h<XW W h F))
  (λst=>∃x y,st=[aA (wP W),aA (pP D),aA (.lst (iL (nL F))),x,y]) (ls:=aF W.length) (s:=[aA (wP W),aA (pP D),aA (.lst (iL (nL F))),none,none]) (by
   rintro h d st ⟨x,y,rfl⟩;have d:=aS.mp d;have e:=K4 ok d m j;refine⟨_,rfl,λb=>?_,λb=>?_⟩
   ·simp only[ba] at b;simp[setAll,K5,b.1,e,b.2]
   ·refine⟨[aA (wP W),aA (pP D),aA (.lst (iL (nL F))),aA (.int (h:Int)),aA (.int (Zl D h))],?_,_,_,rfl⟩;by_cases q:h∈F
    ·simp[setAll,K5,q]
    ·have:¬Zl D h<XW W h F:=λz=>by simp[q,z] at b
     simp[setAll,K5,q,e,this]) ⟨_,_,rfl⟩
 have f:XB aB [Za 1] [aA (wP W),aA (pP D),aA (.lst (iL (nL F))),none,none]=aA ((aF W.length).map λi=>.tup [.int (i:Int),.int (Zl D i)]):=by have:=Qw D;rw[k] at this;simp[this]
 show(Zp (Xo [] _ _ _) _ [aA (wP W),aA (pP D),aA (.lst (iL (nL F))),none,none]).bind SH=_;unfold Xs
 cases q:(aF W.length).find? λh=>!decide (h∈F)&&decide (Zl D h<XW W h F) with
 | some h=>
  rw[q] at a;rw[DT]
  ·rfl
  ·show(XB aB [Za 1] [aA (wP W),aA (pP D),aA (.lst (iL (nL F))),none,none]).bind _=_;rw[f];exact a
 | none=>
  rw[q] at a;obtain⟨n,l,x,y,rfl⟩:=a;rw[VB]
  ·rfl
  ·show(XB aB [Za 1] [aA (wP W),aA (pP D),aA (.lst (iL (nL F))),none,none]).bind _=_;rw[f];exact l
theorem AL{c:XT}{fb:XS}(g:ZF->Prop)(i:ZF->Nat)(step:∀st,g st->c st=aA aB\/(c st=aA aC/\∃s2,fb st=aA (.nx s2)/\g s2/\i s2<i st)){s:ZF}(o:g s) :
  ∃f,Xp c fb s=aA (.nx f)/\g f/\c f=aA aB:=by
 have l:∀(k:Nat)(st:ZF),i st<k->g st->∃f,YH c fb k st=aA (.nx f)/\g f/\c f=aA aB:=by
  intro k
  induction k with
  | zero=>intro st h;omega
  | succ k ih=>
   intro st p n;rcases step st n with j | ⟨j,s2,e,m,q⟩
   ·exact⟨st,by unfold YH;rw[j];rfl,n,j⟩
   ·obtain⟨f,a,b,d⟩:=ih s2 (by omega) m;refine⟨f,?_,b,d⟩;unfold YH;rw[j];simp only[e];exact a
 obtain⟨f,a,b,d⟩:=l (i s+1) s (by omega) o;exact⟨f,OU a,b,d⟩
structure Burn(W:List (List Int))(D:List Int)(b:Nat)(F:List Nat):Prop where
 nd:F.Nodup
 lt:∀x∈F,x<W.length
 hd:F[0]?=aA b
 st:∀k,1<=k->k<F.length->Xs W D (F.take k)=F[k]?
theorem Burn.len{W:List (List Int)}{D:List Int}{b:Nat}{F:List Nat}(h:Burn W D b F):F.length<=W.length:=by
 have c:(nL F).Nodup:=List.Pairwise.map _ (λa b z=>by omega) h.nd;have:=PH c λy d=>by obtain⟨a,e,rfl⟩:=bc.mp d;exact bc.mpr ⟨a,aS.mpr (h.lt a e),rfl⟩
 simpa [nL] using this
theorem Burn.pos{W:List (List Int)}{D:List Int}{b:Nat}{F:List Nat}(h:Burn W D b F):1<=F.length:=(aQ.mp h.hd).1
theorem Burn.one{W:List (List Int)}{D:List Int}{b:Nat}(d:b<W.length):Burn W D b [b]:=⟨by simp,λx c=>by rw[ah.mp c];exact d,rfl,λk e a=>by simp at a;omega⟩
theorem PN{W:List (List Int)}{D:List Int}{F:List Nat}{h:Nat}(e:Xs W D F=aA h):h<W.length/\h∉F/\Zl D h<XW W h F:=by have a:=k6 e;have b:=iM e;simp only[ba,Bool.not_eq_true',decide_eq_false_iff_not,decide_eq_true_eq] at a;exact⟨aS.mp b,a⟩
theorem K6{W:List (List Int)}{D:List Int}{F:List Nat}(e:Xs W D F=none){h:Nat}(a:h<W.length)(b:h∉F):XW W h F<=Zl D h:=by have:=jl.mp e h (aS.mpr a);simp[b] at this;exact this
theorem Burn.add{W:List (List Int)}{D:List Int}{b h:Nat}{F:List Nat}(B:Burn W D b F)(e:Xs W D F=aA h):Burn W D b (F++[h]):=by
 obtain⟨l,j,_⟩:=PN e;have n:=B.pos;refine⟨?_,λx d=>?_,?_,λk m f=>?_⟩
 ·rw[fM];exact⟨B.nd,by simp,λa g c i z=>by rw[ah.mp i] at z;exact j (z▸g)⟩
 ·rcases b6.mp d with d | d
  ·exact B.lt x d
  ·rw[ah.mp d];exact l
 ·rw[aZ (by omega)];exact B.hd
 ·rw[au,eH] at f;by_cases q:k<F.length
  ·rw[List.take_append_of_le_length (by omega),aZ q];exact B.st k m q
  ·have:k=F.length:=by omega
   subst this;rw[k7,e]
   ·simp
   ·rfl
theorem FQ{W:List (List Int)}{D:List Int}{b:Nat}(ok:ZE W)(m:D.length=W.length)(i:b<W.length):∃F,Qp [wP W,pP D,.int (b:Int)]=aA (.lst (iL (nL F)))/\Burn W D b F/\Xs W D F=none:=by
 have o:=ok.few;have f:∀F:List Nat,Burn W D b F->Z5 [wP W,pP D,.lst (iL (nL F))]=aA (PL (Xs W D F)):=λF B=>RD ok m B.lt (by have:=B.len;omega)
 obtain⟨p,k,⟨F,rfl,B⟩,g⟩:=AL (c:=xB (Uu aC (Za 4))) (fb:=Zp (Xd 3 (eP (Za 4))) (Zr 4 (Zc Z5 [Za 0,Za 1,Za 3])))
  (λst=>∃F,st=[aA (wP W),aA (pP D),aA (.int (b:Int)),aA (.lst (iL (nL F))),aA (PL (Xs W D F))]/\Burn W D b F)
  (λst=>match st[3]? with | some (aA (PV.lst l))=>8-l.length | _=>0) (by
   rintro st ⟨F,rfl,B⟩
   cases e:Xs W D F with
   | none=>exact .inl rfl
   | some h=>
    have B':=B.add e;have j:=B'.len;rw[au] at j;refine .inr ⟨by simp[GG,PL],[aA (wP W),aA (pP D),aA (.int (b:Int)),aA (.lst (iL (nL (F++[h])))),aA (PL (Xs W D (F++[h])))],?_,⟨F++[h],rfl,B'⟩,?_⟩
    ·have a:Xd 3 (eP (Za 4)) [aA (wP W),aA (pP D),aA (.int (b:Int)),aA (.lst (iL (nL F))),aA (PL (aA h))]=aA (.nx [aA (wP W),aA (pP D),aA (.int (b:Int)),aA (.lst (iL (nL (F++[h])))),aA (PL (aA h))]):=by rw[Tn (l:=.int (h:Int)) rfl rfl (by simp[nL];omega)];simp[nL]
     have d:Zr 4 (Zc Z5 [Za 0,Za 1,Za 3]) [aA (wP W),aA (pP D),aA (.int (b:Int)),aA (.lst (iL (nL (F++[h])))),aA (PL (aA h))]=aA (.nx [aA (wP W),aA (pP D),aA (.int (b:Int)),aA (.lst (iL (nL (F++[h])))),aA (PL (Xs W D (F++[h])))]):=by have:=f _ B';simp[this]
     rw[VB a,d]
    ·show 8-(iL (nL (F++[h]))).length<8-(iL (nL F)).length;simp[nL];omega) ⟨[b],rfl,Burn.one i⟩
 have n:Xs W D F=none:=by
  cases e:Xs W D F with
  | none=>rfl
  | some h=>rw[e] at g;simp[GG,PL] at g
 refine⟨F,?_,B,n⟩;have a:Zr 3 (WX [eP (Za 2)]) [aA (wP W),aA (pP D),aA (.int (b:Int)),none,none]=aA (.nx [aA (wP W),aA (pP D),aA (.int (b:Int)),aA (.lst (iL (nL [b]))),none]):=by simp[nL]
 have d:Zr 4 (Zc Z5 [Za 0,Za 1,Za 3]) [aA (wP W),aA (pP D),aA (.int (b:Int)),aA (.lst (iL (nL [b]))),none]=aA (.nx [aA (wP W),aA (pP D),aA (.int (b:Int)),aA (.lst (iL (nL [b]))),aA (PL (Xs W D [b]))]):=by have:=f _ (Burn.one i);simp[this]
 show(Zp _ _ [aA (wP W),aA (pP D),aA (.int (b:Int)),none,none]).bind SH=_;rw[VB a,VB d,VB k];rfl
theorem Burn.uniq{W:List (List Int)}{D:List Int}{b:Nat}{F G:List Nat}(c:Burn W D b F)(d:Burn W D b G)(g:Xs W D F=none)(f:Xs W D G=none):F=G:=by
 have m:=c.pos;have i:=d.pos
 have pre:∀k,k<=F.length->k<=G.length->F.take k=G.take k:=by
  intro k
  induction k with
  | zero=>intros;simp
  | succ k ih=>
   intro l j;have e:=ih (by omega) (by omega);rw[ko,ko,e];congr 1;by_cases q:k=0
   ·subst q;rw[c.hd,d.hd]
   ·rw[<-c.st k (by omega) (by omega),<-d.st k (by omega) (by omega),e]
 rcases kF F.length G.length with h | h | h
 ·have:=pre F.length (by omega) (by omega);rw[fA] at this;have a:=d.st F.length (by omega) h;rw[<-this,g,aG h] at a;cases a
 ·have:=pre F.length (by omega) (by omega);rw[fA,h,fA] at this;exact this
 ·have:=pre G.length (by omega) (by omega);rw[fA] at this;have a:=c.st G.length (by omega) h;rw[this,f,aG h] at a;cases a
noncomputable def XC(D:List Int)(b:Nat):List Nat:=(aF D.length).filter λh=>!decide (h=b)&&decide (Zl D h<0)
theorem PQ{D:List Int}{b:Nat}(f:D.length<=1000):Y3 [pP D,.int (b:Int)]=aA (.lst (iL (nL (XC D b)))):=by
 have c:XB aB [Za 0] [aA (pP D),aA (.int (b:Int))]=aA ((aF D.length).map λi=>.tup [.int (i:Int),.int (Zl D i)]):=by have:=Qw D;simp[this]
 have d:Zt 2 [1] (XB aB [Za 0]) (.many [0,1]) (MV (xB (Zk (Wr aC) (Za 0) (Za 2))) (xB (Zk MA (Za 1) (eC (.int 0))))) (eP (Za 0)) [aA (pP D),aA (.int (b:Int))]=aA (.lst (iL (nL (XC D b)))):=by
  rw[V0 (aF D.length) (λi=>.tup [.int (i:Int),.int (Zl D i)]) (λi=>.int (i:Int)) (λh=>!decide (h=b)&&decide (Zl D h<0)) c (by simp;omega) λy e=>⟨[aA (.int (y:Int)),aA (.int (Zl D y)),aA (.int (b:Int))],by simp[ZR,IY],?_,λ_=>by simp⟩]
  ·unfold nL XC iL;rw[dF];rfl
  ·by_cases q:y=b
   ·subst q;simp
   ·have a:¬(y:Int)=(b:Int):=by omega
    simp[q,a]
 show(ZK _ [aA (pP D),aA (.int (b:Int))]).bind SH=_;rw[Lp d];rfl
theorem debt_nil{D:List Int}{b:Nat}:XC D b=[]↔∀h,h<D.length->h≠b->0<=Zl D h:=by
 unfold XC;rw[List.filter_eq_nil_iff];constructor
 ·intro h x a c;have:=h x (aS.mpr a);simp[c] at this;exact this
 ·intro h x a;by_cases q:x=b
  ·simp[q]
  ·have:=h x (aS.mp a) q;simp[q];omega
theorem FR{D:List Int}{b h:Nat}:h∈XC D b↔h<D.length/\h≠b/\Zl D h<0:=by unfold XC;simp
end PW
set_option maxHeartbeats 2000000
namespace PW
open PySem L2 VL VX
section
variable {f g h k l:XE} {s s1:ZF} {a b c d e v r:PV} {i m:Nat} {F G:XS} {x y:XT} {o:Option JB} {p:Bool} {D:List PV->Option PV} {R:Option PV} {ls:List PV}
theorem Y9(q:F (ZJ m ls)=aA (.rt v)):YO m F ls=aA v:=by show(F (ZJ m ls)).bind SH=_;rw[q];rfl
theorem sq(q:F s=aA (.nx s1))(w:G s1=o):Zp F G s=o:=(VB q).trans w
theorem Zm(q:f s=aA v):Zr i f s=aA (.nx (s.set i (aA v))):=by rw[Yt,q];rfl
theorem ep(q:f s=aA v)(w:Ya v=aC:=by rfl):eP f s=aA v:=by rw[NI,q,aY,lQ w]
theorem Lr{l:List Int}(q:f s=aA (pP l)):eP f s=aA (pP l):=ep q (Z4 _)
theorem c1(q:f s=aA a)(w:D [a]=R):Zc D [f] s=R:=by show((f s).bind λx=>aA [x]).bind D=_;rw[q];exact w
theorem c2(q:f s=aA a)(c:g s=aA b)(w:D [a,b]=R):Zc D [f,g] s=R:=by rw[Y2,Zw,q,Zw,c];exact w
theorem c3(q:f s=aA a)(d:g s=aA b)(e:h s=aA c)(w:D [a,b,c]=R):Zc D [f,g,h] s=R:=by rw[Y2,Zw,q,Zw,d,Zw,e];exact w
theorem c4(q:f s=aA a)(i:g s=aA b)(j:h s=aA c)(e:k s=aA d)(w:D [a,b,c,d]=R):Zc D [f,g,h,k] s=R:=by rw[Y2,Zw,q,Zw,i,Zw,j,Zw,e];exact w
theorem c5(q:f s=aA a)(m:g s=aA b)(n:h s=aA c)(j:k s=aA d)(i:l s=aA e)(w:D [a,b,c,d,e]=R):Zc D [f,g,h,k,l] s=R:=by rw[Y2,Zw,q,Zw,m,Zw,n,Zw,j,Zw,i];exact w
theorem o2{op:PV->PV->Option PV}(q:f s=aA a)(c:g s=aA b)(w:op a b=R):Zk op f g s=R:=by rw[VY,q,c];exact w
theorem xb(q:f s=aA (.bl p)):xB f s=aA p:=by rw[NJ,q];rfl
theorem xn(q:x s=aA p):Nx x s=aA !p:=by rw[GZ,q];rfl
theorem xo{p2:Bool}(q:x s=aA p)(a:y s=aA p2):IL x y s=aA (p || p2):=by
 rw[Dr,q];cases p
 ·exact a
 ·rfl
theorem ea{p2:Bool}(q:f s=aA (.bl p))(a:g s=aA (.bl p2)):L8 f g s=aA (.bl (p&&p2)):=by
 rw[G0,xb q];cases p
 ·rfl
 ·exact a
theorem JW(q:x s=aA aB):Tj x F Yq s=aA (.nx s):=by rw[UX,q];rfl
theorem ret(q:f s=aA v):ZK f s=aA (.rt v):=Lp q
theorem neq{l:List Int}(q:f s=aA (pP l))(a:g s=aA (pP l)):xB (Zk (Wr aC) f g) s=aA aB:=xb (o2 q a (by simp))
end
theorem DW{f g:XE}{s:ZF}{l:List Int}{k:Nat}(b:f s=aA (pP l))(a:g s=aA (.int (k:Int)))(h:k<l.length):Up R7 f So (WN g) s=aA (pP (l.take k)):=by rw[Xq,b];simp only[aY,Qm];unfold WN;rw[a];simp only[aY];unfold R7;simp only[];rw[lU,Mf];rw[HT.sIx_none,HT.sIx_nat,aM];omega
theorem DX{f g:XE}{s:ZF}{l:List Int}{k:Nat}(b:f s=aA (pP l))(a:g s=aA (.int (k:Int)))(h:k<l.length):Up R7 f (WN (Zk Ym g (eC (.int 1)))) So s=aA (pP (l.drop (k+1))):=by
 have a:Zk Ym g (eC (.int 1)) s=aA (.int ((k+1:Nat):Int)):=by rw[VY,a];rfl
 rw[Xq,b];simp only[aY,Qm];unfold WN;rw[a];simp only[aY];unfold R7;simp only[];rw[lU,Mg];rw[HT.sIx_none,HT.sIx_nat,aM];omega
theorem JX{a b:List Int}(h:a.length+b.length<=1000):OZ (pP a) (pP b)=aA (pP (a++b)):=by unfold OZ;simp only[];rw[lQ (by rw[aM,aM];omega),<-cT]
noncomputable def YQ(F:XS)(s:ZF)(Q:PV->Prop):Prop:=∃v,F s=aA (.rt v)/\Q v
noncomputable def Wo(F:XS)(s:ZF)(R:ZF->Prop):Prop:=∃s1,F s=aA (.nx s1)/\R s1
section
variable {F G:XS} {s s1:ZF} {Q:PV->Prop} {R:ZF->Prop} {v:PV} {f g:XE} {x:XT} {p:Bool} {m i k n:Nat} {ls:List PV} {O:List Nat} {fi:XL} {T:Tgt} {fb:XS} {a b:Int}
theorem Uk(h:YQ F (ZJ m ls) Q):∃v,YO m F ls=aA v/\Q v:=by obtain⟨v,e,q⟩:=h;exact⟨v,Y9 e,q⟩
theorem Sg(h:YQ F (ZJ m ls) λw=>w=v):YO m F ls=aA v:=by obtain⟨_,e,rfl⟩:=Uk h;exact e
theorem ZD(q:F s=aA (.nx s1))(h:YQ G s1 Q):YQ (Zp F G) s Q:=by obtain⟨v,e,a⟩:=h;exact⟨v,sq q e,a⟩
theorem XD(h:Wo F s R)(a:∀s1,R s1->YQ G s1 Q):YQ (Zp F G) s Q:=by obtain⟨s1,e,r⟩:=h;exact ZD e (a s1 r)
theorem Yu(q:f s=aA v)(h:Q v):YQ (ZK f) s Q:=⟨v,ret q,h⟩
theorem FT(q:x s=aA aC)(h:YQ F s Q):YQ (Zp (Tj x F Yq) G) s Q:=by obtain⟨v,e,a⟩:=h;exact⟨v,DT (by rw[UX,q];exact e),a⟩
theorem RE(q:F s=aA (.nx s1))(h:R s1):Wo F s R:=⟨s1,q,h⟩
theorem Z3(q:F s=aA (.nx s1))(h:Wo G s1 R):Wo (Zp F G) s R:=by obtain⟨s2,e,r⟩:=h;exact⟨s2,sq q e,r⟩
theorem JY{R2:ZF->Prop}(h:Wo F s R)(a:∀s1,R s1->Wo G s1 R2):Wo (Zp F G) s R2:=by obtain⟨s1,e,r⟩:=h;exact Z3 e (a s1 r)
theorem DY{R2:ZF->Prop}(h:Wo F s R)(a:∀s1,R s1->R2 s1):Wo F s R2:=by obtain⟨s1,e,r⟩:=h;exact⟨s1,e,a s1 r⟩
theorem Ls(q:x s=aA p)(a:p=aC->Wo F s R)(b:p=aB->Wo G s R):Wo (Tj x F G) s R:=by
 unfold Wo;rw[UX,q];cases p
 ·exact b rfl
 ·exact a rfl
theorem RF(I:Nat->ZF->Prop)(b:fi (Xh O s)=aA ls)(c:I 0 s)(st:∀i l s,ls[i]?=aA l->I i s->∃s1,Xn T l s=aA s1/\Wo fb s1 (I (i+1))):Wo (Xo O fi T fb) s (I ls.length):=by
 obtain⟨f,e,q⟩:=M6 I c λi l s g h=>by obtain⟨s1,d,s2,j,a⟩:=st i l s g h;exact⟨s1,s2,d,j,a⟩
 refine⟨f,?_,q⟩;unfold Xo;rw[b];exact e
theorem PR(I:Nat->ZF->Prop)(c:f (Xh O s)=aA (.int (n:Int)))(b:I 0 s)(st:∀i s,i<n->I i s->Wo fb (s.set k (aA (.int (i:Int)))) (I (i+1)))(e:n<=10000:=by omega):Wo (Xo O (Yp [f]) (.one k) fb) s (I n):=by
 have:=RF (T:=.one k) (fb:=fb) I (YC c e) b λi l s d h=>by obtain⟨a,rfl⟩:=G4 d;exact⟨_,rfl,st i s a h⟩
 rwa [G6] at this
theorem C9(I:Nat->ZF->Prop)(b:f (Xh O s)=aA (.int (m:Int)))(j:g (Xh O s)=aA (.int (n:Int)))(c:I m s)(st:∀i s,m<=i->i<n->I i s->Wo fb (s.set k (aA (.int (i:Int)))) (I (i+1)))(a:m<=n:=by omega)(p:n<=10000:=by omega):Wo (Xo O (Uw [f,g]) (.one k) fb) s (I n):=by
 have e:((n:Int)-(m:Int)).toNat=n-m:=by omega
 have:=RF (T:=.one k) (fb:=fb) (λi=>I (m+i)) (SI b j (by omega) (by omega)) c λi l s d h=>by obtain⟨o,rfl⟩:=G5 d;exact⟨_,rfl,st (m+i) s (by omega) (by omega) h⟩
 rwa [G7,e,show m+(n-m)=n by omega] at this
theorem DZ{d:Type}{L:List d}{q g:d->PV}(c:d->Bool)(I:ZF->Prop)(l:fi (Xh O s)=aA (L.map q))(m:I s)(st:∀a∈L,∀s,I s->∃s1,Xn T (q a) s=aA s1/\(c a=aC->fb s1=aA (.rt (g a)))/\(c a=aB->Wo fb s1 I))(f:∀a,L.find? c=aA a->Q (g a))(j:L.find? c=none->∀s1,I s1->YQ G s1 Q):YQ (Zp (Xo O fi T fb) G) s Q:=by
 have b:=RA (T:=T) (fb:=fb) (g:=g) I st m;have e:∀o,Uo T fb (L.map q) s=o->Xo O fi T fb s=o:=λo h=>by unfold Xo;rw[l];exact h
 cases z:L.find? c with
 | some a=>rw[z] at b;exact⟨_,DT (e _ b),f a z⟩
 | none=>
  rw[z] at b;obtain⟨s1,k,i⟩:=b;exact ZD (e _ k) (j z s1 i)
theorem goT{o:Option JB}(q:x s=aA aC)(w:F s=o):Tj x F G s=o:=by rw[UX,q];exact w
theorem Zbo{b:Type}{L:List b}{q g:b->PV}{H:XS}(c:b->Bool)(I:ZF->Prop)(f:fi (Xh O s)=aA (L.map q))(o:I s)(st:∀a∈L,∀s,I s->∃s1,Xn T (q a) s=aA s1/\x s1=aA (c a)/\H s1=aA (.rt (g a))/\I s1)(m:∀a,L.find? c=aA a->Q (g a))(j:L.find? c=none->∀s1,I s1->YQ G s1 Q):YQ (Zp (Xo O fi T (Tj x H Yq)) G) s Q:=
 DZ (g:=g) c I f o (λa k s i=>by
  obtain⟨s1,e,d,n,l⟩:=st a k s i;exact⟨s1,e,λh=>goT (by rw[d,h]) n,λh=>RE (JW (by rw[d,h])) l⟩) m j
theorem Zbp{X:List Nat}(I:Nat->ZF->Prop)(a:fi (Xh O s)=aA (iL (nL X)))(c:I 0 s)(st:∀i s (h:i<X.length),I i s->Wo fb (s.set k (aA (.int ((X[i]:Nat):Int)))) (I (i+1))):Wo (Xo O fi (.one k) fb) s (I X.length):=by
 have:=RF (T:=.one k) (fb:=fb) I a c λi l s b h=>by
  have a:i<X.length:=by have:=(aQ.mp b).1;simpa [nL] using this
  have e:l = .int ((X[i]:Nat):Int):=by rw[NK (by simpa [nL] using a)] at b;rw[<-aw b];simp[nL,Zl,a]
  subst e;exact⟨_,rfl,st i s a h⟩
 rwa [show(iL (nL X)).length=X.length by simp[nL]] at this
theorem vmd(q:f s=aA (.int a))(c:g s=aA (.int b))(h:0<b:=by omega):Zk Wc f g s=aA (.int (a%b)):=vC q c h
theorem vdv(q:f s=aA (.int a))(c:g s=aA (.int b))(h:0<b:=by omega)(d:b<=10000:=by omega):Zk QT f g s=aA (.int (a/b)):=vC q c (Az h d)
theorem HD(q:f s=aA (.int a))(c:g s=aA (.int b)):Zk Ym f g s=aA (.int (a+b)):=vI q c
theorem HZ(q:f s=aA (.int a))(c:g s=aA (.int b)):Zk Wb f g s=aA (.int (a-b)):=vI q c
theorem vlt{a b:Nat}(q:f s=aA (.int (a:Int)))(c:g s=aA (.int (b:Int))):Zk MA f g s=aA (.bl (decide (a<b))):=o2 q c (by
 show aA (PV.bl (decide ((a:Int)<(b:Int))))=_;rw[decide_eq_decide.mpr Int.ofNat_lt])
theorem vgt{a b:Nat}(q:f s=aA (.int (a:Int)))(c:g s=aA (.int (b:Int))):Zk L5 f g s=aA (.bl (decide (b<a))):=o2 q c (by
 show aA (PV.bl (decide ((a:Int)>(b:Int))))=_;rw[decide_eq_decide.mpr Int.ofNat_lt])
theorem H9(q:f s=aA (.int a))(c:g s=aA (.int b)):Zk (Wr aB) f g s=aA (.bl (decide (a=b))):=o2 q c (by rw[VZ];rfl)
theorem un1{op:PV->Option PV}{S:Option PV}(q:f s=aA v)(w:op v=S):GI op f s=S:=by unfold GI;rw[q];exact w
theorem FU{S:Option PV}(q:x s=aA aC)(w:f s=S):IM x f g s=S:=by rw[Qn,q];exact w
theorem FV{S:Option PV}(q:x s=aA aB)(w:g s=S):IM x f g s=S:=by rw[Qn,q,aY,lU (by decide)];exact w
theorem Mi{a:Type}(h:a->PV){L:List a}{y:a}(q:f s=aA (h y))(b:M3 s i=aA (L.map h))(c:L.length<=9000):Xd i f s=aA (.nx (s.set i (aA (.lst ((L++[y]).map h))))):=by rw[Tn q b (by rw[aM];omega),cT];rfl
theorem AM{l:List Int}(q:f s=aA (.int (Zl l k)))(b:M3 s i=aA (iL (l.take k)))(a:k<l.length)(d:l.length<=9000):Xd i f s=aA (.nx (s.set i (aA (.lst (iL (l.take (k+1))))))):=by
 have e:l.take (k+1)=l.take k++[Zl l k]:=by rw[gV a];simp[Zl,aD,aG a]
 rw[Tn q b (by simp;omega),e];have c:iL (l.take k++[Zl l k])=iL (l.take k)++[PV.int (Zl l k)]:=cT;rw[c]
theorem AN(Q:List Int):W0 (iL Q)=(aF Q.length).map λ(i:Nat)=>.tup [.int (i:Int),.int (Zl Q i)]:=by
 rw[W5,aM];exact ao λi a=>by rw[YI Q i (aS.mp a)]
theorem Ul{W:List (List Int)}:Ys [wP W]=aA (.int (W.length:Int)):=by show aA (PV.int ((W.map pP).length:Int))=_;rw[aM]
theorem Zdg{W:List (List Int)}{a b:Nat}{h:XE}(i:a<W.length)(e:b<(ZH W a).length)(q:f s=aA (wP W))(c:g s=aA (.int (a:Int)))(d:h s=aA (.int (b:Int))):Zk ZN (Zk ZN f g) h s=aA (.int (ZZ W a b)):=o2 (o2 q c (UZ i)) d (YN e)
theorem FW{l:List Int}(q:f s=aA (.int (k:Int)))(d:g s=aA (.int a))(c:M3 s i=aA (iL l))(b:k<l.length):XI i f g s=aA (.nx (s.set i (aA (.lst (iL (l.set k a)))))):=by rw[OY d q c (Z4 _) rfl (U0 (by rw[aM];exact b)),<-kD]
theorem FX{o:List Int}(q:f s=aA (.int (n:Int)))(b:g s=aA (.int a))(c:M3 s i=aA (iL o))(d:n<=1000)(e:o.length<=1000):UT i f g s=aA (.nx (s.set i (aA (.lst (iL (o.take n++a::o.drop n)))))):=by rw[Kk q b c (Z4 o) rfl (by omega) (by omega) (by rw[aM];omega),cK,AJ]
end
end PW
namespace PW
noncomputable def sN:Nat->(Nat->Int)->Int
 | 0,_=>0
 | n+1,f=>sN n f+f n
theorem Zi{f g:Nat->Int}:∀{n:Nat},(∀i,i<n->f i=g i)->sN n f=sN n g
 | 0,_=>rfl
 | n+1,h=>by show sN n f+f n=sN n g+g n;rw[Zi λi a=>h i (by omega),h n (by omega)]
theorem Xf{f:Nat->Int}{n:Nat}(h:∀i,i<n->f i=0):sN n f=0:=by
 rw[Zi h];clear h
 induction n with
 | zero=>rfl
 | succ n ih=>show sN n _+0=0;rw[ih];rfl
theorem ZY(f g:Nat->Int):∀n,sN n (λi=>f i+g i)=sN n f+sN n g
 | 0=>rfl
 | n+1=>by show sN n _+(f n+g n)=(sN n f+f n)+(sN n g+g n);rw[ZY f g n];omega
theorem ZC(c:Int)(f:Nat->Int):∀n,sN n (λi=>c*f i)=c*sN n f
 | 0=>by show(0:Int)=c*0;simp
 | n+1=>by show sN n _+c*f n=c*(sN n f+f n);rw[ZC c f n,fP]
theorem Sh(f:Nat->Nat->Int)(m:Nat):∀n,sN n (λi=>sN m (f i))=sN m (λj=>sN n λi=>f i j)
 | 0=>by show(0:Int)=sN m λ_=>0;rw[Xf (λ_ _=>rfl)]
 | n+1=>by show sN n (λi=>sN m (f i))+sN m (f n)=sN m (λj=>(sN n λi=>f i j)+f n j);rw[ZY,Sh f m n]
theorem Z6{f:Nat->Int}{k:Nat}:∀{n:Nat},k<n->(∀i,i<n->i≠k->f i=0)->sN n f=f k
 | 0,h,_=>by omega
 | n+1,h,z=>by
  show sN n f+f n=f k;by_cases q:k=n
  ·subst q;rw[Xf λi a=>z i (by omega) (by omega)];omega
  ·rw[Z6 (n:=n) (by omega) λi a=>z i (by omega),z n (by omega) (by omega)];omega
theorem FY{f:Nat->Int}{k:Nat}:∀{n:Nat},k+1<n->(∀i,i<n->i≠k->i≠k+1->f i=0)->sN n f=f k+f (k+1)
 | 0,h,_=>by omega
 | n+1,h,z=>by
  show sN n f+f n=_;by_cases q:k+1=n
  ·subst q;rw[Z6 (k:=k) (by omega) λi b a=>z i (by omega) a (by omega)]
  ·rw[FY (n:=n) (by omega) λi b=>z i (by omega),z n (by omega) (by omega) (by omega)];omega
theorem Xt(f:Nat->Int)(n:Nat):((aF n).map f).sum=sN n f:=by
 induction n with
 | zero=>rfl
 | succ n ih=>rw[gn,cT,k4,ih];simp[sN]
abbrev Mt:=Nat->Nat->Int
noncomputable def Qe(i:Nat)(A:Mt):Mt:=λr c=>A (if r<i then r else r+1) (c+1)
noncomputable def sg:Nat->Int
 | 0=>1
 | n+1=>- sg n
noncomputable def Xz:Nat->Mt->Int
 | 0,_=>1
 | n+1,A=>sN (n+1) λi=>sg i*A i 0*Xz n (Qe i A)
theorem X5(n:Nat)(A:Mt):Xz (n+1) A=sN (n+1) λi=>sg i*A i 0*Xz n (Qe i A):=rfl
theorem WE:∀{n:Nat}{A B:Mt},(∀r c,r<n->c<n->A r c=B r c)->Xz n A=Xz n B
 | 0,_,_,_=>rfl
 | n+1,A,B,h=>by rw[X5,X5];refine Zi λi a=>?_;rw[h i 0 a (by omega),WE (n:=n) (A:=Qe i A) (B:=Qe i B) λr c b d=>?_];unfold Qe;exact h _ _ (by split<;>omega) (by omega)
theorem JZ:∀{n:Nat}{A B C:Mt}{k:Nat}{x y:Int},k<n->(∀r c,r<n->c<n->r≠k->A r c=C r c/\B r c=C r c)->(∀c,c<n->C k c=x*A k c+y*B k c)->Xz n C=x*Xz n A+y*Xz n B
 | 0,_,_,_,k,_,_,h,_,_=>by omega
 | n+1,A,B,C,k,x,y,hk,h1,h2=>by
  rw[X5,X5,X5,<-ZC,<-ZC,<-ZY];refine Zi λi f=>?_;by_cases q:i=k
  ·subst q;have l:Xz n (Qe i A)=Xz n (Qe i C):=WE λr c d b=>by unfold Qe;exact(h1 _ _ (by split<;>omega) (by omega) (by split<;>omega)).1
   have m:Xz n (Qe i B)=Xz n (Qe i C):=WE λr c d b=>by unfold Qe;exact(h1 _ _ (by split<;>omega) (by omega) (by split<;>omega)).2
   rw[l,m,h2 0 (by omega),fP,jS];simp only[bh,cZ]
  ·obtain⟨g,j⟩:=h1 i 0 f (by omega) q
   have e:Xz n (Qe i C)=x*Xz n (Qe i A)+y*Xz n (Qe i B):=JZ (k:=if k<i then k else k-1) (by split<;>omega) (λr c d b a=>by
    unfold Qe
    exact h1 _ _ (by split<;>omega) (by omega) (by split at a<;>split<;>omega)) (λc b=>by
    have e:(if(if k<i then k else k-1)<i then(if k<i then k else k-1) else(if k<i then k else k-1)+1)=k:=by split<;>(try split)<;>omega
    unfold Qe;rw[e];exact h2 (c+1) (by omega))
   rw[g,j,e,fP];simp only[bh,cZ]
theorem Qy:∀{n:Nat}{A:Mt}{k:Nat},k+1<n->(∀c,c<n->A k c=A (k+1) c)->Xz n A=0
 | 0,_,k,h,_=>by omega
 | n+1,A,k,hk,he=>by
  rw[X5,FY hk]
  ·have e:Xz n (Qe k A)=Xz n (Qe (k+1) A):=WE λr c m b=>by
    unfold Qe;by_cases q:r<k
    ·rw[lQ q,lQ (by omega)]
    ·rw[lU q];by_cases a:r=k
     ·subst a;rw[lQ (by omega)];exact(he (c+1) (by omega)).symm
     ·rw[lU (by omega)]
   rw[e,he 0 (by omega)];show sg k*_*_ + - sg k*_*_=0;rw[cC,cC];omega
  ·intro i l g j;rw[Qy (n:=n) (A:=Qe i A) (k:=if k+1<i then k else k-1) (by split<;>omega) λc b=>?_,bz];have d:(if(if k+1<i then k else k-1)<i then(if k+1<i then k else k-1) else(if k+1<i then k else k-1)+1)=k:=by split<;>(try split)<;>omega
   have f:(if(if k+1<i then k else k-1)+1<i then(if k+1<i then k else k-1)+1 else(if k+1<i then k else k-1)+1+1)=k+1:=by split<;>(try split)<;>omega
   unfold Qe;rw[d,f];exact he (c+1) (by omega)
noncomputable def X6(k:Nat)(v:Nat->Int)(A:Mt):Mt:=λr=>if r=k then v else A r
theorem YD(k:Nat)(v:Nat->Int)(A:Mt):X6 k v A k=v:=by unfold X6;rw[lQ rfl]
theorem WU{k r:Nat}(v:Nat->Int)(A:Mt)(h:r≠k):X6 k v A r=A r:=by unfold X6;rw[lU h]
theorem Si{n k:Nat}{A:Mt}{u v:Nat->Int}{x y:Int}(a:k<n):Xz n (X6 k (λc=>x*u c+y*v c) A)=x*Xz n (X6 k u A)+y*Xz n (X6 k v A):=
 JZ a (λr c _ _ h=>by rw[WU _ _ h,WU _ _ h,WU _ _ h];exact⟨rfl,rfl⟩) (λc _=>by rw[YD,YD,YD])
noncomputable def swp(k:Nat)(A:Mt):Mt:=X6 k (A (k+1)) (X6 (k+1) (A k) A)
theorem D3{n k:Nat}{A:Mt}(d:k+1<n):Xz n (swp k A) = - Xz n A:=by
 have two:∀u v:Nat->Int,Xz n (X6 k (λc=>1*u c+1*v c) (X6 (k+1) (λc=>1*u c+1*v c) A))=0:=λu v=>Qy d λc _=>by rw[YD,WU _ _ (by omega),YD]
 have same:∀u:Nat->Int,Xz n (X6 k u (X6 (k+1) u A))=0:=λu=>Qy d λc _=>by rw[YD,WU _ _ (by omega),YD]
 have a:∀u v:Nat->Int,X6 k u (X6 (k+1) v A)=X6 (k+1) v (X6 k u A):=λu v=>by
  funext r;unfold X6;by_cases q:r=k
  ·rw[lQ q,lU (by omega),lQ q]
  ·rw[lU q];by_cases b:r=k+1
   ·rw[lQ b,lQ b]
   ·rw[lU b,lU b,lU q]
 have h:=two (A k) (A (k+1));rw[Si (by omega),a,Si d,a,Si d,<-a,<-a,<-a,<-a,same,same] at h
 have e:X6 k (A k) (X6 (k+1) (A (k+1)) A)=A:=by
  funext r;unfold X6;by_cases q:r=k
  ·rw[lQ q,q]
  ·rw[lU q];by_cases b:r=k+1
   ·rw[lQ b,b]
   ·rw[lU b]
 rw[e] at h;unfold swp;omega
theorem UK:∀(d:Nat){n i:Nat}{A:Mt},i+1+d<n->(∀c,c<n->A i c=A (i+1+d) c)->Xz n A=0
 | 0,n,i,A,h,e=>Qy h e
 | d+1,n,i,A,h,e=>by
  have a:Xz n (swp (i+1+d) A)=0:=UK d (n:=n) (i:=i) (by omega) λc b=>by unfold swp;rw[WU _ _ (by omega),WU _ _ (by omega),YD];exact e c b
  rw[D3 (by omega)] at a;omega
theorem Lu{n i j:Nat}{A:Mt}(d:i<n)(f:j<n)(a:i≠j)(e:∀c,c<n->A i c=A j c):Xz n A=0:=by
 rcases Nat.lt_or_gt_of_ne a with h | h
 ·exact UK (j-i-1) (i:=i) (by omega) λc b=>by rw[show i+1+(j-i-1)=j by omega];exact e c b
 ·exact UK (i-j-1) (i:=j) (by omega) λc b=>by rw[show j+1+(i-j-1)=i by omega];exact(e c b).symm
theorem Lv:∀{n:Nat}{A:Mt},(∀c,c<n->A n c=0)->Xz (n+1) A=A n n*Xz n A
 | 0,A,_=>by show 0+1*A 0 0*1=A 0 0*1;omega
 | n+1,A,h=>by
  rw[X5 (n+1)];show sN (n+1) _+sg (n+1)*A (n+1) 0*_=_;rw[h 0 (by omega),bz,cD,gs,X5 n,<-ZC];refine Zi λi a=>?_;rw[Lv (n:=n) (A:=Qe i A) λc b=>?_]
  ·have e:Qe i A n n=A (n+1) (n+1):=by unfold Qe;rw[lU (by omega)]
   rw[e];simp only[bh,cZ]
  ·unfold Qe;rw[lU (by omega)];exact h (c+1) (by omega)
theorem PU{n j:Nat}{A:Mt}{a:Nat->Int}{v:Nat->Nat->Int}(b:j<n):∀m,Xz n (X6 j (λc=>sN m λk=>a k*v k c) A)=sN m λk=>a k*Xz n (X6 j (v k) A)
 | 0=>by have:Xz n (X6 j (λc=>0*(0:Int)+0*(0:Int)) A)=0*Xz n (X6 j (λ_=>0) A)+0*Xz n (X6 j (λ_=>0) A):=Si (u:=λ_=>0) (v:=λ_=>0) b;simp only[cD,gs] at this;exact this
 | m+1=>by have:=Si (n:=n) (A:=A) (u:=λc=>sN m λk=>a k*v k c) (v:=v m) (x:=1) (y:=a m) b;simp only[fQ] at this;show Xz n (X6 j (λc=>(sN m λk=>a k*v k c)+a m*v m c) A)=_;rw[this,PU b m];rfl
theorem D4{n j:Nat}{A:Mt}{a:Nat->Int}(d:j<n):Xz n (X6 j (λc=>sN n λk=>a k*A k c) A)=a j*Xz n A:=by
 rw[PU d n,Z6 d]
 ·have:X6 j (A j) A=A:=by funext r;unfold X6;split<;>simp_all
  rw[this]
 ·intro i e b;rw[Lu e d b λc _=>by rw[WU _ _ b,YD],bz]
noncomputable def ME(n:Nat)(A:Mt)(i j:Nat):Int:=Xz n (X6 j (λc=>if c=i then 1 else 0) A)
theorem D5{n:Nat}{A:Mt}{j:Nat}(b:j<n)(v:Nat->Int):sN n (λi=>v i*ME n A i j)=Xz n (X6 j v A):=by
 unfold ME;rw[<-PU b n];refine WE λr c f d=>?_;unfold X6;split
 ·show sN n (λk=>v k*if c=k then 1 else 0)=v c;rw[Z6 d]
  ·simp
  ·intro i e a;rw[lU (λz=>a z.symm),bz]
 ·rfl
theorem Mj{n:Nat}{A:Mt}{k j:Nat}(b:k<n)(a:j<n):sN n (λi=>A k i*ME n A i j)=if k=j then Xz n A else 0:=by
 rw[D5 a];split
 ·rename_i h;subst h;have:X6 k (A k) A=A:=by funext r;unfold X6;split<;>simp_all
  rw[this]
 ·rename_i h;exact Lu b a h λc _=>by rw[WU _ _ h,YD]
theorem RG{f:Nat->Int}{q:Nat}:∀{m:Nat},q<=m->(∀k,q<=k->k<m->f k=0)->sN m f=sN q f
 | 0,h,_=>by rw[show q=0 by omega]
 | m+1,h,z=>by
  by_cases e:q=m+1
  ·rw[e]
  ·show sN m f+f m=_;rw[RG (m:=m) (by omega) (λk a b=>z k a (by omega)),z m (by omega) (by omega)];omega
theorem J0{f:Nat->Int}{q i:Nat}:∀{m:Nat},q<=i->i<m->(∀k,q<=k->k<m->k≠i->f k=0)->sN m f=sN q f+f i
 | 0,_,h,_=>by omega
 | m+1,hq,hi,z=>by
  show sN m f+f m=_;by_cases e:i=m
  ·subst e;rw[RG (q:=q) (by omega) λk a b=>z k a (by omega) (by omega)]
  ·rw[J0 (m:=m) hq (by omega) (λk a b=>z k a (by omega)),z m (by omega) (by omega) (λq=>e q.symm)];omega
noncomputable def Wq(m:Nat)(X:Mt):Nat->Mt×Int
 | 0=>(X,1)
 | p+1=>(λi j=>if i=p then(Wq m X p).1 i j else((Wq m X p).1 p p*(Wq m X p).1 i j-(Wq m X p).1 i p*(Wq m X p).1 p j).fdiv (Wq m X p).2,(Wq m X p).1 p p)
structure D6(m:Nat)(A X:Mt):Prop where
 sym:∀i j,i<m->j<m->A i j=A j i
 inj:∀p,p<=m->∀z:Nat->Int,(∀j,j<p->sN p (λk=>z k*A k j)=0)->∀k,k<p->z k=0
 ext:∀i j,i<m->j<m->X i j=A i j
structure Zdh(m p:Nat)(X:Mt)(E:Mt)(d:Int)(i:Nat)(a:Nat->Int):Prop where
 off:∀k,k<m->p<=k->k≠i->a k=0
 on:p<=i->a i=d
 val:∀j,j<=m->E i j=sN m (λk=>a k*X k j)
 uni:∀j,j<p->E i j=if i=j then d else 0
structure D7(m:Nat)(A X:Mt)(p:Nat)(E:Mt)(d:Int):Prop where
 de:d=Xz p A
 nz:d≠0
 row:∀i,i<m->∃a,Zdh m p X E d i a
theorem TH{m:Nat}{A X:Mt}{p:Nat}{E:Mt}{d:Int}(ok:D6 m A X)(Z:p<m)(I:D7 m A X p E d) :
  D7 m A X (p+1) (λi j=>if i=p then E i j else(E p p*E i j-E i p*E p j).fdiv d) (E p p)/\∀i j,i<m->j<=m->i≠p->∃q,E p p*E i j-E i p*E p j=d*q:=by
 obtain⟨w,t⟩:=I.row p Z;have M:=I.nz
 -- the pivot's row
 have x:∀j,j<m->E p j=sN (p+1) (λk=>w k*A k j):=λj g=>by
  rw[t.val j (by omega),RG (q:=p+1) (by omega) λk v u=>by rw[t.off k u (by omega) (by omega),cD]];exact Zi λk f=>by rw[ok.ext k j (by omega) g]
 have U:E p p=Xz (p+1) A:=by
  have v:=D4 (n:=p+1) (j:=p) (A:=A) (a:=w) (by omega);have u:=Lv (A:=X6 p (λc=>sN (p+1) λk=>w k*A k c) A) λc T=>by rw[YD];rw[<-x c (by omega),t.uni c T,lU (by omega)]
  have O:Xz p (X6 p (λc=>sN (p+1) λk=>w k*A k c) A)=Xz p A:=WE λr c hr T=>by rw[WU _ _ (by omega)]
  rw[YD,O,v,t.on (aJ p),<-I.de] at u;have h4:d*Xz (p+1) A=E p p*d:=by rw[u];rw[<-x p Z]
  have h5:d*(Xz (p+1) A)=d*E p p:=by rw[h4,bG]
  exact(iN M h5).symm
 have pz:E p p≠0:=λz=>by
  have:=ok.inj (p+1) (by omega) w (λj g=>by
   rw[<-x j (by omega)];by_cases q:j=p
   ·rw[q];exact z
   ·rw[t.uni j (by omega),lU (by omega)]) p (by omega)
  rw[t.on (aJ p)] at this;exact M this
 -- the s rows
 have s:∀i,i<m->i≠p->∃b:Nat->Int,(∀k,k<m->p+1<=k->k≠i->b k=0)/\(p+1<=i->b i=E p p)/\(∀l,l<p+1->sN m (λk=>b k*A k l)=if i=l then E p p else 0)/\∀j,j<=m->E p p*E i j-E i p*E p j=d*sN m (λk=>b k*X k j):=by
  intro i C o
  obtain⟨b,b1,b2,H⟩:∃b:Nat->Int,(∀k,k<m->p+1<=k->k≠i->b k=0)/\(p+1<=i->b i=E p p)/\(∀l,l<p+1->sN m (λk=>b k*A k l)=if i=l then E p p else 0):=by
   have R:∀j l,j<p+1->l<p+1->sN (p+1) (λk=>ME (p+1) A k j*A k l)=if l=j then E p p else 0:=λj l g y=>by
    rw[U,<-Mj y g];exact Zi λk f=>by rw[ok.sym l k (by omega) (by omega),bG]
   by_cases q:i<p
   ·obtain⟨b,B⟩:∃b:Nat->Int,∀k,b k=if k<p+1 then ME (p+1) A k i else 0:=⟨_,λ_=>rfl⟩
    refine⟨b,λk f v _=>by rw[B,lU (by omega)],λh=>by omega,λl y=>?_⟩;rw[RG (q:=p+1) (by omega) λk v u=>by rw[B,lU (by omega),cD]];rw[Zi λk f=>by rw[B,lQ f],R i l (by omega) y];by_cases e:i=l
    ·rw[lQ e,lQ e.symm]
    ·rw[lU e,lU (λz=>e z.symm)]
   ·obtain⟨b,B⟩:∃b:Nat->Int,∀k,b k=if k<p+1 then-sN (p+1) (λj=>A i j*ME (p+1) A k j) else if k=i then E p p else 0:=⟨_,λ_=>rfl⟩
    have G:b i=E p p:=by rw[B,lU (by omega),lQ rfl]
    refine⟨b,λk f v u=>by rw[B,lU (by omega),lU u],λh=>G,λl y=>?_⟩;rw[J0 (q:=p+1) (by omega) C λk v u O=>by rw[B,lU (by omega),lU O,cD]];rw[G]
    have P:sN (p+1) (λk=>b k*A k l)=sN (p+1) (λk=>(-1)*sN (p+1) (λj=>A i j*(ME (p+1) A k j*A k l))):=Zi λk f=>by
     rw[B,lQ f,cC,bG _ (A k l),<-ZC,cC,fQ];congr 1;exact Zi λj _=>by rw[bG (A k l),bh]
    rw[P,ZC,Sh];have e2:(sN (p+1) λj=>sN (p+1) λk=>A i j*(ME (p+1) A k j*A k l))=A i l*E p p:=by rw[Zi λj g=>by rw[ZC,R j l g y]];rw[Z6 y λj _ N=>by rw[lU (λz=>N z.symm),bz],lQ rfl]
    rw[e2,bG (E p p)];omega
  refine⟨b,b1,b2,H,?_⟩;obtain⟨D,J⟩:=I.row i C
  have hw:∀k,k<m->E p p*D k-E i p*w k-d*b k=0:=by
   have F:∀k,k<m->p+1<=k->E p p*D k-E i p*w k-d*b k=0:=λk f v=>by
    have Y:=t.off k f (by omega) (by omega);by_cases q:k=i
    ·subst q;rw[J.on (by omega),Y,b2 v,bG d];omega
    ·rw[J.off k f (by omega) q,Y,b1 k f v q];omega
   intro k f;by_cases q:k<p+1
   ·refine ok.inj (p+1) (by omega) (λk=>E p p*D k-E i p*w k-d*b k) (λl y=>?_) k q;rw[<-RG (m:=m) (by omega) λk v u=>by rw[F k u v,cD]]
    have P:sN m (λk=>(E p p*D k-E i p*w k-d*b k)*A k l)=E p p*sN m (λk=>D k*A k l)+((- E i p)*sN m (λk=>w k*A k l)+(- d)*sN m (λk=>b k*A k l)):=by
     rw[<-ZC,<-ZC,<-ZC,<-ZY,<-ZY];exact Zi λk _=>by rw[Int.sub_mul,Int.sub_mul];simp only[bh,cC];omega
    have W:∀a:Nat->Int,sN m (λk=>a k*X k l)=sN m (λk=>a k*A k l):=λa=>Zi λk f=>by rw[ok.ext k l f (by omega)]
    rw[P,H l y,<-W,<-W,<-J.val l (by omega),<-t.val l (by omega)];by_cases q2:l=p
    ·subst q2;rw[lU o,bG (E l l),cC];omega
    ·rw[J.uni l (by omega),t.uni l (by omega),lU (show ¬p=l by omega)];by_cases L:i=l
     ·rw[lQ L,lQ L,cC d,bG d];omega
     ·rw[lU L,lU L];omega
   ·exact F k f (by omega)
  intro j g;rw[J.val j g,t.val j g,<-ZC,<-ZC,<-ZC];have:sN m (λk=>E p p*(D k*X k j))=sN m (λk=>d*(b k*X k j))+sN m (λk=>E i p*(w k*X k j)):=by rw[<-ZY];refine Zi λk f=>?_;have:=hw k f;rw[<-bh,<-bh,<-bh,<-jS];congr 1;omega
  omega
 refine⟨⟨U,pz,λi C=>?_⟩,λi j C g o=>?_⟩
 ·by_cases o:i=p
  ·subst o;refine⟨w,λk f v u=>t.off k f (by omega) u,λh=>by omega,λj g=>by rw[lQ rfl];exact t.val j g,λj g=>?_⟩;rw[lQ rfl];by_cases q:i=j
   ·subst q;rw[lQ rfl]
   ·rw[lU q,t.uni j (by omega),lU q]
  ·obtain⟨b,b1,b2,H,Q⟩:=s i C o;have S:∀j,j<=m->(E p p*E i j-E i p*E p j).fdiv d=sN m (λk=>b k*X k j):=λj g=>by rw[Q j g,eY _ M]
   refine⟨b,b1,b2,λj g=>by rw[lU o];exact S j g,λj g=>?_⟩;rw[lU o,S j (by omega),<-H j g];exact Zi λk f=>by rw[ok.ext k j f (by omega)]
 ·obtain⟨b,b1,b2,H,Q⟩:=s i C o;exact⟨_,Q j g⟩
theorem YM{m:Nat}{A X:Mt}(ok:D6 m A X):∀{p:Nat},p<=m->D7 m A X p (Wq m X p).1 (Wq m X p).2
 | 0,_=>⟨rfl,(show(1:Int)≠0 by decide),λi b=>⟨λk=>if k=i then 1 else 0,λk _ _ h=>lU h,λ_=>lQ rfl,λj c=>by rw[Z6 (k:=i) b λk _ a=>by rw[lU a,cD],lQ rfl,fQ];rfl,λj c=>by omega⟩⟩
 | p+1,h=>(TH ok (by omega) (YM ok (p:=p) (by omega))).1
theorem HE{m:Nat}{A X:Mt}(ok:D6 m A X){k:Nat}(b:k<m):sN m (λi=>A k i*(Wq m X m).1 i m)=(Wq m X m).2*X k m:=by
 have I:=YM ok (aJ m);generalize t:(Wq m X m).1=E at I ⊢;generalize s:(Wq m X m).2=d at I ⊢;have o:=I.nz
 have f:∀k,k<m->sN m (λi=>A k i*sN m (λj=>ME m A i j*X j m))=d*X k m:=λk b=>by
  rw[Zi (g:=λi=>sN m (λj=>A k i*(ME m A i j*X j m))) λi _=>by rw[ZC]]
  rw[Sh,Zi (g:=λj=>(if k=j then d else 0)*X j m) λj p=>by
   rw[I.de,<-Mj b p,bG _ (X j m),<-ZC];exact Zi λi _=>by rw[bG (X j m),bh]]
  rw[Z6 b λj _ h=>by rw[lU (λz=>h z.symm),cD],lQ rfl]
 have n:∀i,i<m->E i m=sN m (λj=>ME m A i j*X j m):=λi c=>by
  obtain⟨a,R⟩:=I.row i c;refine iN o ?_;rw[R.val m (aJ m),<-ZC];have q:sN m (λk=>d*(a k*X k m))=sN m (λk=>a k*sN m (λl=>A k l*sN m (λj=>ME m A l j*X j m))):=Zi λk b=>by rw[f k b,cZ]
  rw[q,Zi (g:=λk=>sN m (λl=>a k*A k l*sN m (λj=>ME m A l j*X j m))) λk _=>by rw[<-ZC];exact Zi λl _=>by rw[bh]]
  rw[Sh,Zi (g:=λl=>(if i=l then d else 0)*sN m (λj=>ME m A l j*X j m)) λl e=>by
   rw[<-R.uni l e,R.val l (by omega),bG _ (sN m λj=>ME m A l j*X j m),<-ZC];exact Zi λk b=>by rw[ok.ext k l b e,bG]]
  rw[Z6 c λl _ h=>by rw[lU (λz=>h z.symm),cD],lQ rfl]
 rw[Zi λi c=>by rw[n i c]];exact f k b
open L2 VL
theorem FZ{z:Int}(h:z.natAbs<2^1000):z.natAbs.log2<1000:=by
 by_cases a:z.natAbs=0
 ·rw[a];decide +kernel
 ·exact(Nat.log2_lt a).mpr h
theorem J1{a b:Int}(h:a.natAbs<2^1000)(c:b.natAbs<2^1000):CMulW a b:=⟨by have:=FZ h;omega,by have:=FZ c;omega⟩
theorem J2{a b:Int}(c:b≠0)(h:b.natAbs<2^1000):W6 a b:=⟨c,by have:=FZ h;omega⟩
noncomputable def Mb:Nat->Nat
 | 0=>2^7
 | p+1=>2*Mb p*Mb p
noncomputable def Nb:Nat->Nat
 | 0=>2^208
 | p+1=>2*Mb p*Nb p
theorem Zbs{p:Nat}(h:p<=6):Mb p<2^1000:=by
 have:p=0\/p=1\/p=2\/p=3\/p=4\/p=5\/p=6:=by omega
 rcases this with rfl | rfl | rfl | rfl | rfl | rfl | rfl<;>decide +kernel
theorem Zdi{p:Nat}(h:p<=6):Nb p<2^1000:=by
 have:p=0\/p=1\/p=2\/p=3\/p=4\/p=5\/p=6:=by omega
 rcases this with rfl | rfl | rfl | rfl | rfl | rfl | rfl<;>decide +kernel
theorem J3{a b c d:Int}{M N:Nat}(e:a.natAbs<=M)(f:b.natAbs<=N)(h:c.natAbs<=M)(g:d.natAbs<=N):(a*b-c*d).natAbs<=2*M*N:=by
 have i:(a*b).natAbs<=M*N:=by rw[dX];exact dG e f
 have j:(c*d).natAbs<=M*N:=by rw[dX];exact dG h g
 have l:(a*b-c*d).natAbs<=(a*b).natAbs+(c*d).natAbs:=by omega
 have k:2*M*N=M*N+M*N:=by rw[du];omega
 omega
theorem Lw{x d q:Int}(a:d≠0)(e:x=d*q):(x.fdiv d).natAbs<=x.natAbs:=by
 rw[e,eY _ a,dX];have:1<=d.natAbs:=by omega
 calc q.natAbs=1*q.natAbs:=by omega
  _<=d.natAbs*q.natAbs:=cu _ this
theorem D9(p:Nat):Mb p<=Mb (p+1):=by
 have h:∀p,1<=Mb p:=λp=>by
  induction p with
  | zero=>decide
  | succ p ih=>show 1<=2*Mb p*Mb p;exact dG (show 1<=2*Mb p by omega) ih
 show Mb p<=2*Mb p*Mb p
 calc Mb p=1*Mb p:=by omega
  _<=2*Mb p*Mb p:=cu _ (by have:=h p;omega)
theorem Ca(p:Nat):Nb p<=Nb (p+1):=by
 have h:∀p,1<=Mb p:=λp=>by
  induction p with
  | zero=>decide
  | succ p ih=>show 1<=2*Mb p*Mb p;exact dG (show 1<=2*Mb p by omega) ih
 show Nb p<=2*Mb p*Nb p
 calc Nb p=1*Nb p:=by omega
  _<=2*Mb p*Nb p:=cu _ (by have:=h p;omega)
theorem RH{m:Nat}{A X:Mt}(ok:D6 m A X)(g:∀i j,i<m->j<m->(X i j).natAbs<=2^7)(f:∀i,i<m->(X i m).natAbs<=2^208):∀{p:Nat},p<=m->(∀i j,i<m->j<m->((Wq m X p).1 i j).natAbs<=Mb p)/\∀i,i<m->((Wq m X p).1 i m).natAbs<=Nb p
 | 0,_=>⟨g,f⟩
 | p+1,hp=>by
  obtain⟨b1,b2⟩:=RH ok g f (p:=p) (by omega);have I:=YM ok (p:=p) (by omega);have d:=(TH ok (by omega) I).2;refine⟨λi j a c=>?_,λi a=>?_⟩
  ·show(if i=p then(Wq m X p).1 i j else _).natAbs<=_;split
   ·exact aP (b1 i j a c) (D9 p)
   ·rename_i b;obtain⟨q,e⟩:=d i j a (by omega) b;exact aP (Lw I.nz e) (J3 (b1 p p (by omega) (by omega)) (b1 i j a c) (b1 i p a (by omega)) (b1 p j (by omega) c))
  ·show(if i=p then(Wq m X p).1 i m else _).natAbs<=_;split
   ·exact aP (b2 i a) (Ca p)
   ·rename_i b;obtain⟨q,e⟩:=d i m a (by omega) b;exact aP (Lw I.nz e) (J3 (b1 p p (by omega) (by omega)) (b2 i a) (b1 i p a (by omega)) (b2 p (by omega)))
noncomputable def ZV(w:Nat)(f:Nat->Int):List Int:=(aF w).map f
theorem ZG(w:Nat)(f:Nat->Int):(ZV w f).length=w:=by simp[ZV]
theorem Yn{w:Nat}{f:Nat->Int}{j:Nat}(h:j<w):Zl (ZV w f) j=f j:=Z1 h
theorem Xu{n:Nat}{ix:List Nat}{d:XL}{T:Tgt}{c:XE}{s:ZF}{w:Nat}{q:Nat->PV}(g:Nat->Int)(e:d s=aA ((aF w).map q))(i:w<=100)(h:∀j,j<w->∃s1,Xn T (q j) (ZR n ix s)=aA s1/\c s1=aA (.int (g j))):Zt n ix d T Zz c s=aA (.lst (iL (ZV w g))):=by
 rw[ZT (aF w) q (λj=>.int (g j)) e (by rw[bu];omega) λj f=>by
  obtain⟨s1,a,b⟩:=h j (aS.mp f);exact⟨s1,a,rfl,b⟩]
 simp[ZV]
theorem PX{w:Nat}{f:Nat->Int}{j:Nat}(h:j<w):RN (iL (ZV w f)) (j:Int)=aA (.int (f j)):=by rw[YN (by rw[ZG];exact h),Yn h]
theorem K7{w p:Nat}{f g:Nat->Int}{d:Int}(n:w<=100)(e:p<w)(l:∀j,j<w->(f j).natAbs<2^1000)(k:∀j,j<w->(g j).natAbs<2^1000)(o:d≠0)(h:d.natAbs<2^1000) :
  SM [pP (ZV w f),pP (ZV w g),.int (p:Int),.int d]=aA (pP (ZV w λj=>(g p*f j-f p*g j).fdiv d)):=by
 refine Y9 (ret (Lr (c1 (Xu (q:=λj=>.tup [.int (f j),.int (g j)]) (λj=>(g p*f j-f p*g j).fdiv d) ?_ n λj m=>⟨_,rfl,?_⟩) rfl)))
 ·show aA (Ve (iL (ZV w f)) (iL (ZV w g)))=_;rw[YU _ _ (by simp[ZG]),aM,ZG];congr 1;refine ao λi c=>?_;have c:=aS.mp c;rw[YI _ i (by rw[ZG];exact c),YI _ i (by rw[ZG];exact c),Yn c,Yn c]
 ·exact vC (C:=W6) (op:=gS) (vI (vC (C:=CMulW) (op:=(· * ·)) (a:=g p) (b:=f j) (o2 rfl rfl (PX e)) rfl (J1 (k p e) (l j m))) (vC (C:=CMulW) (op:=(· * ·)) (a:=f p) (b:=g j) (o2 rfl rfl (PX e)) rfl (J1 (l p e) (k j m)))) rfl (J2 o h)
noncomputable def Wz(m w:Nat)(E:Mt):List (List Int):=(aF m).map λi=>ZV w (E i)
theorem Mk(m w:Nat)(E:Mt):(Wz m w E).length=m:=by simp[Wz]
noncomputable def tL(M:List (List Int)):List PV:=M.map pP
theorem PY(m w:Nat)(E:Mt):tL (Wz m w E)=(aF m).map λi=>pP (ZV w (E i)):=by unfold tL Wz;rw[dF];rfl
theorem Vl(m w:Nat)(E:Mt):(tL (Wz m w E)).length=m:=by simp[tL,Mk]
theorem TJ{m w:Nat}{E:Mt}{i:Nat}(h:i<m):(tL (Wz m w E))[i]?=aA (pP (ZV w (E i))):=by rw[PY,aU,bI h];rfl
theorem J4(M:List (List Int)):ZO (tL M)=aC:=Uy M
theorem W8{n:Nat}{ix:List Nat}{d:XL}{T:Tgt}{c:XE}{s:ZF}{m w:Nat}{q:Nat->PV}(E:Mt)(e:d s=aA ((aF m).map q))(g:m<=100)(h:∀j,j<m->∃s1,Xn T (q j) (ZR n ix s)=aA s1/\c s1=aA (pP (ZV w (E j)))):Zt n ix d T Zz c s=aA (.lst (tL (Wz m w E))):=by
 rw[ZT (aF m) q (λj=>pP (ZV w (E j))) e (by rw[bu];omega) λj f=>by
  obtain⟨s1,a,b⟩:=h j (aS.mp f);exact⟨s1,a,rfl,b⟩,PY]
theorem HF{m w:Nat}{A X:Mt}(B:m<=6)(z:m<=w)(o:w<=m+1)(ok:D6 m A X)(x:∀i j,i<m->j<m->(X i j).natAbs<=2^7)(t:∀i,i<m->(X i m).natAbs<=2^208){R:PV}(y:R = .lst (tL (Wz m w X))\/R = .tup (tL (Wz m w X))) :
  Ph [R]=aA (.tup [.int (Wq m X m).2,.lst (tL (Wz m w (Wq m X m).1))]):=by
 have l:∀{p:Nat},p<=m->∀i j,i<m->j<m+1->((Wq m X p).1 i j).natAbs<2^1000:=λ{p} d i j a f=>by
  obtain⟨b1,b2⟩:=RH ok x t d;by_cases q:j<m
  ·exact av (b1 i j a q) (Zbs (by omega))
  ·rw[show j=m by omega];exact av (b2 i a) (Zdi (by omega))
 have u:∀{p:Nat},p<=m->(Wq m X p).2.natAbs<2^1000:=λ{p} d=>by
  cases p with
  | zero=>show(1:Int).natAbs<_;decide +kernel
  | succ p=>exact l (p:=p) (by omega) p p (by omega) (by omega)
 let st:Nat->Option PV->Option PV->ZF:=λp b c=>[aA R,aA (.lst (tL (Wz m w (Wq m X p).1))),aA (.int (Wq m X p).2),b,c]
 have k:VP [R]=aA (.lst (tL (Wz m w X)))/\Ys [R]=aA (.int (m:Int)):=by
  rcases y with rfl | rfl
  ·exact⟨by rw[Q9,lQ (J4 _)],by show aA (PV.int ((tL (Wz m w X)).length:Int))=_;rw[Vl]⟩
  ·exact⟨by rw[Q8,lQ (J4 _)],by show aA (PV.int ((tL (Wz m w X)).length:Int))=_;rw[Vl]⟩
 suffices h:YQ M8 (ZJ 5 [R]) λv=>v = .tup [.int (Wq m X m).2,.lst (tL (Wz m w (Wq m X m).1))] by obtain⟨v,e,rfl⟩:=Uk h;exact e
 refine ZD (Zm (c1 rfl k.1)) (ZD (Zm (vP rfl)) (XD (PR (n:=m) (λp s=>∃b c,s=st p b c) (c1 rfl k.2) ⟨none,none,rfl⟩ ?_) ?_))
 ·rintro p s d ⟨b,c,rfl⟩;have I:=YM ok (p:=p) (by omega);have g:=λi j a f=>l (p:=p) (by omega) i j a f;refine Z3 (Zm (Lr (o2 rfl rfl (VJ (TJ d))))) (Z3 (Zm (W8 (w:=w) (Wq m X (p+1)).1 (q:=λi=>.tup [.int (i:Int),pP (ZV w ((Wq m X p).1 i))]) ?_ (by omega) λi a=>⟨_,rfl,Lr ?_⟩)) (RE (Zm (vP (o2 rfl rfl (PX (by omega))))) ⟨_,_,rfl⟩))
  ·show aA (W0 (tL (Wz m w (Wq m X p).1)))=_;rw[W5,Vl];congr 1;refine ao λi a=>?_;rw[aD,TJ (aS.mp a)];rfl
  ·by_cases q:i=p
   ·exact FU (xb ((H9 rfl rfl).trans (by rw[decide_eq_true (by omega)]))) (by rw[show(Wq m X (p+1)).1 i=(Wq m X p).1 i from funext λj=>lQ q];rfl)
   ·refine FV (xb ((H9 rfl rfl).trans (by rw[decide_eq_false (by omega)]))) ?_;rw[show(Wq m X (p+1)).1 i=_ from funext λj=>lU q];exact c4 rfl rfl rfl rfl (K7 (by omega) (by omega) (λj f=>g i j a (by omega)) (λj f=>g p j d (by omega)) I.nz (u (by omega)))
 ·rintro s ⟨b,c,rfl⟩;exact⟨_,rfl,rfl⟩
theorem HG{m:Nat}{A X:Mt}(d:m<=6)(ok:D6 m A X)(c:∀i j,i<m->j<m->(X i j).natAbs<=2^7)(b:∀i,i<m->(X i m).natAbs<=2^208) :
  WR [wP (Wz m m A),pP (ZV m λi=>X i m)]=aA (.lst (iL (ZV m λi=>((Wq m X m).1 i m).fdiv (Wq m X m).2))):=by
 have I:=YM ok (aJ m)
 have e:(Wq m X m).2.natAbs<2^1000:=by
  cases m with
  | zero=>show(1:Int).natAbs<_;decide +kernel
  | succ k=>exact av ((RH ok c b (p:=k) (by omega)).1 k k (by omega) (by omega)) (Zbs (by omega))
 refine Y9 (sq (Zm (c1 (W8 (w:=m+1) X (q:=λi=>.tup [pP (ZV m (A i)),.int (X i m)]) ?_ (by omega) λi a=>⟨_,rfl,?_⟩) (HF d (by omega) (by omega) ok c b (.inl rfl)))) (ret (Xu (q:=λi=>pP (ZV (m+1) ((Wq m X m).1 i))) _ ?_ (by omega) λi a=>⟨_,rfl,vP (vC (C:=W6) (op:=gS) (o2 rfl rfl ?_) rfl (J2 I.nz e))⟩)))
 ·show aA (Ve (tL (Wz m m A)) (iL (ZV m λi=>X i m)))=_;rw[YU _ _ (by rw[Vl,aM,ZG]),Vl];congr 1;refine ao λi a=>?_;have a:=aS.mp a;rw[YI _ i (by rw[ZG];exact a),Yn a,aD,TJ a];rfl
 ·have g:iL (ZV m (A i))++[PV.int (X i m)]=iL (ZV (m+1) (X i)):=by unfold ZV;rw[gn,cT];simp;exact λj f=>(ok.ext i j a f).symm
  show(if(iL (ZV m (A i))).length+[PV.int (X i m)].length<=10000 then aA (PV.tup (iL (ZV m (A i))++[PV.int (X i m)])) else none)=_;rw[lQ (by simp[ZG];omega),g]
 ·show aA (tL (Wz m (m+1) (Wq m X m).1))=_;rw[PY]
 ·show RN (iL (ZV (m+1) ((Wq m X m).1 i))) (-1)=_;unfold RN MM;rw[aM,ZG,lU (by omega),lQ (by omega),show(-1+((m+1:Nat):Int)).toNat=m by omega];show(iL (ZV (m+1) ((Wq m X m).1 i)))[m]?=_;rw[NK (by rw[ZG];omega),Yn (by omega)]
noncomputable def Xl(b i:Nat):Nat:=if i<b then i else i+1
noncomputable def J5(b h:Nat):Nat:=if h<b then h else h-1
theorem F0(b i:Nat):Xl b i≠b:=by unfold Xl;split<;>omega
theorem Xv{b i m:Nat}(h:i<m):Xl b i<m+1:=by unfold Xl;split<;>omega
theorem Qz(b i:Nat):J5 b (Xl b i)=i:=by unfold J5 Xl;split<;>(try split)<;>omega
theorem QA{b h:Nat}(q:h≠b):Xl b (J5 b h)=h:=by unfold J5 Xl;split<;>(try split)<;>omega
theorem F1{b h m:Nat}(c:b<m+1)(a:h<m+1)(q:h≠b):J5 b h<m:=by unfold J5;split<;>omega
theorem Cb{b i j:Nat}(h:Xl b i=Xl b j):i=j:=by rw[<-Qz b i,h,Qz]
theorem Lx{n b:Nat}(c:n<=7)(a:b<n):(aF n).filter (λh=>!decide (h=b))=(aF (n-1)).map (Xl b):=by
 have:∀n,n<8->∀b,b<8->b<n->(aF n).filter (λh=>!decide (h=b))=(aF (n-1)).map (Xl b):=by decide
 exact this n (by omega) b (by omega) a
theorem K8{f:Nat->Int}{b:Nat}(a:f b=0):∀{m:Nat},b<m+1->sN (m+1) f=sN m (λi=>f (Xl b i))
 | 0,h=>by
  have:b=0:=by omega
  subst this;show 0+f 0=0;rw[a];rfl
 | m+1,h=>by
  by_cases q:b=m+1
  ·subst q;show sN (m+1) f+f (m+1)=_;rw[a,gs];exact Zi λi c=>by unfold Xl;rw[lQ c]
  ·show sN (m+1) f+f (m+1)=sN m (λi=>f (Xl b i))+f (Xl b m);rw[K8 a (m:=m) (by omega),show Xl b m=m+1 by unfold Xl;rw[lU (by omega)]]
theorem UL{f:Nat->Int}:∀{n:Nat},(∀i,i<n->0<=f i)->sN n f<=0->∀i,i<n->f i=0
 | 0,_,_,i,h=>by omega
 | n+1,h,s,i,a=>by
  have s:sN n f+f n<=0:=s
  have c:0<=sN n f:=by
   have:∀k,k<=n->0<=sN k f:=by
    intro k
    induction k with
    | zero=>intro _;exact dk 0
    | succ k ih=>intro b;have:=ih (by omega);have:=h k (by omega);show 0<=sN k f+f k;omega
   exact this n (aJ n)
  have d:=h n (by omega);by_cases q:i=n
  ·subst q;omega
  ·exact UL (n:=n) (λi a=>h i (by omega)) (by omega) i (by omega)
theorem Yd{f:Nat->Int}:∀{n:Nat},(∀i,i<n->0<=f i)->0<=sN n f
 | 0,_=>dk 0
 | n+1,h=>by have:=Yd (n:=n) λi a=>h i (by omega);have:=h n (by omega);show 0<=sN n f+f n;omega
theorem PZ(Y:Nat->Int):∀{n:Nat},0<n->∃h,h<n/\∀g,g<n->Y h<=Y g
 | 0,h=>by omega
 | 1,_=>⟨0,by omega,λg a=>by rw[show g=0 by omega];exact dk _⟩
 | n+2,_=>by
  obtain⟨h,c,b⟩:=PZ Y (n:=n+1) (by omega);by_cases q:Y h<=Y (n+1)
  ·exact⟨h,by omega,λg a=>by
    by_cases e:g=n+1
    ·rw[e];exact q
    ·exact b g (by omega)⟩
  ·exact⟨n+1,by omega,λg a=>by
    by_cases e:g=n+1
    ·rw[e];exact dk _
    ·have:=b g (by omega);omega⟩
noncomputable def gN(W:List (List Int))(Y:Nat->Int)(h:Nat):Int:=sN W.length (λg=>ZZ W h g*(Y g-Y h))
theorem Cc{W:List (List Int)}(ok:ZE W)(w:Xr W){Y:Nat->Int}{b:Nat}(v:b<W.length)(j:∀h,h<W.length->h≠b->Y h<Y b->gN W Y h<=0):∀h,h<W.length->Y b<=Y h:=by
 intro h u;refine iC.mp λp=>?_;obtain⟨i,q,l⟩:=PZ Y (n:=W.length) (by omega);have o:Y i<Y b:=by have:=l h u;omega
 have step:∀a c,a<W.length->c<W.length->0<ZZ W a c->Y a=Y i->Y c=Y i:=λa c d e k ea=>by
  have s:=j a d (λz=>by rw[z] at ea;omega) (by omega);have t:=UL (f:=λg=>ZZ W a g*(Y g-Y a)) (λg m=>cN (ok.lo a g d m) (by have:=l g m;omega)) s c e
  have:Y c-Y a=0:=by
   rcases Int.mul_eq_zero.mp t with z | z
   ·omega
   ·exact z
  omega
 have:=(w (λx=>Y x=Y i) (λa c d e k=>⟨step a c d e k,step c a e d (by rw[ok.sym c a e d];exact k)⟩) i b q v).mp rfl;omega
theorem Vm{W:List (List Int)}(Y Z:Nat->Int)(h:Nat):gN W (λx=>Y x+Z x) h=gN W Y h+gN W Z h:=by
 unfold gN;rw[<-ZY];exact Zi λg _=>by show ZZ W h g*(Y g+Z g-(Y h+Z h))=_;rw[<-fP];congr 1;omega
theorem XX{W:List (List Int)}(c:Int)(Y:Nat->Int)(h:Nat):gN W (λx=>c*Y x) h=c*gN W Y h:=by
 unfold gN;rw[<-ZC];exact Zi λg _=>by show ZZ W h g*(c*Y g-c*Y h)=_;rw[<-dt,cZ]
theorem UM{W:List (List Int)}{Y Z:Nat->Int}{h:Nat}(b:h<W.length)(e:∀g,g<W.length->Y g=Z g):gN W Y h=gN W Z h:=Zi λg a=>by rw[e g a,e h b]
theorem Cd(W:List (List Int))(S:List Int)(h:Nat):Ws W S h=gN W (Zl S) h:=by unfold Ws gN;rw[Xt]
noncomputable def ZU(W:List (List Int))(b:Nat):Mt:=λi j=>if Xl b j=Xl b i then(ZH W (Xl b i)).sum else-ZZ W (Xl b i) (Xl b j)
noncomputable def Ub(W:List (List Int))(b:Nat)(c:Nat->Int):Mt:=λi j=>if j<W.length-1 then ZU W b i j else c (Xl b i)
theorem P0{W:List (List Int)}(ok:ZE W){b:Nat}(w:b<W.length){Y:Nat->Int}(t:Y b=0){k:Nat}(e:k<W.length-1):gN W Y (Xl b k) = - sN (W.length-1) (λi=>ZU W b k i*Y (Xl b i)):=by
 have v:=ok.pos;obtain⟨m,d⟩:∃m,W.length=m+1:=⟨W.length-1,by omega⟩;have c:W.length-1=m:=by omega
 rw[c] at e ⊢;generalize j:Xl b k=h;have a:h<W.length:=by rw[d,<-j];exact Xv e
 have o:sN m (λi=>ZU W b k i*Y (Xl b i))=sN (m+1) (λg=>(if g=h then(ZH W h).sum else-ZZ W h g)*Y g):=by
  rw[K8 (b:=b) (f:=λg=>(if g=h then(ZH W h).sum else-ZZ W h g)*Y g) (by rw[t,bz]) (by omega)];exact Zi λi _=>by unfold ZU;rw[j]
 have p:sN (m+1) (λg=>(if g=h then(ZH W h).sum else-ZZ W h g)*Y g)=(-1)*sN (m+1) (λg=>ZZ W h g*Y g)+(ZH W h).sum*Y h:=by
  have:sN (m+1) (λg=>if g=h then(ZH W h).sum*Y h else 0)=(ZH W h).sum*Y h:=by rw[Z6 (k:=h) (by omega) λi _ l=>lU l,lQ rfl]
  rw[<-this,<-ZC,<-ZY];refine Zi λg u=>?_;by_cases q:g=h
  ·subst q;rw[lQ rfl,lQ rfl,ok.dia g a];omega
  ·rw[lU q,lU q,cC,cC,fQ];omega
 have s:(ZH W h).sum=sN (m+1) (λg=>ZZ W h g):=by rw[U6 ok a,Xt,d]
 have n:gN W Y h=sN (m+1) (λg=>ZZ W h g*Y g)+(- Y h)*sN (m+1) (λg=>ZZ W h g):=by
  unfold gN;rw[d,<-ZC,<-ZY];exact Zi λg _=>by rw[dt,bG (- Y h),iP];omega
 rw[n,o,p,s,bG (sN (m+1) λg=>ZZ W h g) (Y h),cC];omega
theorem RI{W:List (List Int)}(ok:ZE W)(E:Xr W){b:Nat}(B:b<W.length)(c:Nat->Int):D6 (W.length-1) (ZU W b) (Ub W b c):=by
 have H:=ok.pos;obtain⟨m,u⟩:∃m,W.length=m+1:=⟨W.length-1,by omega⟩;have a:W.length-1=m:=by omega
 have g:∀i j,i<m->j<m->ZU W b i j=ZU W b j i:=λi j s l=>by
  unfold ZU;by_cases q:Xl b j=Xl b i
  ·rw[lQ q,lQ q.symm,q]
  ·rw[lU q,lU (λz=>q z.symm),ok.sym _ _ (by rw[u];exact Xv s) (by rw[u];exact Xv l)]
 rw[a];refine⟨g,λp y z F k A=>?_,λi j s l=>by unfold Ub;rw[a,lQ l]⟩;obtain⟨Z,w⟩:∃Z:Nat->Int,∀h,Z h=if h=b then 0 else if J5 b h<p then z (J5 b h) else 0:=⟨_,λ_=>rfl⟩
 have o:Z b=0:=by rw[w,lQ rfl]
 have v:∀i,Z (Xl b i)=if i<p then z i else 0:=λi=>by rw[w,lU (F0 b i),Qz]
 have n:∀j,j<p->gN W Z (Xl b j)=0:=λj l=>by
  rw[P0 ok B o (by omega),a]
  have e:sN m (λi=>ZU W b j i*Z (Xl b i))=sN p (λk=>z k*ZU W b k j):=by
   rw[RG (q:=p) y λk D C=>by rw[v,lU (by omega),bz]];exact Zi λk A=>by rw[v,lQ A,g j k (by omega) (by omega),bG]
  rw[e,F j l];rfl
 have off:∀h,h<W.length->Z h≠0->gN W Z h=0:=λh t ne=>by
  have f:h≠b:=λz=>ne (by rw[z];exact o);have s:J5 b h<p:=by refine Nat.not_le.mp λq=>ne ?_;rw[w,lU f,lU (by omega)]
  have:=n _ s;rw[QA f] at this;exact this
 have up:=Cc ok E (Y:=Z) B (λh t _ d=>by rw[off h t (by rw[o] at d;omega)];exact dk _)
 have G:=Cc ok E (Y:=λx=>(-1)*Z x) B (λh t _ d=>by
  simp only[o] at d;rw[XX,off h t (by omega)];decide)
 have D:=up (Xl b k) (by rw[u];exact Xv (by omega));have C:=G (Xl b k) (by rw[u];exact Xv (by omega));simp only[o,v,lQ A] at D C;omega
theorem O7{W:List (List Int)}(ok:ZE W)(l:Xr W){b:Nat}(f:b<W.length)(c:Nat->Int) :
  ∃R:Nat->Int,R b=0/\(∀i,i<W.length-1->R (Xl b i)=(Wq (W.length-1) (Ub W b c) (W.length-1)).1 i (W.length-1))/\∀h,h<W.length->h≠b->gN W R h = - ((Wq (W.length-1) (Ub W b c) (W.length-1)).2*c h):=by
 have o:=ok.pos;have bk:=RI ok l f c;obtain⟨R,k⟩:∃R:Nat->Int,∀h,R h=if h=b then 0 else(Wq (W.length-1) (Ub W b c) (W.length-1)).1 (J5 b h) (W.length-1):=⟨_,λ_=>rfl⟩
 have g:R b=0:=by rw[k,lQ rfl]
 have d:∀i,R (Xl b i)=(Wq (W.length-1) (Ub W b c) (W.length-1)).1 i (W.length-1):=λi=>by rw[k,lU (F0 b i),Qz]
 refine⟨R,g,λi _=>d i,λh n a=>?_⟩;have j:J5 b h<W.length-1:=F1 (m:=W.length-1) (by omega) (by omega) a;have e:=P0 ok f g j;rw[QA a] at e;have s:=HE bk j;have x:Ub W b c (J5 b h) (W.length-1)=c h:=by unfold Ub;rw[lU (by omega),QA a]
 rw[x] at s;rw[e,<-s];congr 1;exact Zi λi _=>by rw[d]
theorem P4(l:List Int)(g:Int->Int):l.map g=(aF l.length).map λi=>g (Zl l i):=by refine Wy (by simp) λi a=>?_;rw[aM] at a;rw[Z1 (by omega)];simp[Zl,aD,aG a]
theorem P5{n:Nat}{ix:List Nat}{c:XL}{d:XT}{b:XE}{s:ZF}{l:List Int}(g:Int->Int)(a:c s=aA (iL l))(f:l.length<=1000)(h:∀x∈l,∃s1,Xn (.one 0) (.int x) (ZR n ix s)=aA s1/\d s1=aA aC/\b s1=aA (.int (g x))) :
  Zt n ix c (.one 0) d b s=aA (.lst (iL (l.map g))):=by
 rw[ZT l (λ(x:Int)=>.int x) (λx=>.int (g x)) a (by omega) (λx e=>h x e)];simp
theorem P6{l:List Int}(c:0<l.length)(b:l.length<=1000):V1 [pP l]=aA (pP (ZP l)):=by
 have d:Zt 1 [1] (SE (Za 0)) (.one 0) Zz (Zk Wb (Za 0) (Za 1)) [aA (pP l),aA (.int (Xy l))]=aA (.lst (iL (ZP l))):=by rw[show ZP l=l.map λx=>x-Xy l from(P4 l λx=>x-Xy l).symm];exact P5 (λx=>x-Xy l) (T6 rfl) b λx e=>⟨_,rfl,rfl,by simp[ZR]⟩
 have a:=JM Xy (l:=l) (di.mp c);simp[V1,JO,YO,ZJ,a,d]
theorem HH{W:List (List Int)}{h m:Nat}{f:Nat->Nat}(ok:ZE W)(a:h<W.length)(d:m<=6)(b:∀i,i<m->f i<W.length) :
  Pk [wP W,.int (h:Int),.lst (iL (nL ((aF m).map f)))]=aA (pP (ZV m λj=>if f j=h then(ZH W h).sum else-ZZ W h (f j))):=by
 refine Y9 (ret (Lr (c1 (Xu (q:=λj=>.int ((f j:Nat):Int)) _ (by show aA (iL (nL ((aF m).map f)))=_;simp[nL]) (by omega) λj c=>⟨_,rfl,?_⟩) rfl)));by_cases q:f j=h
 ·rw[lQ q];exact FU (xb ((H9 rfl rfl).trans (by rw[decide_eq_true (by omega)]))) (c2 rfl rfl (KZ a))
 ·rw[lU q];exact FV (xb ((H9 rfl rfl).trans (by rw[decide_eq_false (by omega)]))) (un1 (o2 (o2 rfl rfl (UZ a)) rfl (YN (by rw[ok.sq h a];exact b j c))) rfl)
theorem W9{W:List (List Int)}{b:Nat}(ok:ZE W)(k:b<W.length) :
  Y4 [wP W,.int (b:Int)]=aA (wP (Wz (W.length-1) (W.length-1) (ZU W b))):=by
 have o:=ok.pos;have d:=ok.few;obtain⟨m,j⟩:∃m,W.length=m+1:=⟨W.length-1,by omega⟩;have a:W.length-1=m:=by omega
 rw[a];have fo:∀i,i<m->Xl b i<W.length:=λi c=>by rw[j];exact Xv c
 have g:Zt 1 [1] (Yp [Zc Ys [Za 0]]) (.one 0) (xB (Zk (Wr aC) (Za 0) (Za 1))) (eP (Za 0)) [aA (wP W),aA (.int (b:Int)),none]=aA (.lst (iL (nL ((aF m).map (Xl b))))):=by
  rw[V0 (aF W.length) (λ(i:Nat)=>.int (i:Int)) (λ(i:Nat)=>.int (i:Int)) (λh=>!decide (h=b)) (YC (n:=W.length) (by simp) (by omega)) (by simp;omega) λy l=>⟨[aA (.int (y:Int)),aA (.int (b:Int))],rfl,?_,λ_=>by simp⟩]
  ·rw[Lx d k,a];simp[nL]
  ·by_cases q:y=b
   ·simp[q]
   ·have e:¬(y:Int)=(b:Int):=by omega
    simp[q,e]
 exact Y9 (sq (Zm g) (ret (ep (c1 (W8 (w:=m) (ZU W b) (q:=λi=>.int ((Xl b i:Nat):Int)) (by show aA (iL (nL ((aF m).map (Xl b))))=_;simp[nL]) (by omega) λi c=>⟨_,rfl,c3 rfl rfl rfl (HH (f:=Xl b) ok (fo i c) (by omega) fo)⟩) rfl) (Uy _))))
theorem Ce{l:List Int}{b h:Nat}{x:Int}(c:b<=l.length)(d:h<l.length+1):Zl (l.take b++x::l.drop b) h=if h=b then x else Zl l (J5 b h):=by
 unfold Zl J5;rw[aD,aD];by_cases q:h<b
 ·rw[lU (by omega),lQ q,aZ (by rw[ay];omega),dQ q]
 ·rw[bH (by rw[ay];omega),ay,ck c];by_cases a:h=b
  ·rw[lQ a,a,Nat.sub_self];rfl
  ·rw[lU a,lU q,show h-b=(h-b-1)+1 by omega,List.getElem?_cons_succ,dM,show b+(h-b-1)=h-1 by omega]
theorem J6{f:Nat->Int}:∀{n:Nat},(∀i,i<n->0<=f i/\f i<=9)->0<=sN n f/\sN n f<=9*n
 | 0,_=>⟨dk _,by show(0:Int)<=_;omega⟩
 | n+1,h=>by
  obtain⟨a,b⟩:=J6 (n:=n) λi c=>h i (by omega);have:=h n (by omega);refine⟨?_,?_⟩
  ·show 0<=sN n f+f n;omega
  ·show sN n f+f n<=_;omega
theorem HI{W:List (List Int)}(ok:ZE W){b:Nat}{c:Nat->Int}{i j:Nat}(h:i<W.length-1)(e:j<W.length-1):(Ub W b c i j).natAbs<=2^7:=by
 have l:=ok.pos;have k:=ok.few;have d:Xl b i<W.length:=by have:=Xv (b:=b) h;omega
 have g:Xl b j<W.length:=by have:=Xv (b:=b) e;omega
 unfold Ub ZU;rw[lQ e];split
 ·rw[U6 ok d,Xt];obtain⟨a,b⟩:=J6 (f:=λj=>ZZ W (Xl b i) j) (n:=W.length) λj e=>⟨ok.lo _ j d e,ok.hi _ j d e⟩;omega
 ·have:=ok.lo _ _ d g;have:=ok.hi _ _ d g;omega
noncomputable def O8(W:List (List Int))(D:List Int)(b:Nat):List Int:=
 (ZV (W.length-1) λi=>((Wq (W.length-1) (Ub W b (Zl D)) (W.length-1)).1 i (W.length-1)).fdiv (Wq (W.length-1) (Ub W b (Zl D)) (W.length-1)).2).take b++0::(ZV (W.length-1) λi=>((Wq (W.length-1) (Ub W b (Zl D)) (W.length-1)).1 i (W.length-1)).fdiv (Wq (W.length-1) (Ub W b (Zl D)) (W.length-1)).2).drop b
theorem F2{W:List (List Int)}{D:List Int}{b:Nat}(a:b<W.length):(O8 W D b).length=W.length:=by unfold O8;rw[au,ay,cH,bK,ZG];omega
theorem F3{W:List (List Int)}{D:List Int}{b:Nat}(ok:ZE W)(k:Xr W)(m:D.length=W.length)(d:b<W.length)(e:∀h,h<W.length->(Zl D h).natAbs<=2^208):WA [wP W,pP D,.int (b:Int)]=aA (pP (O8 W D b)):=by
 have l:=ok.few
 have f:D.take b++D.drop (b+1)=ZV (W.length-1) λi=>Ub W b (Zl D) i (W.length-1):=by
  refine Wy (by rw[au,ay,bK,ZG];omega) λi a=>?_;have a:i<W.length-1:=by rw[au,ay,bK] at a;omega
  rw[Yn a];unfold Ub Xl Zl;rw[lU (by omega),aD,aD];by_cases q:i<b
  ·rw[lQ q,aZ (by rw[ay];omega),dQ q]
  ·rw[lU q,bH (by rw[ay];omega),ay,dM];congr 2;omega
 have c:=HG (by omega) (RI ok k d (Zl D)) (λi j a g=>HI ok a g) (λi a=>by
  unfold Ub;rw[lU (by omega)];exact e _ (by have:=Xv (b:=b) a;omega))
 rw[<-f] at c;exact Y9 (sq (Zm (Lr (o2 (DW rfl rfl (by omega)) (DX rfl rfl (by omega)) (JX (by rw[ay,bK];omega))))) (sq (Zm (c2 (c2 rfl rfl (W9 ok d)) rfl c)) (sq (FX rfl rfl rfl (by omega) (by rw[ZG];omega)) (ret (Lr (c1 rfl rfl))))))
theorem K9{W:List (List Int)}{D:List Int}{b:Nat}(ok:ZE W)(o:Xr W)(u:D.length=W.length)(f:b<W.length)(t:∀h,h<W.length->(Zl D h).natAbs<=2^208) :
  ∃(S0:List Int) (d:Int) (R:Nat->Int),WA [wP W,pP D,.int (b:Int)]=aA (pP S0)/\S0.length=W.length/\0<d/\R b=0/\Zl S0 b=0/\(∀h,h<W.length->d*Zl S0 h<=R h/\R h<d*Zl S0 h+d)/\∀h,h<W.length->h≠b->gN W R h = - (d*Zl D h):=by
 have w:=ok.few;obtain⟨R,n,s,p⟩:=O7 ok o f (Zl D);have v:=(YM (RI ok o f (Zl D)) (aJ _)).nz;have run:=F3 ok o u f t;have len:=F2 (W:=W) (D:=D) f
 have a:∀h,h<W.length->Zl (O8 W D b) h=if h=b then 0 else(R h).fdiv (Wq (W.length-1) (Ub W b (Zl D)) (W.length-1)).2:=λh c=>by
  unfold O8;rw[Ce (by rw[ZG];omega) (by rw[ZG];omega)];by_cases q:h=b
  ·rw[lQ q,lQ q]
  ·have i:=F1 (m:=W.length-1) (by omega) (by omega) q;rw[lU q,lU q,Yn i,<-s _ i,QA q]
 generalize (Wq (W.length-1) (Ub W b (Zl D)) (W.length-1)).2=d at *;generalize O8 W D b=l at *;have j:Zl l b=0:=by rw[a b f,lQ rfl]
 have a:∀h,h<W.length->Zl l h=(R h).fdiv d:=λh c=>by
  rw[a h c];split
  ·rename_i q;rw[q,n];simp
  ·rfl
 rcases fG v with neg | pos
 ·refine⟨_,- d,λh=>- R h,run,len,by omega,by show-R b=0;rw[n];rfl,j,λh c=>?_,λh c k=>?_⟩
  ·have e:(R h).fdiv d=(- R h)/(- d):=by rw[<-kR,dB _ (by omega)]
   rw[a h c,e];exact⟨jV (by omega),iZ (by omega)⟩
  ·have:=XX (W:=W) (-1) R h;rw[p h c k] at this;rw[UM (Z:=λx=>(-1)*R x) c (λg _=>by show-R g=(-1)*R g;omega),this,cC d];omega
 ·refine⟨_,d,R,run,len,pos,n,j,λh c=>?_,p⟩;rw[a h c,dB _ (by omega)];exact⟨jV (by omega),iZ pos⟩
theorem F4{c:XT}{fb:XS}(g:Nat->ZF->Prop)(step:∀k st,g k st->c st=aA aB\/(c st=aA aC/\∃s2 k',fb st=aA (.nx s2)/\k'<k/\g k' s2)){k:Nat}{s:ZF}(p:g k s) :
  ∃f k',Xp c fb s=aA (.nx f)/\g k' f/\c f=aA aB:=by
 have j:∀(n k:Nat)(st:ZF),k<n->g k st->∃f k',YH c fb n st=aA (.nx f)/\g k' f/\c f=aA aB:=by
  intro n
  induction n with
  | zero=>intro k st h;omega
  | succ n ih=>
   intro k st q m;rcases step k st m with i | ⟨i,s2,k',e,t,l⟩
   ·exact⟨st,k,by unfold YH;rw[i];rfl,m,i⟩
   ·obtain⟨f,o,a,b,d⟩:=ih k' s2 (by omega) l;refine⟨f,o,?_,b,d⟩;unfold YH;rw[i];simp only[e];exact a
 obtain⟨f,k',a,b,d⟩:=j (k+1) k s (by omega) p;exact⟨f,k',OU a,b,d⟩
noncomputable def Vn(n:Nat)(L:List Nat):List Int:=(aF n).map λh=>if h∈L then -1 else 0
theorem Ml{W:List (List Int)}{L:List Nat}(b:W.length<=7):Xk [wP W,.lst (iL (nL L))]=aA (pP (Vn W.length L)):=by
 have a:Zt 1 [1] (Yp [Zc Ys [Za 0]]) (.one 0) Zz (IM (xB (Zk (IQ aB) (Za 0) (Za 1))) (GI MX (eC (.int 1))) (eC (.int 0))) [aA (wP W),aA (.lst (iL (nL L)))]=aA (.lst (iL (Vn W.length L))):=by
  rw[WD (λh=>if h∈L then -1 else 0) (YC (n:=W.length) (by simp) (by omega)) (by omega) λi c=>⟨[aA (.int (i:Int)),aA (.lst (iL (nL L)))],rfl,rfl,?_⟩]
  ·rfl
  ·have g:=DV i L;have t:xB (Zk (IQ aB) (Za 0) (Za 1)) [aA (.int (i:Int)),aA (.lst (iL (nL L)))]=aA (decide (i∈L)):=by rw[NJ];show(IQ aB (.int (i:Int)) (.lst (iL (nL L)))).bind blO=_;rw[g];rfl
   rw[Qn,t];by_cases q:i∈L
   ·rw[lQ q,decide_eq_true q];rfl
   ·rw[lU q,decide_eq_false q];rfl
 show(ZK _ [aA (wP W),aA (.lst (iL (nL L)))]).bind SH=_;have:Zc ZI [Zt 1 [1] (Yp [Zc Ys [Za 0]]) (.one 0) Zz (IM (xB (Zk (IQ aB) (Za 0) (Za 1))) (GI MX (eC (.int 1))) (eC (.int 0)))] [aA (wP W),aA (.lst (iL (nL L)))]=aA (pP (Vn W.length L)):=by simp only[Y2,Zw,Dq,a,aY,fJ,YB]
 rw[Lp (v:=pP (Vn W.length L)) (by rw[NI,this];simp)];rfl
theorem Cf{n:Nat}{L:List Nat}{h:Nat}(a:h<n):Zl (Vn n L) h=if h∈L then -1 else 0:=Z1 a
theorem XY{W:List (List Int)}{D S:List Int}{h:Nat}(a:h<D.length):Zl (ZS W D S) h=Zl D h+gN W (Zl S) h:=by rw[VD a,Cd]
structure Ly(W:List (List Int))(b:Nat)(n0:Nat->Int)(B:Nat->Int):Prop where
 pos:∀h,h<W.length->0<=B h
 base:B b=0
 free:∀h,h<W.length->h≠b->0<=n0 h-gN W B h
theorem Cg{W:List (List Int)}(ok:ZE W)(k:Xr W){b:Nat}(j:b<W.length)(d:Nat->Int):∃B,Ly W b d B:=by
 obtain⟨z,o,_,t⟩:=O7 ok k j (λ_=>1);have w:=(YM (RI ok k j (λ_=>1)) (aJ _)).nz
 obtain⟨y,p,u⟩:∃y:Nat->Int,y b=0/\∀h,h<W.length->h≠b->gN W y h<=-1:=by
  rcases fG w with neg | pos
  ·exact⟨λx=>(-1)*z x,by show(-1)*z b=0;rw[o];rfl,λh c a=>by rw[XX,t h c a];omega⟩
  ·exact⟨z,o,λh c a=>by rw[t h c a];omega⟩
 have l:=Cc ok k (Y:=y) j (λh c a _=>by have:=u h c a;omega);rw[p] at l;obtain⟨K,s⟩:∃K:Int,K=sN W.length (λh=>((d h).natAbs:Int)):=⟨_,rfl⟩;have m:0<=K:=by rw[s];exact Yd λi _=>by omega
 have g:∀h,h<W.length->- d h<=K:=λh c=>by
  have:∀n,h<n->- d h<=sN n (λh=>((d h).natAbs:Int)):=by
   intro n
   induction n with
   | zero=>intro q;omega
   | succ n ih=>
    intro q;show _<=sN n (λh=>((d h).natAbs:Int))+((d n).natAbs:Int);by_cases e:h=n
    ·subst e;have:=Yd (f:=λh=>((d h).natAbs:Int)) (n:=h) λi _=>by omega
     omega
    ·have:=ih (by omega);omega
  rw[s];exact this _ c
 refine⟨λx=>K*y x,λh c=>cN m (l h c),by rw[p,bz],λh c a=>?_⟩;rw[XX];have v:=u h c a;have A:=fD v m;have C:=g h c;omega
theorem HJ{W:List (List Int)}(ok:ZE W){b:Nat}{j B B':Nat->Int}(f:Ly W b j B')(k:∀h,h<W.length->B h<=B' h){h:Nat}(a:h<W.length)(c:h≠b)(i:j h-gN W B h<0):B h<B' h:=by
 refine Int.lt_iff_le_and_ne.mpr ⟨k h a,λe=>?_⟩;have m:=f.free h a c
 have n:gN W B h<=gN W B' h:=by
  have:0<=sN W.length (λg=>ZZ W h g*(B' g-B' h)+(-1)*(ZZ W h g*(B g-B h))):=Yd λg d=>by
   have l:ZZ W h g*(B' g-B' h)+(-1)*(ZZ W h g*(B g-B h))=ZZ W h g*(B' g-B g):=by rw[e,cC,fQ,<-Int.sub_eq_add_neg,<-dt];congr 1;omega
   rw[l];exact cN (ok.lo h g a d) (by have:=k g d;omega)
  rw[ZY,ZC] at this;unfold gN;omega
 omega
structure QB(W:List (List Int))(b:Nat)(N:List Int)(F:List Nat):Prop where
 free:∀h,h<W.length->h≠b->0<=Zl N h
 burn:Burn W N b F
 stop:Xs W N F=none
 all:∀h,h<W.length->h∈F
theorem F5{W:List (List Int)}{N:List Int}(ok:ZE W)(cn:Xr W){b:Nat}(Z:b<W.length){j B R:Nat->Int}{d:Int}(I:0<d)(M:R b=0)(L:∀h,h<W.length->0<=R h/\R h<d)(H:∀h,h<W.length->h≠b->gN W R h = - (d*j h))
  (Q:∀h,h<W.length->Zl N h=j h-gN W B h) (f:Ly W b j B) (k:∀B',Ly W b j B'->∀h,h<W.length->B h<=B' h) {F:List Nat} (w:Burn W N b F) (st:Xs W N F=none):∀h,h<W.length->h∈F:=by
 intro x t;refine bb λC=>?_;have O:=cE w.hd;obtain⟨T,m⟩:∃T:Nat->Int,∀h,T h=if h∈F then 0 else 1:=⟨_,λ_=>rfl⟩
 have G:T b=0:=by rw[m,lQ O]
 have y:∀h,0<=T h/\T h<=1:=λh=>by rw[m];split<;>omega
 -- what the houses outside lend to those that burn
 have u:∀h,h<W.length->h∉F->gN W T h = - XW W h F:=λh c E=>by
  have S:gN W T h=(-1)*sN W.length (λg=>if g∈F then ZZ W h g else 0):=by
   rw[<-ZC];refine Zi λg A=>?_;rw[m,m];split
   ·rw[Int.zero_sub];omega
   ·simp
  have U:sN W.length (λg=>if g∈F then ZZ W h g else 0)=XW W h F:=by
   have s:∀l:List Nat,l.Nodup->(∀x∈l,x<W.length)->sN W.length (λg=>if g∈l then ZZ W h g else 0)=(l.map λo=>ZZ W h o).sum:=by
    intro l
    induction l with
    | nil=>intro _ _;rw[Xf λi _=>by simp];rfl
    | cons a r ih=>
     intro v lt;rw[bU] at v;rw[eV,ky,<-ih v.2 λx t=>lt x (aT _ t)];have:ZZ W h a=sN W.length (λg=>if g=a then ZZ W h a else 0):=by rw[Z6 (lt a aa) λi _ J=>lU J,lQ rfl]
     rw[this,<-ZY];refine Zi λg A=>?_;by_cases q:g=a
     ·subst q;rw[lQ aa,lU v.1];omega
     ·by_cases p:g∈r
      ·rw[lQ (aT _ p),lQ p];omega
      ·rw[lU (λz=>(af.mp z).elim q p),lU q,lU p];rfl
   exact s F w.nd w.lt
  rw[S,U];omega
 have n:∀h,h<W.length->h∈F->0<=gN W T h:=λh c E=>Yd λg A=>by rw[show T h=0 by rw[m,lQ E]];exact cN (ok.lo h g c A) (by have:=(y g).1;omega)
 have sub:∀h,gN W (λx=>B x+(-1)*T x) h=gN W B h-gN W T h:=λh=>by rw[Vm,XX];omega
 have free:∀h,h<W.length->h≠b->0<=j h-gN W (λx=>B x+(-1)*T x) h:=λh c e=>by
  rw[sub];by_cases q:h∈F
  ·have:=n h c q;have:=f.free h c e;omega
  ·have D:=u h c q;have P:=K6 st c q;rw[Q h c] at P;omega
 have f2:Ly W b j (λx=>B x+(-1)*T x):=by
  refine⟨λh c=>?_,by show B b+(-1)*T b=0;rw[f.base,G];rfl,free⟩
  have up:=Cc ok cn Z (λh c e _=>by
   rw[Vm R (λx=>d*(B x+(-1)*T x)),XX,H h c e];have:=free h c e;have X:0<=d*(j h-gN W (λx=>B x+(-1)*T x) h):=cN (by omega) this;rw[dt] at X;omega) h c
  rw[M,f.base,G] at up;have:=(L h c).2;refine iC.mp λneg=>?_;have Y:B h+(-1)*T h<=-1:=by omega
  have h5:d*(B h+(-1)*T h)<=d*(-1):=fD Y (by omega);omega
 have D:=k _ f2 x t;rw[show T x=1 by rw[m,lU C]] at D;omega
theorem WG{W:List (List Int)}{D:List Int}{b:Nat}(ok:ZE W)(cn:Xr W)(I:D.length=W.length)(O:b<W.length)(hD:∀h,h<W.length->(Zl D h).natAbs<=2^208) :
  ∃(S N:List Int) (F:List Nat),Z2 [wP W,pP D,.int (b:Int)]=aA (.tup [pP (ZP S),pP N,.lst (iL (nL F))])/\S.length=W.length/\N=ZS W D S/\QB W b N F:=by
 have hf:=ok.few;obtain⟨a,d,R,en,l0,d0,Rb,S0b,Rs,Rg⟩:=K9 ok cn I O hD;obtain⟨u,y⟩:∃u:Nat->Int,∀h,u h=Zl D h+gN W (Zl a) h:=⟨_,λ_=>rfl⟩;obtain⟨Bs,fs⟩:=Cg ok cn O u;have w:∀S:List Int,(ZS W D S).length=W.length:=λS=>by rw[Yc,I]
 let st:=λS n=>[aA (wP W),aA (pP D),aA (.int (b:Int)),aA (pP S),aA (pP (ZS W D S)),aA (.lst (iL (nL (XC (ZS W D S) b)))),n];have t:∀(S:List Int)(B:Nat->Int),(∀h,h<W.length->Zl S h=Zl a h-B h)->∀h,h<W.length->Zl (ZS W D S) h=u h-gN W B h:=λS B e h j=>by rw[XY (by omega),y,UM (Z:=λx=>Zl a x+(-1)*B x) j (λg hg=>by rw[e g hg];omega),Vm,XX];omega
 let J:=λk s=>∃(S:List Int) (B:Nat->Int) (n:Option PV),s=st S n/\S.length=W.length/\(∀h,h<W.length->Zl S h=Zl a h-B h)/\(∀h,h<W.length->0<=B h)/\B b=0/\(∀B',Ly W b u B'->∀h,h<W.length->B h<=B' h)/\k=(sN W.length (λh=>Bs h-B h)).toNat;have j0:J (sN W.length (λh=>Bs h-0)).toNat (st a none):=⟨a,λ_=>0,none,rfl,l0,λh _=>by(show Zl a h=Zl a h-0);omega,λh _=>dk 0,rfl,λB' f h j=>f.pos h j,rfl⟩
 obtain⟨s',k',w1,⟨S,B,n,rfl,lS,G,Q,P,H,_⟩,w3⟩:=F4 (c:=xB (Zk L5 (Zc Ys [Za 5]) (eC (.int 0)))) (fb:=(Zp (Zr 6 (Zc Xk [Za 0,Za 5]))
  (Zp (Zr 3 (Zc To [Za 3,Za 6]))
  (Zp (Zr 4 (Zc Td [Za 0,Za 4,Za 6]))
  (Zr 5 (Zc Y3 [Za 4,Za 2])))))) J (by
   rintro k s ⟨S,B,n,rfl,lS,G,Q,P,H,rfl⟩;have M:xB (Zk L5 (Zc Ys [Za 5]) (eC (.int 0))) (st S n)=aA (decide ((0:Int)<((XC (ZS W D S) b).length:Int))):=by show aA (decide ((0:Int)<((iL (nL (XC (ZS W D S) b))).length:Int)))=_;simp[nL]
   by_cases q:XC (ZS W D S) b=[]
   ·left;rw[M,q];rfl
   ·right;have ql:=di.mpr q;refine⟨by rw[M,decide_eq_true (by omega)],?_⟩;generalize hL:XC (ZS W D S) b=L at *;have p:∀h,h∈L↔h<W.length/\h≠b/\Zl (ZS W D S) h<0:=λh=>by rw[<-hL,FR,w]
    let m:=K1 S (Vn W.length L);have lb:(Vn W.length L).length=W.length:=by simp[Vn]
    have U:m.length=W.length:=by rw[FL];exact lS
    have T:Zr 6 (Zc Xk [Za 0,Za 5]) [aA (wP W),aA (pP D),aA (.int (b:Int)),aA (pP S),aA (pP (ZS W D S)),aA (.lst (iL (nL L))),n]=aA (.nx [aA (wP W),aA (pP D),aA (.int (b:Int)),aA (pP S),aA (pP (ZS W D S)),aA (.lst (iL (nL L))),aA (pP (Vn W.length L))]):=by have:Zc Xk [Za 0,Za 5] [aA (wP W),aA (pP D),aA (.int (b:Int)),aA (pP S),aA (pP (ZS W D S)),aA (.lst (iL (nL L))),n]=aA (pP (Vn W.length L)):=Ml hf;rw[Yt,this];rfl
    have Y:Zr 3 (Zc To [Za 3,Za 6]) [aA (wP W),aA (pP D),aA (.int (b:Int)),aA (pP S),aA (pP (ZS W D S)),aA (.lst (iL (nL L))),aA (pP (Vn W.length L))]=aA (.nx [aA (wP W),aA (pP D),aA (.int (b:Int)),aA (pP m),aA (pP (ZS W D S)),aA (.lst (iL (nL L))),aA (pP (Vn W.length L))]):=by have:Zc To [Za 3,Za 6] [aA (wP W),aA (pP D),aA (.int (b:Int)),aA (pP S),aA (pP (ZS W D S)),aA (.lst (iL (nL L))),aA (pP (Vn W.length L))]=aA (pP m):=DR (by omega) (by omega);rw[Yt,this];rfl
    have rr:ZS W (ZS W D S) (Vn W.length L)=ZS W D m:=JS I λi hi=>Ln (by omega)
    have e3:Zr 4 (Zc Td [Za 0,Za 4,Za 6]) [aA (wP W),aA (pP D),aA (.int (b:Int)),aA (pP m),aA (pP (ZS W D S)),aA (.lst (iL (nL L))),aA (pP (Vn W.length L))]=aA (.nx [aA (wP W),aA (pP D),aA (.int (b:Int)),aA (pP m),aA (pP (ZS W D m)),aA (.lst (iL (nL L))),aA (pP (Vn W.length L))]):=by
     have:Zc Td [Za 0,Za 4,Za 6] [aA (wP W),aA (pP D),aA (.int (b:Int)),aA (pP m),aA (pP (ZS W D S)),aA (.lst (iL (nL L))),aA (pP (Vn W.length L))]=aA (pP (ZS W D m)):=by rw[<-rr];exact FI ok (w S) lb
     rw[Yt,this];rfl
    have e4:Zr 5 (Zc Y3 [Za 4,Za 2]) [aA (wP W),aA (pP D),aA (.int (b:Int)),aA (pP m),aA (pP (ZS W D m)),aA (.lst (iL (nL L))),aA (pP (Vn W.length L))]=aA (.nx (st m (aA (pP (Vn W.length L))))):=by have:Zc Y3 [Za 4,Za 2] [aA (wP W),aA (pP D),aA (.int (b:Int)),aA (pP m),aA (pP (ZS W D m)),aA (.lst (iL (nL L))),aA (pP (Vn W.length L))]=aA (.lst (iL (nL (XC (ZS W D m) b)))):=PQ (by rw[w];omega);rw[Yt,this];rfl
    obtain⟨B',o⟩:∃B':Nat->Int,∀h,B' h=B h+(if h∈L then 1 else 0):=⟨_,λ_=>rfl⟩
    have less:∀C,Ly W b u C->∀h,h<W.length->B' h<=C h:=λC X h j=>by
     rw[o];by_cases z:h∈L
     ·rw[lQ z];obtain⟨_,z2,z3⟩:=(p h).mp z;rw[t S B G h j] at z3;have:=HJ ok X (λg hg=>H C X g hg) j z2 z3;omega
     ·rw[lU z];have:=H C X h j;omega
    refine⟨st m (aA (pP (Vn W.length L))),(sN W.length (λh=>Bs h-B' h)).toNat,?_,?_,m,B',_,rfl,U,λh j=>?_,λh j=>?_,?_,less,rfl⟩
    ·show Zp _ _ [aA (wP W),aA (pP D),aA (.int (b:Int)),aA (pP S),aA (pP (ZS W D S)),aA (.lst (iL (nL (XC (ZS W D S) b)))),n]=_;rw[hL,VB T,VB Y,VB e3,e4]
    ·have p1:0<=sN W.length (λh=>Bs h-B' h):=Yd λh j=>by have:=less Bs fs h j;omega
     have p2:sN W.length (λh=>Bs h-B h)=sN W.length (λh=>Bs h-B' h)+sN W.length (λh=>if h∈L then 1 else 0):=by
      rw[<-ZY];exact Zi λh _=>by rw[o];omega
     have p3:0<sN W.length (λh=>if h∈L then(1:Int) else 0):=by refine Int.not_le.mp λz=>?_;obtain⟨x,hx⟩:=List.exists_mem_of_length_pos ql;have:=UL (λi _=>by split<;>omega) z x ((p x).mp hx).1;rw[lQ hx] at this;omega
     omega
    ·rw[Ln (by omega),Cf j,G h j,o];split<;>omega
    ·have:=Q h j;rw[o];split<;>omega
    ·rw[o,lU (λz=>((p b).mp z).2.1 rfl),P];rfl) j0
 have E:XC (ZS W D S) b=[]:=by
  refine bb λq=>?_;have ql:=di.mpr q;have M:xB (Zk L5 (Zc Ys [Za 5]) (eC (.int 0))) (st S n)=aA (decide ((0:Int)<((XC (ZS W D S) b).length:Int))):=by show aA (decide ((0:Int)<((iL (nL (XC (ZS W D S) b))).length:Int)))=_;simp[nL]
  rw[M,decide_eq_true (by omega)] at w3;cases w3
 have free:=debt_nil.mp E;rw[w] at free;have nr:=t S B G;have fB:Ly W b u B:=⟨Q,P,λh j v=>by rw[<-nr h j];exact free h j v⟩;obtain⟨F,eF,Bu,A⟩:=FQ ok (w S) O
 -- what the rounding left
 have all:=F5 ok cn O (R:=λh=>R h+(- d)*Zl a h) d0 (by show R b+(- d)*Zl a b=0;rw[Rb,S0b,bz];rfl)
  (λh j=>by
   have:=Rs h j;rw[cC];omega)
  (λh j v=>by rw[Vm R (λx=>(- d)*Zl a x),XX,Rg h j v,y,fP,cC];omega) nr fB H Bu A
 refine⟨S,ZS W D S,F,?_,lS,rfl,free,Bu,A,all⟩;have T:Zr 3 (Zc WA [Za 0,Za 1,Za 2]) [aA (wP W),aA (pP D),aA (.int (b:Int)),none,none,none,none]=aA (.nx [aA (wP W),aA (pP D),aA (.int (b:Int)),aA (pP a),none,none,none]):=by have:Zc WA [Za 0,Za 1,Za 2] [aA (wP W),aA (pP D),aA (.int (b:Int)),none,none,none,none]=aA (pP a):=en;rw[Yt,this];rfl
 have Y:Zr 4 (Zc Td [Za 0,Za 1,Za 3]) [aA (wP W),aA (pP D),aA (.int (b:Int)),aA (pP a),none,none,none]=aA (.nx [aA (wP W),aA (pP D),aA (.int (b:Int)),aA (pP a),aA (pP (ZS W D a)),none,none]):=by have:Zc Td [Za 0,Za 1,Za 3] [aA (wP W),aA (pP D),aA (.int (b:Int)),aA (pP a),none,none,none]=aA (pP (ZS W D a)):=FI ok I l0;rw[Yt,this];rfl
 have e3:Zr 5 (Zc Y3 [Za 4,Za 2]) [aA (wP W),aA (pP D),aA (.int (b:Int)),aA (pP a),aA (pP (ZS W D a)),none,none]=aA (.nx (st a none)):=by have:Zc Y3 [Za 4,Za 2] [aA (wP W),aA (pP D),aA (.int (b:Int)),aA (pP a),aA (pP (ZS W D a)),none,none]=aA (.lst (iL (nL (XC (ZS W D a) b)))):=PQ (by rw[w];omega);rw[Yt,this];rfl
 show(Zp _ _ [aA (wP W),aA (pP D),aA (.int (b:Int)),none,none,none,none]).bind SH=_;rw[VB T,VB Y,VB e3,VB w1];have g1:Zc V1 [Za 3] (st S n)=aA (pP (ZP S)):=P6 (by omega) (by omega);have g2:eP (Za 4) (st S n)=aA (pP (ZS W D S)):=by show(aA (pP (ZS W D S))).bind (λl=>if Ya l=aC then aA l else none)=_;simp
 have g3:Zc Qp [Za 0,Za 4,Za 2] (st S n)=aA (.lst (iL (nL F))):=eF;rw[Lp (by rw[Q6,Zw,Zw,Zw,g1,g2,g3];rfl)];rfl
theorem F6{n:Nat}{l:List Int}(h:l.length=n):∀k:Nat,k<n->ZN (pP l) (.int (k:Int))=aA (.int (Zl l k)):=λk a=>YN (by omega)
theorem Zbt{n:Nat}{l:List Int}(h:l.length=n):∀k:Nat,k<n->ZN (.lst (iL l)) (.int (k:Int))=aA (.int (Zl l k)):=λk a=>YN (by omega)
theorem HK{l:List Int}(a:0<l.length):Xy (ZP l)=0:=by rw[O5 (- Xy l) (Yf l) a λi b=>by rw[XU b];omega];omega
theorem Ci(Y:Nat->Int){n:Nat}(h:0<n):∃h,h<n/\∀g,g<n->Y g<=Y h:=by obtain⟨x,c,b⟩:=PZ (λi=>- Y i) h;exact⟨x,c,λg a=>by have:=b g a;omega⟩
theorem Cj{W:List (List Int)}(ok:ZE W){h:Nat}(m:h<W.length){P:Nat->Prop}[DecidablePred P]:∀{l:List Nat},l.Nodup->(∀x∈l,x<W.length/\¬P x)->XW W h l<=sN W.length (λg=>if P g then 0 else ZZ W h g):=by
 intro l b f
 have d:∀l:List Nat,l.Nodup->(∀x∈l,x<W.length)->sN W.length (λg=>if g∈l then ZZ W h g else 0)=(l.map λo=>ZZ W h o).sum:=by
  intro l
  induction l with
  | nil=>intro _ _;rw[Xf λi _=>by simp];rfl
  | cons a r ih=>
   intro b lt;rw[bU] at b;rw[eV,ky,<-ih b.2 λx e=>lt x (aT _ e)];have:ZZ W h a=sN W.length (λg=>if g=a then ZZ W h a else 0):=by rw[Z6 (lt a aa) λi _ k=>lU k,lQ rfl]
   rw[this,<-ZY];refine Zi λg j=>?_;by_cases q:g=a
   ·subst q;rw[lQ aa,lU b.1];omega
   ·by_cases c:g∈r
    ·rw[lQ (aT _ c),lQ c];omega
    ·rw[lU (λz=>(af.mp z).elim q c),lU q,lU c];rfl
 unfold XW;rw[<-d l b λx e=>(f x e).1]
 have:0<=sN W.length (λg=>(if P g then 0 else ZZ W h g)+(-1)*(if g∈l then ZZ W h g else 0)):=Yd λg j=>by
  have:=ok.lo h g m j;by_cases q:g∈l
  ·rw[lU (f g q).2];omega
  ·rw[lU q];split<;>omega
 rw[ZY,ZC] at this;omega
theorem J7{W:List (List Int)}{N M:List Int}{b:Nat}{F:List Nat}(ok:ZE W)(S:b<W.length){T:Nat->Int}(B:Burn W N b F)(all:∀h,h<W.length->h∈F)(O:∀h,h<W.length->Zl M h=Zl N h+gN W T h)(fr:∀h,h<W.length->h≠b->0<=Zl M h):∀h,h<W.length->T h<=T b:=by
 intro x w;refine iC.mp λE=>?_;obtain⟨m,J,s⟩:=Ci T (n:=W.length) (by omega);have L:T b<T m:=by have:=s x w;omega
 -- the first of the greatest that burns
 have G:∀k:Nat,(∃j,j<k/\∃h,F[j]?=aA h/\T h=T m)\/∀j,j<k->∀h,F[j]?=aA h->T h≠T m:=by
  intro k;by_cases q:∃j,j<k/\∃h,F[j]?=aA h/\T h=T m
  ·exact .inl q
  ·exact .inr λj c h a e=>q ⟨j,c,h,a,e⟩
 have first:∀k:Nat,(∃h,F[k]?=aA h/\T h=T m)->∃k h:Nat,F[k]?=aA h/\T h=T m/\∀j,j<k->∀h,F[j]?=aA h->T h≠T m:=by
  intro k
  induction k using k5 with
  | ind k ih=>
   rintro⟨h,e,t⟩;rcases G k with⟨j,c,q⟩ | q
   ·exact ih j c q
   ·exact⟨k,h,e,t,q⟩
 obtain⟨H,o,D⟩:=dj (all m J);obtain⟨k,h,d,u,i⟩:=first H ⟨m,by rw[aG o,D],rfl⟩
 have C:1<=k:=by
  refine iB.mp λq=>?_;have:k=0:=by omega
  subst this;rw[B.hd] at d;cases d;omega
 have I:=(aQ.mp d).1;have a:=B.lt h (cE d);have st:=B.st k C I;rw[d] at st;obtain⟨_,_,lt⟩:=PN st;have l:h≠b:=λz=>by rw[z] at u;omega
 have A:(F.take k).Nodup:=B.nd.sublist (jx _ _);have Q:=Cj ok a A λy p=>by refine⟨B.lt y (fO p),λz=>?_⟩;obtain⟨j,c,e⟩:=dj p;rw[ay] at c;exact i j (by omega) y (by rw[<-dQ (show j<k by omega),aG (by rw[ay];exact c),e]) z
 have P:gN W T h<=- sN W.length (λg=>if T g=T m then 0 else ZZ W h g):=by
  have:0<=sN W.length (λg=>(-1)*(if T g=T m then 0 else ZZ W h g)+(-1)*(ZZ W h g*(T g-T h))):=Yd λg v=>by
   have lo:=ok.lo h g a v;have R:=s g v;rw[u];by_cases q:T g=T m
   ·rw[q];simp
   ·rw[lU q];have:0<=ZZ W h g*(T m-T g-1):=cN lo (by omega);have e:ZZ W h g*(T m-T g-1)=(-1)*ZZ W h g+(-1)*(ZZ W h g*(T g-T m)):=by rw[dt,dt,dt];omega
    omega
  rw[ZY,ZC,ZC] at this;unfold gN;omega
 have f:=fr h a l;rw[O h a] at f;omega
theorem RW{W:List (List Int)}{N M:List Int}{b:Nat}{F G:List Nat}(ok:ZE W)(d:b<W.length){T:Nat->Int}(s1:QB W b N F)(s2:QB W b M G)(c:∀h,h<W.length->Zl M h=Zl N h+gN W T h):∀h,h<W.length->T h=T b:=by intro h a;have f:=J7 ok d s1.burn s1.all c s2.free h a;have g:=J7 (T:=λx=>(-1)*T x) ok d s2.burn s2.all (λx e=>by rw[c x e,XX];omega) s1.free h a;omega
theorem P7{W:List (List Int)}{T:Nat->Int}{c:Int}(e:∀h,h<W.length->T h=c){h:Nat}(b:h<W.length):gN W T h=0:=Xf λg a=>by rw[e g a,e h b];simp
theorem HL{W:List (List Int)}{D S N:List Int}{b:Nat}{F:List Nat}(ok:ZE W)(y:Xr W)(j:D.length=W.length)(o:b<W.length)(u:∀h,h<W.length->(Zl D h).natAbs<=2^208)
  (z:S.length=W.length) (n:N=ZS W D S) (st:QB W b N F):Z2 [wP W,pP D,.int (b:Int)]=aA (.tup [pP (ZP S),pP N,.lst (iL (nL F))]):=by
 obtain⟨g,k,q,e,s,f,a⟩:=WG ok y j o u;have C:N.length=W.length:=by rw[n,Yc,j]
 have w:k.length=W.length:=by rw[f,Yc,j]
 have d:∀h,h<W.length->Zl N h=Zl k h+gN W (λx=>Zl S x+(-1)*Zl g x) h:=λh B=>by rw[n,f,XY (by omega),XY (by omega),Vm (Zl S) (λx=>(-1)*Zl g x),XX];omega
 have m:=RW ok o a st d;obtain⟨c,A⟩:∃c,c=Zl S b+(-1)*Zl g b:=⟨_,rfl⟩;have l:N=k:=Wy (by omega) λi p=>by rw[d i (by omega),P7 m (by omega)];omega
 have t:ZP S=ZP g:=RV c (by omega) (by omega) λi p=>by have:=m i (by omega);omega
 have v:F=q:=by have b1:=st.burn;have b2:=st.stop;rw[l] at b1 b2;exact Burn.uniq b1 a.burn b2 a.stop
 rw[e,t,l,v]
theorem F7{f:Nat->Int}{M:Nat}:∀{n:Nat},(∀i,i<n->(f i).natAbs<=M)->(sN n f).natAbs<=n*M
 | 0,_=>by show(0:Int).natAbs<=_;simp
 | n+1,h=>by have b:=F7 (n:=n) λi c=>h i (by omega);have a:=h n (by omega);show(sN n f+f n).natAbs<=_;rw[kZ,Nat.one_mul];omega
theorem WV(l:List Int):l.sum=sN l.length (Zl l):=by rw[<-Xt,Nt]
end PW
namespace PM
open PW
noncomputable def mul(m:Nat)(A B:Mt):Mt:=λi j=>sN m λk=>A i k*B k j
noncomputable def one:Mt:=λi j=>if i=j then 1 else 0
noncomputable def EqM(m:Nat)(A B:Mt):Prop:=∀i j,i<m->j<m->A i j=B i j
theorem Ck(c:Int)(f:Nat->Int)(n:Nat):sN n (λi=>f i*c)=sN n f*c:=by rw[bG,<-ZC];exact Zi λi _=>bG _ _
theorem X7(m:Nat)(A B C:Mt)(i j:Nat):mul m (mul m A B) C i j=mul m A (mul m B C) i j:=by show sN m (λk=>sN m (λl=>A i l*B l k)*C k j)=sN m (λl=>A i l*sN m (λk=>B l k*C k j));rw[Zi (g:=λk=>sN m (λl=>A i l*B l k*C k j)) λk _=>(Ck _ _ _).symm];rw[Sh (λk l=>A i l*B l k*C k j)];refine Zi λl _=>?_;rw[<-ZC];exact Zi λk _=>bh _ _ _
theorem mul_one{m:Nat}{A:Mt}{i j:Nat}(a:j<m):mul m A one i j=A i j:=by
 show sN m (λk=>A i k*one k j)=_;rw[Z6 a]
 ·unfold one;rw[lQ rfl,g8]
 ·intro k _ h;unfold one;rw[lU h,bz]
theorem one_mul{m:Nat}{A:Mt}{i j:Nat}(a:i<m):mul m one A i j=A i j:=by
 show sN m (λk=>one i k*A k j)=_;rw[Z6 a]
 ·unfold one;rw[lQ rfl,fQ]
 ·intro k _ h;unfold one;rw[lU (λz=>h z.symm),cD]
theorem ZL{m:Nat}{A A' B B':Mt}{i j:Nat}(h:∀k,k<m->A i k=A' i k)(b:∀k,k<m->B k j=B' k j):mul m A B i j=mul m A' B' i j:=Zi λk a=>by rw[h k a,b k a]
theorem EqM.mulL{m:Nat}{A A' B:Mt}(h:EqM m A A'):EqM m (mul m A B) (mul m A' B):=λi j b c=>ZL (λk a=>h i k b a) λ_ _=>rfl
theorem EqM.mulR{m:Nat}{A B B':Mt}(h:EqM m B B'):EqM m (mul m A B) (mul m A B'):=λi j c b=>ZL (λ_ _=>rfl) λk a=>h k j a b
theorem EqM.trans{m:Nat}{A B C:Mt}(h:EqM m A B)(c:EqM m B C):EqM m A C:=λi j a b=>(h i j a b).trans (c i j a b)
noncomputable def tr(A:Mt):Mt:=λi j=>A j i
theorem RJ(m:Nat)(A B:Mt)(i j:Nat):tr (mul m A B) i j=mul m (tr B) (tr A) i j:=Zi λk _=>bG _ _
theorem QC{m:Nat}{A A' B B':Mt}(h:EqM m (mul m A A') one)(b:EqM m (mul m B B') one):EqM m (mul m (mul m A B) (mul m B' A')) one:=λi j c f=>by
 rw[X7];have e:mul m A (mul m B (mul m B' A')) i j=mul m A A' i j:=ZL (λ_ _=>rfl) λk a=>by rw[<-X7,ZL (A':=one) (B':=A') (λl d=>b k l a d) (λ_ _=>rfl),one_mul a]
 rw[e];exact h i j c f
structure RT(m p:Nat)(E E':Mt):Prop where
 ex:∃U V:Mt,EqM m (mul m U V) one/\EqM m (mul m V U) one/\(∀i j,i<m->E' i j=mul m U E i j)/\(∀i k,p<=i->i<m->k<p->U i k=0/\V i k=0)
 up:∀i j,i<p->E' i j=E i j
 low:∀i j,m<=i->E' i j=E i j
theorem RT.refl{m p:Nat}{E:Mt}:RT m p E E:=⟨⟨one,one,λi j a b=>mul_one b,λi j a b=>mul_one b,λi j a=>(one_mul a).symm,λi k d c e=>by unfold one;rw[lU (by omega)];exact⟨rfl,rfl⟩⟩,λ_ _ _=>rfl,λ_ _ _=>rfl⟩
theorem J8{m p:Nat}{U a:Mt}(e:p<=m)(h:∀i k,p<=i->i<m->k<p->U i k=0)(c:∀i k,p<=i->i<m->k<p->a i k=0):∀i k,p<=i->i<m->k<p->mul m U a i k=0:=λi k d b g=>Xf λl f=>by
 by_cases q:l<p
 ·rw[h i l d b q,cD]
 ·rw[c l k (by omega) f g,bz]
theorem RT.trans{m p:Nat}{E e c:Mt}(b:p<=m)(h:RT m p E e)(d:RT m p e c):RT m p E c:=by obtain⟨U,V,q,w,v,o⟩:=h.ex;obtain⟨A,s,b1,b2,u,n⟩:=d.ex;refine⟨⟨mul m A U,mul m V s,QC b1 q,QC w b2,λi j a=>?_,λi k f g l=>⟨J8 b (λi k x y z=>(n i k x y z).1) (λi k x y z=>(o i k x y z).1) i k f g l,J8 b (λi k x y z=>(o i k x y z).2) (λi k x y z=>(n i k x y z).2) i k f g l⟩⟩,λi j a=>(d.up i j a).trans (h.up i j a),λi j a=>(d.low i j a).trans (h.low i j a)⟩;rw[u i j a,X7];exact ZL (λ_ _=>rfl) λk t=>v k j t
theorem RT.back{m p:Nat}{E c:Mt}(h:RT m p E c):RT m p c E:=by obtain⟨U,V,n,f,o,l⟩:=h.ex;refine⟨⟨V,U,f,n,λi j a=>?_,λi k e d g=>⟨(l i k e d g).2,(l i k e d g).1⟩⟩,λi j a=>(h.up i j a).symm,λi j a=>(h.low i j a).symm⟩;rw[ZL (A':=V) (B':=mul m U E) (λ_ _=>rfl) (λk b=>o k j b),<-X7,ZL (A':=one) (B':=E) (λk b=>f i k a b) (λ_ _=>rfl),one_mul a]
theorem Ja{c:Int}{f:Nat->Int}:∀{n:Nat},(∀i,i<n->c∣f i)->c∣sN n f
 | 0,_=>cV c
 | n+1,h=>Int.dvd_add (Ja λi a=>h i (by omega)) (h n (by omega))
theorem RT.dvd{m p:Nat}{E a:Mt}(h:RT m p E a){c:Int}{j:Nat}(d:∀i,p<=i->i<m->c∣E i j):∀i,p<=i->i<m->c∣a i j:=λi f b=>by
 obtain⟨U,V,n,o,g,l⟩:=h.ex;rw[g i j b];refine Ja λk e=>?_;by_cases q:k<p
 ·rw[(l i k f b q).1,cD];exact cV c
 ·exact i0 (d k (by omega) e)
theorem RT.sub{m p a b:Nat}{q:Int}{E:Mt}(C:p<=a)(B:a<m)(I:p<=b)(n:b<m)(ne:a≠b):RT m p E (λi j=>if i=a then E i j-q*E b j else E i j):=by
 have f:∀(c:Int)(i:Nat)(F:Mt)(j:Nat),i<m->mul m (λi k=>one i k+(if i=a/\k=b then c else 0)) F i j=F i j+(if i=a then c*F b j else 0):=λc i F j e=>by
  show sN m (λk=>(one i k+(if i=a/\k=b then c else 0))*F k j)=_;rw[Zi (g:=λk=>one i k*F k j+(if i=a/\k=b then c else 0)*F k j) λk _=>jS _ _ _,ZY];have o:sN m (λk=>one i k*F k j)=F i j:=one_mul (A:=F) e;rw[o];congr 1;by_cases z:i=a
  ·rw[lQ z,Z6 n]
   ·rw[lQ ⟨z,rfl⟩]
   ·intro k _ s;rw[lU (λw=>s w.2),cD]
  ·rw[lU z];exact Xf λk _=>by rw[lU (λw=>z w.1),cD]
 have l:∀(c d:Int)(i j:Nat),c = - d->(one i j+(if i=a/\j=b then d else 0))+(if i=a then c*(one b j+(if b=a/\j=b then d else 0)) else 0)=one i j:=λc d i j h=>by
  have u:=bN ne;by_cases z:i=a
  ·simp only[z,true_and,if_true,u,false_and,if_false,gs];by_cases w:j=b
   ·subst w;simp[one];omega
   ·have t:¬b=j:=λx=>w x.symm;simp[one,w,t]
  ·simp[z]
 refine⟨⟨λi k=>one i k+(if i=a/\k=b then -q else 0),λi k=>one i k+(if i=a/\k=b then q else 0),λi j e v=>?_,λi j e v=>?_,λi j e=>?_,λi k G D H=>?_⟩,λi j e=>?_,λi j e=>?_⟩
 ·exact(f _ i _ j e).trans (l (-q) q i j (by omega))
 ·exact(f _ i _ j e).trans (l q (-q) i j (by omega))
 ·rw[f _ i _ j e];by_cases z:i=a
  ·rw[lQ z,lQ z,cC];omega
  ·rw[lU z,lU z];omega
 ·have o:¬i=k:=by omega
  have y:¬k=b:=by omega
  simp[one,o,y]
 ·show(if i=a then _ else _)=_;rw[lU (by omega)]
 ·show(if i=a then _ else _)=_;rw[lU (by omega)]
noncomputable def sw(a b i:Nat):Nat:=if i=a then b else if i=b then a else i
theorem Zbu(a b i:Nat):sw a b (sw a b i)=i:=by unfold sw;split<;>(try split)<;>(try split)<;>omega
theorem sw_lt{a b i m:Nat}(e:a<m)(d:b<m)(c:i<m):sw a b i<m:=by unfold sw;split<;>(try split)<;>omega
theorem RT.swap{m p a b:Nat}{E:Mt}(g:p<=a)(f:a<m)(q:p<=b)(e:b<m):RT m p E (λi j=>E (sw a b i) j):=by
 have d:∀(F:Mt)(i j:Nat),i<m->mul m (λi k=>one (sw a b i) k) F i j=F (sw a b i) j:=λF i j c=>one_mul (A:=F) (sw_lt f e c);have inv:EqM m (mul m (λi k=>one (sw a b i) k) (λi k=>one (sw a b i) k)) one:=λi j c n=>by rw[d _ i j c,Zbu]
 refine⟨⟨_,_,inv,inv,λi j c=>(d E i j c).symm,λi k l h o=>?_⟩,λi j c=>?_,λi j c=>?_⟩
 ·have:one (sw a b i) k=0:=by
   unfold one sw;rw[lU];split<;>(try split)<;>omega
  exact⟨this,this⟩
 ·show E (sw a b i) j=_;unfold sw;rw[lU (by omega),lU (by omega)]
 ·show E (sw a b i) j=_;unfold sw;rw[lU (by omega),lU (by omega)]
theorem RT.neg{m p a:Nat}{E:Mt}(f:p<=a)(d:a<m):RT m p E (λi j=>if i=a then-E i j else E i j):=by
 have c:∀(F:Mt)(i j:Nat),i<m->mul m (λi k=>if i=a then-one i k else one i k) F i j=if i=a then-F i j else F i j:=λF i j b=>by
  have e:sN m (λk=>one i k*F k j)=F i j:=one_mul (A:=F) b;by_cases z:i=a
  ·show sN m (λk=>(if i=a then-one i k else one i k)*F k j)=_;rw[lQ z,<-e,Zi (g:=λk=>(-1)*(one i k*F k j)) λk _=>by rw[lQ z,cC];omega,ZC];omega
  ·show sN m (λk=>(if i=a then-one i k else one i k)*F k j)=_;rw[lU z,<-e];exact Zi λk _=>by rw[lU z]
 have inv:EqM m (mul m (λi k=>if i=a then-one i k else one i k) (λi k=>if i=a then-one i k else one i k)) one:=λi j b n=>by
  rw[c _ i j b];split
  ·omega
  ·rfl
 refine⟨⟨_,_,inv,inv,λi j b=>(c E i j b).symm,λi k l h o=>?_⟩,λi j b=>?_,λi j b=>?_⟩
 ·have:one i k=0:=by unfold one;rw[lU (by omega)]
  simp only[this];split<;>exact⟨rfl,rfl⟩
 ·show(if i=a then _ else _)=_;rw[lU (by omega)]
 ·show(if i=a then _ else _)=_;rw[lU (by omega)]
structure Adm(m:Nat)(A0 E:Mt):Prop where
 ex:∃L' R':Mt,EqM m (mul m (λi k=>E i (m+k)) L') one/\EqM m (mul m L' (λi k=>E i (m+k))) one/\EqM m (mul m (λi k=>E (m+i) k) R') one/\EqM m (mul m R' (λi k=>E (m+i) k)) one
 val:EqM m (mul m (λi k=>E i (m+k)) (mul m A0 (λi k=>E (m+i) k))) E
 nil:∀i j,i<m->j<m->E (m+i) (m+j)=0
theorem Adm.rt{m p:Nat}{f E c:Mt}(h:Adm m f E)(r:RT m p E c):Adm m f c:=by obtain⟨U,V,n,q,l,v⟩:=r.ex;obtain⟨u,t,b1,b2,o,s⟩:=h.ex;have d:EqM m (λi k=>c i (m+k)) (mul m U (λi k=>E i (m+k))):=λi j a b=>l i (m+j) a;have e:EqM m (λi k=>c (m+i) k) (λi k=>E (m+i) k):=λi j a b=>r.low _ _ (by omega);refine⟨⟨mul m u V,t,(d.mulL).trans (QC n b1),(d.mulR).trans (QC b2 q),(e.mulL).trans o,(e.mulR).trans s⟩,λi j a b=>?_,λi j a b=>by rw[r.low _ _ (by omega)];exact h.nil i j a b⟩;rw[l i j a,d.mulL i j a b,X7];refine ZL (λ_ _=>rfl) λk g=>?_;rw[EqM.mulR (A:=λi k=>E i (m+k)) (EqM.mulR (A:=f) e) k j g b];exact h.val k j g b
theorem Adm.tr{m:Nat}{c E:Mt}(h:Adm m c E):Adm m (tr c) (tr E):=by
 obtain⟨g,f,b1,b2,l,o⟩:=h.ex
 have d:EqM m (PM.tr one) one:=λi j _ _=>by
  unfold PM.tr one;by_cases q:i=j
  ·rw[lQ q,lQ q.symm]
  ·rw[lU q,lU (λz=>q z.symm)]
 refine⟨⟨PM.tr f,PM.tr g,λi j a b=>?_,λi j a b=>?_,λi j a b=>?_,λi j a b=>?_⟩,λi j a b=>?_,λi j a b=>h.nil j i b a⟩
 ·exact((RJ m f (λi k=>E (m+i) k) i j).symm.trans (o j i b a)).trans (d i j a b)
 ·exact((RJ m (λi k=>E (m+i) k) f i j).symm.trans (l j i b a)).trans (d i j a b)
 ·exact((RJ m g (λi k=>E i (m+k)) i j).symm.trans (b2 j i b a)).trans (d i j a b)
 ·exact((RJ m (λi k=>E i (m+k)) g i j).symm.trans (b1 j i b a)).trans (d i j a b)
 ·have e:=h.val j i b a;show mul m (λi k=>E (m+k) i) (mul m (PM.tr c) (λi k=>E k (m+i))) i j=E j i;rw[<-e,<-X7];have q:=RJ m (λi k=>E i (m+k)) (mul m c (λi k=>E (m+i) k)) i j;have n:mul m (PM.tr (mul m c (λi k=>E (m+i) k))) (PM.tr (λi k=>E i (m+k))) i j=mul m (mul m (λi k=>E (m+k) i) (PM.tr c)) (λi k=>E k (m+i)) i j:=ZL (λk _=>RJ m c (λi k=>E (m+i) k) i k) λ_ _=>rfl;exact(q.trans n).symm
theorem Adm.div{m:Nat}{d b E:Mt}{D:Int}(h:Adm m d E)(t:EqM m (mul m b d) (λi j=>D*one i j)){c:Int}{j:Nat}(q:j<m)(s:∀i,i<m->c∣E i j):c∣D:=by
 obtain⟨f,a,b1,b2,v,u⟩:=h.ex
 have e:mul m (mul m a (mul m b f)) E j j=D:=by
  have s1:mul m (mul m a (mul m b f)) E j j=mul m a (mul m (mul m b f) E) j j:=X7 ..;rw[s1]
  have s2:∀k,k<m->mul m (mul m b f) E k j=D*E (m+k) j:=λk o=>by
   rw[X7];rw[ZL (A':=b) (B':=mul m d (λi k=>E (m+i) k)) (λ_ _=>rfl) (λl n=>?_)]
   ·rw[<-X7,ZL (A':=λi j=>D*one i j) (B':=λi k=>E (m+i) k) (λl n=>t k l o n) (λ_ _=>rfl)];show sN m (λl=>D*one k l*E (m+l) j)=_;rw[Zi (g:=λl=>D*(one k l*E (m+l) j)) λl _=>bh _ _ _,ZC];congr 1;exact one_mul (A:=λi k=>E (m+i) k) o
   ·rw[ZL (A':=f) (B':=mul m (λi k=>E i (m+k)) (mul m d (λi k=>E (m+i) k))) (λ_ _=>rfl) (λi p=>(h.val i j p q).symm),<-X7,ZL (A':=one) (B':=mul m d (λi k=>E (m+i) k)) (λi p=>b2 l i n p) (λ_ _=>rfl),one_mul n]
  rw[ZL (A':=a) (B':=λk j=>D*E (m+k) j) (λ_ _=>rfl) s2];show sN m (λk=>a j k*(D*E (m+k) j))=D;rw[Zi (g:=λk=>D*(a j k*E (m+k) j)) λk _=>by rw[<-bh,bG (a j k),bh],ZC];have:sN m (λk=>a j k*E (m+k) j)=1:=by have:=u j j q q;unfold one at this;rw[lQ rfl] at this;exact this
  rw[this,g8]
 rw[<-e];exact Ja λk o=>i0 (s k o)
theorem F8{x p:Int}(d:0<=x)(c:0<p):(x.fdiv p).natAbs=x.natAbs/p.natAbs/\(x-x.fdiv p*p).natAbs=x.natAbs%p.natAbs/\0<=(x-x.fdiv p*p)*p:=by
 obtain⟨a,rfl⟩:=ic d;obtain⟨b,rfl⟩:=ic (gv c);have e:(a:Int).fdiv (b:Int)=((a/b:Nat):Int):=by rw[dB _ (gv c)];exact(kS a b).symm
 have r:(a:Int)-((a/b:Nat):Int)*(b:Int)=((a%b:Nat):Int):=by
  have:=k8 a b;have h:(b:Int)*((a/b:Nat):Int)+((a%b:Nat):Int)=(a:Int):=by exact_mod_cast this
  rw[bG] at h;omega
 rw[e,r];exact⟨rfl,rfl,cN (iD _) (iD _)⟩
theorem Cm{x p:Int}(h:0<=x*p)(d:p≠0):(x.fdiv p).natAbs=x.natAbs/p.natAbs/\(x-x.fdiv p*p).natAbs=x.natAbs%p.natAbs/\0<=(x-x.fdiv p*p)*p:=by
 rcases fG d with c | a
 ·have f:x<=0:=by refine iC.mp λz=>?_;have:=Int.mul_neg_of_pos_of_neg z c;omega
  have:=F8 (x:=-x) (p:=-p) (by omega) (by omega);rw[kR,iE,iE] at this;refine⟨this.1,?_,?_⟩
  ·rw[<-this.2.1,<-iE];congr 1;rw[iP];omega
  ·have b:=this.2.2;have e:(-x-x.fdiv p * -p) * -p=(x-x.fdiv p*p)*p:=by rw[iP,<-cC,iP];congr 1;omega
   rw[e] at b;exact b
 ·refine F8 (iC.mp λz=>?_) a;have:=iO z a;omega
theorem fd_any{x p:Int}(h:p≠0):(x-x.fdiv p*p).natAbs<p.natAbs/\0<=(x-x.fdiv p*p)*p/\(x.fdiv p).natAbs<=x.natAbs+1:=by
 have e:x-x.fdiv p*p=x.fmod p:=by have:=Int.mul_fdiv_add_fmod x p;rw[bG] at this;omega
 have r:(x.fmod p).natAbs<p.natAbs/\0<=x.fmod p*p:=by
  rcases fG h with k | a
  ·have c:=jB (-x) (b:=-p) (by omega);have f:=jm (-x) (b:=-p) (by omega);rw[Int.neg_fmod_neg] at c f;refine⟨by omega,?_⟩;have:=cN c (show 0<=-p by omega);rw[Int.neg_mul_neg] at this;exact this
  ·have c:=jB x (b:=p) a;have f:=jm x (b:=p) a;exact⟨by omega,cN c (by omega)⟩
 rw[e];refine⟨r.1,r.2,?_⟩;have i:x.fdiv p*p=x-x.fmod p:=by omega
 have l:(x.fdiv p).natAbs*p.natAbs<=x.natAbs+(x.fmod p).natAbs:=by rw[<-dX,i];exact iQ _ _
 refine iB.mp λz=>?_;have d:1<=p.natAbs:=by omega
 have g:(x.natAbs+2)*p.natAbs<=(x.fdiv p).natAbs*p.natAbs:=cu _ z;rw[kZ] at g;have j:x.natAbs*1<=x.natAbs*p.natAbs:=cI _ d;omega
noncomputable def Bo(m k j N:Nat)(E:Mt):Prop:=∀i,k<=i->i<m->(E i j).natAbs<=N
structure Fst(m k:Nat)(E:Mt)(f:Nat):Prop where
 lo:k<f
 hi:f<m
 ne:E f k≠0
 ze:∀i,k<i->i<f->E i k=0
noncomputable def red(m k:Nat)(E:Mt):Mt:=λi j=>if k<i/\i<m then E i j-(E i k).fdiv (E k k)*E k j else E i j
theorem red_k{m k j:Nat}{E:Mt}:red m k E k j=E k j:=by unfold red;rw[lU (by omega)]
theorem O9{m k i j:Nat}{E:Mt}(h:k<i)(a:i<m):red m k E i j=E i j-(E i k).fdiv (E k k)*E k j:=by unfold red;rw[lQ ⟨h,a⟩]
theorem RT.many{m k:Nat}{E:Mt}(q:Nat->Int)(d:k<m):RT m k E (λi j=>if k<i/\i<m then E i j-q i*E k j else E i j):=by
 have g:∀t,t<=m->RT m k E (λi j=>if k<i/\i<t then E i j-q i*E k j else E i j):=by
  intro t
  induction t with
  | zero=>intro _;rw[show(λi j=>if k<i/\i<0 then E i j-q i*E k j else E i j)=E from funext λi=>funext λj=>lU (by omega)];exact RT.refl
  | succ t ih=>
   intro h;have c:=ih (by omega);by_cases z:k<t
   ·refine c.trans (by omega) ?_;have f:=RT.sub (m:=m) (p:=k) (a:=t) (b:=k) (q:=q t) (E:=λi j=>if k<i/\i<t then E i j-q i*E k j else E i j) (by omega) (by omega) (aJ _) d (by omega)
    have e:(λi j=>if k<i/\i<t+1 then E i j-q i*E k j else E i j)=(λi j=>if i=t then(if k<i/\i<t then E i j-q i*E k j else E i j)-q t*(if k<k/\k<t then E k j-q k*E k j else E k j) else if k<i/\i<t then E i j-q i*E k j else E i j):=by
     funext i j;rw[lU (show ¬(k<k/\k<t) by omega)];by_cases w:i=t
     ·subst w;rw[lQ ⟨z,by omega⟩,lQ rfl,lU (by omega)]
     ·rw[lU w];by_cases y:k<i/\i<t
      ·rw[lQ y,lQ ⟨y.1,by omega⟩]
      ·rw[lU y,lU (by omega)]
    rw[e];exact f
   ·have e:(λi j=>if k<i/\i<t+1 then E i j-q i*E k j else E i j)=(λi j=>if k<i/\i<t then E i j-q i*E k j else E i j):=by funext i j;rw[lU (by omega),lU (by omega)]
    rw[e];exact c
 exact g m (aJ _)
theorem rt_red{m k:Nat}{E:Mt}(a:k<m):RT m k E (red m k E):=RT.many (λi=>(E i k).fdiv (E k k)) a
open Classical in
noncomputable def pre(k f:Nat)(E:Mt):Mt:=if E k k=0\/(E f k).natAbs<(E k k).natAbs then λi j=>E (sw k f i) j else E
theorem rt_pre{m k f:Nat}{E:Mt}(a:k<m)(h:k<f)(b:f<m):RT m k E (pre k f E):=by
 unfold pre;split
 ·exact RT.swap (aJ _) a (by omega) b
 ·exact RT.refl
theorem HM(a b:Nat):sw a b a=b:=by unfold sw;rw[lQ rfl]
theorem AO{a b:Nat}(h:a≠b):sw a b b=a:=by unfold sw;rw[lU (λz=>h z.symm),lQ rfl]
theorem sw_c{a b i:Nat}(h:i≠a)(c:i≠b):sw a b i=i:=by unfold sw;rw[lU h,lU c]
structure Hyp(m k:Nat)(E:Mt)(j N M P:Nat):Prop where
 bo:Bo m k j N E
 one:1<=P
 piv:E k k≠0->(E k k).natAbs<=P
 nil:E k k=0->∀i,k<i->i<m->(E i k).natAbs<=P
 col:(∀i,k<=i->i<m->(E i k).natAbs<=M)\/(m=k+2/\E k j=0/\E k k≠0/\(E k k).natAbs<=M)
structure Aft(m k:Nat)(E0 E:Mt):Prop where
 nz:E k k≠0
 sg:∀i,k<i->i<m->(E i k).natAbs<(E k k).natAbs/\0<=E i k*E k k
 dv:E0 k k≠0->(∀i,k<i->i<m->E0 k k∣E0 i k)->E=red m k E0
 pv:∀P,(E0 k k≠0->(E0 k k).natAbs<=P)->(E0 k k=0->∀i,k<i->i<m->(E0 i k).natAbs<=P)->(E k k).natAbs<=P
 po:∀j N M P,Hyp m k E0 j N M P->∃N',Bo m k j N' E/\N'<=2*(N*(M+2)*P^3)/\∀f,Fst m k E f->N'*(E k k).natAbs*((E k k).natAbs*(E f k).natAbs)<=N*(M+2)*P^3
theorem Jb{x y q:Int}{N Q:Nat}(e:x.natAbs<=N)(a:y.natAbs<=N)(b:q.natAbs<=Q):(x-q*y).natAbs<=N*(1+Q):=by have c:=iQ x (q*y);rw[dX] at c;have d:q.natAbs*y.natAbs<=Q*N:=dG b a;rw[Nat.mul_add,Nat.mul_one,fF N Q];omega
theorem Aft.first{m k f:Nat}{E:Mt}(o:k<m)(F:Fst m k E f):Aft m k E (red m k (pre k f E)):=by
 have B:=F.lo
 have c:pre k f E k k≠0:=by
  unfold pre;split
  ·show E (sw k f k) k≠0;rw[HM];exact F.ne
  ·rename_i h;exact λz=>h (.inl z)
 have pv:∀P,(E k k≠0->(E k k).natAbs<=P)->(E k k=0->∀i,k<i->i<m->(E i k).natAbs<=P)->(pre k f E k k).natAbs<=P:=λP piv nil=>by
   unfold pre;split
   ·rename_i h;show(E (sw k f k) k).natAbs<=P;rw[HM];rcases h with z | z
    ·exact nil z f F.lo F.hi
    ·have:=piv (by omega);omega
   ·rename_i h;exact piv λz=>h (.inl z)
 refine⟨by rw[red_k];exact c,λi b a=>?_,λp A=>?_,λP piv nil=>by rw[red_k];exact pv P piv nil,λj N M P H=>?_⟩
 ·rw[red_k,O9 b a];have:=fd_any (x:=pre k f E i k) c;exact⟨this.1,this.2.1⟩
 ·have:pre k f E=E:=by
   unfold pre;rw[lU];rintro(z | z)
   ·exact p z
   ·have:=cJ.mpr (A f F.lo F.hi);have:=cy (by have:=F.ne;omega) this;omega
  rw[this]
 ·have pP:=pv P H.piv H.nil
  have w:Bo m k j (N*(M+2)) (red m k (pre k f E)):=λi b a=>by
   have l:N<=N*(M+2):=br N (by omega);by_cases e:i=k
   ·subst e;rw[red_k];refine aP ?_ l;unfold pre;split
    ·show(E (sw i f i) j).natAbs<=N;rw[HM];exact H.bo f (by omega) F.hi
    ·exact H.bo i b a
   ·rw[O9 (by omega) a]
    have t:(pre k f E i j).natAbs<=N:=by
     unfold pre;split
     ·show(E (sw k f i) j).natAbs<=N;unfold sw;split
      ·exact H.bo f (by omega) F.hi
      ·split
       ·exact H.bo k (by omega) o
       ·exact H.bo i b a
     ·exact H.bo i b a
    have d:(pre k f E k j).natAbs<=N:=by
     unfold pre;split
     ·show(E (sw k f k) j).natAbs<=N;rw[HM];exact H.bo f (by omega) F.hi
     ·exact H.bo k (by omega) o
    rcases H.col with v | ⟨O,p,L,J⟩
    ·have q:=(fd_any (x:=pre k f E i k) c).2.2
     have n:(pre k f E i k).natAbs<=M:=by
      unfold pre;split
      ·show(E (sw k f i) k).natAbs<=M;exact v _ (by unfold sw;split<;>(try split)<;>omega) (sw_lt o F.hi a)
      ·exact v i b a
     have:=Jb t d (aP q (jW n 1));rw[show M+2=1+(M+1) by omega];exact this
    ·have I:i=f:=by have:=F.hi;omega
     subst I;by_cases s:E k k=0\/(E i k).natAbs<(E k k).natAbs
     ·have q:=(fd_any (x:=pre k i E i k) c).2.2;have n:(pre k i E i k).natAbs<=M:=by unfold pre;rw[lQ s];show(E (sw k i i) k).natAbs<=M;rw[AO (by omega)];exact J
      have:=Jb t d (aP q (jW n 1));rw[show M+2=1+(M+1) by omega];exact this
     ·have y:pre k i E k j=0:=by unfold pre;rw[lU s];exact p
      rw[y,bz,gw];exact aP t l
  have C:=H.one;have c3:1<=P^3:=jX _ _ C;refine⟨_,w,aP (br _ c3) (Nat.le_mul_of_pos_left _ (by omega)),λg G=>?_⟩;have u:(red m k (pre k f E) k k).natAbs<=P:=by rw[red_k];exact pP
  have D:(red m k (pre k f E) g k).natAbs<=P:=by rw[O9 G.lo G.hi];have:=(fd_any (x:=pre k f E g k) c).1;omega
  rw[du,show P^3=P*(P*P) by rw[fH,fH,Nat.pow_one];rw[du]];exact cI _ (dG u (dG u D))
theorem Aft.next{m k f:Nat}{E0 E:Mt}(W:k<m)(A:Aft m k E0 E)(F:Fst m k E f):Aft m k E0 (red m k (pre k f E))/\(red m k (pre k f E) k k).natAbs<(E k k).natAbs:=by
 have T:=F.lo;have u:=A.sg f F.lo F.hi;have ep:pre k f E=λi j=>E (sw k f i) j:=by unfold pre;rw[lQ (.inr u.1)]
 rw[ep];have U:∀j,(λi j=>E (sw k f i) j:Mt) k j=E f j:=λj=>by show E (sw k f k) j=_;rw[HM]
 obtain⟨a,B⟩:∃a,a=(E k k).natAbs:=⟨_,rfl⟩;obtain⟨b,t⟩:∃b,b=(E f k).natAbs:=⟨_,rfl⟩;have l:0<b:=by have:=F.ne;omega
 have Z:b<a:=by omega
 -- the entries of the column ahead of the Uc
 have y:∀i,k<i->i<m->(E (sw k f i) k).natAbs<=a/\0<=E (sw k f i) k*E f k:=λi o d=>by
  by_cases e:i=f
  ·subst e;rw[AO (by omega)];exact⟨by omega,by rw[bG];exact u.2⟩
  ·rw[sw_c (by omega) e];have:=A.sg i o d;refine⟨by omega,?_⟩;have h3:=cN this.2 u.2;have e1:E i k*E k k*(E f k*E k k)=E i k*E f k*(E k k*E k k):=by rw[bh,bh];congr 1;rw[<-bh,bG (E k k) (E f k),bh]
   rw[e1] at h3;have X:=A.nz
   have sq:0<E k k*E k k:=by
    rcases fG X with h | h
    ·exact Int.mul_pos_of_neg_of_neg h h
    ·exact Int.mul_pos h h
   refine iC.mp λz=>?_;have:=iO z sq;omega
 have ZZ:∀i,k<i->i<m->∀j,red m k (λi j=>E (sw k f i) j) i j=E (sw k f i) j-(E (sw k f i) k).fdiv (E f k)*E f j:=λi o d j=>by rw[O9 o d,HM]
 have piv:∀j,red m k (λi j=>E (sw k f i) j) k j=E f j:=λj=>by rw[red_k];exact U j
 have p:∀i,k<i->i<m->(red m k (λi j=>E (sw k f i) j) i k).natAbs=(E (sw k f i) k).natAbs%b/\0<=red m k (λi j=>E (sw k f i) j) i k*E f k/\((E (sw k f i) k).fdiv (E f k)).natAbs<=a/b:=λi o d=>by rw[ZZ i o d];have v:=y i o d;have:=Cm v.2 F.ne;rw[<-t] at this;exact⟨this.2.1,this.2.2,by rw[this.1];exact Nat.div_le_div_right v.1⟩
 refine⟨⟨by rw[piv];exact F.ne,λi o d=>?_,λI C=>?_,λP o d=>by rw[piv];have:=A.pv P o d;omega,λj N M P H=>?_⟩,by rw[piv];omega⟩
 ·have r:=p i o d;rw[piv,r.1];exact⟨by rw[<-t];exact fR _ l,r.2.1⟩
 ·exfalso;have e:=A.dv I C;have:=F.ne;rw[e,O9 F.lo F.hi] at this;obtain⟨c,R⟩:=C f F.lo F.hi;rw[R,eY _ I,bG c] at this;exact this (by omega)
 ·obtain⟨n,b1,b2,D⟩:=A.po j N M P H;have x:=D f F;rw[<-B,<-t] at x;generalize N*(M+2)*P^3=G at x b2 D ⊢
  have O:Bo m k j (n*(1+a/b)) (red m k (λi j=>E (sw k f i) j)):=λi o d=>by
   by_cases e:i=k
   ·subst e;rw[piv];exact aP (b1 f (by omega) F.hi) (br _ (a9 Nat.one_pos (el 1 _)))
   ·rw[ZZ i (by omega) d];refine Jb (b1 _ ?_ (sw_lt W F.hi d)) (b1 f (by omega) F.hi) (p i (by omega) d).2.2;unfold sw;split<;>(try split)<;>omega
  have S:n*(1+a/b)*b<=2*(n*a):=by rw[du,kZ,Nat.one_mul,kG];refine cI _ ?_;have:=Nat.div_mul_le_self a b;omega
  have n2:n*a<=G:=by refine aP ?_ x;exact br _ (Nat.mul_pos (by omega) l)
  refine⟨_,O,?_,λg q=>?_⟩
  ·have:n*(1+a/b)<=n*(1+a/b)*b:=br _ l;omega
  ·rw[piv,<-t]
   have two:2*(red m k (λi j=>E (sw k f i) j) g k).natAbs<=a:=by
    have s:=(p f F.lo F.hi).1;rw[AO (by omega),<-B] at s;have Q:=k8 a b;have J:1<=a/b:=(Nat.one_le_div_iff l).mpr (by omega);have d2:b*1<=b*(a/b):=cI _ J;have ml:=fR a l;by_cases e:g=f
    ·subst e;rw[s];omega
    ·have L:f<g:=by
      refine jn (iB.mp λz=>?_) (λz=>e z.symm);refine q.ne ?_;have w:=(p g q.lo q.hi).1;rw[sw_c (by have:=q.lo;omega) e,F.ze g q.lo z] at w;have:(red m k (λi j=>E (sw k f i) j) g k).natAbs=0:=by rw[w];simp
      omega
     have z0:=q.ze f F.lo L;rw[z0] at s;have r0:a%b=0:=by rw[<-s];rfl
     have r1:=(p g q.lo q.hi).1;have r2:=fR (E (sw k f g) k).natAbs l
     have Y:2<=a/b:=by
      refine iB.mp λz=>?_;have:a/b=1:=by omega
      rw[this] at Q;omega
     have d4:b*2<=b*(a/b):=cI _ Y;omega
   generalize (red m k (λi j=>E (sw k f i) j) g k).natAbs=v at two ⊢;have s1:n*(1+a/b)*b*(b*v)<=2*(n*a)*(b*v):=cu _ S;have s2:2*(n*a)*(b*v)=n*a*(b*(2*v)):=by rw[fF 2,du,kG 2 b v]
   have s3:n*a*(b*(2*v))<=n*a*(b*a):=cI _ (cI _ two);rw[fF b a] at s3;omega
structure CL(m k:Nat)(E0 E:Mt):Prop where
 rt:RT m k E0 E
 z:∀i,k<i->i<m->E i k=0
 same:E0 k k≠0->(∀i,k<i->i<m->E0 k k∣E0 i k)->∀i j,i<m->E i j=red m k E0 i j
 bd:∀j N M P,Hyp m k E0 j N M P->Bo m k j (2*(N*(M+2)*P^3)) E
theorem CL.aft{m k:Nat}{E0 E:Mt}(r:RT m k E0 E)(A:Aft m k E0 E)(z:∀i,k<i->i<m->E i k=0):CL m k E0 E:=
 ⟨r,z,λh b i j _=>by rw[A.dv h b],λj N M P H=>by
  obtain⟨d,b1,b2,_⟩:=A.po j N M P H;exact λi c a=>aP (b1 i c a) b2⟩
theorem CL.refl{m k:Nat}{E:Mt}(z:∀i,k<i->i<m->E i k=0):CL m k E E:=
 ⟨RT.refl,z,λh _ i j c=>by
  unfold red;split
  ·rename_i q;rw[z i q.1 q.2,Int.zero_fdiv,cD,gw]
  ·rfl,λj N M P H i a b=>by
  refine aP (H.bo i a b) ?_;have c3:1<=P^3:=jX _ _ H.one;have:N<=N*(M+2):=br N (by omega);have:N*(M+2)<=N*(M+2)*P^3:=br _ c3;omega⟩
structure Bs(m:Nat)(A0:Mt)(D:Int):Prop where
 sym:EqM m (tr A0) A0
 z:∃Z0,EqM m (mul m Z0 A0) (λi j=>D*one i j)
 nz:D≠0
theorem Adm.trs{m:Nat}{b E:Mt}(d:EqM m (PM.tr b) b)(h:Adm m b E):Adm m b (PM.tr E):=by have a:=h.tr;exact⟨a.ex,λi j f c=>(ZL (λ_ _=>rfl) λk e=>(d.mulL k j e c).symm).trans (a.val i j f c),a.nil⟩
structure Cr(m k:Nat)(A0 E:Mt):Prop where
 adm:Adm m A0 E
 d1:∀i j,i<k->j<m->j≠i->E i j=0/\E j i=0
 d2:∀i,i<k->1<=E i i
 d3:∀i a b,i<k->i<=a->i<=b->a<m->b<m->E i i∣E a b
theorem Cr.rt{m k:Nat}{o E l:Mt}(c:Cr m k o E)(r:RT m k E l):Cr m k o l:=by
 refine⟨c.adm.rt r,λi j d h n=>⟨by rw[r.up i j d];exact(c.d1 i j d h n).1,?_⟩,λi d=>by rw[r.up i i d];exact c.d2 i d,λi a b d s p f e=>?_⟩
 ·by_cases q:j<k
  ·rw[r.up j i q];exact(c.d1 i j d h n).2
  ·exact gx.mp (r.dvd (c:=0) (λx t g=>gx.mpr (c.d1 i x d g (by omega)).2) j (by omega) h)
 ·rw[r.up i i d];by_cases q:a<k
  ·rw[r.up a b q];exact c.d3 i a b d s p f e
  ·exact r.dvd (λx t g=>c.d3 i x b d (by omega) p g e) a (by omega) f
theorem Cr.tr{m k:Nat}{f E:Mt}{D:Int}(b:Bs m f D)(c:Cr m k f E):Cr m k f (PM.tr E):=
 ⟨c.adm.trs b.sym,λi j d l h=>⟨(c.d1 i j d l h).2,(c.d1 i j d l h).1⟩,c.d2,λi a b d o n g e=>c.d3 i b a d n o e g⟩
theorem Cr.col{m k:Nat}{d E:Mt}{D:Int}(b:Bs m d D)(c:Cr m k d E){j:Nat}{x:Int}(l:k<=j)(a:j<m)(h:∀i,k<=i->i<m->x∣E i j):x∣D:=by
 obtain⟨g,e⟩:=b.z;refine c.adm.div e a λi f=>?_;by_cases q:i<k
 ·rw[(c.d1 i j q a (by omega)).1];exact cV x
 ·exact h i (by omega) f
theorem Cr.piv{m k:Nat}{a E:Mt}{D:Int}(b:Bs m a D)(c:Cr m k a E)(d:k<m)(z:∀i,k<i->i<m->E i k=0):E k k≠0/\E k k∣D:=by
 have:E k k∣D:=c.col b (aJ k) d λi f e=>by
  by_cases q:i=k
  ·rw[q];exact gW _
  ·rw[z i (by omega) e];exact cV _
 exact⟨λh=>b.nz (gx.mp (h▸this)),this⟩
theorem Zdj{a b:Int}(h:a∣b)(f:b≠0)(n:¬b∣a):2*a.natAbs<=b.natAbs:=by
 obtain⟨c,d⟩:=h;have e:b.natAbs=a.natAbs*c.natAbs:=by rw[d,dX]
 have g:c.natAbs≠0:=λz=>f (by rw[d,Int.natAbs_eq_zero.mp z,bz])
 have c1:c.natAbs≠1:=λz=>n (by
  refine cJ.mp ?_;rw[e,z,Nat.mul_one];exact Nat.dvd_refl _)
 have:a.natAbs*2<=a.natAbs*c.natAbs:=cI _ (by omega);omega
structure RZ(m k e β γ:Nat)(A0 E:Mt):Prop where
 cr:Cr m k A0 E
 nz:E k k≠0
 pb:(E k k).natAbs<=2^e
 rz:∀j,k<j->j<m->E k j=0
 ab:∀i j,k<=i->i<m->k<=j->j<m->(E i j).natAbs<=2^β
 lb:∀i j,i<m->j<m->(E i (m+j)).natAbs<=2^γ
 rb:∀i j,i<m->j<m->(E (m+i) j).natAbs<=2^γ
theorem pw2{a b:Nat}(h:a<=b):2^a<=2^b:=Nat.pow_le_pow_right (by omega) h
theorem bits3(g u e:Nat):2*(2^g*(2^u+2)*(2^e)^3)<=2^(g+u+3*e+3):=by
 have b:2^u+2<=2^(u+2):=by have:=cO (n:=u);rw[fH,fH];omega
 have a:(2^e)^3=2^(3*e):=by rw[<-Nat.pow_mul,fF]
 rw[a];have d:2^g*(2^u+2)*2^(3*e)<=2^g*2^(u+2)*2^(3*e):=cu _ (cI _ b);rw[<-Nat.pow_add,<-Nat.pow_add] at d;have c:2^(g+u+3*e+3)=2*2^(g+(u+2)+3*e):=by rw[show g+u+3*e+3=(g+(u+2)+3*e)+1 by omega,fH];omega
 rw[c];omega
theorem CL.beside{m k e u a:Nat}{E d:Mt}(c:CL m k E d)(l:1<=2^e)(pv:E k k≠0->(E k k).natAbs<=2^e)(h:E k k=0->∀i,k<i->i<m->(E i k).natAbs<=2^e)(n:∀i,k<=i->i<m->(E i k).natAbs<=2^u)
  (g:∀i j,i<m->j<m->(E i (m+j)).natAbs<=2^a):∀i j,i<m->j<m->(d i (m+j)).natAbs<=2^(a+u+3*e+3):=λi j b f=>by
 by_cases q:i<k
 ·rw[c.rt.up i _ q];exact aP (g i j b f) (pw2 (by omega))
 ·exact aP (c.bd (m+j) (2^a) (2^u) (2^e) ⟨λx p o=>g x j o f,l,pv,h,.inl n⟩ i (by omega) b) (bits3 _ _ _)
theorem HS{m k e w s:Nat}{p:Nat->Nat}{A E g:Mt}{D:Int}(b:Bs m A D)(y:k<m)(h:RZ m k e (p e) w A E)(c:CL m k E g)(T:p e+3*e+3<=s)(J:∀d,d<e->d<=p d)
  (R:∀d,e=d+1->∀j,k<j->j<m->∃N M P,Hyp m k E j N M P/\2*(N*(M+2)*P^3)<=2^(p d)) :
  (RZ m k e (p e) (w+s) A g/\RZ m k e (p e) (w+s) A (tr g)/\∀i,k<i->i<m->E k k∣E i k)\/
   (∃d,e=d+1/\RZ m k d (p d) (w+s) A (tr g)/\¬ ∀i,k<i->i<m->E k k∣E i k):=by
 have B:=h.cr.rt c.rt
 have I:∀i j,i<m->j<m->(g i (m+j)).natAbs<=2^(w+s):=λi j l n=>
  aP (c.beside (e:=e) (u:=p e) cO (λ_=>h.pb) (λz=>absurd z h.nz) (λi f a=>h.ab i k f a (aJ _) y) h.lb i j l n) (pw2 (by omega))
 have C:∀i j,i<m->j<m->(g (m+i) j).natAbs<=2^(w+s):=λi j l n=>by rw[c.rt.low _ _ (by omega)];exact aP (h.rb i j l n) (pw2 (by omega))
 by_cases all:∀i,k<i->i<m->E k k∣E i k
 ·refine .inl ?_;have O:=c.same h.nz all;have v:∀j,g k j=E k j:=λj=>by rw[O k j y,red_k]
  have Yg:∀i j,k<i->i<m->k<j->j<m->g i j=E i j:=λi j f a t o=>by rw[O i j a,O9 f a,h.rz j t o,bz,gw]
  have ab:∀i j,k<=i->i<m->k<=j->j<m->(g i j).natAbs<=2^(p e):=λi j f a t o=>by
   by_cases q:i=k
   ·rw[q,v];exact h.ab k j (aJ _) y t o
   ·by_cases G:j=k
    ·rw[G,c.z i (by omega) a];exact dW _
    ·rw[Yg i j (by omega) a (by omega) o];exact h.ab i j f a t o
  exact⟨⟨B,by rw[v];exact h.nz,by rw[v];exact h.pb,λj f a=>by rw[v];exact h.rz j f a,ab,I,C⟩,
   ⟨B.tr b,by show g k k≠0;rw[v];exact h.nz,by show(g k k).natAbs<=_;rw[v];exact h.pb,λj f a=>c.z j f a,λi j f a t o=>ab j i t o f a,λi j l n=>C j i n l,λi j l n=>I j i n l⟩,all⟩
 ·refine .inr ?_;have pv:=B.piv b y c.z
  have Q:∀i,k<=i->i<m->g k k∣E i k:=c.rt.back.dvd λi f a=>by
   by_cases q:i=k
   ·rw[q];exact gW _
   ·rw[c.z i (by omega) a];exact cV _
  have S:2*(g k k).natAbs<=(E k k).natAbs:=Zdj (Q k (aJ _) y) h.nz λz=>all λi f a=>Int.dvd_trans z (Q i (by omega) a);have L:=h.pb;have U:1<=(g k k).natAbs:=by have:=pv.1;omega
  obtain⟨d,rfl⟩:∃d,e=d+1:=by
   cases e with
   | zero=>exfalso;rw[Nat.pow_zero] at L;omega
   | succ d=>exact⟨d,rfl⟩
  have x:(g k k).natAbs<=2^d:=by rw[fH] at L;omega
  have ab:∀i j,k<=i->i<m->k<=j->j<m->(g i j).natAbs<=2^(p d):=λi j f a t o=>by
   by_cases G:j=k
   ·subst G;by_cases q:i=j
    ·rw[q];exact aP x (pw2 (J d (by omega)))
    ·rw[c.z i (by omega) a];exact dW _
   ·obtain⟨N,M,P,H,F⟩:=R d rfl j (by omega) o;exact aP (c.bd j N M P H i f a) F
  exact⟨d,rfl,⟨B.tr b,pv.1,x,λj f a=>c.z j f a,λi j f a t o=>ab j i t o f a,λi j l n=>C j i n l,λi j l n=>I j i n l⟩,all⟩
structure Bd(m k e0 s:Nat)(β:Nat->Nat)(A0:Mt):Prop where
 hs:∀e,e<=e0->β e+3*e+3<=s
 le:∀e,e<=e0->e<=β e
 mo:∀e,e<e0->β (e+1)<=β e
 cl:∀e γ E,e<e0->RZ m k (e+1) (β (e+1)) γ A0 E->∀j,k<j->j<m->∃N M P,Hyp m k E j N M P/\2*(N*(M+2)*P^3)<=2^(β e)
theorem HS'{m k e l g s:Nat}{f:Nat->Nat}{d E j:Mt}{D:Int}(b:Bs m d D)(B:Bd m k l s f d)(o:k<m)(n:e<=l)(h:RZ m k e (f e) g d E)(c:CL m k E j) :
  (RZ m k e (f e) (g+s) d j/\RZ m k e (f e) (g+s) d (tr j)/\∀i,k<i->i<m->E k k∣E i k)\/
   (∃a,e=a+1/\RZ m k a (f a) (g+s) d (tr j)/\¬ ∀i,k<i->i<m->E k k∣E i k):=
 HS b o h c (B.hs e n) (λa h=>B.le a (by omega)) λa p=>by subst p;exact B.cl a g E (by omega) h
theorem Uc{m k e v f s:Nat}{g:Nat->Nat}{d E F n:Mt}{D:Int}(b:Bs m d D)(B:Bd m k v s g d)(o:k<m)(u:e<=v)(h:RZ m k e (g e) f d (tr E))(c:CL m k (tr E) F)(w:CL m k (tr F) n) :
  (∃e',e'<=e/\RZ m k e' (g e') (f+2*s) d n/\RZ m k e' (g e') (f+2*s) d (tr n)/\((¬ ∀i,k<i->i<m->E k k∣E k i)->e'<e))\/
   (∃e',e'<e/\RZ m k e' (g e') (f+2*s) d (tr n)):=by
 have q:f+s+s=f+2*s:=by omega
 rcases HS' b B o u h c with⟨p,C,j⟩ | ⟨G,rfl,p,t⟩
 ·rcases HS' b B o u C w with⟨a,l,_⟩ | ⟨x,rfl,a,t⟩
  ·rw[q] at a l;exact .inl ⟨e,aJ _,a,l,λz=>absurd j z⟩
  ·exfalso;refine t λi y A=>?_;have:tr F i k=0:=p.rz i y A;rw[this];exact cV _
 ·rcases HS' b B o (by omega) p w with⟨a,l,_⟩ | ⟨x,rfl,a,_⟩
  ·rw[q] at a l;exact .inl ⟨G,by omega,a,l,λ_=>by omega⟩
  ·rw[q] at a;exact .inr ⟨x,by omega,a⟩
noncomputable def dbl(t:Nat):Nat->Nat
 | 0=>t
 | n+1=>2*dbl t n+20
structure Pl(m k a γ:Nat)(A0 E:Mt):Prop where
 cr:Cr m k A0 E
 ab:∀i j,k<=i->i<m->k<=j->j<m->(E i j).natAbs<=2^a
 lb:∀i j,i<m->j<m->(E i (m+j)).natAbs<=2^γ
 rb:∀i j,i<m->j<m->(E (m+i) j).natAbs<=2^γ
theorem Pl.first{m k a z s f:Nat}{t:Nat->Nat}{v E d:Mt}{D:Int}(b:Bs m v D)(p:k<m)(h:Pl m k a z v E)(c:CL m k E d)(A:(d k k).natAbs<=2^f)(o:5*a+3<=t f)(F:f<=t f)(G:4*a+3<=s):RZ m k f (t f) (z+s) v (tr d):=by
 have y:=h.cr.rt c.rt;have col:∀i,k<=i->i<m->(E i k).natAbs<=2^a:=λi n l=>h.ab i k n l (aJ _) p;refine⟨y.tr b,(y.piv b p c.z).1,A,λj n l=>c.z j n l,λi j n l B C=>?_,λi j q w=>?_,λi j q w=>?_⟩
 ·show(d j i).natAbs<=_;have:=c.bd i (2^a) (2^a) (2^a) ⟨λx o g=>h.ab x i o g n l,cO,λ_=>col k (aJ _) p,λ_ x o g=>col x (by omega) g,.inl col⟩ j B C;exact aP this (aP (bits3 _ _ _) (pw2 (by omega)))
 ·show(d (m+j) i).natAbs<=_;rw[c.rt.low _ _ (by omega)];exact aP (h.rb j i w q) (pw2 (by omega))
 ·show(d j (m+i)).natAbs<=_;exact aP (c.beside (e:=a) (u:=a) cO (λ_=>col k (aJ _) p) (λ_ x o g=>col x (by omega) g) col h.lb j i w q) (pw2 (by omega))
theorem Pl.small{m k a o:Nat}{j E f:Mt}{D:Int}(b:Bs m j D)(g:k<m)(h:Pl m k a o j E)(c:CL m k E f):(f k k).natAbs<=2^a/\(f k k).natAbs<=D.natAbs:=by
 have l:=h.cr.rt c.rt;have pv:=l.piv b g c.z;refine⟨?_,cy (by have:=b.nz;omega) (cJ.mpr pv.2)⟩
 have p:∀i,k<=i->i<m->f k k∣E i k:=c.rt.back.dvd λi e d=>by
  by_cases q:i=k
  ·rw[q];exact gW _
  ·rw[c.z i (by omega) d];exact cV _
 obtain⟨i,e,d,s⟩:∃i,k<=i/\i<m/\E i k≠0:=by refine bb λn=>pv.1 ?_;refine gx.mp (c.rt.dvd (c:=0) (λi e d=>?_) k (aJ _) g);refine gx.mpr (bb λz=>n ⟨i,e,d,z⟩)
 have:=cy (by omega) (cJ.mpr (p i e d));have:=h.ab i k e d (aJ _) g;omega
theorem RZ.unfit{m k e s f u:Nat}{n E:Mt}{D:Int}(b:Bs m n D)(t:k<m)(h:RZ m k e s f n E)(v:RZ m k e s f n (tr E))(x:k<u)(c:u<m):RZ m k e s (f+1) n (tr (λi j=>if i=k then E i j-1*E u j else E i j)):=by
 have r:=RT.sub (m:=m) (p:=k) (a:=k) (b:=u) (q:=1) (E:=E) (aJ _) t (by omega) c (by omega);have w:E u k=0:=v.rz u x c;have p2:2^f+2^f=2^(f+1):=by rw[fH];omega
 have kk:(if k=k then E k k-1*E u k else E k k)=E k k:=by rw[lQ rfl,w];omega
 refine⟨(h.cr.rt r).tr b,?_,?_,λj l d=>?_,λi j l d z A=>?_,λi j g o=>?_,λi j g o=>?_⟩
 ·show(if k=k then E k k-1*E u k else E k k)≠0;rw[kk];exact h.nz
 ·show(if k=k then E k k-1*E u k else E k k).natAbs<=_;rw[kk];exact h.pb
 ·show(if j=k then E j k-1*E u k else E j k)=0;rw[lU (by omega)];exact v.rz j l d
 ·show(if j=k then E j i-1*E u i else E j i).natAbs<=_;by_cases q:j=k
  ·rw[lQ q,q];by_cases y:i=k
   ·rw[y,w];have:=h.ab k k (aJ _) t (aJ _) t;omega
   ·rw[h.rz i (by omega) d];have:=h.ab u i (by omega) c l d;omega
  ·rw[lU q];exact h.ab j i z A l d
 ·show(if m+j=k then E (m+j) i-1*E u i else E (m+j) i).natAbs<=_;rw[lU (by omega)];exact aP (h.rb j i o g) (pw2 (by omega))
 ·show(if j=k then E j (m+i)-1*E u (m+i) else E j (m+i)).natAbs<=_;split
  ·have l:=h.lb j i o g;have d:=h.lb u i c g;have:=iQ (E j (m+i)) (1*E u (m+i));omega
  ·exact aP (h.lb j i o g) (pw2 (by omega))
theorem RZ.next{m k e y B:Nat}{A E:Mt}(G:k<m)(h:RZ m k e y B A E)(C:RZ m k e y B A (tr E))(I:∀i j,k<i->i<m->j<m->E k k∣E i j):Pl m (k+1) y B A (λi j=>if i=k/\E k k<0 then-E i j else E i j):=by
 have l:∀i j,k<=i->i<m->k<=j->j<m->E k k∣E i j:=λi j D v F t=>by
  by_cases q:i=k
  ·rw[q];by_cases H:j=k
   ·rw[H];exact gW _
   ·rw[h.rz j (by omega) t];exact cV _
  ·exact I i j (by omega) v t
 by_cases s:E k k<0
 ·have r:=RT.neg (m:=m) (p:=k) (a:=k) (E:=E) (aJ _) G
  have e:(λi j=>if i=k/\E k k<0 then-E i j else E i j)=(λi j=>if i=k then-E i j else E i j):=by
   funext i j;by_cases q:i=k
   ·rw[lQ ⟨q,s⟩,lQ q]
   ·rw[lU (λz=>q z.1),lU q]
  rw[e];have c:=h.cr.rt r;refine⟨⟨c.adm,λi j n g x=>?_,λi n=>?_,λi a b n o u f d=>?_⟩,λi j D v F t=>?_,λi j n g=>?_,λi j n g=>?_⟩
  ·by_cases q:i=k
   ·subst q;refine⟨?_,?_⟩
    ·show(if i=i then _ else _)=_;rw[lQ rfl];by_cases w:j<i
     ·have:=(h.cr.d1 j i w (by omega) (by omega)).2;rw[this];rfl
     ·rw[h.rz j (by omega) g];rfl
    ·show(if j=i then _ else _)=_;rw[lU x];by_cases w:j<i
     ·exact(h.cr.d1 j i w (by omega) (by omega)).1
     ·exact C.rz j (by omega) g
   ·exact c.d1 i j (by omega) g x
  ·by_cases q:i=k
   ·subst q;show 1<=(if i=i then _ else _);rw[lQ rfl];omega
   ·exact c.d2 i (by omega)
  ·by_cases q:i=k
   ·subst q;show(if i=i then-E i i else E i i)∣(if a=i then-E a b else E a b);rw[lQ rfl,Int.neg_dvd];split
    ·exact Int.dvd_neg.mpr (l a b o f u d)
    ·exact l a b o f u d
   ·exact c.d3 i a b (by omega) o u f d
  ·show(if i=k then _ else _:Int).natAbs<=_;rw[lU (by omega)];exact h.ab i j (by omega) v (by omega) t
  ·show(if i=k then-E i (m+j) else E i (m+j)).natAbs<=_;split
   ·rw[iE];exact h.lb i j n g
   ·exact h.lb i j n g
  ·show(if m+i=k then _ else _:Int).natAbs<=_;rw[lU (by omega)];exact h.rb i j n g
 ·have e:(λi j=>if i=k/\E k k<0 then-E i j else E i j)=E:=by funext i j;rw[lU (λz=>s z.2)]
  rw[e];refine⟨⟨h.cr.adm,λi j n g x=>?_,λi n=>?_,λi a b n o u f d=>?_⟩,λi j D v F t=>h.ab i j (by omega) v (by omega) t,h.lb,h.rb⟩
  ·by_cases q:i=k
   ·subst q;by_cases w:j<i
    ·have:=h.cr.d1 j i w (by omega) (by omega);exact⟨this.2,this.1⟩
    ·exact⟨h.rz j (by omega) g,C.rz j (by omega) g⟩
   ·exact h.cr.d1 i j (by omega) g x
  ·by_cases q:i=k
   ·subst q;have:=h.nz;omega
   ·exact h.cr.d2 i (by omega)
  ·by_cases q:i=k
   ·subst q;exact l a b o f u d
   ·exact h.cr.d3 i a b (by omega) o u f d
structure Bv(m k e0:Nat)(s β:Nat->Nat)(A0:Mt):Prop where
 hs:∀e,e<=e0->β e+3*e+3<=s e
 le:∀e,e<=e0->e<=β e
 cl:∀e γ E,e<e0->RZ m k (e+1) (β (e+1)) γ A0 E->∀j,k<j->j<m->∃N M P,Hyp m k E j N M P/\2*(N*(M+2)*P^3)<=2^(β e)
theorem HV{m k e l g:Nat}{s f:Nat->Nat}{d E j:Mt}{D:Int}(b:Bs m d D)(B:Bv m k l s f d)(o:k<m)(n:e<=l)(h:RZ m k e (f e) g d E)(c:CL m k E j) :
  (RZ m k e (f e) (g+s e) d j/\RZ m k e (f e) (g+s e) d (tr j)/\∀i,k<i->i<m->E k k∣E i k)\/
   (∃a,e=a+1/\RZ m k a (f a) (g+s e) d (tr j)/\¬ ∀i,k<i->i<m->E k k∣E i k):=
 HS b o h c (B.hs e n) (λa h=>B.le a (by omega)) λa p=>by subst p;exact B.cl a g E (by omega) h
noncomputable def f1(s:Nat->Nat):Nat->Nat
 | 0=>0
 | e+1=>f1 s e+s e+s (e+1)
noncomputable def f2(s:Nat->Nat):Nat->Nat
 | 0=>0
 | e+1=>f2 s e+s e+s (e+1)+(2*s e+1)
theorem f1_mono(s:Nat->Nat){a b:Nat}(h:a<=b):f1 s a<=f1 s b:=by
 induction b with
 | zero=>rw[show a=0 by omega];exact aJ _
 | succ b ih=>
  by_cases q:a=b+1
  ·rw[q];exact aJ _
  ·have:=ih (by omega);show f1 s a<=f1 s b+s b+s (b+1);omega
theorem f2_step(s:Nat->Nat){a b:Nat}(h:a<b):f2 s a+f1 s b+2*s a+1<=f2 s b+f1 s a:=by
 induction b with
 | zero=>omega
 | succ b ih=>
  show f2 s a+(f1 s b+s b+s (b+1))+2*s a+1<=f2 s b+s b+s (b+1)+(2*s b+1)+f1 s a;by_cases q:a=b
  ·subst q;omega
  ·have:=ih (by omega);omega
theorem f2_ge(s:Nat->Nat)(a:Nat):f1 s a<=f2 s a:=by
 induction a with
 | zero=>exact aJ _
 | succ a ih=>
  show f1 s a+s a+s (a+1)<=f2 s a+s a+s (a+1)+(2*s a+1);omega
theorem f2_le(s:Nat->Nat){a b:Nat}(h:a<=b):f2 s a+f1 s b<=f2 s b+f1 s a:=by
 by_cases q:a=b
 ·subst q;omega
 ·have:=f2_step s (show a<b by omega);omega
theorem turnV{m k e w l:Nat}{s g:Nat->Nat}{d E F o:Mt}{D:Int}(b:Bs m d D)(B:Bv m k w s g d)(p:k<m)(v:e<=w)(h:RZ m k e (g e) l d (tr E))(c:CL m k (tr E) F)(x:CL m k (tr F) o) :
  (∃e' γ',e'<=e/\γ'+f1 s e'<=l+f1 s e+2*s e'/\RZ m k e' (g e') γ' d o/\RZ m k e' (g e') γ' d (tr o)/\((¬ ∀i,k<i->i<m->E k k∣E k i)->e'<e))\/
   (∃e' γ',e'<e/\γ'+f1 s e'<=l+f1 s e/\RZ m k e' (g e') γ' d (tr o)):=by
 rcases HV b B p v h c with⟨q,C,j⟩ | ⟨n,rfl,q,u⟩
 ·rcases HV b B p v C x with⟨f,t,_⟩ | ⟨a,rfl,f,u⟩
  ·exact .inl ⟨e,_,aJ _,by omega,f,t,λz=>absurd j z⟩
  ·exfalso;refine u λi y A=>?_;have:tr F i k=0:=q.rz i y A;rw[this];exact cV _
 ·rcases HV b B p (by omega) q x with⟨f,t,_⟩ | ⟨a,rfl,f,_⟩
  ·refine .inl ⟨n,_,by omega,?_,f,t,λ_=>by omega⟩;show _<=l+(f1 s n+s n+s (n+1))+2*s n;omega
  ·refine .inr ⟨a,_,by omega,?_,f⟩;show _<=l+(f1 s a+s a+s (a+1)+s (a+1)+s (a+1+1));omega
end PM
namespace PW
open PySem L2 VL VX
theorem Lz{F:XS}{x:XT}{s:ZF}{k:Nat}(J:Nat->ZF->Prop)(i:J k s)(st:∀k s,J k s->x s=aA aB\/(x s=aA aC/\Wo F s λs2=>∃k',k'<k/\J k' s2)):Wo (Xp x F) s λd=>∃k,J k d/\x d=aA aB:=by
 obtain⟨d,k',a,b,c⟩:=F4 (c:=x) (fb:=F) J (λk s h=>by
  rcases st k s h with z | ⟨z,s2,e,k',g,f⟩
  ·exact .inl z
  ·exact .inr ⟨z,s2,k',e,g,f⟩) i
 exact⟨d,a,k',b,c⟩
noncomputable def cR(w:Nat)(f:Nat->Int):PV:=.cst (iL (ZV w f))
noncomputable def bL(w:Nat)(E:Mt):List PV:=(aF w).map λi=>cR w (E i)
section
variable {w m k i j a:Nat} {E E':Mt} {f g h:XE} {s:ZF}
theorem TL:(bL w E).length=w:=by simp[bL]
theorem Jc(a:i<w):(bL w E)[i]?=aA (cR w (E i)):=by unfold bL;rw[aU,bI a];rfl
theorem Ud(f:Nat->Int):Ya (cR w f)=aC:=Z4 _
theorem Mm:ZO (bL w E)=aC:=by rw[XH,ar];intro x a;obtain⟨i,_,rfl⟩:=bc.mp a;exact Ud _
theorem AQ{v:Nat->Int}(c:a<w):(bL w E).set a (cR w v)=bL w (X6 a v E):=by
 apply dE;intro i;rw[bQ,TL];by_cases b:i<w
 ·rw[Jc (E:=X6 a v E) b];by_cases q:a=i
  ·subst q;rw[lQ rfl,lQ b,YD]
  ·rw[lU q,Jc b,WU _ _ (λz=>q z.symm)]
 ·rw[bX (l:=bL w (X6 a v E)) (by rw[TL];omega),lU (by omega)];exact bX (by rw[TL];omega)
theorem OA(b:i<w)(q:f s=aA (.lst (bL w E)))(a:g s=aA (.int (i:Int))):Zk ZN f g s=aA (cR w (E i)):=o2 q a (VJ (Jc b))
theorem Zbv{v:Nat->Int}(b:j<w)(q:f s=aA (cR w v))(a:g s=aA (.int (j:Int))):Zk ZN f g s=aA (.int (v j)):=o2 q a (PX b)
theorem Sj(b:i<w)(d:j<w)(q:f s=aA (.lst (bL w E)))(a:g s=aA (.int (i:Int)))(c:h s=aA (.int (j:Int))):Zk ZN (Zk ZN f g) h s=aA (.int (E i j)):=Zbv d (OA b q a) c
theorem LA{v:Nat->Int}{c:Nat}(b:a<w)(q:f s=aA (.int (a:Int)))(d:g s=aA (cR w v))(e:M3 s c=aA (bL w E)):XI c f g s=aA (.nx (s.set c (aA (.lst (bL w (X6 a v E)))))):=by rw[OY d q e Mm (Ud _) (U0 (by rw[TL];exact b)),AQ b]
theorem RK{v:Nat->Int}(q:f s=aA (.lst (iL (ZV w v)))):Ot f s=aA (cR w v):=by unfold Ot;rw[q];show(Wd (iL (ZV w v))).map _=_;rw[Xj];rfl
theorem Mn{u v:Nat->Int}:Ve (iL (ZV w u)) (iL (ZV w v))=(aF w).map λj=>.tup [.int (u j),.int (v j)]:=by rw[YU _ _ (by simp[ZG]),aM,ZG];refine ao λi a=>?_;have a:=aS.mp a;rw[YI _ i (by rw[ZG];exact a),YI _ i (by rw[ZG];exact a),Yn a,Yn a]
theorem P8{x:Int}{G:Nat}(h:x.natAbs<2^G)(a:0<G):x.natAbs.log2<G:=by
 by_cases z:x.natAbs=0
 ·rw[z];have:Nat.log2 0=0:=by decide
  omega
 ·exact(Nat.log2_lt z).mpr h
theorem Jd{x y:Int}{G:Nat}(h:x.natAbs<2^G)(c:y.natAbs<2^G)(a:0<G)(b:G<=67000000):CMulW x y:=⟨by have:=P8 h a;omega,by have:=P8 c a;omega⟩
theorem J9{u v:Nat->Int}{q:Int}(a:w<=100)(c:∀j,j<w->CMulW q (v j)):SU [cR w u,cR w v,.int q]=aA (.lst (iL (ZV w λj=>u j-q*v j))):=by refine Y9 (ret (Xu (q:=λj=>.tup [.int (u j),.int (v j)]) (λj=>u j-q*v j) ?_ a λj b=>⟨_,rfl,vP (vI rfl (vC (C:=CMulW) (op:=(· * ·)) rfl rfl (c j b)))⟩));show aA (Ve (iL (ZV w u)) (iL (ZV w v)))=_;rw[Mn]
noncomputable def bw(m k:Nat)(E:Mt):List Nat:=((aF (m-(k+1))).map λi=>k+1+i).filter λi=>decide (E i k≠0)
theorem mem_bw{x:Nat}:x∈bw m k E↔k<x/\x<m/\E x k≠0:=by
 unfold bw;rw[gj,bc];constructor
 ·rintro⟨⟨i,a,rfl⟩,h⟩;have:=aS.mp a;exact⟨by omega,by omega,of_decide_eq_true h⟩
 ·rintro⟨d,c,b⟩;exact⟨⟨x-(k+1),aS.mpr (by omega),by omega⟩,decide_eq_true b⟩
theorem Ba:(bw m k E).Pairwise (· < ·):=by unfold bw;refine List.Pairwise.filter _ (List.pairwise_map.mpr ?_);exact List.Pairwise.imp (λh=>by omega) List.pairwise_lt_range
theorem F9{x:Nat}{r:List Nat}(e:bw m k E=x::r):PM.Fst m k E x:=by
 have a:=mem_bw.mp (show x∈bw m k E by rw[e];exact aa);refine⟨a.1,a.2.1,a.2.2,λi c d=>bb λz=>?_⟩;have b:i∈bw m k E:=mem_bw.mpr ⟨c,by omega,z⟩;have up:=Ba (m:=m) (k:=k) (E:=E);rw[e] at b up;rcases af.mp b with q | q
 ·omega
 ·have:=List.rel_of_pairwise_cons up q;omega
theorem UN(f:m<=w)(c:w<=100)(d:k<m):Xe [.lst (bL w E),.int (m:Int),.int (k:Int)]=aA (.lst (iL (nL (bw m k E)))):=by
 have e:iL (nL (bw m k E))=(bw m k E).map λ(i:Nat)=>PV.int (i:Int):=by simp[nL]
 rw[e];refine Y9 (ret (V0 ((aF (m-(k+1))).map λi=>k+1+i) (λ(i:Nat)=>PV.int (i:Int)) (λ(i:Nat)=>PV.int (i:Int)) (λi=>decide (E i k≠0)) ?_ (by simp;omega) λi a=>?_))
 ·rw[SI (i:=(k:Int)+1) (j:=(m:Int)) (HD rfl rfl) rfl (by omega) (by omega)];unfold TY;rw[dF,show((m:Int)-((k:Int)+1)).toNat=m-(k+1) by omega];congr 1
 ·obtain⟨x,b,rfl⟩:=bc.mp a;have:=aS.mp b;refine⟨_,rfl,xb (o2 (Sj (by omega) (by omega) rfl rfl rfl) rfl ?_),λ_=>vP rfl⟩;rw[VZ];simp
end
abbrev stC(w m k:Nat)(E0 E:Mt)(x5 x6 x7:Option PV):ZF:=[aA (.lst (bL w E0)),aA (.int (m:Int)),aA (.int (k:Int)),aA (.lst (bL w E)),aA (.lst (iL (nL (bw m k E)))),x5,x6,x7]
theorem Ea(x:Int):Kd [.int x]=aA (.int (x.natAbs:Int)):=by
 show aA (PV.int (if x<0 then -x else x))=_;congr 2;split<;>omega
theorem Cn{k f:Nat}{E:Mt}(h:k≠f):X6 f (E k) (X6 k (E f) E)=λi j=>E (PM.sw k f i) j:=by
 funext i;unfold X6 PM.sw;by_cases q:i=f
 ·rw[lQ q,lU (by omega),lQ q]
 ·rw[lU q];by_cases a:i=k
  ·rw[lQ a,lQ a]
  ·rw[lU a,lU a,lU q]
noncomputable def OB(X:List Nat)(k:Nat)(E:Mt):Mt:=λi j=>if i∈X then E i j-(E i k).fdiv (E k k)*E k j else E i j
theorem Co{w m k:Nat}{E0 E a:Mt}{g f b:Option PV}{G:Nat}(D:w<=100)(M:m<=w)(F:k<m)(N:0<G)(J:G<=60000000)(A:∀i j,k<=i->i<m->j<w->(a i j).natAbs<2^G)(p:a k k≠0) :
  Wo (Xo [3] (Xw (Za 4)) (.one 7) (XI 3 (Za 7) (Ot (Zc SU [Zk ZN (Za 3) (Za 7),Zk ZN (Za 3) (Za 2),Zk Fp (Zk ZN (Zk ZN (Za 3) (Za 7)) (Za 2)) (Zk ZN (Zk ZN (Za 3) (Za 2)) (Za 2))]))))
   [aA (.lst (bL w E0)),aA (.int (m:Int)),aA (.int (k:Int)),aA (.lst (bL w a)),aA (.lst (iL (nL (bw m k E)))),g,f,b]
   λs=>∃b,s=[aA (.lst (bL w E0)),aA (.int (m:Int)),aA (.int (k:Int)),aA (.lst (bL w (OB (bw m k E) k a))),aA (.lst (iL (nL (bw m k E)))),g,f,b]:=by
 refine DY (Zbp (X:=bw m k E) (λt s=>∃b,s=[aA (.lst (bL w E0)),aA (.int (m:Int)),aA (.int (k:Int)),aA (.lst (bL w (OB ((bw m k E).take t) k a))),aA (.lst (iL (nL (bw m k E)))),g,f,b]) rfl ⟨b,?_⟩ ?_) ?_
 ·rw[jT,show OB [] k a=a from funext λi=>funext λj=>lU (dN)]
 ·rintro t s h ⟨b,rfl⟩;have u:=mem_bw.mp (dO (l:=bw m k E) h);obtain⟨x,B⟩:∃x,x=(bw m k E)[t]:=⟨_,rfl⟩;rw[<-B] at u ⊢
  have xn:x∉(bw m k E).take t:=λz=>by
   obtain⟨i,L,e⟩:=List.mem_take_iff_getElem.mp z;have n:i<t:=by omega
   have:=(List.pairwise_iff_getElem.mp (Ba (m:=m) (k:=k) (E:=E))) i t (by omega) h n;omega
  have H:k∉(bw m k E).take t:=λz=>by have:=(mem_bw.mp (fO z)).1;omega
  have o:OB ((bw m k E).take t) k a x=a x:=funext λj=>lU xn;have c:OB ((bw m k E).take t) k a k=a k:=funext λj=>lU H;refine RE (LA (v:=λj=>a x j-(a x k).fdiv (a k k)*a k j) (by omega) rfl (RK (c3 (OA (by omega) rfl rfl) (OA (by omega) rfl rfl) (vC (C:=λ_ j=>j≠0) (op:=gS) (Sj (by omega) (by omega) rfl rfl rfl) (Sj (by omega) (by omega) rfl rfl rfl) ?_) ?_)) rfl) ⟨aA (.int (x:Int)),?_⟩
  ·rw[c];exact p
  ·rw[o,c];refine J9 D λj I=>?_;have q:=(PM.fd_any (x:=a x k) p).2.2;have d:=A x k (by omega) u.2.1 (by omega);refine Jd (G:=G+1) ?_ (a9 (A k j (aJ _) F I) (PM.pw2 (by omega))) (by omega) (by omega);rw[fH];omega
  ·show [aA (PV.lst (bL w E0)),aA (.int (m:Int)),aA (.int (k:Int)),aA (.lst (bL w (X6 x (λj=>a x j-(a x k).fdiv (a k k)*a k j) (OB ((bw m k E).take t) k a)))),aA (.lst (iL (nL (bw m k E)))),g,f,aA (.int (x:Int))]=_;congr 4;congr 2;congr 1;funext i;unfold X6;have tk:∀y,y∈(bw m k E).take (t+1)↔y∈(bw m k E).take t\/y=x:=λy=>by rw[gV h,b6,ah,<-B]
   by_cases q:i=x
   ·rw[lQ q,q];funext j;unfold OB;rw[lQ ((tk x).mpr (.inr rfl))]
   ·rw[lU q];funext j;unfold OB;by_cases d:i∈(bw m k E).take t
    ·rw[lQ d,lQ ((tk i).mpr (.inl d))]
    ·rw[lU d,lU (λz=>by rcases(tk i).mp z with z | z;exact d z;exact q z)]
 ·rintro s ⟨b,rfl⟩;rw[fA];exact⟨b,rfl⟩
theorem Cp{w m k f:Nat}{E:Mt}(F:PM.Fst m k E f)(d:k<m):OB (bw m k E) k (PM.pre k f E)=PM.red m k (PM.pre k f E):=by
 funext i j;unfold OB PM.red;by_cases q:i∈bw m k E
 ·have:=mem_bw.mp q;rw[lQ q,lQ ⟨this.1,this.2.1⟩]
 ·rw[lU q];by_cases c:k<i/\i<m
  ·rw[lQ c];have z:E i k=0:=bb λz=>q (mem_bw.mpr ⟨c.1,c.2,z⟩)
   have e:PM.pre k f E i k=0:=by
    unfold PM.pre;split
    ·show E (PM.sw k f i) k=0;rw[PM.sw_c (a:=k) (b:=f) (by omega) (λy=>F.ne (by rw[<-y];exact z))];exact z
    ·exact z
   rw[e,Int.zero_fdiv,cD,gw]
  ·rw[lU c]
theorem Na{w m k G:Nat}{E0:Mt}(L:w<=100)(W:m<=w)(d:k<m)(hG:0<G)(U:G<=60000000)(hB:∀j,j<w->∃N M P,PM.Hyp m k E0 j N M P/\2*(N*(M+2)*P^3)<2^G):∃E,ZQ [.lst (bL w E0),.int (m:Int),.int (k:Int)]=aA (.lst (bL w E))/\PM.CL m k E0 E:=by
 suffices g:YQ Uj (ZJ 8 [.lst (bL w E0),.int (m:Int),.int (k:Int)]) λv=>∃E,v = .lst (bL w E)/\PM.CL m k E0 E by obtain⟨v,e,E,rfl,r⟩:=Uk g;exact⟨E,e,r⟩
 have T:∀{N M P:Nat},1<=P->N<=2*(N*(M+2)*P^3):=λ{N M P} h=>by have c3:1<=P^3:=jX _ _ h;have:N<=N*(M+2):=br N (by omega);have:N*(M+2)<=N*(M+2)*P^3:=br _ c3;omega
 refine ZD (Zm (c1 rfl (by rw[Q9,lQ Mm]))) (ZD (Zm (c3 rfl rfl rfl (UN W L d))) ?_)
 obtain⟨O,D⟩:∃O,∀f,PM.Fst m k E0 f->(PM.red m k (PM.pre k f E0) k k).natAbs<O:=by
  by_cases q:∃f,PM.Fst m k E0 f
  ·obtain⟨f,F⟩:=q;refine⟨(PM.red m k (PM.pre k f E0) k k).natAbs+1,λg Q=>?_⟩
   have:g=f:=by
    rcases kF g f with z | z | z
    ·exact absurd (F.ze g Q.lo z) Q.ne
    ·exact z
    ·exact absurd (Q.ze f F.lo z) F.ne
   rw[this];omega
  ·exact⟨0,λf F=>absurd ⟨f,F⟩ q⟩
 refine XD (Lz (λn st=>∃E t l o,st=stC w m k E0 E t l o/\PM.RT m k E0 E/\((E=E0/\n=O)\/(PM.Aft m k E0 E/\n=(E k k).natAbs))) ⟨E0,none,none,none,rfl,.refl,.inl ⟨rfl,rfl⟩⟩ ?_) ?_
 ·rintro n st ⟨E,t,l,o,rfl,rt,B⟩;have a:(iL (nL (bw m k E))).length=(bw m k E).length:=by simp[nL]
  have c:xB (Zk L5 (Zc Ys [Za 4]) (eC (.int 0))) (stC w m k E0 E t l o)=aA (decide (0<(bw m k E).length)):=xb (vgt (b:=0) (c1 rfl (by rw[Kj,a])) rfl)
  cases e:bw m k E with
  | nil=>exact .inl (c.trans (by rw[e];rfl))
  | cons f r=>
   refine .inr ⟨c.trans (by rw[e];rfl),?_⟩;have F:=F9 e;have hkf:=F.lo
   -- the bounds
   have X:∀i j,k<=i->i<m->j<w->(E i j).natAbs<2^G:=λi j u p C=>by
    obtain⟨N,M,Y,H,x⟩:=hB j C;rcases B with⟨rfl,_⟩ | ⟨A,_⟩
    ·exact av (H.bo i u p) (av (T H.one) x)
    ·obtain⟨N',b1,b2,_⟩:=A.po j N M Y H;exact av (b1 i u p) (av b2 x)
   have I:PM.Aft m k E0 (PM.red m k (PM.pre k f E))/\(PM.red m k (PM.pre k f E) k k).natAbs<n:=by
    rcases B with⟨rfl,rfl⟩ | ⟨A,rfl⟩
    ·exact⟨PM.Aft.first d F,D f F⟩
    ·exact A.next d F
   have Z:PM.pre k f E k k≠0:=by have:=I.1.nz;rwa [PM.red_k] at this
   have S:∀i j,k<=i->i<m->j<w->(PM.pre k f E i j).natAbs<2^G:=λi j u p C=>by
    unfold PM.pre;split
    ·exact X _ j (by unfold PM.sw;split<;>(try split)<;>omega) (PM.sw_lt d F.hi p) C
    ·exact X i j u p C
   have y:∀t:Option PV,IL (xB (Zk (Wr aB) (Zk ZN (Zk ZN (Za 3) (Za 2)) (Za 2)) (eC (.int 0)))) (xB (Zk MA (Zc Kd [Zk ZN (Zk ZN (Za 3) (Za 5)) (Za 2)]) (Zc Kd [Zk ZN (Zk ZN (Za 3) (Za 2)) (Za 2)]))) (stC w m k E0 E (aA (.int (f:Int))) l o)=aA (decide (E k k=0) || decide ((E f k).natAbs<(E k k).natAbs)):=λ_=>xo (xb (H9 (Sj (by omega) (by omega) rfl rfl rfl) rfl)) (xb (vlt (c1 (Sj (by have:=F.hi;omega) (by omega) rfl rfl rfl) (Ea _)) (c1 (Sj (by omega) (by omega) rfl rfl rfl) (Ea _))));have hf:ZN (.lst (iL (nL (bw m k E)))) (.int 0)=aA (.int (f:Int)):=by rw[e];exact VJ (j:=0) rfl
   refine Z3 (Zm (ep (o2 rfl rfl hf))) (JY (R:=λs=>∃l,s=[aA (.lst (bL w E0)),aA (.int (m:Int)),aA (.int (k:Int)),aA (.lst (bL w (PM.pre k f E))),aA (.lst (iL (nL (bw m k E)))),aA (.int (f:Int)),l,o]) (Ls (y t) (λz=>?_) λz=>?_) ?_)
   ·have J:E k k=0\/(E f k).natAbs<(E k k).natAbs:=by simpa using z
    refine Z3 (Zm (ep (OA (by omega) rfl rfl) (Ud _))) (Z3 (LA (by omega) rfl (OA (by have:=F.hi;omega) rfl rfl) rfl) (RE (LA (v:=E k) (by have:=F.hi;omega) rfl rfl rfl) ⟨aA (cR w (E k)),?_⟩));show [aA (PV.lst (bL w E0)),aA (.int (m:Int)),aA (.int (k:Int)),aA (.lst (bL w (X6 f (E k) (X6 k (E f) E)))),aA (.lst (iL (nL (bw m k E)))),aA (.int (f:Int)),aA (cR w (E k)),o]=_;rw[Cn (by omega),show PM.pre k f E=λi j=>E (PM.sw k f i) j by unfold PM.pre;rw[lQ J]]
   ·have J:¬(E k k=0\/(E f k).natAbs<(E k k).natAbs):=by simpa using z
    exact RE rfl ⟨l,by rw[show PM.pre k f E=E by unfold PM.pre;rw[lU J]];rfl⟩
   ·rintro s ⟨y6,rfl⟩;refine JY (Co L W d hG U S Z) ?_;rintro s ⟨y7,rfl⟩;rw[Cp (w:=w) F d];exact RE (Zm (c3 rfl rfl rfl (UN W L d))) ⟨_,I.2,_,_,_,_,rfl,(rt.trans (by omega) (PM.rt_pre d F.lo F.hi)).trans (by omega) (PM.rt_red d),.inr ⟨I.1,rfl⟩⟩
 ·rintro st ⟨n,⟨E,t,l,o,rfl,rt,B⟩,q⟩;have a:(iL (nL (bw m k E))).length=(bw m k E).length:=by simp[nL]
  have c:xB (Zk L5 (Zc Ys [Za 4]) (eC (.int 0))) (stC w m k E0 E t l o)=aA (decide (0<(bw m k E).length)):=xb (vgt (b:=0) (c1 rfl (by rw[Kj,a])) rfl);have q0:=of_decide_eq_false (aw (c.symm.trans q));have nil:bw m k E=[]:=List.eq_nil_of_length_eq_zero (by omega);have z:∀i,k<i->i<m->E i k=0:=λi u p=>bb λz=>by have:=mem_bw.mpr ⟨u,p,z⟩;rw[nil] at this;exact dN this
  refine Yu rfl ⟨E,rfl,?_⟩;rcases B with⟨rfl,_⟩ | ⟨A,_⟩
  ·exact .refl z
  ·exact .aft rt A z
section
variable {w m k:Nat} {E:Mt}
theorem UO(b:w<=100):YL [.lst (bL w E)]=aA (.lst (bL w (PM.tr E))):=by refine Y9 (ret (ZT (aF w) (λ(i:Nat)=>PV.int (i:Int)) (λi=>cR w (PM.tr E i)) (YC (c1 rfl (by rw[Kj,TL])) (by omega)) (by simp;omega) λi a=>⟨_,rfl,rfl,ep (RK ?_) (Ud _)⟩));have a:=aS.mp a;exact Xu (q:=λr=>cR w (E r)) (λr=>E r i) rfl b λr c=>⟨_,rfl,vP (Zbv a rfl rfl)⟩
noncomputable def beside(m k:Nat)(E:Mt):Bool:=((aF (m-(k+1))).map λi=>E k (k+1+i)).any λz=>z != 0
theorem HN(h:beside m k E=aB):∀j,k<j->j<m->E k j=0:=λj b a=>by have:=gH.mp h (E k j) (bc.mpr ⟨j-(k+1),aS.mpr (by omega),by rw[show k+1+(j-(k+1))=j by omega]⟩);simpa using this
theorem Je(h:∀j,k<j->j<m->E k j=0):beside m k E=aB:=gH.mpr λx b=>by obtain⟨i,a,rfl⟩:=bc.mp b;have:=aS.mp a;rw[h _ (by omega) (by omega)];simp
theorem Cq{l:List Int}{a b:Nat}(d:a<=l.length)(c:b<=l.length):Xg (iL l) (aA (a:Int)) (aA (b:Int))=iL ((l.drop a).take (b-a)):=by unfold Xg;rw[HT.sIx_nat,HT.sIx_nat,aM,ck d,ck c,<-iY,<-iX]
theorem QD{v:Nat->Int}{a b:Nat}(c:a<=b)(d:b<=w):((ZV w v).drop a).take (b-a)=(aF (b-a)).map λi=>v (a+i):=by
 apply dE;intro i;rw[List.getElem?_take];by_cases h:i<b-a
 ·rw[lQ h,dM,aU,bI h];unfold ZV;rw[aU,bI (by omega)];rfl
 ·rw[lU h,bX (by simp;omega)]
theorem Ia{s:ZF}{f g h:XE}(d:m<=w)(j:k<m)(q:f s=aA (.lst (bL w E)))(c:g s=aA (.int (k:Int)))(e:h s=aA (.int (m:Int))):xB (Zc Pm [Up Xx (Zk ZN f g) (WN (Zk Ym g (eC (.int 1)))) (WN h)]) s=aA (beside m k E):=by
 refine xb (c1 (a:=.lst (iL ((aF (m-(k+1))).map λi=>E k (k+1+i)))) ?_ ?_)
 ·rw[Xq,OA (by omega) q c];simp only[aY];unfold WN;rw[HD (a:=(k:Int)) (b:=1) c rfl,e];simp only[aY];show aA (PV.lst (Xg (iL (ZV w (E k))) (aA ((k:Int)+1)) (aA (m:Int))))=_;rw[show((k:Int)+1)=((k+1:Nat):Int) from rfl,Cq (by rw[ZG];omega) (by rw[ZG];omega),QD (by omega) d]
 ·show(Wd (iL _)).map _=_;rw[Xj];rfl
end
theorem AS{m k e a d G:Nat}{l E:Mt}(f:k<m)(h:PM.RZ m k e a d l E)(p:d+2*a+3*e+3<G):∀j,j<m+m->∃N M P,PM.Hyp m k E j N M P/\2*(N*(M+2)*P^3)<2^G:=λj o=>by
 have lt:∀{x},x<=d+2*a+3*e+3->2^x<2^G:=λ{x} n=>cw (by omega) (by omega);have col:∀i,k<=i->i<m->(E i k).natAbs<=2^a:=λi c b=>h.ab i k c b (aJ _) f;by_cases q:j<m
 ·refine⟨2^a,2^a,2^e,⟨λi c b=>?_,cO,λ_=>h.pb,λz=>absurd z h.nz,.inl col⟩,av (PM.bits3 _ _ _) (lt (by omega))⟩;by_cases g:j<k
  ·rw[(h.cr.d1 j i g b (by omega)).2];exact dW _
  ·exact h.ab i j c b (by omega) q
 ·refine⟨2^d,2^a,2^e,⟨λi c b=>?_,cO,λ_=>h.pb,λz=>absurd z h.nz,.inl col⟩,av (PM.bits3 _ _ _) (lt (by omega))⟩;have:=h.lb i (j-m) b (by omega)
  rwa [show m+(j-m)=j by omega] at this
theorem P9{m k e d c G:Nat}{g E:Mt}(i:m<=50)(b:k<m)(h:PM.RZ m k e d c g E)(f:c+2*d+3*e+3<G)(a:G<=60000000):∃E',ZQ [.lst (bL (m+m) E),.int (m:Int),.int (k:Int)]=aA (.lst (bL (m+m) E'))/\PM.CL m k E E':=
 Na (G:=G) (by omega) (by omega) b (by omega) a (AS b h f)
theorem AU{m k e o n:Nat}{g E:Mt}{D:Int}(b:PM.Bs m g D)(h:PM.RZ m k e o n g (PM.tr E))(z:∀j,k<j->j<m->E k j=0):PM.RZ m k e o n g E:=
 ⟨h.cr.tr b,h.nz,h.pb,z,λi j a b c d=>h.ab j i c d a b,λi j f l=>h.rb j i l f,λi j f l=>h.lb j i l f⟩
abbrev stX(w m k:Nat)(B:List PV)(E:Mt):ZF:=[aA (.lst B),aA (.int (m:Int)),aA (.int (k:Int)),aA (.lst (bL w E))]
theorem Sk{m k e J x G sx bx:Nat}{s l:Nat->Nat}{o E:Mt}{B:List PV}{D:Int}(b:PM.Bs m o D)(Bd:PM.Bv m k J s l o)(R:m<=50)(u:k<m)(he:e<=J)(Z:J<=17)(h:PM.RZ m k e (l e) x o (PM.tr E))(I:∀e,e<=J->l e<=bx/\s e<=sx)
  (hG:x+PM.f1 s e+sx+2*bx+60<G) (w:G<=60000000) :
  YQ (Zp (Xp (xB (Zc Pm [Up Xx (Zk ZN (Za 3) (Za 2)) (WN (Zk Ym (Za 2) (eC (.int 1)))) (WN (Za 1))])) (Zp (Zr 3 (Zc YL [Zc ZQ [Zc YL [Za 3],Za 1,Za 2]])) (Zr 3 (Zc ZQ [Za 3,Za 1,Za 2])))) (ZK (Za 3)))
   (stX (m+m) m k B E) λv=>∃E' e' γ',v = .lst (bL (m+m) E')/\e'<=e/\γ'+PM.f1 s e'<=x+PM.f1 s e+2*s e'/\PM.RZ m k e' (l e') γ' o E'/\PM.RZ m k e' (l e') γ' o (PM.tr E')/\((¬ ∀i,k<i->i<m->E k k∣E k i)->e'<e):=by
 refine XD (Lz (λn st=>∃d a c,st=stX (m+m) m k B d/\((n=a+1/\a<=e/\c+PM.f1 s a<=x+PM.f1 s e/\PM.RZ m k a (l a) c o (PM.tr d)/\(a=e->d=E))\/(n=0/\a<=e/\c+PM.f1 s a<=x+PM.f1 s e+2*s a/\PM.RZ m k a (l a) c o d/\PM.RZ m k a (l a) c o (PM.tr d)/\((¬ ∀i,k<i->i<m->E k k∣E k i)->a<e)))) ⟨E,e,x,rfl,.inl ⟨rfl,aJ _,aJ _,h,λ_=>rfl⟩⟩ ?_) ?_
 ·rintro n st ⟨d,a,c,rfl,P⟩;have j:xB (Zc Pm [Up Xx (Zk ZN (Za 3) (Za 2)) (WN (Zk Ym (Za 2) (eC (.int 1)))) (WN (Za 1))]) (stX (m+m) m k B d)=aA (beside m k d):=Ia (by omega) u rfl rfl rfl
  cases q:beside m k d with
  | false=>exact .inl (j.trans (by rw[q]))
  | true=>
   refine .inr ⟨j.trans (by rw[q]),?_⟩;rcases P with⟨rfl,f,O,g,p⟩ | ⟨_,_,_,g,_⟩
   ·have b1:=I a (by omega);obtain⟨F,W,T⟩:=P9 (G:=G) R u g (by omega) w
    have c2:∃C,ZQ [.lst (bL (m+m) (PM.tr F)),.int (m:Int),.int (k:Int)]=aA (.lst (bL (m+m) C))/\PM.CL m k (PM.tr F) C:=by
     rcases PM.HV b Bd u (by omega) g T with⟨_,A,_⟩ | ⟨y,rfl,A,_⟩
     ·exact P9 (G:=G) R u A (by omega) w
     ·have:=I y (by omega);exact P9 (G:=G) R u A (by omega) w
    obtain⟨C,Q,M⟩:=c2;refine Z3 (Zm (c1 (c3 (c1 rfl (UO (by omega))) rfl rfl W) (UO (by omega)))) (RE (Zm (c3 rfl rfl rfl Q)) ?_);rcases PM.turnV b Bd u (by omega) g T M with⟨y,t,U,Y,H,S,N⟩ | ⟨y,t,U,Y,H⟩
    ·refine⟨0,by omega,C,y,t,rfl,.inr ⟨rfl,by omega,by omega,H,S,λz=>?_⟩⟩;by_cases L:a=e
     ·have:=N (by rw[p L];exact z);omega
     ·omega
    ·exact⟨y+1,by omega,C,y,t,rfl,.inl ⟨rfl,by omega,by omega,H,λz=>by omega⟩⟩
   ·exfalso;rw[Je g.rz] at q;cases q
 ·rintro st ⟨n,⟨d,a,c,rfl,P⟩,q⟩;have j:xB (Zc Pm [Up Xx (Zk ZN (Za 3) (Za 2)) (WN (Zk Ym (Za 2) (eC (.int 1)))) (WN (Za 1))]) (stX (m+m) m k B d)=aA (beside m k d):=Ia (by omega) u rfl rfl rfl;have z:=HN (aw (j.symm.trans q));rcases P with⟨rfl,f,O,g,p⟩ | ⟨_,f,O,g,A,N⟩
  ·refine Yu rfl ⟨d,a,c,rfl,f,by omega,AU b g z,g,λX=>?_⟩;refine jn f λL=>X ?_;have e:=p L;subst e;exact λi H S=>by rw[z i H S];exact cV _
  ·exact Yu rfl ⟨d,a,c,rfl,f,O,g,A,N⟩
theorem LB{w m k:Nat}{E:Mt}(a:w<=100)(c:m<=w)(b:k<m)(z:∀i,k<i->i<m->E i k=0):ZQ [.lst (bL w E),.int (m:Int),.int (k:Int)]=aA (.lst (bL w E)):=by
 have nil:bw m k E=[]:=List.eq_nil_iff_forall_not_mem.mpr λx d=>by have:=mem_bw.mp d;exact this.2.2 (z x this.1 this.2.1)
 refine Sg (ZD (Zm (c1 rfl (by rw[Q9,lQ Mm]))) (ZD (Zm (c3 rfl rfl rfl (UN c a b))) (XD (Lz (k:=0) (λn st=>st=stC w m k E E none none none) rfl ?_) ?_)))
 ·rintro n st rfl;unfold stC;rw[nil];exact .inl rfl
 ·rintro st ⟨n,rfl,_⟩;exact Yu rfl rfl
theorem AV{m k a d G:Nat}{n E:Mt}(f:k<m)(h:PM.Pl m k a d n E)(s:d+5*a+3<G):∀j,j<m+m->∃N M P,PM.Hyp m k E j N M P/\2*(N*(M+2)*P^3)<2^G:=λj p=>by
 have lt:∀{x},x<=d+5*a+3->2^x<2^G:=λ{x} o=>cw (by omega) (by omega);have col:∀i,k<=i->i<m->(E i k).natAbs<=2^a:=λi c b=>h.ab i k c b (aJ _) f;have e:∀N,PM.Bo m k j N E->PM.Hyp m k E j N (2^a) (2^a):=λN g=>⟨g,cO,λ_=>col k (aJ _) f,λ_ i c b=>col i (by omega) b,.inl col⟩;by_cases q:j<m
 ·refine⟨2^a,2^a,2^a,e _ λi c b=>?_,av (PM.bits3 _ _ _) (lt (by omega))⟩;by_cases l:j<k
  ·rw[(h.cr.d1 j i l b (by omega)).2];exact dW _
  ·exact h.ab i j c b (by omega) q
 ·refine⟨2^d,2^a,2^a,e _ λi c b=>?_,av (PM.bits3 _ _ _) (lt (by omega))⟩;have:=h.lb i (j-m) b (by omega)
  rwa [show m+(j-m)=j by omega] at this
structure Plc(m k a e0 sf sx bx:Nat)(s β:Nat->Nat)(A0 E:Mt)(D:Int):Prop where
 bs:PM.Bs m A0 D
 bd:PM.Bv m k e0 s β A0
 m5:m<=50
 km:k<m
 e17:e0<=17
 b8:∀e,e<=e0->β e<=bx/\s e<=sx
 a5:5*a+3<=β e0
 a4:4*a+3<=sf
 small:sf+sx+sx+sx+2*bx+PM.f2 s e0<=31000000
 pb:∀E',PM.CL m k E E'->(E' k k).natAbs<=2^e0
section
variable {m k a e0 γ sf sx bx:Nat} {s β:Nat->Nat} {A0 E:Mt} {D:Int}
theorem OC(P:Plc m k a e0 sf sx bx s β A0 E D)(h:PM.Pl m k a γ A0 E)(l:γ<=28500000) :
  ∃d c b,Xb [.lst (bL (m+m) E),.int (m:Int),.int (k:Int)]=aA (.lst (bL (m+m) d))/\c<=e0/\b+PM.f1 s c<=γ+sf+PM.f1 s e0+2*s c/\PM.RZ m k c (β c) b A0 d/\PM.RZ m k c (β c) b A0 (PM.tr d):=by
 have q:=P.m5;have f:=P.km;have u:=P.a5;have A:=P.a4;have i:=P.e17;have H:=P.b8 e0 (aJ _);have C:=P.small;have F:=PM.f2_ge s e0;obtain⟨p,y,e⟩:=Na (w:=m+m) (G:=60000000) (by omega) (by omega) f (by omega) (by omega) (AV f h (by omega));have r:=PM.Pl.first (s:=sf) P.bs f h e (P.pb p e) u (P.bd.le e0 (aJ _)) A;have g:=Sk (G:=60000000) (sx:=sx) (bx:=bx) (B:=bL (m+m) E) P.bs P.bd q f (aJ e0) i r P.b8 (by omega) (by omega);have x:YQ Vg (ZJ 4 [.lst (bL (m+m) E),.int (m:Int),.int (k:Int)]) _:=ZD (Zm (c3 rfl rfl rfl y)) g;obtain⟨v,n,d,c,b,rfl,t,o,z,j,_⟩:=Uk x;exact⟨d,c,b,n,t,o,z,j⟩
theorem OD{e:Nat}(P:Plc m k a e0 sf sx bx s β A0 E D){d:Mt}(l:e<=e0)(r:PM.RZ m k e (β e) γ A0 (PM.tr d))(j:γ+PM.f1 s e+sx+2*bx+60<60000000) :
  ∃f c b,Xb [.lst (bL (m+m) d),.int (m:Int),.int (k:Int)]=aA (.lst (bL (m+m) f))/\c<=e/\b+PM.f1 s c<=γ+PM.f1 s e+2*s c/\PM.RZ m k c (β c) b A0 f/\PM.RZ m k c (β c) b A0 (PM.tr f)/\((¬ ∀i,k<i->i<m->d k k∣d k i)->c<e):=by
 have t:=P.m5;have n:=P.km;have h:=P.e17;have y:=P.small;have z:=PM.f2_ge s e0;have x:=PM.f1_mono s l;have g:=Sk (G:=60000000) (sx:=sx) (bx:=bx) (B:=bL (m+m) d) P.bs P.bd t n l h r P.b8 j (by omega);have u:YQ Vg (ZJ 4 [.lst (bL (m+m) d),.int (m:Int),.int (k:Int)]) _:=ZD (Zm (c3 rfl rfl rfl (LB (w:=m+m) (by omega) (by omega) n λi q p=>r.rz i q p))) g;obtain⟨v,o,f,c,b,rfl,Yg⟩:=Uk u;exact⟨f,c,b,o,Yg⟩
noncomputable def AW(m k:Nat)(E:Mt)(i:Nat):Bool:=((aF m).map λj=>!decide ((E i j).fmod (E k k)=0)).any id
theorem Cs{i:Nat}(h:AW m k E i=aB):∀j,j<m->E k k∣E i j:=λj a=>by have:=gH.mp h (!decide ((E i j).fmod (E k k)=0)) (bc.mpr ⟨j,aS.mpr a,rfl⟩);exact Int.dvd_of_fmod_eq_zero (by simpa using this)
theorem Eb{i:Nat}(h:AW m k E i=aC):∃j,j<m/\¬E k k∣E i j:=by obtain⟨b,c,a⟩:=fC.mp h;obtain⟨j,d,rfl⟩:=bc.mp c;refine⟨j,aS.mp d,λz=>?_⟩;have:=Int.fmod_eq_zero_of_dvd z;simp[this] at a
theorem LC{w:Nat}(p:w<=100)(h:m<=w)(y:k<m)(l:E k k≠0):∃v,W7 [.lst (bL w E),.int (m:Int),.int (k:Int)]=aA v/\((v = .non/\∀i j,k<i->i<m->j<m->E k k∣E i j)\/(∃u:Nat,v = .int (u:Int)/\k<u/\u<m/\∃j,j<m/\¬E k k∣E u j)):=by
 refine Uk (ZD (Zm (ep (Sj (by omega) (by omega) rfl rfl rfl))) (Zbo (L:=(aF (m-(k+1))).map λi=>k+1+i) (q:=λ(i:Nat)=>PV.int (i:Int)) (g:=λ(i:Nat)=>PV.int (i:Int)) (AW m k E) (λs=>∃x,s=[aA (.lst (bL w E)),aA (.int (m:Int)),aA (.int (k:Int)),aA (.int (E k k)),x]) ?_ ⟨none,rfl⟩ ?_ ?_ ?_))
 ·rw[SI (i:=(k:Int)+1) (j:=(m:Int)) (HD rfl rfl) rfl (by omega) (by omega)];unfold TY;rw[dF,show((m:Int)-((k:Int)+1)).toNat=m-(k+1) by omega];congr 1
 ·rintro i c s ⟨x,rfl⟩;obtain⟨t,d,rfl⟩:=bc.mp c;have:=aS.mp d;refine⟨_,rfl,xb (c1 (a:=.lst (((aF m).map λj=>!decide ((E (k+1+t) j).fmod (E k k)=0)).map PV.bl)) ?_ (Av _)),ret (vP rfl),⟨_,rfl⟩⟩;rw[dF];refine ZT (aF m) (λj=>PV.int (E (k+1+t) j)) _ ?_ (by simp;omega) λj z=>⟨_,rfl,rfl,o2 (vC (C:=λ_ j=>j≠0) (op:=Int.fmod) rfl rfl l) rfl (by rw[VZ];rfl)⟩;show(Up Xx (Zk ZN (Za 0) (Za 4)) So (WN (Za 1)) _).bind _=_;rw[Xq,OA (i:=k+1+t) (E:=E) (w:=w) (by omega) rfl rfl];simp only[aY,Qm];show(aA (PV.lst (Xg (iL (ZV w (E (k+1+t)))) none (aA (m:Int))))).bind _=_;rw[Mf];show aA (iL ((ZV w (E (k+1+t))).take m))=_;have:=QD (w:=w) (v:=E (k+1+t)) (a:=0) (b:=m) (by omega) h;rw[gU,gu] at this;rw[this];show aA (kE PV.int (kE _ _))=_;rw[dF];congr 1;refine ao λi _=>?_;show PV.int (E (k+1+t) (0+i))=_;rw[Nat.zero_add]
 ·intro i c;have e:=iM c;have f:=k6 c;obtain⟨t,d,rfl⟩:=bc.mp e;have:=aS.mp d;exact .inr ⟨_,rfl,by omega,by omega,Eb f⟩
 ·rintro n s ⟨x,rfl⟩;refine Yu rfl (.inl ⟨rfl,λi j e f o=>Cs ?_ j o⟩);have:=jl.mp n i (bc.mpr ⟨i-(k+1),aS.mpr (by omega),by omega⟩);simpa using this
theorem HP{e b c:Nat}{i E:Mt}{G u:Nat}(h:PM.RZ m k e b c i E)(n:b<G)(l:c<G)(f:k<=u)(a:u<m):∀j,j<m+m->(E u j).natAbs<2^G:=λj o=>by
 have lt:∀{x},x<G->2^x<2^G:=λ{x} d=>cw (by omega) d;by_cases q:j<m
 ·by_cases g:j<k
  ·rw[(h.cr.d1 j u g a (by omega)).2];exact Nat.pow_pos (by omega)
  ·exact av (h.ab u j f a (by omega) q) (lt n)
 ·have:=h.lb u (j-m) a (by omega);rw[show m+(j-m)=j by omega] at this;exact av this (lt l)
theorem QE(P:Plc m k a e0 sf sx bx s β A0 E D)(h:PM.Pl m k a γ A0 E)(hγ:γ<=28500000)(p:Nat)(F:∀e,e<=e0->β e<=p) :
  ∃A o,Wx [.lst (bL (m+m) E),.int (m:Int),.int (k:Int)]=aA (.lst (bL (m+m) A))/\o<=γ+sf+2*sx+PM.f2 s e0/\PM.Pl m (k+1) p o A0 A:=by
 have m5:=P.m5;have M:=P.km;have e17:=P.e17;obtain⟨Z,e1,I,v1,T,g1,t,B⟩:=OC P h (by omega);obtain⟨x1,w1,N⟩:=LC (w:=m+m) (E:=Z) (by omega) (by omega) M t.nz
 suffices g:YQ T9 (ZJ 5 [.lst (bL (m+m) E),.int (m:Int),.int (k:Int)]) λv=>∃A o,v = .lst (bL (m+m) A)/\o<=γ+sf+2*sx+PM.f2 s e0/\PM.Pl m (k+1) p o A0 A by obtain⟨v,e,A,o,rfl,r⟩:=Uk g;exact⟨A,o,e,r⟩
 have sm:=P.small;have C:I+PM.f2 s e1<=γ+sf+2*sx+PM.f2 s e0:=by have:=PM.f2_le s T;have:=(P.b8 e1 T).2;omega
 refine ZD (Zm (c3 rfl rfl rfl v1)) (ZD (Zm (c3 rfl rfl rfl w1)) (XD (Lz (λn st=>∃f l x,st=[aA (.lst (bL (m+m) E)),aA (.int (m:Int)),aA (.int (k:Int)),aA (.lst (bL (m+m) f)),aA x]/\n<=e0/\l+PM.f2 s n<=γ+sf+2*sx+PM.f2 s e0/\PM.RZ m k n (β n) l A0 f/\PM.RZ m k n (β n) l A0 (PM.tr f)/\((x = .non/\∀i j,k<i->i<m->j<m->f k k∣f i j)\/(∃u:Nat,x = .int (u:Int)/\k<u/\u<m/\∃j,j<m/\¬f k k∣f u j))) ⟨Z,I,x1,rfl,T,C,t,B,N⟩ ?_) ?_))
 ·rintro n st ⟨f,l,x,rfl,L,hg,t,B,W⟩;rcases W with⟨rfl,_⟩ | ⟨u,rfl,u1,J,j,H,Y⟩
  ·exact .inl rfl
  ·refine .inr ⟨rfl,?_⟩;have b8:=P.b8 n L;have fg:=PM.f2_ge s n;have O:=HP (G:=60000000) t (by omega) (by omega) (by omega) J;have lo:SU [cR (m+m) (f k),cR (m+m) (f u),.int 1]=aA (.lst (iL (ZV (m+m) λj=>f k j-1*f u j))):=J9 (by omega) λj H=>Jd (G:=60000000) (by show 1<2^60000000;exact Nat.one_lt_two_pow (by omega)) (O j H) (by omega) (by omega);have r3:=t.unfit P.bs M B u1 J
   have eE:X6 k (λj=>f k j-1*f u j) f=λi j=>if i=k then f i j-1*f u j else f i j:=by
    funext i;unfold X6;by_cases q:i=k
    ·rw[lQ q];funext j;rw[lQ q,q]
    ·rw[lU q];funext j;rw[lU q]
   obtain⟨E3,e3,U,v3,l3,g3,r4,r5,d3⟩:=OD P L r3 (by omega)
   have less:e3<n:=d3 λz=>by
    have uk:f u k=0:=B.rz u u1 J
    have jk:k<j:=by
     refine Nat.not_le.mp λle=>Y ?_;by_cases q:j=k
     ·rw[q,uk];exact cV _
     ·rw[(t.cr.d1 j u (by omega) J (by omega)).2];exact cV _
    have:=z j jk H;simp only[lQ] at this;rw[uk,t.rz j jk H] at this;refine Y ?_;have h2:f k k∣-(1*f u j):=by simpa using this
    simpa using Int.dvd_neg.mp h2
   have st:=PM.f2_step s less;obtain⟨x3,w3,Q⟩:=LC (w:=m+m) (E:=E3) (by omega) (by omega) M r4.nz;refine Z3 (LA (w:=m+m) (E:=f) (v:=λj=>f k j-1*f u j) (by omega) rfl (RK (c3 (OA (by omega) rfl rfl) (OA (by omega) rfl rfl) rfl lo)) rfl) (Z3 (Zm (c3 rfl rfl rfl ?_)) (RE (Zm (c3 rfl rfl rfl w3)) ⟨e3,less,E3,U,x3,rfl,by omega,by omega,r4,r5,Q⟩));rw[eE];exact v3
 ·rintro st ⟨n,⟨f,l,x,rfl,L,hg,t,B,W⟩,q⟩;rcases W with⟨rfl,dv⟩ | ⟨u,rfl,_⟩
  case inr=>cases q
  have nx:=t.next M B dv;have X:PM.Pl m (k+1) p l A0 (λi j=>if i=k/\f k k<0 then-f i j else f i j):=⟨nx.cr,λi j a b c d=>aP (nx.ab i j a b c d) (PM.pw2 (F n L)),nx.lb,nx.rb⟩;have S:xB (Zk MA (Zk ZN (Zk ZN (Za 3) (Za 2)) (Za 2)) (eC (.int 0))) [aA (.lst (bL (m+m) E)),aA (.int (m:Int)),aA (.int (k:Int)),aA (.lst (bL (m+m) f)),aA .non]=aA (decide (f k k<0)):=xb (o2 (Sj (by omega) (by omega) rfl rfl rfl) rfl rfl);refine XD (R:=λs=>s=[aA (.lst (bL (m+m) E)),aA (.int (m:Int)),aA (.int (k:Int)),aA (.lst (bL (m+m) (λi j=>if i=k/\f k k<0 then-f i j else f i j))),aA .non]) (Ls S (λz=>?_) λz=>?_) ?_
  ·have z:=of_decide_eq_true z;refine RE (LA (w:=m+m) (E:=f) (v:=λj=>- f k j) (by omega) rfl (RK (Xu (q:=λj=>.int (f k j)) (λj=>- f k j) ?_ (by omega) λj H=>⟨_,rfl,vP (un1 rfl rfl)⟩)) rfl) ?_
   ·show(Zk ZN (Za 3) (Za 2) _).bind _=_;rw[OA (i:=k) (E:=f) (w:=m+m) (by omega) rfl rfl];show aA (kE PV.int (kE (f k) (aF (m+m))))=_;rw[dF];rfl
   ·show [_,_,_,aA (PV.lst (bL (m+m) (X6 k (λj=>- f k j) f))),_]=_;rw[show X6 k (λj=>- f k j) f=λi j=>if i=k/\f k k<0 then-f i j else f i j from ?_];funext i;unfold X6;by_cases q:i=k
    ·rw[lQ q];funext j;rw[lQ ⟨q,z⟩,q]
    ·rw[lU q];funext j;rw[lU (λy=>q y.1)]
  ·have z:=of_decide_eq_false z;refine RE rfl ?_;rw[show(λi j=>if i=k/\f k k<0 then-f i j else f i j)=f from funext λi=>funext λj=>lU (λy=>z y.2)]
  ·rintro s rfl;exact Yu rfl ⟨_,l,rfl,by omega,X⟩
end
end PW
namespace PW
open L2 VL
structure SInv(m:Nat)(A E:Mt)(d:Int)(p:Nat):Prop where
 dp:0<d
 off:∀i j,p<=i->i<m->p<=j->j<m->i≠j->E i j<=0
 row:∀i,p<=i->i<m->0<=sN m λj=>if j<p then 0 else E i j
 dia:∀i,p<=i->i<m->E i i<=d*A i i
theorem SInv.piv{m p:Nat}{A E:Mt}{d:Int}(S:SInv m A E d p)(a:p<m):0<=E p p:=by
 have h:=S.row p (aJ p) a;have e:=Z6 (n:=m) (f:=λj=>if j=p then E p p else 0) a λi _ ne=>lU ne
 have l:=Yd (n:=m) (f:=λj=>(if j=p then E p p else 0)+(-1)*(if j<p then 0 else E p j)) λj b=>by
  by_cases q:j=p
  ·subst q;rw[lQ rfl,lU (by omega)];omega
  ·rw[lU q];split
   ·omega
   ·have:=S.off p j (aJ p) a (by omega) b (λz=>q z.symm);omega
 rw[ZY,ZC,e,lQ rfl] at l;omega
theorem SInv.step{m p:Nat}{A X E:Mt}{d:Int}(ok:D6 m A X)(f:p<m)(I:D7 m A X p E d)(S:SInv m A E d p):SInv m A (λi j=>if i=p then E i j else(E p p*E i j-E i p*E p j).fdiv d) (E p p) (p+1):=by
 obtain⟨t,v⟩:=TH ok f I;have h:0<E p p:=by have:=S.piv f;have:=t.nz;omega
 have l:=S.dp;have k:∀i j,p+1<=i->i<m->j<m->d*(if i=p then E i j else(E p p*E i j-E i p*E p j).fdiv d)=E p p*E i j-E i p*E p j:=λi j c b n=>by obtain⟨q,e⟩:=v i j b (by omega) (by omega);rw[lU (by omega),e,eY _ (by omega)]
 have o:∀i j,p+1<=i->i<m->p+1<=j->j<m->0<=E i p*E p j:=λi j c b n g=>
  Int.mul_nonneg_of_nonpos_of_nonpos (S.off i p (by omega) b (aJ p) f (by omega)) (S.off p j (aJ p) f (by omega) g (by omega))
 refine⟨h,λi j c b n g ne=>?_,λi c b=>?_,λi c b=>?_⟩
 ·refine fW (a:=d) ?_ l;rw[k i j c b g,bz];have:=Int.mul_nonpos_of_nonneg_of_nonpos (gv h) (S.off i j (by omega) b (by omega) g ne);have:=o i j c b n g;omega
 ·refine fW (a:=d) ?_ l;rw[bz,<-ZC]
  have e:(sN m λj=>d*(if j<p+1 then 0 else if i=p then E i j else(E p p*E i j-E i p*E p j).fdiv d))=sN m λj=>E p p*(if j<p then 0 else E i j)+(- E i p)*(if j<p then 0 else E p j):=Zi λj u=>by
   by_cases q:j<p
   ·rw[lQ (by omega),lQ q,lQ q];simp
   ·rw[lU q,lU q];by_cases s:j=p
    ·subst s;rw[lQ (by omega),cC,bG (E i j)];omega
    ·rw[lU (by omega),k i j c b u,cC];omega
  rw[e,ZY,ZC,ZC];have:=cN (gv h) (S.row i (by omega) b);have:=cN (a:=- E i p) (by have:=S.off i p (by omega) b (aJ p) f (by omega);omega) (S.row p (aJ p) f);omega
 ·refine fW (a:=d) ?_ l;rw[k i i c b b];have:=o i i c b c b;have:=fD (S.dia i (by omega) b) (gv h);rw[cZ] at this;omega
noncomputable def prN(A:Mt):Nat->Int
 | 0=>1
 | p+1=>prN A p*A p p
theorem Ec{m:Nat}{A X:Mt}(ok:D6 m A X)(o:∀i j,i<m->j<m->i≠j->A i j<=0)(r:∀i,i<m->0<=sN m (A i))(a:∀i,i<m->0<=A i i):∀{p:Nat},p<=m->SInv m A (Wq m X p).1 (Wq m X p).2 p/\(Wq m X p).2<=prN A p
 | 0,_=>⟨⟨by show(0:Int)<1;decide,λi j _ b _ c ne=>by show X i j<=0;rw[ok.ext i j b c];exact o i j b c ne,λi _ b=>by
   rw[Zi (g:=A i) λj c=>by rw[lU (by omega)];exact ok.ext i j b c];exact r i b,λi _ b=>by show X i i<=1*A i i;rw[ok.ext i i b b];omega⟩,dk _⟩
 | p+1,h=>by obtain⟨S,l⟩:=Ec ok o r a (p:=p) (by omega);refine⟨S.step ok (by omega) (YM ok (by omega)),?_⟩;have d:=S.dia p (aJ p) (by omega);exact Int.le_trans d (g7 l (a p (by omega)))
noncomputable def AX:Nat->Nat->Nat
 | 0,_=>1
 | m+1,s=>(aF (s+1)).foldl (λa x=>max a (x*AX m (s-x))) 0
theorem Bc{f:Nat->Nat}:∀(l:List Nat)(a:Nat),a<=l.foldl (λa x=>max a (f x)) a/\∀x∈l,f x<=l.foldl (λa x=>max a (f x)) a
 | [],a=>⟨aJ _,by simp⟩
 | y::l,a=>by
  obtain⟨c,d⟩:=Bc (f:=f) l (max a (f y));refine⟨aP (Nat.le_max_left _ _) c,λx b=>?_⟩;rcases af.mp b with rfl | b
  ·exact aP (Nat.le_max_right _ _) c
  ·exact d x b
theorem Ed{A:Mt}:∀{m s:Nat},(∀i,i<m->0<=A i i)->sN m (λi=>A i i)<=(s:Int)->prN A m<=(AX m s:Int)
 | 0,s,_,_=>dk _
 | m+1,s,h0,h=>by
  have j:=h0 m (by omega);have d:=Yd (n:=m) (f:=λi=>A i i) λi a=>h0 i (by omega);have h:sN m (λi=>A i i)+A m m<=(s:Int):=h;obtain⟨x,b⟩:∃x:Nat,A m m=(x:Int):=⟨(A m m).toNat,by omega⟩;have c:=Ed (A:=A) (m:=m) (s:=s-x) (λi a=>h0 i (by omega)) (by omega);have g:=(Bc (f:=λx=>x*AX m (s-x)) (aF (s+1)) 0).2 x (aS.mpr (by omega));have g:x*AX m (s-x)<=AX (m+1) s:=g;have e:=g7 c (show(0:Int)<=(x:Int) by omega);show prN A m*A m m<=_;rw[b];refine Int.le_trans e ?_;rw[bG]
  exact_mod_cast g
end PW
namespace PM
open PW
noncomputable def b0(e:Nat):Nat:=dbl 23 (4-e)
noncomputable def dbv(t:Nat):Nat->Nat
 | 0=>t
 | n+1=>2*dbv t n+30
noncomputable def b1(e:Nat):Nat:=dbv 3343 (8-e)
noncomputable def b2(e:Nat):Nat:=if 8<=e then 4317300 else 200
noncomputable def sB(β:Nat->Nat)(e:Nat):Nat:=β e+3*e+3
theorem b0_le:∀e,e<=4->23<=b0 e/\b0 e<=668:=by decide
theorem b1_le:∀e,e<=8->3343<=b1 e/\b1 e<=863458:=by decide
theorem Ct{e:Nat}(h:e<4):b0 e=2*b0 (e+1)+20:=by unfold b0;rw[show 4-e=(4-(e+1))+1 by omega];rfl
theorem Cu{e:Nat}(h:e<8):b1 e=2*b1 (e+1)+30:=by unfold b1;rw[show 8-e=(8-(e+1))+1 by omega];rfl
theorem Ee{m k e g a:Nat}{l E:Mt}(d:k<m)(h:RZ m k (e+1) a g l E):∀j,k<j->j<m->∃N M P,Hyp m k E j N M P/\2*(N*(M+2)*P^3)<=2^(a+a+3*(e+1)+3):=λj n f=>
 ⟨2^a,2^a,2^(e+1),⟨λi c b=>h.ab i j c b (by omega) f,cO,λ_=>h.pb,λz=>absurd z h.nz,.inl λi c b=>h.ab i k c b (aJ _) d⟩,bits3 _ _ _⟩
theorem Bv.one{m k:Nat}{d:Mt}(a:k<m):Bv m k 4 (sB b0) b0 d:=
 ⟨λe _=>aJ _,λe h=>by have:=b0_le e h;omega,λe g E f h j b c=>by
  obtain⟨N,M,P,H,l⟩:=Ee a h j b c;exact⟨N,M,P,H,aP l (pw2 (by rw[Ct f];omega))⟩⟩
theorem Bv.mid{m k:Nat}{d:Mt}(a:k<m):Bv m k 8 (sB b1) b1 d:=
 ⟨λe _=>aJ _,λe h=>by have:=b1_le e h;omega,λe g E f h j b c=>by
  obtain⟨N,M,P,H,l⟩:=Ee a h j b c;exact⟨N,M,P,H,aP l (pw2 (by rw[Cu f];omega))⟩⟩
theorem Bv.end{m k:Nat}{f:Mt}{D:Int}(b:Bs m f D)(o:D.natAbs<=2^8)(A:m<=k+2):Bv m k 8 (sB b2) b2 f:=by
 refine⟨λe _=>aJ _,λe h=>by unfold b2;split<;>omega,λe t E n h j c a=>?_⟩;have g:m=k+2:=by omega
 have u:j=k+1:=by omega
 have w:∀i,k<=i->i<m->(E i j).natAbs<=2^8:=λi v y=>by
  by_cases q:i=k
  ·rw[q,h.rz j c a];exact dW _
  ·have l:i=j:=by omega
   have d:E j j∣D:=h.cr.col b (by omega) a λx p s=>by
    by_cases q:x=k
    ·rw[q,h.rz j c a];exact cV _
    ·rw[show x=j by omega];exact gW _
   have:=cy (by have:=b.nz;omega) (cJ.mpr d);rw[l];omega
 refine⟨2^8,2^(e+1),2^(e+1),⟨w,cO,λ_=>h.pb,λz=>absurd z h.nz,.inr ⟨g,h.rz j c a,h.nz,h.pb⟩⟩,aP (bits3 _ _ _) (pw2 ?_)⟩;unfold b2;rw[lU (by omega)];omega
theorem f2_0:f2 (sB b0) 4<=8000:=by decide
theorem f2_1:f2 (sB b1) 8<=7000000:=by decide
theorem f2_2:f2 (sB b2) 8<=4400000:=by decide
end PM
namespace PW
open L2 VL
section
variable {W:List (List Int)} {m:Nat}
theorem o0(i:Nat):Xl 0 i=i+1:=by unfold Xl;rw[lU (by omega)]
theorem Ef{W:List (List Int)}(ok:ZE W)(p:Xr W)(s:2<=W.length):1<=(ZH W 0).sum:=by
 have c:=ok.pos;rw[U6 ok c,Xt];refine bb λh=>?_;have h:¬1<=sN W.length (ZZ W 0):=h
 have z:∀j,j<W.length->ZZ W 0 j=0:=λj g=>by
  have e:=Z6 (n:=W.length) (f:=λi=>if i=j then ZZ W 0 j else 0) g λi _ ne=>lU ne
  have l:=Yd (n:=W.length) (f:=λi=>ZZ W 0 i+(-1)*(if i=j then ZZ W 0 j else 0)) λi m=>by
   have:=ok.lo 0 i c m;split
   ·rename_i q;subst q;omega
   ·omega
  rw[ZY,ZC,e,lQ rfl] at l;have:=ok.lo 0 j c g;omega
 have:=(p (· = 0) (λa b d o k=>⟨λq=>by rw[q,z b o] at k;omega,λq=>by rw[q,ok.sym a 0 d c,z a d] at k;omega⟩) 1 0 (by omega) c).mpr rfl;omega
theorem LD(ok:ZE W)(d:Xr W)(a:2<=W.length):sN (W.length-1) (λi=>ZU W 0 i i)<=2*((Vz W).length:Int)-1:=by
 have j:=Ef ok d a;have t:=Lo ok;rw[Xt] at t;have e:=K8 (m:=W.length-1) (b:=0) (f:=λh=>if h=0 then 0 else(ZH W h).sum) (lQ rfl) (by omega);rw[show W.length-1+1=W.length by omega] at e
 have l:sN (W.length-1) (λi=>ZU W 0 i i)=sN W.length λh=>if h=0 then 0 else(ZH W h).sum:=by
  rw[e];exact Zi λi _=>by unfold ZU;rw[lQ rfl,o0,lU (by omega)]
 have g:=Z6 (n:=W.length) (f:=λh=>if h=0 then(ZH W 0).sum else 0) (k:=0) ok.pos λi _ ne=>lU ne
 have c:sN W.length (λh=>(ZH W h).sum)=sN W.length (λh=>(if h=0 then 0 else(ZH W h).sum)+if h=0 then(ZH W 0).sum else 0):=Zi λi _=>by
  split
  ·rename_i q;rw[q];omega
  ·omega
 rw[c,ZY,g,lQ rfl] at t;omega
theorem AY(ok:ZE W)(a:W.length=m+1):∀i,i<m->0<=ZU W 0 i i:=λi b=>by unfold ZU;rw[lQ rfl,U6 ok (by rw[a];exact Xv b),Xt];exact Yd λj c=>ok.lo _ _ (by rw[a];exact Xv b) c
theorem Zbw(ok:ZE W)(s:Xr W)(p:W.length=m+1)(t:(Vz W).length<=8):∀i j,i<m->j<m->(ZU W 0 i j).natAbs<=15:=λi j a o=>by
 have g:Xl 0 i<W.length:=by have:=Xv (b:=0) a;omega
 have c:Xl 0 j<W.length:=by have:=Xv (b:=0) o;omega
 by_cases q:Xl 0 j=Xl 0 i
 ·have d:=LD ok s (by omega);rw[show W.length-1=m by omega] at d;have h:=AY ok p;have e:=Z6 (n:=m) (f:=λx=>if x=i then ZU W 0 i i else 0) a λx _ ne=>lU ne
  have l:=Yd (n:=m) (f:=λx=>ZU W 0 x x+(-1)*(if x=i then ZU W 0 i i else 0)) λx k=>by
   have:=h x k;split
   ·rename_i z;subst z;omega
   ·omega
  rw[ZY,ZC,e,lQ rfl] at l;have:=h i a;rw[show j=i from Cb q];omega
 ·unfold ZU;rw[lU q];have:=ok.lo _ _ g c;have:=ok.hi _ _ g c;omega
theorem Zdl:∀n,n<=4->AX n 15<=256:=by decide +kernel
theorem D8(ok:ZE W)(l:Xr W)(c:W.length=m+1)(t:W.length<=5)(u:(Vz W).length<=8):(Xz m (ZU W 0)).natAbs<=2^8:=by
 have f:=ok.pos;have a:W.length-1=m:=by omega
 by_cases z:m=0
 ·subst z;show(1:Int).natAbs<=_;decide
 have bk:=RI ok l (b:=0) f (λ_=>0);rw[a] at bk;have I:=YM bk (aJ m)
 obtain⟨S,n⟩:=Ec bk (λi j e v ne=>by
  unfold ZU;rw[o0,o0,lU (by omega)];have:=ok.lo (i+1) (j+1) (by omega) (by omega)
  omega) (λi e=>by
  have g:=P0 ok f (Y:=λh=>if h=0 then 0 else 1) (lQ rfl) (k:=i) (by omega);rw[a,Zi (g:=ZU W 0 i) λj _=>by rw[o0,lU (by omega),g8]] at g
  have:0<=sN W.length λh=>(-1)*(ZZ W (Xl 0 i) h*((if h=0 then 0 else 1)-(if Xl 0 i=0 then 0 else 1))):=Yd λh o=>by
   have:=ok.lo (Xl 0 i) h (by rw[c];exact Xv e) o;rw[o0] at this ⊢;rw[lU (show ¬i+1=0 by omega)];split
   ·rw[Int.zero_sub,iP,g8];omega
   ·simp
  rw[ZC] at this;have g:(sN W.length λh=>ZZ W (Xl 0 i) h*((if h=0 then(0:Int) else 1)-(if Xl 0 i=0 then 0 else 1))) = - sN m (ZU W 0 i):=g;omega) (AY ok c) (aJ m)
 have d:=LD ok l (by omega);rw[a] at d;have p:=Ed (A:=ZU W 0) (m:=m) (s:=15) (AY ok c) (by omega);have q:=Zdl m (by omega);rw[I.de] at n;have pos:0<Xz m (ZU W 0):=by rw[<-I.de];exact S.dp
 have:((AX m 15:Nat):Int)<=256:=by exact_mod_cast q
 omega
end
end PW
namespace PW
open PySem L2 VL VX
noncomputable def E0(m:Nat)(A:Mt):Mt:=λi j=>if i<m then(if j<m then A i j else PM.one i (j-m)) else(if j<m then PM.one (i-m) j else 0)
theorem AZ{a b:Nat}(u v:Nat->Int):ZV a u++ZV b v=ZV (a+b) λj=>if j<a then u j else v (j-a):=by
 apply dE;intro i;unfold ZV;by_cases h:i<a
 ·rw[aZ (by simpa using h),aU,aU,bI h,bI (by omega)];show aA (u i)=aA (if i<a then u i else v (i-a));rw[lQ h]
 ·rw[bH (by simp;omega),aM,bu,aU,aU];by_cases c:i<a+b
  ·rw[bI (by omega),bI c];show aA (v (i-a))=aA (if i<a then u i else v (i-a));rw[lU h]
  ·rw[bX (by simp;omega),bX (by simp;omega)];rfl
theorem Eg{a b:Nat}{u v:Nat->Int}(h:a+b<=100):Uh (.lst (iL (ZV a u))) (.lst (iL (ZV b v)))=aA (.lst (iL (ZV (a+b) λj=>if j<a then u j else v (j-a)))):=by unfold Uh;simp only[];rw[lQ ⟨by rw[aM,aM,ZG,ZG];omega,Z4 _,Z4 _⟩,<-cT,AZ]
theorem RX{m i:Nat}(a:m<=100):V4 [.int (m:Int),.int (i:Int)]=aA (.lst (iL (ZV m (PM.one i)))):=by
 refine Y9 (ret (WD (PM.one i) (YC rfl (by omega)) (by omega) λj b=>⟨_,rfl,rfl,vP ?_⟩));unfold PM.one;by_cases q:i=j
 ·rw[lQ q];exact FU (xb ((H9 rfl rfl).trans (by rw[decide_eq_true (by omega)]))) rfl
 ·rw[lU q];exact FV (xb ((H9 rfl rfl).trans (by rw[decide_eq_false (by omega)]))) rfl
theorem Be{m:Nat}(a:m<=100):NF (.lst [.int 0]) (.int (m:Int))=aA (.lst (iL (ZV m λ_=>0))):=by
 unfold NF;simp only[];rw[lQ (by refine⟨?_,?_,?_,?_⟩<;>first | rfl | omega | (simp;omega))];congr 2;apply dE;intro i;unfold ZV;by_cases h:i<m
 ·simp[h]
 ·simp[h]
theorem LF{m:Nat}{A:Mt}(f:m<=50):Tq [wP (Wz m m A)]=aA (.lst (bL (m+m) (E0 m A))):=by
 have up:∀i,i<m->cR (m+m) (E0 m A i) = .cst (iL (ZV (m+m) λj=>if j<m then A i j else PM.one i (j-m))):=λi b=>by unfold cR E0;simp only[lQ b]
 have lo:∀i,i<m->cR (m+m) (E0 m A (m+i)) = .cst (iL (ZV (m+m) λj=>if j<m then PM.one i j else 0)):=λi b=>by unfold cR E0;rw[show m+i-m=i by omega];simp only[lU (show ¬m+i<m by omega)]
 have c:bL (m+m) (E0 m A)=(aF m).map (λi=>cR (m+m) (E0 m A i))++(aF m).map λi=>cR (m+m) (E0 m A (m+i)):=by unfold bL;rw[kq,cT,dF];rfl
 have d:∀(g:Nat->Nat->Int),ZO ((aF m).map λi=>cR (m+m) (g i))=aC:=λg=>by rw[XH,ar];intro x e;obtain⟨i,_,rfl⟩:=bc.mp e;exact Ud _
 refine Sg (ZD (Zm (vP (c1 rfl (by rw[Ul,Mk])))) (ZD (Zm (ZT (aF m) (λi=>.tup [.int ((i:Nat):Int),pP (ZV m (A i))]) (λi=>cR (m+m) (E0 m A i)) ?_ (by simp;omega) λi b=>⟨_,rfl,rfl,ep ?_ (Ud _)⟩)) (ZD (Zm (ZT (aF m) (λ(i:Nat)=>PV.int (i:Int)) (λi=>cR (m+m) (E0 m A (m+i))) (YC rfl (by omega)) (by simp;omega) λi b=>⟨_,rfl,rfl,ep ?_ (Ud _)⟩)) (Yu (o2 rfl rfl ?_) rfl))))
 ·show aA (W0 (tL (Wz m m A)))=_;rw[W5,Vl];congr 1;refine ao λi b=>?_;rw[aD,TJ (aS.mp b)];rfl
 ·rw[up i (aS.mp b)];exact RK (o2 (a:=.lst (iL (ZV m (A i)))) (c1 rfl (by rw[Q8,lQ (Z4 _)])) (c2 rfl rfl (RX (by omega))) (Eg (by omega)))
 ·rw[lo i (aS.mp b)];exact RK (o2 (c2 rfl rfl (RX (by omega))) (o2 rfl rfl (Be (by omega))) (Eg (by omega)))
 ·unfold Uh;simp only[];rw[lQ ⟨by simp;omega,d _,d _⟩,c]
theorem Zdm(m:Nat)(A:Mt):PM.Adm m A (E0 m A):=by
 have e:PM.EqM m (λi k=>E0 m A i (m+k)) PM.one:=λi j b a=>by show E0 m A i (m+j)=_;unfold E0;rw[lQ b,lU (by omega),show m+j-m=j by omega]
 have d:PM.EqM m (λi k=>E0 m A (m+i) k) PM.one:=λi j b a=>by show E0 m A (m+i) j=_;unfold E0;rw[lU (by omega),lQ a,show m+i-m=i by omega]
 have c:PM.EqM m (PM.mul m PM.one PM.one) PM.one:=λi j b a=>PM.mul_one a;refine⟨⟨PM.one,PM.one,e.mulL.trans c,e.mulR.trans c,d.mulL.trans c,d.mulR.trans c⟩,λi j b a=>?_,λi j b a=>?_⟩
 ·rw[e.mulL i j b a,PM.one_mul b,d.mulR i j b a,PM.mul_one a];unfold E0;rw[lQ b,lQ a]
 ·unfold E0;rw[lU (by omega),lU (by omega)]
theorem Ib(i j:Nat):(PM.one i j).natAbs<=2^0:=by unfold PM.one;split<;>decide
theorem pl0{m a:Nat}{A:Mt}(h:∀i j,i<m->j<m->(A i j).natAbs<=2^a):PM.Pl m 0 a 0 A (E0 m A):=by
 refine⟨⟨Zdm m A,λi _ b=>by omega,λi b=>by omega,λi _ _ b=>by omega⟩,λi j _ b _ c=>?_,λi j b c=>?_,λi j b c=>?_⟩
 ·unfold E0;rw[lQ b,lQ c];exact h i j b c
 ·unfold E0;rw[lQ b,lU (by omega)];exact Ib _ _
 ·unfold E0;rw[lU (by omega),lQ c];exact Ib _ _
section
variable {W:List (List Int)} {m:Nat}
theorem Eh(ok:ZE W)(f:Xr W)(h:W.length=m+1):PM.Bs m (ZU W 0) (Xz m (ZU W 0)):=by
 have bk:=RI ok f (b:=0) ok.pos (λ_=>0);rw[show W.length-1=m by omega] at bk;have I:=YM bk (aJ m);refine⟨λi j c a=>bk.sym j i a c,⟨PM.tr (ME m (ZU W 0)),λi j c a=>?_⟩,?_⟩
 ·have e:=Mj (A:=ZU W 0) a c;show sN m (λk=>ME m (ZU W 0) k i*ZU W 0 k j)=_;rw[Zi (g:=λk=>ZU W 0 j k*ME m (ZU W 0) k i) λk d=>by rw[bG,bk.sym k j d a],e];unfold PM.one;by_cases q:i=j
  ·rw[lQ q.symm];show _=Xz m (ZU W 0)*(if i=j then 1 else 0);rw[lQ q,g8]
  ·rw[lU (λz=>q z.symm)];show _=Xz m (ZU W 0)*(if i=j then 1 else 0);rw[lU q,bz]
 ·rw[<-I.de];exact I.nz
theorem Cv{k a e:Nat}{c E:Mt}{D:Int}(b:PM.Bs m c D)(l:D.natAbs<=2^8)(n:k+1=m)(h:PM.Pl m k a e c E):PM.Pl m k 8 e c E:=by refine⟨h.cr,λi j f g p o=>?_,h.lb,h.rb⟩;have d:=(h.cr.piv b (by omega) λi f g=>by omega).2;have:=cy (by have:=b.nz;omega) (cJ.mpr d);rw[show i=k by omega,show j=k by omega];omega
noncomputable def aK(m k:Nat):Nat:=if k=0 then 4 else if k=1/\3<=m then 668 else if k=2/\m=4 then 863458 else 4317300
theorem Ei{k q:Nat}{j E:Mt}{D:Int}(b:PM.Bs m j D)(v:D.natAbs<=2^8)(F:m<=4)(p:k<m)(h:PM.Pl m k (aK m k) q j E)(i:q<=28500000) :
  ∃g d,Wx [.lst (bL (m+m) E),.int (m:Int),.int (k:Int)]=aA (.lst (bL (m+m) g))/\d<=q+(if k=0 then 14000000 else if k=1 then 16600000 else 16600000)/\(3<=m->k=0->d<=q+20000)/\(m=4->k=1->d<=q+9000000)/\PM.Pl m (k+1) (aK m (k+1)) d j g:=by
 have l:∀a,PM.Pl m k a q j E->m<=k+2->5*a+3<=4317300->Plc m k a 8 (4*a+3) 4317327 4317300 (PM.sB PM.b2) PM.b2 j E D:=λa h y B=>by have f:=PM.f2_2;exact⟨b,PM.Bv.end b v y,by omega,p,by omega,λe o=>by unfold PM.sB PM.b2;split<;>omega,by unfold PM.b2;rw[lQ (by omega)];exact B,aJ _,by omega,λg c=>aP (h.small b p c).2 v⟩
 have mid:PM.Pl m k 668 q j E->Plc m k 668 8 2675 863485 863458 (PM.sB PM.b1) PM.b1 j E D:=λh=>by have f:=PM.f2_1;exact⟨b,PM.Bv.mid p,by omega,p,by omega,λe o=>by have:=PM.b1_le e o;unfold PM.sB;omega,by decide,by omega,by omega,λg c=>aP (h.small b p c).2 v⟩
 have w:PM.Pl m k 4 q j E->Plc m k 4 4 19 683 668 (PM.sB PM.b0) PM.b0 j E D:=λh=>by have f:=PM.f2_0;exact⟨b,PM.Bv.one p,by omega,p,by omega,λe o=>by have:=PM.b0_le e o;unfold PM.sB;omega,by decide,by omega,by omega,λg c=>(h.small b p c).1⟩
 have u:∀{e},∀n,n=k+1->m<=k+2->PM.b2 e<=aK m n:=λ{e} n C y=>by
  have z:aK m n=4317300:=by unfold aK;rw[lU (by omega),lU (by omega),lU (by omega)]
  rw[z];unfold PM.b2;split<;>omega
 have c:(k+1=m)\/(k+2=m)\/(k=0/\3<=m)\/(k=1/\m=4):=by omega
 rcases c with c | c | ⟨c1,c2⟩ | ⟨c1,c2⟩
 ·have A:=Cv b v c h;obtain⟨g,d,s,x,t⟩:=QE (l 8 A (by omega) (by omega)) A i (aK m (k+1)) λe _=>u _ rfl (by omega);have f:=PM.f2_2;exact⟨g,d,s,by split<;>(try split)<;>omega,λ_ _=>by omega,λ_ _=>by omega,t⟩
 ·have e:aK m k<=863458/\(k=0->aK m k=4):=by
   unfold aK;refine⟨?_,λz=>lQ z⟩;split
   ·omega
   ·split
    ·omega
    ·rw[lQ (by omega)];omega
  obtain⟨g,d,s,x,t⟩:=QE (l _ h (by omega) (by omega)) h i (aK m (k+1)) λe _=>u _ rfl (by omega);have f:=PM.f2_2;refine⟨g,d,s,?_,λ_ _=>by omega,λ_ _=>by omega,t⟩;split
  ·rename_i z;have:=e.2 z;omega
  ·split<;>omega
 ·have e:aK m k=4:=by unfold aK;rw[lQ c1]
  rw[e] at h;obtain⟨g,d,s,x,t⟩:=QE (w h) h i (aK m (k+1)) λe o=>by have:=PM.b0_le e o;unfold aK;rw[lU (by omega),lQ ⟨by omega,c2⟩];omega
  have f:=PM.f2_0;exact⟨g,d,s,by rw[lQ c1];omega,λ_ _=>by omega,λ_ _=>by omega,t⟩
 ·have e:aK m k=668:=by unfold aK;rw[lU (by omega),lQ ⟨c1,by omega⟩]
  rw[e] at h;obtain⟨g,d,s,x,t⟩:=QE (mid h) h i (aK m (k+1)) λe o=>by have:=PM.b1_le e o;unfold aK;rw[lU (by omega),lU (by omega),lQ ⟨by omega,c2⟩];omega
  have f:=PM.f2_1;exact⟨g,d,s,by rw[lU (by omega),lQ c1];omega,λ_ _=>by omega,λ_ _=>by omega,t⟩
end
section
variable {m:Nat} {A B:Mt} {u v:Nat->Int}
theorem Zbx{i j:Nat}(b:i<m)(d:j<m){f g h:XE}{s:ZF}(q:f s=aA (wP (Wz m m B)))(a:g s=aA (.int (i:Int)))(c:h s=aA (.int (j:Int))):Zk ZN (Zk ZN f g) h s=aA (.int (B i j)):=o2 (o2 q a (VJ (TJ b))) c (PX d)
theorem RL{j:Nat}(d:m<=50)(b:j<m)(c:∀k,k<m->CMulW (u k) (B k j)):We [pP (ZV m u),wP (Wz m m B),.int (j:Int)]=aA (.int (sN m λk=>u k*B k j)):=by
 refine Y9 (ret (vP (c1 (Xu (q:=λi=>.tup [.int ((i:Nat):Int),.int (u i)]) (λk=>u k*B k j) ?_ (by omega) λi a=>⟨_,rfl,vC (C:=CMulW) (op:=(· * ·)) rfl (Zbx a b rfl rfl rfl) (c i a)⟩) ?_)))
 ·show aA (W0 (iL (ZV m u)))=_;rw[AN,ZG];congr 1;refine ao λi a=>?_;rw[Yn (aS.mp a)]
 ·rw[NL];congr 2;exact Xt _ _
theorem Mo(c:m<=50)(d:∀k j,k<m->j<m->CMulW (u k) (B k j)):UA [pP (ZV m u),wP (Wz m m B)]=aA (pP (ZV m λj=>sN m λk=>u k*B k j)):=
 Y9 (ret (Lr (c1 (WD (λj=>sN m λk=>u k*B k j) (YC (n:=m) (c1 rfl (by rw[G3,aM,ZG])) (by omega)) (by omega) λj a=>⟨_,rfl,rfl,c3 rfl rfl rfl (RL c a λk b=>d k j b a)⟩) (YB _))))
theorem LG{M:List (List Int)}{f:XE}{s:ZF}(q:f s=aA (.lst (tL M))):eP (Zc ZI [f]) s=aA (wP M):=ep (c1 q (YB _)) (by rw[UY];exact Uy _)
theorem Te(b:m<=50)(e:∀i k j,i<m->k<m->j<m->CMulW (A i k) (B k j)):Y6 [wP (Wz m m A),wP (Wz m m B)]=aA (wP (Wz m m (PM.mul m A B))):=
 Y9 (ret (LG (W8 (w:=m) (PM.mul m A B) (q:=λi=>pP (ZV m (A i))) (by show aA (tL (Wz m m A))=_;rw[PY]) (by omega) λi c=>⟨_,rfl,c2 rfl rfl (Mo b λk j a d=>e i k j c a d)⟩)))
theorem Oa(a:m<=100)(c:∀j,j<m->W6 (u j) (v j)):U4 [pP (ZV m u),pP (ZV m v)]=aA (pP (ZV m λj=>(u j).fdiv (v j))):=
 Y9 (ret (Lr (c1 (Xu (q:=λj=>.tup [.int (u j),.int (v j)]) (λj=>(u j).fdiv (v j)) (by show aA (Ve (iL (ZV m u)) (iL (ZV m v)))=_;rw[Mn]) a λj b=>⟨_,rfl,vC (C:=W6) (op:=gS) rfl rfl (c j b)⟩) (YB _))))
theorem Mp{W:List (List Int)}(ok:ZE W)(a:W.length=m+1):Uz [wP W]=aA (wP (Wz m m (ZU W 0))):=by have h:=W9 ok (b:=0) ok.pos;rw[show W.length-1=m by omega] at h;exact Y9 (ret (c2 rfl rfl h))
theorem Cw{l:List PV}{k:Nat}(a:k<=l.length):Xg l none (aA (k:Int))=l.take k:=by unfold Xg;rw[HT.sIx_none,HT.sIx_nat,gU,gu,ck a]
theorem Cy{l:List PV}{k:Nat}(a:k<=l.length):Xg l (aA (k:Int)) none=l.drop k:=by unfold Xg;rw[HT.sIx_none,HT.sIx_nat,ck a,b7 (by rw[bK];omega)]
theorem Cz:(ZV (m+m) u).take m=ZV m u:=by have:=QD (w:=m+m) (v:=u) (a:=0) (b:=m) (by omega) (by omega);rw[gU,gu] at this;rw[this];unfold ZV;refine ao λi _=>?_;rw[Nat.zero_add]
theorem CA:(ZV (m+m) u).drop m=ZV m λj=>u (m+j):=by have:=QD (w:=m+m) (v:=u) (a:=m) (b:=m+m) (by omega) (by omega);rw[b7 (by rw[bK,ZG];omega),show m+m-m=m by omega] at this;exact this
theorem A1{x:Int}(b:1<=m)(a:m<=100):M7 (.tup [.int x]) (.int (m:Int))=aA (pP (ZV m λ_=>x)):=by
 unfold M7;simp only[];rw[lQ (by refine⟨rfl,by simp,by omega,by omega,by simp;omega⟩)];congr 2;apply dE;intro i;unfold ZV;by_cases h:i<m
 ·simp[h]
 ·simp[h]
end
noncomputable def gK(m k:Nat):Nat:=if k=0 then 0 else if k=1 then(if 3<=m then 20000 else 14000000) else if k=2 then(if m=4 then 9020000 else if m=3 then 16620000 else 31000000) else if k=3 then(if m=4 then 25620000 else 34000000) else 43000000
theorem Zby{m k:Nat}(a:m<=4)(b:k<m):gK m k<=28500000:=by
 unfold gK;split
 ·omega
 ·split
  ·split<;>omega
  ·split
   ·split
    ·omega
    ·split<;>omega
   ·split
    ·split<;>omega
    ·omega
theorem A3{m:Nat}(a:m<=4):gK m m<=43000000:=by
 have:m=0\/m=1\/m=2\/m=3\/m=4:=by omega
 rcases this with rfl | rfl | rfl | rfl | rfl<;>decide
theorem CB{m k b a:Nat}(g:m<=4)(f:k<m)(h:b<=gK m k)(l:a<=b+(if k=0 then 14000000 else if k=1 then 16600000 else 16600000))(e:3<=m->k=0->a<=b+20000)(d:m=4->k=1->a<=b+9000000):a<=gK m (k+1):=by
 have c:(k=0/\(m=1\/m=2))\/(k=0/\(m=3\/m=4))\/(k=1/\m=2)\/(k=1/\m=3)\/(k=1/\m=4)\/(k=2/\m=3)\/(k=2/\m=4)\/(k=3/\m=4):=by omega
 rcases c with⟨rfl,rfl | rfl⟩ | ⟨rfl,rfl | rfl⟩ | ⟨rfl,rfl⟩ | ⟨rfl,rfl⟩ | ⟨rfl,rfl⟩ | ⟨rfl,rfl⟩ | ⟨rfl,rfl⟩ | ⟨rfl,rfl⟩<;>simp[gK] at h l e d ⊢<;>omega
abbrev Sl(m:Nat)(E:Mt):Mt:=λi j=>E i (m+j)
abbrev HQ(m:Nat)(E:Mt):Mt:=λi j=>E (m+i) j
theorem LH{W:List (List Int)}{m:Nat}(ok:ZE W)(H:Xr W)(X:W.length<=5)(J:(Vz W).length<=8)(D:W.length=m+1) :
  ∃E c bk fo,Sa [wP W]=aA (.tup [wP (Wz m m (Sl m E)),wP bk,wP (Wz m m (HQ m E)),wP fo,pP (ZV m λi=>E i i)])/\PM.Cr m m (ZU W 0) E/\c<=43000000/\(∀i j,i<m->j<m->(E i (m+j)).natAbs<=2^c)/\(∀i,i<m->E i i∣Xz m (ZU W 0)):=by
 have C:m<=4:=by omega
 have bs:=Eh ok H D;have F:=D8 ok H D X J;have u:=Zbw ok H D J
 suffices g:YQ JR (ZJ 10 [wP W]) λv=>∃E c bk fo,v = .tup [wP (Wz m m (Sl m E)),wP bk,wP (Wz m m (HQ m E)),wP fo,pP (ZV m λi=>E i i)]/\PM.Cr m m (ZU W 0) E/\c<=43000000/\(∀i j,i<m->j<m->(E i (m+j)).natAbs<=2^c)/\(∀i,i<m->E i i∣Xz m (ZU W 0)) by obtain⟨v,e,E,c,bk,fo,rfl,r⟩:=Uk g;exact⟨E,c,bk,fo,e,r⟩
 refine ZD (Zm (c1 rfl (Mp ok D))) (ZD (Zm (vP (c1 rfl (by rw[Ul,Mk])))) (ZD (Zm (c1 rfl (LF (by omega)))) (XD (PR (n:=m) (λk s=>∃E c z,s=[aA (wP W),aA (wP (Wz m m (ZU W 0))),aA (.int (m:Int)),aA (.lst (bL (m+m) E)),z,none,none,none,none,none]/\c<=gK m k/\PM.Pl m k (aK m k) c (ZU W 0) E) rfl ⟨E0 m (ZU W 0),0,none,rfl,dW _,pl0 λi j b d=>aP (u i j b d) (by show 15<=2^(if 0=0 then 4 else _);rw[lQ rfl];decide)⟩ ?_) ?_)))
 ·rintro k s f ⟨E,c,z,rfl,t,h⟩;have g1:=Zby C f;obtain⟨S,I,e,l,T,Z,p⟩:=Ei bs F C f h (by omega);exact RE (Zm (c3 rfl rfl rfl e)) ⟨S,I,_,rfl,CB C f t l T Z,p⟩
 ·rintro s ⟨E,c,z,rfl,t,h⟩;have y:c<=43000000:=aP t (A3 C)
  have L:∀i,i<m->E i i∣Xz m (ZU W 0):=λi b=>by
   obtain⟨Z0,Y⟩:=bs.z;refine h.cr.adm.div Y b λx R=>?_;by_cases q:x=i
   ·rw[q];exact gW _
   ·rw[(h.cr.d1 i x b R q).2];exact cV _
  have dl:∀i,i<m->E i i≠0/\(E i i).natAbs.log2<9000:=λi b=>by have h1:=h.cr.d2 i b;have h2:=cy (by have:=bs.nz;omega) (cJ.mpr (L i b));refine⟨by omega,?_⟩;have:=P8 (x:=E i i) (G:=9) (by omega) (by omega);omega
  have M:∀{i j G},5<=G->i<m->j<m->(ZU W 0 i j).natAbs<2^G:=λ{i j G} hG b d=>a9 (show _<2^5 by have:=u i j b d;omega) (PM.pw2 hG);have Q:∀i j,i<m->j<m->(E (m+i) j).natAbs<2^(c+5):=λi j b d=>av (h.rb i j b d) (cw (by omega) (by omega));have U:∀i j,i<m->j<m->(E i (m+j)).natAbs<2^(c+5):=λi j b d=>av (h.lb i j b d) (cw (by omega) (by omega));have O:=Te (m:=m) (A:=ZU W 0) (B:=HQ m E) (by omega) λi k j b f d=>Jd (G:=c+5) (M (by omega) b f) (Q k j f d) (by omega) (by omega);have P:=Te (m:=m) (A:=Sl m E) (B:=ZU W 0) (by omega) λi k j b f d=>Jd (G:=c+5) (U i k b f) (M (by omega) f d) (by omega) (by omega);have lst:bL (m+m) E=(aF m).map (λi=>cR (m+m) (E i))++(aF m).map λi=>cR (m+m) (E (m+i)):=by unfold bL;rw[kq,cT,dF];rfl
  refine ZD (Zm (Lr (c1 (WD (λi=>E i i) (YC rfl (by omega)) (by omega) λi b=>⟨_,rfl,rfl,Sj (w:=m+m) (E:=E) (by omega) (by omega) rfl rfl rfl⟩) (YB _)))) (ZD (Zm (LG (W8 (w:=m) (Sl m E) (q:=λi=>cR (m+m) (E i)) ?_ (by omega) λi b=>⟨_,rfl,c1 (a:=.lst (iL (ZV m λj=>E i (m+j)))) ?_ (YB _)⟩))) (ZD (Zm (LG (W8 (w:=m) (HQ m E) (q:=λi=>cR (m+m) (E (m+i))) ?_ (by omega) λi b=>⟨_,rfl,c1 (a:=.lst (iL (ZV m (E (m+i))))) ?_ (YB _)⟩))) (ZD (Zm (LG (W8 (m:=m) (w:=m) (λi j=>(PM.mul m (ZU W 0) (HQ m E) i j).fdiv (E j j)) (q:=λi=>pP (ZV m (PM.mul m (ZU W 0) (HQ m E) i))) ?_ (by omega) λi b=>⟨_,rfl,c2 rfl rfl (Oa (by omega) λj d=>dl j d)⟩))) (ZD (Zm (LG (W8 (m:=m) (w:=m) (λi j=>(PM.mul m (Sl m E) (ZU W 0) i j).fdiv (E i i)) (q:=λi=>.tup [pP (ZV m (PM.mul m (Sl m E) (ZU W 0) i)),.int (E i i)]) ?_ (by omega) λi b=>⟨_,rfl,c2 rfl (o2 (a:=.tup [.int (E i i)]) rfl rfl (A1 (by omega) (by omega))) (Oa (by omega) λj d=>dl i b)⟩))) (Yu (ep rfl ?_) ⟨E,c,_,_,rfl,h.cr,y,h.lb,L⟩)))))
  ·show(Up Xx (Za 3) So (WN (Za 2)) _).bind _=_;rw[Xq];show(aA (PV.lst (Xg (bL (m+m) E) none (aA (m:Int))))).bind _=_;rw[Cw (by rw[TL];omega),lst,k7 (by simp)];rfl
  ·rw[Xq];show aA (PV.lst (Xg (iL (ZV (m+m) (E i))) (aA (m:Int)) none))=_;rw[Mg,CA]
  ·show(Up Xx (Za 3) (WN (Za 2)) So _).bind _=_;rw[Xq];show(aA (PV.lst (Xg (bL (m+m) E) (aA (m:Int)) none))).bind _=_;rw[Cy (by rw[TL];omega),lst,List.drop_left' (by simp)];rfl
  ·rw[Xq];show aA (PV.lst (Xg (iL (ZV (m+m) (E (m+i)))) none (aA (m:Int))))=_;rw[Mf,Cz]
  ·have:Zc Y6 [Za 1,Za 7] [aA (wP W),aA (wP (Wz m m (ZU W 0))),aA (.int (m:Int)),aA (.lst (bL (m+m) E)),z,aA (pP (ZV m λi=>E i i)),aA (wP (Wz m m (Sl m E))),aA (wP (Wz m m (HQ m E))),none,none]=aA (wP (Wz m m (PM.mul m (ZU W 0) (HQ m E)))):=c2 rfl rfl O;refine(T6 this).trans ?_;show aA (tL (Wz m m _))=_;rw[PY]
  ·have:∀N,Zc Y6 [Za 6,Za 1] [aA (wP W),aA (wP (Wz m m (ZU W 0))),aA (.int (m:Int)),aA (.lst (bL (m+m) E)),z,aA (pP (ZV m λi=>E i i)),aA (wP (Wz m m (Sl m E))),aA (wP (Wz m m (HQ m E))),N,none]=aA (wP (Wz m m (PM.mul m (Sl m E) (ZU W 0)))):=λN=>c2 rfl rfl P;rw[Pa];refine(congrArg (λo=>k3 o _) (this _)).trans ?_;show aA (Ve (tL (Wz m m (PM.mul m (Sl m E) (ZU W 0)))) (iL (ZV m λi=>E i i)))=_;rw[YU _ _ (by rw[Vl];simp[ZG]),Vl];congr 1;refine ao λi b=>?_;have b:=aS.mp b;rw[aD,TJ b,YI _ i (by rw[ZG];exact b),Yn b];rfl
  ·rw[UY];simp only[ZO,UY,Uy,Z4,Bool.and_self]
end PW
namespace PW
open L2 VL
theorem Ej{W:List (List Int)}{D E O:List Int}(ok:ZE W)(j:Xr W)(d:D.length=W.length)(t:∀h,h<W.length->(Zl D h).natAbs<=2^208)(p:∀h,h<W.length->(Zl E h).natAbs<=2^208)(A:O.length=W.length)(f:E=ZS W D O):Y5 [wP W,pP D,pP E]=aA (pP (ZP O)):=by
 have C:=ok.pos;have z:=ok.few;have o:E.length=W.length:=by rw[f,Yc,d]
 obtain⟨S,N,F,v,q,g,st⟩:=WG ok j d (b:=0) (by omega) t;have B:N.length=W.length:=by rw[g,Yc,d]
 have x:=HL (D:=E) (S:=U7 S O) (N:=N) (F:=F) ok j o (b:=0) (by omega) p (by rw[VC];exact q) (by
  rw[g,f];exact(JS d λi k=>by rw[PJ (by omega)];omega).symm) st
 have y:=FH (a:=ZP S) (b:=ZP (U7 S O)) (by rw[Yf,Yf,VC]) (by rw[Yf];omega);have e:=P6 (l:=U7 (ZP S) (ZP (U7 S O))) (by rw[VC,Yf];omega) (by rw[VC,Yf];omega);have n:ZP (U7 (ZP S) (ZP (U7 S O)))=ZP O:=RV (Xy (U7 S O)-Xy S) (by rw[VC,Yf];omega) (by omega) λi k=>by rw[PJ (by rw[Yf];omega),XU (by omega),XU (by rw[VC];omega),PJ (by omega)];omega
 rw[n] at e;let T:PV:=.tup [pP (ZP S),pP N,.lst (iL (nL F))];let c:PV:=.tup [pP (ZP (U7 S O)),pP N,.lst (iL (nL F))];have m:Zr 3 (Zc Z2 [Za 0,Za 1,eC (.int 0)]) [aA (wP W),aA (pP D),aA (pP E),none,none]=aA (.nx [aA (wP W),aA (pP D),aA (pP E),aA T,none]):=by have:Zc Z2 [Za 0,Za 1,eC (.int 0)] [aA (wP W),aA (pP D),aA (pP E),none,none]=aA T:=v;rw[Yt,this];rfl
 have w:Zr 4 (Zc Z2 [Za 0,Za 2,eC (.int 0)]) [aA (wP W),aA (pP D),aA (pP E),aA T,none]=aA (.nx [aA (wP W),aA (pP D),aA (pP E),aA T,aA c]):=by have:Zc Z2 [Za 0,Za 2,eC (.int 0)] [aA (wP W),aA (pP D),aA (pP E),aA T,none]=aA c:=x;rw[Yt,this];rfl
 have u:Tj (xB (Zk (Wr aC) (Zk ZN (Za 3) (eC (.int 1))) (Zk ZN (Za 4) (eC (.int 1))))) (ZK (eP (eC .non))) Yq [aA (wP W),aA (pP D),aA (pP E),aA T,aA c]=aA (.nx [aA (wP W),aA (pP D),aA (pP E),aA T,aA c]):=by
  have:Zk (Wr aC) (Zk ZN (Za 3) (eC (.int 1))) (Zk ZN (Za 4) (eC (.int 1))) [aA (wP W),aA (pP D),aA (pP E),aA T,aA c]=aA (.bl aB):=by show Wr aC (pP N) (pP N)=_;rw[NM];simp
  rw[UX,NJ,this];rfl
 show YO 5 T7 _=_;unfold T7;show(Zp _ _ [aA (wP W),aA (pP D),aA (pP E),none,none]).bind SH=_;rw[VB m,VB w,VB u];have s:Zc V1 [Zc U3 [Zk ZN (Za 3) (eC (.int 0)),Zk ZN (Za 4) (eC (.int 0))]] [aA (wP W),aA (pP D),aA (pP E),aA T,aA c]=aA (pP (ZP O)):=by have h:Zc U3 [Zk ZN (Za 3) (eC (.int 0)),Zk ZN (Za 4) (eC (.int 0))] [aA (wP W),aA (pP D),aA (pP E),aA T,aA c]=aA (pP (U7 (ZP S) (ZP (U7 S O)))):=y;rw[Y2,Zw,h];exact e
 rw[Lp s];rfl
theorem HR{W:List (List Int)}{D E S N e b:List Int}{F d:List Nat}(ok:ZE W)(l:Xr W)(k:D.length=W.length)(j:E.length=W.length)(h:Z2 [wP W,pP D,.int ((0:Nat):Int)]=aA (.tup [pP S,pP N,.lst (iL (nL F))]))(c:Z2 [wP W,pP E,.int ((0:Nat):Int)]=aA (.tup [pP e,pP b,.lst (iL (nL d))]))(ne:N≠b):Y5 [wP W,pP D,pP E]=aA .non:=by
 let T:PV:=.tup [pP S,pP N,.lst (iL (nL F))];let a:PV:=.tup [pP e,pP b,.lst (iL (nL d))];have f:Zr 3 (Zc Z2 [Za 0,Za 1,eC (.int 0)]) [aA (wP W),aA (pP D),aA (pP E),none,none]=aA (.nx [aA (wP W),aA (pP D),aA (pP E),aA T,none]):=by have:Zc Z2 [Za 0,Za 1,eC (.int 0)] [aA (wP W),aA (pP D),aA (pP E),none,none]=aA T:=h;rw[Yt,this];rfl
 have i:Zr 4 (Zc Z2 [Za 0,Za 2,eC (.int 0)]) [aA (wP W),aA (pP D),aA (pP E),aA T,none]=aA (.nx [aA (wP W),aA (pP D),aA (pP E),aA T,aA a]):=by have:Zc Z2 [Za 0,Za 2,eC (.int 0)] [aA (wP W),aA (pP D),aA (pP E),aA T,none]=aA a:=c;rw[Yt,this];rfl
 have g:Tj (xB (Zk (Wr aC) (Zk ZN (Za 3) (eC (.int 1))) (Zk ZN (Za 4) (eC (.int 1))))) (ZK (eP (eC .non))) Yq [aA (wP W),aA (pP D),aA (pP E),aA T,aA a]=aA (.rt .non):=by
  have:Zk (Wr aC) (Zk ZN (Za 3) (eC (.int 1))) (Zk ZN (Za 4) (eC (.int 1))) [aA (wP W),aA (pP D),aA (pP E),aA T,aA a]=aA (.bl aC):=by show Wr aC (pP N) (pP b)=_;rw[NM];simp[ne]
  rw[UX,NJ,this];rfl
 show YO 5 T7 _=_;unfold T7;show(Zp _ _ [aA (wP W),aA (pP D),aA (pP E),none,none]).bind SH=_;rw[VB f,VB i,DT g];rfl
end PW
namespace PW
open PySem L2 VL VX
theorem Va(a b:Nat):Y7 [.int (a:Int),.int (b:Int)]=aA (.int (dc a b:Int)):=by
 refine Sg (ZD (Zm (vP rfl)) (ZD (Zm (vP rfl)) (XD (Lz (λn st=>∃(x:Nat) (d:Option PV),st=[aA (.int (a:Int)),aA (.int (b:Int)),aA (.int (x:Int)),aA (.int (n:Int)),d]/\dc x n=dc a b) ⟨a,none,rfl,rfl⟩ ?_) ?_)))
 ·rintro n st ⟨x,d,rfl,h⟩;have c:xB (Zk (Wr aC) (Za 3) (eC (.int 0))) [aA (.int (a:Int)),aA (.int (b:Int)),aA (.int (x:Int)),aA (.int (n:Int)),d]=aA (!decide ((n:Int)=0)):=xb (o2 rfl rfl (by rw[VZ];rfl));by_cases q:n=0
  ·exact .inl (c.trans (by rw[decide_eq_true (by omega)];rfl))
  ·refine .inr ⟨c.trans (by rw[decide_eq_false (by omega)];rfl),Z3 (Zm (vP (vmd rfl rfl))) (Z3 (Zm (vP rfl)) (RE (Zm (vP rfl)) ⟨x%n,fR _ (by omega),n,aA (.int ((x:Int)%(n:Int))),?_,?_⟩))⟩
   ·rw[kT];rfl
   ·rw[Nat.gcd_comm,<-Nat.gcd_rec,Nat.gcd_comm];exact h
 ·rintro st ⟨n,⟨x,d,rfl,h⟩,q⟩;have c:xB (Zk (Wr aC) (Za 3) (eC (.int 0))) [aA (.int (a:Int)),aA (.int (b:Int)),aA (.int (x:Int)),aA (.int (n:Int)),d]=aA (!decide ((n:Int)=0)):=xb (o2 rfl rfl (by rw[VZ];rfl));have e:=aw (c.symm.trans q);have:n=0:=by refine bb λz=>?_;rw[decide_eq_false (by omega)] at e;cases e
  subst this;rw[Nat.gcd_zero_right] at h;exact Yu (vP rfl) (by rw[h])
section
variable {m:Nat} {u v:Nat->Int} {L:Mt}
theorem HU{l:List Int}(b:l.length=m)(e:m<=50)(d:∀j,j<m->CMulW (u j) (Zl l j)):Pn [pP (ZV m u),pP l]=aA (.int (sN m λj=>u j*Zl l j)):=by
 refine Y9 (ret (vP (c1 (Xu (q:=λj=>.tup [.int (u j),.int (Zl l j)]) (λj=>u j*Zl l j) ?_ (by omega) λj c=>⟨_,rfl,vC (C:=CMulW) (op:=(· * ·)) rfl rfl (d j c)⟩) ?_)))
 ·show aA (Ve (iL (ZV m u)) (iL l))=_;rw[YU _ _ (by simp[ZG,b]),aM,ZG];congr 1;refine ao λi a=>?_;have a:=aS.mp a;rw[YI _ i (by rw[ZG];exact a),YI _ i (by omega),Yn a]
 ·rw[NL];congr 2;exact Xt _ _
abbrev A4(m:Nat)(L:Mt)(bk:List (List Int))(R:Mt)(fo:List (List Int))(r:Nat->Int):PV:=.tup [wP (Wz m m L),wP bk,wP (Wz m m R),wP fo,pP (ZV m r)]
theorem Zdn{l:List Int}(h:1<=l.length){f:XE}{s:ZF}(q:f s=aA (pP l)):Up R7 f (WN (eC (.int 1))) So s=aA (pP (l.drop 1)):=by rw[Xq,q];simp only[aY,Qm];show R7 (pP l) (aA ((1:Nat):Int)) none=_;unfold R7;simp only[];rw[lU,Mg];rw[HT.sIx_none,HT.sIx_nat,aM];omega
noncomputable def Mq(m:Nat)(L:Mt)(D:List Int)(i:Nat):Int:=sN m λj=>L i j*Zl D (j+1)
theorem LI{R:Mt}{bk fo:List (List Int)}{D:List Int}(d:m<=50)(h:D.length=m+1)(g:∀i j,i<m->j<m->CMulW (L i j) (Zl D (j+1)))(e:∀i,i<m->1<=v i):T8 [A4 m L bk R fo v,pP D]=aA (pP (ZV m λi=>Mq m L D i%v i)):=by
 have c:∀j,Zl (D.drop 1) j=Zl D (j+1):=λj=>by unfold Zl;rw[aD,dM,aD,Nat.add_comm]
 refine Y9 (sq (Zm (ep (v:=wP (Wz m m L)) rfl (by rw[UY];exact Uy _))) (ret (Lr (c1 (Xu (q:=λi=>.tup [pP (ZV m (L i)),.int (v i)]) (λi=>Mq m L D i%v i) ?_ (by omega) λi b=>⟨_,rfl,vC (C:=λ_ j=>0<j) (op:=(· % ·)) (a:=Mq m L D i) (c2 rfl (Zdn (by omega) rfl) ?_) rfl (by have:=e i b;omega)⟩) (YB _)))))
 ·rw[Pa];show aA (Ve (tL (Wz m m L)) (iL (ZV m v)))=_;rw[YU _ _ (by rw[Vl];simp[ZG]),Vl];congr 1;refine ao λi b=>?_;have b:=aS.mp b;rw[aD,TJ b,YI _ i (by rw[ZG];exact b),Yn b];rfl
 ·rw[HU (l:=D.drop 1) (by rw[bK];omega) d λj f=>by rw[c];exact g i j b f];unfold Mq;rw[Zi λj _=>by rw[c]]
noncomputable def TM(s r:Nat):Nat:=r/dc s r
noncomputable def Sm(s r:Nat->Nat):Nat->Nat
 | 0=>1
 | k+1=>Nat.lcm (Sm s r k) (TM (s k) (r k))
theorem Ic{s r:Nat}(h:0<r):0<TM s r:=Nat.div_pos (cy h (gX s r)) (eZ s h)
theorem Mr{s r k:Nat}(h:0<r):TM s r∣k↔r∣k*s:=by
 have a:=eZ s h;have e:=Nat.coprime_div_gcd_div_gcd (m:=s) (n:=r) a;have b:TM s r*dc s r=r:=jo (gX s r);have c:s/dc s r*dc s r=s:=jo (Nat.gcd_dvd_left s r);constructor
 ·rintro⟨t,rfl⟩;refine⟨t*(s/dc s r),?_⟩
  calc TM s r*t*s=TM s r*t*(s/dc s r*dc s r):=by rw[c]
   _=TM s r*dc s r*(t*(s/dc s r)):=by rw[du,du,fF (dc s r) (t*_),du]
   _=r*(t*(s/dc s r)):=by rw[b]
 ·intro f;have d:TM s r*dc s r∣k*(s/dc s r)*dc s r:=by rw[b,du,c];exact f
  have g:=Nat.dvd_of_mul_dvd_mul_right a d;exact Nat.Coprime.dvd_of_dvd_mul_right e.symm g
theorem Ie{s r:Nat->Nat}:∀{n:Nat},(∀i,i<n->0<r i)->0<Sm s r n
 | 0,_=>Nat.one_pos
 | n+1,h=>Nat.lcm_pos (Ie λi a=>h i (by omega)) (Ic (h n (by omega)))
theorem Ms{s r:Nat->Nat}{k:Nat}:∀{n:Nat},(∀i,i<n->0<r i)->(Sm s r n∣k↔∀i,i<n->r i∣k*s i)
 | 0,_=>⟨λ_ i a=>by omega,λ_=>Nat.one_dvd k⟩
 | n+1,h=>by
  have c:=Ms (s:=s) (r:=r) (k:=k) (n:=n) λi a=>h i (by omega);constructor
  ·intro b i a;by_cases q:i=n
   ·rw[q];exact(Mr (h n (by omega))).mp (i5 (Nat.dvd_lcm_right _ _) b)
   ·exact c.mp (i5 (Nat.dvd_lcm_left _ _) b) i (by omega)
  ·intro d;exact Nat.lcm_dvd (c.mpr λi a=>d i (by omega)) ((Mr (h n (by omega))).mpr (d n (by omega)))
end
end PW
namespace PM
open PW
noncomputable def col(x:Nat->Int):Mt:=λi _=>x i
theorem image{m:Nat}{d E:Mt}(s:Cr m m d E)(c:Nat->Int)(k:Int):(∀i,i<m->E i i∣k*sN m (λj=>E i (m+j)*c j))↔∃x:Nat->Int,∀j,j<m->sN m (λl=>d j l*x l)=k*c j:=by
 obtain⟨g,o,b1,b2,w,H⟩:=s.adm.ex;have f:=s.adm.val;generalize J:(λi k=>E i (m+k):Mt)=L at b1 b2 f;generalize M:(λi k=>E (m+i) k:Mt)=R at w H f;have A:∀i,sN m (λj=>E i (m+j)*c j)=mul m L (col c) i 0:=λi=>by rw[<-J];rfl
 have n:∀(y:Nat->Int) i,i<m->mul m E (col y) i 0=E i i*y i:=λy i a=>Z6 a λj e D=>by rw[(s.d1 i j a e D).1,cD]
 have B:∀i j,i<m->j<m->mul m d R i j=mul m g E i j:=λi j a e=>by rw[ZL (A':=g) (B':=mul m L (mul m d R)) (λ_ _=>rfl) (λl b=>(f l j b e).symm),<-X7,ZL (A':=one) (B':=mul m d R) (λl b=>b2 i l a b) (λ_ _=>rfl),one_mul a]
 constructor
 ·intro h
  have:∀i,∃t,i<m->k*mul m L (col c) i 0=E i i*t:=λi=>by
   by_cases a:i<m
   ·obtain⟨t,p⟩:=h i a;rw[A] at p;exact⟨t,λ_=>p⟩
   ·exact⟨0,λz=>absurd z a⟩
  obtain⟨t,p⟩:=gF this;refine⟨λl=>mul m R (col t) l 0,λj e=>?_⟩;have u:sN m (λl=>d j l*mul m R (col t) l 0)=mul m (mul m d R) (col t) j 0:=(X7 m d R (col t) j 0).symm;have v:mul m (mul m d R) (col t) j 0=mul m (mul m g E) (col t) j 0:=ZL (λl b=>B j l e b) λ_ _=>rfl;rw[u,v,X7];have I:mul m g (mul m E (col t)) j 0=sN m (λi=>k*(g j i*mul m L (col c) i 0)):=Zi λi a=>by rw[n t i a,<-p i a,cZ]
  rw[I,ZC];congr 1;have G:sN m (λi=>g j i*mul m L (col c) i 0)=mul m (mul m g L) (col c) j 0:=(X7 m g L (col c) j 0).symm;rw[G,ZL (A':=one) (B':=col c) (λl b=>b2 j l e b) (λ_ _=>rfl),one_mul e];rfl
 ·rintro⟨x,C⟩ i a;rw[A];refine⟨mul m o (col x) i 0,?_⟩;rw[<-n (λi=>mul m o (col x) i 0) i a];have u:mul m E (col λi=>mul m o (col x) i 0) i 0=mul m (mul m L (mul m d R)) (mul m o (col x)) i 0:=ZL (λl b=>(f i l a b).symm) λ_ _=>rfl;rw[u,X7];have v:∀j,j<m->mul m (mul m d R) (mul m o (col x)) j 0=k*c j:=λj e=>by rw[X7,<-C j e];refine Zi λl b=>?_;rw[<-X7,ZL (A':=one) (B':=col x) (λq F=>w l q b F) (λ_ _=>rfl),one_mul b];rfl
  rw[ZL (A':=L) (B':=λj _=>k*c j) (λ_ _=>rfl) v];show k*sN m (λj=>L i j*c j)=sN m (λj=>L i j*(k*c j));rw[<-ZC];exact Zi λj _=>cZ _ _ _
end PM
namespace PW
open PySem L2 VL VX
theorem Mu(f:Nat->Int):∀n,sN (n+1) f=f 0+sN n λj=>f (j+1)
 | 0=>by show 0+f 0=f 0+0;omega
 | n+1=>by show sN (n+1) f+f (n+1)=f 0+(sN n (λj=>f (j+1))+f (n+1));rw[Mu f n];omega
theorem LJ(i:Nat):Xl 0 i=i+1:=by unfold Xl;rw[lU (by omega)]
section
variable {W:List (List Int)} {m:Nat} {D:List Int}
theorem A5(ok:ZE W)(Y:Nat->Int):sN W.length (gN W Y)=0:=by
 have z:(aV W.length (0:Int)).length=W.length:=by simp
 have h:=JT (S:=ZV W.length Y) ok z;rw[WV,Yc,z] at h
 have c:(aV W.length (0:Int)).sum=0:=by
  rw[WV];exact Xf λi a=>by rw[z] at a;exact JU 0 a
 rw[c] at h;rw[<-h];refine Zi λi a=>?_;rw[XY (by rw[z];exact a),JU 0 a,Int.zero_add];exact UM a λg b=>(Yn b).symm
theorem Ob(ok:ZE W)(o:W.length=m+1)(u:D.length=W.length)(w:D.sum=0)(k:Int):(∃Y:Nat->Int,∀h,h<W.length->k*Zl D h+gN W Y h=0)↔∃x:Nat->Int,∀j,j<m->sN m (λl=>ZU W 0 j l*x l)=k*Zl D (j+1):=by
 have p:sN (m+1) (Zl D)=0:=by rw[<-o,<-u,<-WV];exact w
 constructor
 ·rintro⟨Y,d⟩;obtain⟨Z,f⟩:∃Z:Nat->Int,∀h,Z h=Y h+(- Y 0):=⟨_,λ_=>rfl⟩;refine⟨λl=>Z (l+1),λj n=>?_⟩;have e:=P0 ok (b:=0) ok.pos (Y:=Z) (by rw[f];omega) (k:=j) (by omega);have s:gN W Z (Xl 0 j)=gN W Y (Xl 0 j):=by rw[LJ];rw[UM (W:=W) (Y:=Z) (Z:=λx=>Y x+(λ_=>- Y 0) x) (by omega) (λg _=>f g),Vm,P7 (T:=λ_=>- Y 0) (c:=- Y 0) (λ_ _=>rfl) (by omega)];omega
  rw[s,LJ,show W.length-1=m by omega] at e;have z:=d (j+1) (by omega);rw[Zi (g:=λi=>ZU W 0 j i*Z (Xl 0 i)) λi _=>by rw[LJ]];omega
 ·rintro⟨x,t⟩;obtain⟨Y,d⟩:∃Y:Nat->Int,∀h,Y h=if h=0 then 0 else x (h-1):=⟨_,λ_=>rfl⟩
  have a:∀j,j<m->k*Zl D (j+1)+gN W Y (j+1)=0:=λj n=>by have e:=P0 ok (b:=0) ok.pos (Y:=Y) (by rw[d,lQ rfl]) (k:=j) (by omega);rw[LJ,show W.length-1=m by omega,Zi (g:=λl=>ZU W 0 j l*x l) λl _=>by rw[LJ,d,lU (by omega),show l+1-1=l by omega],t j n] at e;omega
  refine⟨Y,λh y=>?_⟩;by_cases q:h=0
  ·subst q;have s1:=A5 ok Y;rw[o,Mu (gN W Y) m] at s1;rw[Mu (Zl D) m] at p;have s2:sN m (λj=>k*Zl D (j+1)+gN W Y (j+1))=0:=Xf a;rw[ZY,ZC] at s2;have v:k*(Zl D 0+sN m λj=>Zl D (j+1))=0:=by rw[p,bz]
   rw[fP] at v;omega
  ·have:=a (h-1) (by omega)
   rwa [show h-1+1=h by omega] at this
theorem Nc{E:List Int}(ok:ZE W)(c:Xr W)(a:D.length=W.length)(d:E.length=W.length)(l:∀h,h<W.length->(Zl D h).natAbs<=2^208)(k:∀h,h<W.length->(Zl E h).natAbs<=2^208) :
  (∃O,O.length=W.length/\E=ZS W D O/\Y5 [wP W,pP D,pP E]=aA (pP (ZP O)))\/(Y5 [wP W,pP D,pP E]=aA .non/\¬ ∃Y:Nat->Int,∀h,h<W.length->Zl E h=Zl D h+gN W Y h):=by
 have I:=ok.pos;by_cases q:∃Y:Nat->Int,∀h,h<W.length->Zl E h=Zl D h+gN W Y h
 ·obtain⟨Y,s⟩:=q;have m:=ZG W.length Y;have n:E=ZS W D (ZV W.length Y):=Wy (by rw[d,Yc,a]) λi A=>by rw[s i (by omega),XY (by omega)];congr 1;exact UM (by omega) λg y=>(Yn y).symm
  exact .inl ⟨_,m,n,Ej ok c a l k m n⟩
 ·refine .inr ⟨?_,q⟩;obtain⟨S,N,F,v,C,w,st⟩:=WG ok c a (b:=0) (by omega) l;obtain⟨f,u,B,e,o,j,p⟩:=WG ok c d (b:=0) (by omega) k;refine HR ok c a d v e λz=>q ⟨λx=>Zl S x+(-1)*Zl f x,λh G=>?_⟩;have t:Zl N h=Zl D h+gN W (Zl S) h:=by rw[w];exact XY (by omega)
  have H:Zl u h=Zl E h+gN W (Zl f) h:=by rw[j];exact XY (by omega)
  rw[Vm (Zl S) (λx=>(-1)*Zl f x),XX];rw[z] at t;omega
end
theorem fdN(a b:Nat):((a:Nat):Int).fdiv ((b:Nat):Int)=((a/b:Nat):Int):=by rw[dB _ (iD b)];exact(kS a b).symm
theorem Zbz{x:Nat}(a:0<x)(h:x<=2^17)(y:Int):W6 y ((x:Nat):Int):=⟨by omega,by
 have:=P8 (x:=((x:Nat):Int)) (G:=18) (by omega) (by omega);omega⟩
section
variable {W:List (List Int)} {m:Nat} {D:List Int}
theorem Ek(ok:ZE W)(O:Xr W)(U:W.length<=5)(Z:(Vz W).length<=8)(A:W.length=m+1)(hd:D.length=W.length)(h0:D.sum=0)(bD:∀h,h<W.length->(Zl D h).natAbs<=10^29) :
  ∃(E:Mt) (q:Nat) (X:PV),Tr [wP W,pP D]=aA (.int (q:Int))/\Sa [wP W]=aA X/\ZN X (.int 4)=aA (pP (ZV m λi=>E i i))/\0<q/\q<=2^17/\(∀i,i+1=m->(q:Int)∣E i i)/\(m=0->q=1)/\(∀i,i<m->1<=E i i)/\
   ∀k:Nat,q∣k↔∃Y:Nat->Int,∀h,h<W.length->(k:Int)*Zl D h+gN W Y h=0:=by
 have h3:m<=4:=by omega
 obtain⟨E,γ,bk,fo,eP,f,hγ,lb,dg⟩:=LH ok O U Z A;have nzD:=(Eh ok O A).nz;have t:(Xz m (ZU W 0)).natAbs<=2^17:=aP (D8 ok O A U Z) (by decide);have b29:(10:Nat)^29<2^100:=by decide
 have rs:=LI (m:=m) (L:=Sl m E) (R:=HQ m E) (bk:=bk) (fo:=fo) (v:=λi=>E i i) (D:=D) (by omega) (by omega) (λi j c y=>Jd (G:=γ+101) (av (lb i j c y) (cw (by omega) (by omega))) (a9 (show _<2^100 by have:=bD (j+1) (by omega);omega) (PM.pw2 (by omega))) (by omega) (by omega)) (λi c=>f.d2 i c);obtain⟨r,P⟩:∃r:Nat->Nat,∀i,r i=(E i i).toNat:=⟨_,λ_=>rfl⟩;obtain⟨s,hs⟩:∃s:Nat->Nat,∀i,s i=(Mq m (Sl m E) D i%E i i).toNat:=⟨_,λ_=>rfl⟩;have rI:∀i,i<m->((r i:Nat):Int)=E i i:=λi c=>by rw[P];have:=f.d2 i c;omega
 have T:∀i,i<m->((s i:Nat):Int)=Mq m (Sl m E) D i%E i i:=λi c=>by rw[hs];have:=gp (Mq m (Sl m E) D i) (b:=E i i) (by have:=f.d2 i c;omega);omega
 have d:∀i,i<m->0<r i:=λi c=>by rw[P];have:=f.d2 i c;omega
 have p:∀i,i<m->r i∣(Xz m (ZU W 0)).natAbs:=λi c=>by
  have:=cJ.mpr (dg i c)
  rwa [<-rI i c,jq] at this
 have rl:∀i,i<m->r i<=2^17:=λi c=>aP (cy (by omega) (p i c)) t;have odv:∀{i k:Nat},i<m->r i∣k->TM (s i) (r i)∣k:=λ{i k} c h=>(Mr (d i c)).mpr (i5 h (kH _ _));have g:∀{k n:Nat},n<=m->(∀i,i<n->r i∣k)->Sm s r n∣k:=λ{k n} F h=>(Ms λi c=>d i (by omega)).mpr λi c=>i5 (h i c) (kH _ _);have u:∀n,n<=m->Sm s r n<=2^17:=λn F=>aP (cy (by omega) (g F λi c=>p i (by omega))) t;have np:∀n,n<=m->0<Sm s r n:=λn F=>Ie λi c=>d i (by omega);refine⟨E,Sm s r m,_,?_,eP,rfl,np m (aJ _),u m (aJ _),λi c=>?_,λz=>by subst z;rfl,f.d2,λk=>?_⟩
 ·have B:xB (Zk (Wr aC) (Zc U2 [Za 1]) (eC (.int 0))) (ZJ 7 [wP W,pP D])=aA aB:=xb (o2 (c1 rfl (Lm D)) rfl (by rw[VZ,h0];rfl));refine Sg (ZD (JW B) (ZD (Zm (c1 rfl eP)) (ZD (Zm (vP rfl)) (XD (RF (ls:=(aF m).map λi=>.tup [.int ((s i:Nat):Int),.int ((r i:Nat):Int)]) (λi st=>∃J N M,st=[aA (wP W),aA (pP D),aA (A4 m (Sl m E) bk (HQ m E) fo λi=>E i i),aA (.int ((Sm s r i:Nat):Int)),J,N,M]) ?_ ⟨none,none,none,rfl⟩ ?_) ?_))))
  ·have e1:Zc T8 [Za 2,Za 1] (Xh [] [aA (wP W),aA (pP D),aA (A4 m (Sl m E) bk (HQ m E) fo λi=>E i i),aA (.int 1),none,none,none])=aA (pP (ZV m λi=>Mq m (Sl m E) D i%E i i)):=c2 rfl rfl rs;rw[Pa];refine(congrArg (λo=>k3 o _) e1).trans ?_;show aA (Ve (iL (ZV m λi=>Mq m (Sl m E) D i%E i i)) (iL (ZV m λi=>E i i)))=_;rw[Mn];congr 1;refine ao λi c=>?_;have c:=aS.mp c;rw[rI i c,T i c]
  ·rintro i l st H ⟨J,N,M,rfl⟩;have c:i<m:=by simpa using(aQ.mp H).1
   rw[aU,bI c] at H;cases H;have g0:=eZ (s i) (d i c);have gl:dc (s i) (r i)<=2^17:=aP (cy (d i c) (gX _ _)) (rl i c);have op:=Ic (s:=s i) (d i c);have ol:TM (s i) (r i)<=2^17:=aP (Nat.div_le_self _ _) (rl i c);have g1:=eZ (Sm s r i) op;have I:dc (Sm s r i) (TM (s i) (r i))<=2^17:=aP (cy op (gX _ _)) ol;have nl:=u i (by omega);have Q:∀{x:Nat},x<=2^17->(((x:Nat):Int)).natAbs<2^18:=λ{x} h=>by omega
   refine⟨_,rfl,Z3 (Zm (vP (a:=((TM (s i) (r i):Nat):Int)) ?_)) (RE (Zm (vP (a:=((Sm s r (i+1):Nat):Int)) ?_)) ⟨_,_,_,rfl⟩)⟩
   ·rw[show TM (s i) (r i)=r i/dc (s i) (r i) from rfl,<-fdN];exact vC (C:=W6) (op:=gS) rfl (c2 rfl rfl (Va _ _)) (Zbz g0 gl _)
   ·rw[show Sm s r (i+1)=Sm s r i*TM (s i) (r i)/dc (Sm s r i) (TM (s i) (r i)) from rfl,<-fdN,jH];exact vC (C:=W6) (op:=gS) (vC (C:=CMulW) (op:=(· * ·)) rfl rfl (Jd (G:=18) (Q nl) (Q ol) (by omega) (by omega))) (c2 rfl rfl (Va _ _)) (Zbz g1 I _)
  ·rintro st ⟨J,N,M,rfl⟩;rw[aM,bu];exact Yu (vP rfl) rfl
 ·rw[<-rI i (by omega)];refine gG.mpr (g (aJ _) λj y=>?_);refine gG.mp ?_;rw[rI i (by omega),rI j y];exact f.d3 j i i y (by omega) (by omega) (by omega) (by omega)
 ·rw[Ob ok A hd h0,<-PM.image f (λj=>Zl D (j+1)) (k:Int),Ms λi c=>d i c]
  have w:∀i,i<m->(r i∣k*s i↔E i i∣(k:Int)*sN m (λj=>E i (m+j)*Zl D (j+1))):=λi c=>by
   rw[<-gG,jH,rI i c,T i c];have e:sN m (λj=>E i (m+j)*Zl D (j+1))=Mq m (Sl m E) D i:=rfl;rw[e];have dm:=Int.emod_add_mul_ediv (Mq m (Sl m E) D i) (E i i);generalize Mq m (Sl m E) D i=S at dm ⊢;have e2:(k:Int)*S=(k:Int)*(S%E i i)+E i i*((k:Int)*(S/E i i)):=by rw[<-cZ,<-fP,dm]
   rw[e2];exact⟨λh=>Int.dvd_add h (kI _ _),λh=>by have:=Int.dvd_sub h (kI (E i i) ((k:Int)*(S/E i i)));rwa [Int.add_sub_cancel] at this⟩
  exact⟨λh i c=>(w i c).mp (h i c),λh i c=>(w i c).mpr (h i c)⟩
end
end PW
namespace PW
open L2 VL
theorem Sn{a:List Int}(h:a.length<=63)(k:Nat):Vf [.cst (iL a),.int (k:Int)]=aA (.int (Zl a k)):=by
 have c:xB (Zk MA (Za 1) (Zc Ys [Za 0])) [aA (.cst (iL a)),aA (.int (k:Int))]=aA (decide (k<a.length)):=by
  show aA (decide ((k:Int)<((iL a).length:Int)))=_;congr 1;rw[aM];by_cases q:k<a.length
  ·rw[decide_eq_true q,decide_eq_true (by omega)]
  ·rw[decide_eq_false q,decide_eq_false (by omega)]
 have v:IM (xB (Zk MA (Za 1) (Zc Ys [Za 0]))) (Zk ZN (Za 0) (Za 1)) (eC (.int 0)) [aA (.cst (iL a)),aA (.int (k:Int))]=aA (.int (Zl a k)):=by
  rw[Qn,c];by_cases q:k<a.length
  ·rw[decide_eq_true q];exact YN q
  ·rw[decide_eq_false q];have:Zl a k=0:=by unfold Zl;rw[aD,bX (by omega)];rfl
   rw[this];rfl
 show(ZK _ [aA (.cst (iL a)),aA (.int (k:Int))]).bind SH=_;rw[Lp (vP v)];rfl
theorem Yl(c:Int){t m:Nat}(n:t<=1000)(p:0<m):∃v:Nat,v<m/\Z8 [.int c,.int (t:Int),.int (m:Int)]=aA (.int (v:Int)):=by
 have b:(0:Int)<(m:Int):=by omega
 have h:∀x:Int,∃v:Nat,v<m/\x%(m:Int)=(v:Int):=λx=>by have q:=gp x (show(m:Int)≠0 by omega);have o:=iG x b;exact⟨(x%(m:Int)).toNat,by omega,by omega⟩
 generalize e:(c%999983+(t:Int))*((t:Int)+389)%999983=x1;have b1:0<=x1/\x1<2000000:=by omega
 generalize f:(x1*x1+c/999983+(t:Int))%999979=x2;obtain⟨v,j,i⟩:=h (x2/3);refine⟨v,j,?_⟩;have g:CMul (c%999983+(t:Int)) ((t:Int)+389):=.inl (by omega);have d:CMul x1 x1:=.inl (by omega)
 have k:Zr 3 (eP (Zk Wc (Zk R5 (Zk Ym (Zk Wc (Za 0) (eC (.int 999983))) (Za 1)) (Zk Ym (Za 1) (eC (.int 389)))) (eC (.int 999983)))) [aA (.int c),aA (.int (t:Int)),aA (.int (m:Int)),none]=aA (.nx [aA (.int c),aA (.int (t:Int)),aA (.int (m:Int)),aA (.int x1)]):=by
  rw[Yt,vP (a:=x1) (by
   rw[<-e];exact vC (vC (vI (vC rfl rfl (by decide)) rfl) (vI rfl rfl) g) rfl (by decide))]
  rfl
 have l:Zr 3 (eP (Zk Wc (Zk Ym (Zk Ym (Zk R5 (Za 3) (Za 3)) (Zk QT (Za 0) (eC (.int 999983)))) (Za 1)) (eC (.int 999979)))) [aA (.int c),aA (.int (t:Int)),aA (.int (m:Int)),aA (.int x1)]=aA (.nx [aA (.int c),aA (.int (t:Int)),aA (.int (m:Int)),aA (.int x2)]):=by
  rw[Yt,vP (a:=x2) (by
   rw[<-f];exact vC (vI (vI (vC rfl rfl d) (vC rfl rfl ⟨by decide,by decide⟩)) rfl) rfl (by decide))]
  rfl
 show(Zp _ _ [aA (.int c),aA (.int (t:Int)),aA (.int (m:Int)),none]).bind SH=_
 rw[VB k,VB l,Lp (v:=.int (v:Int)) (vP (by
  rw[<-i];exact vC (vC rfl rfl ⟨by decide,by decide⟩) rfl b))]
 rfl
noncomputable def Oc(n:Nat)(M:List (List Int)):Int:=sN n (λi=>sN n (λj=>ZZ M i j))
structure Tied(n:Nat)(M:List (List Int))(t:Nat):Prop where
 mat:MatOk n M
 few:∀i j,i<n->j<n->ZZ M i j<=(t:Int)
 sum:Oc n M=2*(t:Int)
noncomputable def Bf(M:List (List Int))(a b:Nat):List (List Int):=HC M a b (ZZ M a b+1)
theorem El{n:Nat}{M:List (List Int)}{a b:Nat}(ok:MatOk n M)(f:a<n)(e:b<n)(ne:a≠b)(i j:Nat):ZZ (Bf M a b) i j=ZZ M i j+((if i=a then(if j=b then 1 else 0) else 0)+(if i=b then(if j=a then 1 else 0) else 0)):=by
 unfold Bf;rw[Qx ok f e];by_cases d:b=i/\a=j
 ·obtain⟨rfl,rfl⟩:=d;rw[ok.sym a b f e];omega
 ·rw[lU d];by_cases c:a=i/\b=j
  ·obtain⟨rfl,rfl⟩:=c;rw[lU ne];omega
  ·rw[lU c]
   have g:(if i=a then(if j=b then(1:Int) else 0) else 0)=0:=by
    by_cases z:i=a
    ·rw[lQ z,lU (λy=>c ⟨z.symm,y.symm⟩)]
    ·rw[lU z]
   have h:(if i=b then(if j=a then(1:Int) else 0) else 0)=0:=by
    by_cases z:i=b
    ·rw[lQ z,lU (λy=>d ⟨z.symm,y.symm⟩)]
    ·rw[lU z]
   rw[g,h];omega
theorem Ig{n a b:Nat}(f:a<n)(d:b<n):sN n (λi=>sN n (λj=>if i=a then(if j=b then(1:Int) else 0) else 0))=1:=by rw[Z6 f λi _ c=>Xf λj _=>lU c];rw[Z6 d λj _ e=>by rw[lQ rfl,lU e],lQ rfl,lQ rfl]
theorem Tied.up{n t:Nat}{M:List (List Int)}{a b:Nat}(h:Tied n M t)(o:t<=8)(c:a<n)(d:b<n)(ne:a≠b):Tied n (Bf M a b) (t+1):=by
 have f:=h.few a b c d;have lo:=h.mat.lo a b c d;refine⟨AK h.mat c d ne (by omega) (by omega),λi j l m=>?_,?_⟩
 ·rw[El h.mat c d ne];have g:=h.few i j l m;by_cases e:i=a
  ·have:=λz=>ne (e.symm.trans z);split<;>omega
  ·rw[lU e];by_cases k:i=b
   ·rw[lQ k];split<;>omega
   ·rw[lU k];omega
 ·unfold Oc
  have:sN n (λi=>sN n (λj=>ZZ (Bf M a b) i j))=sN n (λi=>sN n (λj=>ZZ M i j)+(sN n (λj=>if i=a then(if j=b then(1:Int) else 0) else 0)+sN n (λj=>if i=b then(if j=a then(1:Int) else 0) else 0))):=
   Zi λi _=>by rw[<-ZY,<-ZY];exact Zi λj _=>El h.mat c d ne i j
  rw[this,ZY,ZY,Ig c d,Ig d c];have:=h.sum;unfold Oc at this;omega
theorem Tied.zero(n:Nat):Tied n (aV n (aV n 0)) 0:=by
 have z:∀i j,i<n->j<n->ZZ (aV n (aV n (0:Int))) i j=0:=λi j b c=>by
  have a:=(MatOk.zero n).lo i j b c;have:ZH (aV n (aV n (0:Int))) i=aV n 0:=by unfold ZH;rw[aD,bV,lQ b];rfl
  unfold ZZ;rw[this];unfold Zl;rw[aD,bV,lQ c];rfl
 refine⟨MatOk.zero n,λi j b c=>by rw[z i j b c];omega,?_⟩;unfold Oc;exact Xf λi b=>Xf λj c=>z i j b c
theorem Tied.grow{n t:Nat}{M:List (List Int)}{a b:Nat}(h:Tied n M t)(d:a<n)(c:b<n):(∀i j,0<ZZ M i j->0<ZZ (Bf M a b) i j)/\0<ZZ (Bf M a b) a b:=by have lo:=h.mat.lo a b d c;exact DU h.mat d c (by omega)
theorem LK{i:Nat}{f fb e:XE}{s:ZF}{n:Nat}{M:List (List Int)}{a b:Nat}(ok:MatOk n M)(d:a<n)(j:b<n)(h:M3 s i=aA (rL M))(t:Int)(k:f s=aA (.int (a:Int)))(l:fb s=aA (.int (b:Int)))(g:e s=aA (.int t)) :
  Ww i f fb e s=aA (.nx (s.set i (aA (.lst (rL (Sw M a b t)))))):=by
 have c:(rL M).length=n:=by unfold rL;rw[aM];exact ok.len
 rw[Pb g k l h (U0 (by rw[c];exact d)) (K2 (by rw[ok.len];exact d)) (Z4 _) rfl (U0 (by rw[aM,ok.row a d];exact j)),FK]
theorem Nd{i:Nat}{h fb f:XE}{s:ZF}{n:Nat}{M:List (List Int)}{a b:Nat}{u:Int}(ok:MatOk n M)(g:a<n)(e:b<n)(j:M3 s i=aA (rL (Sw M a b u)))(t:Int)(k:h s=aA (.int (b:Int)))(l:fb s=aA (.int (a:Int)))(m:f s=aA (.int t)) :
  Ww i h fb f s=aA (.nx (s.set i (aA (.lst (rL (Sw (Sw M a b u) b a t)))))):=by
 have d:=WK (t:=u) (b:=b) ok.len ok.row g;have c:(rL (Sw M a b u)).length=n:=by unfold rL;rw[aM];exact d.1
 rw[Pb m k l j (U0 (by rw[c];exact e)) (K2 (by rw[d.1];exact e)) (Z4 _) rfl (U0 (by rw[aM,d.2 b e];exact g)),FK]
theorem Mv{s:ZF}{c d fb:XE}{n:Nat}{M:List (List Int)}{a b:Nat}(o:M.length=n)(f:∀i,i<n->(ZH M i).length=n)(e:a<n)(l:b<n)(k:c s=aA (.lst (rL M)))(m:d s=aA (.int (a:Int)))(p:fb s=aA (.int (b:Int))):Zk ZN (Zk ZN c d) fb s=aA (.int (ZZ M a b)):=by
 have g:=VJ (K2 (by rw[o];exact e));have j:=YN (by rw[f a e];exact l);have h:Zk ZN c d s=aA (.lst (iL (ZH M a))):=by rw[VY,k,m];exact g
 rw[VY,h,p];exact j
theorem Ih{M:List (List Int)}{n k:Nat}{s:ZF}(c:M.length<=7)(h:s[k]?=aA (aA (.lst (rL M)))):eP (Zc ZI [Zt 1 [] (Xw (Za k)) (.one 0) Zz (Zc ZI [Za 0])]) s=aA (wP M):=by
 have a:Za k s=aA (.lst (rL M)):=by show s[k]?.bind id=_;rw[h];rfl
 have b:Zt 1 [] (Xw (Za k)) (.one 0) Zz (Zc ZI [Za 0]) s=aA (.lst (tL M)):=by refine ZT M (λr=>.lst (iL r)) pP (by unfold Xw;rw[a];rfl) (by omega) (λr _=>⟨[aA (.lst (iL r))],rfl,rfl,rfl⟩)
 rw[NI,Y2,Zw,b];show(if Ya (wP M)=aC then aA (wP M) else none)=_;rw[lQ (by simp)]
structure SzOk(Z:List Int)(mo:Nat):Prop where
 ne:0<Z.length
 le:Z.length<=100
 m8:mo<=8
 rg:∀v,v<Z.length->1<=Zl Z v/\Zl Z v<=5/\Zl Z v<=(mo:Int)+1
variable {Z:List Int} {mo:Nat}
theorem SzOk.at(z:SzOk Z mo){v:Nat}(h:v<Z.length):∃n:Nat,1<=n/\n<=5/\n<=mo+1/\ZN (.lst (iL Z)) (.int (v:Int))=aA (.int (n:Int)):=by have:=z.rg v h;exact⟨(Zl Z v).toNat,by omega,by omega,by omega,(YN h).trans (by rw[j6 (by omega)])⟩
theorem Em{l:List Int}:Ys [.lst (iL l)]=aA (.int (l.length:Int)):=by show aA (PV.int ((iL l).length:Int))=_;rw[aM]
theorem X8(x:Int){m:Nat}(h:0<m):∃v:Nat,v<m/\x%(m:Int)=(v:Int):=by have b:=gp x (show(m:Int)≠0 by omega);have a:=iG x (show(0:Int)<(m:Int) by omega);exact⟨(x%(m:Int)).toNat,by omega,by omega⟩
theorem Bg{f g:XE}{s:ZF}{x:Int}{m v:Nat}(e:x%(m:Int)=(v:Int))(h:0<m)(q:f s=aA (.int x))(a:g s=aA (.int (m:Int))):Zk Wc f g s=aA (.int (v:Int)):=by rw[<-e];exact vmd q a
theorem vsc{f:XE}{s:ZF}{i:Nat}(q:f s=aA (.int (i:Int))):Zk Ym f (eC (.int 1)) s=aA (.int ((i+1:Nat):Int)):=HD (b:=1) q rfl
theorem Ii{a b c n:Nat}(g:a<n)(f:b<n-1)(e:((a:Int)+1+(b:Int))%(n:Int)=(c:Int)):a≠c:=λz=>by
 subst z;have d:(a+1+b)%n=a:=by rw[show((a:Int)+1+(b:Int))=((a+1+b:Nat):Int) by omega,<-kT] at e;omega
 by_cases w:a+1+b<n
 ·rw[fV w] at d;omega
 ·rw[jr (by omega),fV (by omega)] at d;omega
noncomputable def A6(n:Nat)(p:Nat×Nat):Prop:=p.1<n/\p.2<n/\p.1≠p.2
noncomputable def A7(p:Nat×Nat):PV:=.tup [.int (p.1:Int),.int (p.2:Int)]
theorem Bh{f g:XE}{s:ZF}{a b:Nat}(q:f s=aA (.int (a:Int)))(c:g s=aA (.int (b:Int))):eP (R6 [f,g]) s=aA (A7 (a,b)):=ep (by rw[Q6,Zw,q,Zw,c];rfl)
theorem LL(z:SzOk Z mo)(x:Int):∃(W:List (List Int)) (t:Nat),V3 [.int x,.lst (iL Z),.int (mo:Int)]=aA (wP W)/\ZE W/\Xr W/\W.length<=5/\Oc W.length W=2*(t:Int)/\t<=mo:=by
 have m8:=z.m8;have zl:=z.le;have zn:=z.ne
 suffices h:YQ V2 (ZJ 12 [.int x,.lst (iL Z),.int (mo:Int)]) λv=>∃(W:List (List Int)) (t:Nat),v=wP W/\ZE W/\Xr W/\W.length<=5/\Oc W.length W=2*(t:Int)/\t<=mo by obtain⟨v,e,W,t,rfl,r⟩:=Uk h;exact⟨W,t,e,r⟩
 obtain⟨v,hv,ev⟩:=X8 x zn;obtain⟨n,n1,n5,nm,en⟩:=z.at hv;let st:Int->List Int->List (Nat×Nat)->Option PV->Option PV->Option PV->ZF:=λx o d x6 x7 x8=>[aA (.int x),aA (.lst (iL Z)),aA (.int (mo:Int)),aA (.int (n:Int)),aA (.lst (iL o)),aA (.lst (d.map A7)),x6,x7,x8,none,none,none];refine ZD (Zm (vP (o2 rfl (Bg ev zn rfl (c1 rfl Em)) en))) (ZD (Zm (vP (vdv rfl (c1 rfl Em)))) (ZD rfl (ZD rfl ?_)));refine XD (PR (n:=n) (λi s=>∃y o u,s=st y o [] u none none/\NamesOk i o) rfl ⟨_,[],none,rfl,NamesOk.nil⟩ ?_) ?_
 ·rintro i s hi ⟨y,o,u,rfl,F⟩;obtain⟨r,hr,P⟩:=X8 y (m:=i+1) (by omega);exact Z3 (FX (n:=r) (Bg P (by omega) rfl (vsc rfl)) rfl rfl (by omega) (by rw[F.len];omega)) (RE (Zm (vP (vdv rfl (HD rfl rfl)))) ⟨_,_,_,rfl,F.ins r⟩)
 rintro s ⟨y1,o,u,rfl,F⟩;let Pre:List (Nat×Nat)->Prop:=λd=>∀j p,d[j]?=aA p->p.1=j+1/\p.2<j+1;refine XD (C9 (m:=1) (n:=n) (λi s=>∃y d u,s=st y o d u none none/\d.length+1=i/\Pre d) rfl rfl ⟨y1,[],u,rfl,rfl,λj p h=>by simp at h⟩ ?_) ?_
 ·rintro i s D hi ⟨y,d,u,rfl,lp,pre⟩;obtain⟨r,hr,P⟩:=X8 y (m:=i) (by omega);refine Z3 (Mi A7 (y:=(i,r)) (Bh rfl (Bg P (by omega) rfl rfl)) rfl (by omega)) (RE (Zm (vP (vdv rfl rfl))) ⟨_,d++[(i,r)],_,rfl,by simp;omega,λj p h=>?_⟩);by_cases z:j<d.length
  ·rw[aZ z] at h;exact pre j p h
  ·have:j=d.length:=by have:=(aQ.mp h).1;simp at this;omega
   subst this;simp at h;subst h;exact⟨lp.symm,by omega⟩
 rintro s ⟨y2,d,U,rfl,lp,pre⟩;obtain⟨r,hr,P⟩:=X8 y2 (m:=mo+2-n) (by omega);have c7:(mo:Int)-(n:Int)+2=((mo+2-n:Nat):Int):=by omega
 obtain⟨G,hmo,m1,em⟩:∃G:Nat,G+n<=mo+1/\(1<=G->2<=n)/\Zk R5 (Zc QZ [Zk L5 (Za 3) (eC (.int 1))]) (Zk Wc (Za 0) (Zk Ym (Zk Wb (Za 2) (Za 3)) (eC (.int 2)))) (st y2 o d U none none)=aA (.int (G:Int)):=by
  have g:Zc QZ [Zk L5 (Za 3) (eC (.int 1))] (st y2 o d U none none)=aA (.int (if 1<n then 1 else 0)):=c1 (vgt (b:=1) rfl rfl) (by
   by_cases q:1<n
   ·rw[decide_eq_true q,lQ q];rfl
   ·rw[decide_eq_false q,lU q];rfl)
  refine⟨if 1<n then r else 0,by split<;>omega,λh=>by revert h;split<;>omega,(vC (C:=CMul) (op:=(· * ·)) g (Bg P (by omega) rfl (by rw[<-c7];exact HD (HZ rfl rfl) rfl)) (.inl (by split<;>omega))).trans ?_⟩;split<;>simp
 refine ZD (Zm (vP em)) (ZD (Zm (vP (vdv rfl (HD (HZ rfl rfl) rfl)))) ?_);let O:List (Nat×Nat)->Prop:=λk=>(∀j,j<n-1->k[j]?=d[j]?)/\∀p∈k,A6 n p
 have Q:O d:=⟨λj _=>rfl,λp I=>by
  obtain⟨j,hj,e⟩:=dj I;have:=pre j p (by rw[aG hj,e]);exact⟨by omega,by omega,by omega⟩⟩
 refine XD (PR (n:=G) (λi s=>∃y k u J,s=st y o k u (aA (.int (G:Int))) J/\k.length=n-1+i/\O k) rfl ⟨_,d,U,none,rfl,by omega,Q⟩ ?_) ?_
 ·rintro i s hi ⟨y,k,u,J,rfl,lq,all⟩;have n2:=m1 (by omega);obtain⟨a,H,ea⟩:=X8 y (m:=n) (by omega);obtain⟨b,L,R⟩:=X8 (y/(n:Int)) (m:=n-1) (by omega);obtain⟨c,hc,ec⟩:=X8 ((a:Int)+1+(b:Int)) (m:=n) (by omega);have cn:(n:Int)-1=((n-1:Nat):Int):=by omega
  refine Z3 (Zm (vP (Bg ea (by omega) rfl rfl))) (Z3 (Zm (vP (vdv rfl rfl))) (Z3 (Mi A7 (y:=(a,c)) (Bh rfl (Bg ec (by omega) (HD (HD rfl rfl) (Bg R (by omega) rfl (by rw[<-cn];exact HZ rfl rfl))) rfl)) rfl (by omega)) (RE (Zm (vP (vdv rfl (HZ rfl rfl)))) ⟨_,k++[(a,c)],_,_,rfl,by simp;omega,λj hj=>?_,λp I=>?_⟩)))
  ·rw[aZ (by omega)];exact all.1 j hj
  ·rcases b6.mp I with h | h
   ·exact all.2 p h
   ·rw[ah.mp h];exact⟨H,hc,Ii H L ec⟩
 rintro s ⟨y3,k,v6,v8,rfl,lq,all⟩;let X:List (List Int)->Option PV->Option PV->Option PV->ZF:=λM J E B=>[aA (.int y3),aA (.lst (iL Z)),aA (.int (mo:Int)),aA (.int (n:Int)),aA (.lst (iL o)),aA (.lst (k.map A7)),v6,aA (.int (G:Int)),J,aA (.lst (rL M)),E,B];refine ZD (Zm (O6 (n:=n) rfl (by omega))) (XD (RF (ls:=k.map A7) (λi s=>∃M J E B,s=X M J E B/\Tied n M i/\Grown M o (min (i+1) n)) rfl ⟨_,v8,none,none,rfl,Tied.zero n,λj D N=>by omega⟩ ?_) ?_)
 ·rintro i l s hl ⟨M,J,E,B,rfl,f,S⟩;obtain⟨⟨A,p2⟩,I,rfl⟩:∃p,k[i]?=aA p/\A7 p=l:=by simpa using hl
  have hi:i<k.length:=(aQ.mp I).1;obtain⟨D,N,h3⟩:A<n/\p2<n/\A≠p2:=all.2 _ (cE I);have na:=F.at (x:=A) D;have nb:=F.at (x:=p2) N;have nn:=F.ne (x:=A) (y:=p2) D N h3;obtain⟨a,ea⟩:∃a:Nat,Zl o A=(a:Int):=⟨(Zl o A).toNat,by omega⟩;obtain⟨b,R⟩:∃b:Nat,Zl o p2=(b:Int):=⟨(Zl o p2).toNat,by omega⟩;have H:a<n:=by omega
  have L:b<n:=by omega
  have T:RN (iL o) (A:Int)=aA (.int (a:Int)):=by rw[YN (by rw[F.len];exact D),ea]
  have ib:RN (iL o) (p2:Int)=aA (.int (b:Int)):=by rw[YN (by rw[F.len];exact N),R]
  obtain⟨gr1,Y⟩:=f.grow H L;refine⟨_,rfl,Z3 (Zm (vP (HD (Mv f.mat.len f.mat.row H L rfl (o2 rfl rfl T) (o2 rfl rfl ib)) rfl))) (Z3 (LK f.mat H L rfl _ (o2 rfl rfl T) (o2 rfl rfl ib) rfl) (RE (Nd f.mat H L rfl _ (o2 rfl rfl ib) (o2 rfl rfl T) rfl) ⟨Bf M a b,_,_,_,rfl,f.up (by omega) H L (by omega),λj D N=>?_⟩))⟩;by_cases w:j<min (i+1) n
  ·exact(S.mono gr1) j D w
  ·have pp:=pre i (A,p2) (by rw[<-all.1 i (by omega)];exact I);refine⟨p2,by omega,?_⟩;rw[show j=A by have:=pp.1;simp at this;omega,ea,R];exact Y
 rintro s ⟨M,t8,t10,t11,rfl,f,S⟩;rw[aM,lq] at f S;exact Yu (Ih (n:=n) (by rw[f.mat.len];omega) rfl) ⟨M,n-1+G,rfl,f.mat.web (by omega) (by omega),Grown.conn (n:=n) (λj D N=>S j D (by omega)) f.mat.len F,by rw[f.mat.len];exact n5,by rw[f.mat.len];exact f.sum,by omega⟩
end PW
namespace PW
open L2 VL
variable {Z:List Int} {mo:Nat}
theorem LM{t:Nat}{W:List (List Int)}(ok:ZE W)(a:Oc W.length W=2*(t:Int)):(Vz W).length=t:=by
 have c:=Lo ok;have b:sN W.length (λi=>(ZH W i).sum)=Oc W.length W:=Zi λi d=>by rw[U6 ok d,Xt]
 rw[Xt,b,a] at c;omega
theorem CC(l:List PV){k:Nat}(h:k<=l.length):Xg l none (aA (k:Int))=l.take k:=by unfold Xg;rw[HT.sIx_nat,HT.sIx_none,ck h,gU,gu]
theorem CD(l:List PV){k:Nat}(h:k<=l.length):Xg l (aA (k:Int)) none=l.drop k:=by unfold Xg;rw[HT.sIx_nat,HT.sIx_none,ck h,b7 (by rw[bK];omega)]
noncomputable def Qf{α:Type}(k:Nat)(l:List α):List α:=l.drop k++l.take k
theorem Mw{a:Type}{k:Nat}{l:List a}(h:k<=l.length):(Qf k l).length=l.length:=by unfold Qf;rw[au,bK,ay];omega
theorem Mx{a:Type}{k i:Nat}{l:List a}(h:k<=l.length)(b:i<l.length):(Qf k l)[i]?=l[(i+k)%l.length]?:=by
 unfold Qf;by_cases q:i<l.length-k
 ·rw[aZ (by rw[bK];exact q),dM,fV (by omega),Nat.add_comm]
 ·rw[bH (by rw[bK];omega),bK,jr (by omega),fV (by omega),dQ (by omega)];congr 1;omega
noncomputable def Qg(k:Nat)(M:List (List Int)):List (List Int):=(Qf k M).map (Qf k)
theorem WW{n k:Nat}{M:List (List Int)}(ok:MatOk n M)(f:k<n){i j:Nat}(d:i<n)(e:j<n):ZZ (Qg k M) i j=ZZ M ((i+k)%n) ((j+k)%n):=by
 have a:(i+k)%n<n:=fR _ (by omega);have c:ZH (Qg k M) i=Qf k (ZH M ((i+k)%n)):=by unfold ZH Qg;rw[aD,aU,Mx (by rw[ok.len];omega) (by rw[ok.len];exact d),ok.len,aG (by rw[ok.len];exact a),aD,aG (by rw[ok.len];exact a)];rfl
 have b:=ok.row _ a;unfold ZZ;rw[c];unfold Zl;rw[aD,aD,Mx (by rw[b];omega) (by rw[b];exact e),b]
theorem Ij{n k:Nat}{M:List (List Int)}(ok:MatOk n M)(d:k<n):MatOk n (Qg k M):=by
 have a:∀i,(i+k)%n<n:=λi=>fR _ (by omega);refine⟨by unfold Qg;rw[aM,Mw (by rw[ok.len];omega),ok.len],λi b=>?_,λi j b c=>?_,λi j b c=>?_,λi j b c=>?_,λi b=>?_⟩
 ·have:ZH (Qg k M) i=Qf k (ZH M ((i+k)%n)):=by unfold ZH Qg;rw[aD,aU,Mx (by rw[ok.len];omega) (by rw[ok.len];exact b),ok.len,aG (by rw[ok.len];exact a i),aD,aG (by rw[ok.len];exact a i)];rfl
  rw[this,Mw (by rw[ok.row _ (a i)];omega),ok.row _ (a i)]
 ·rw[WW ok d b c];exact ok.lo _ _ (a i) (a j)
 ·rw[WW ok d b c];exact ok.hi _ _ (a i) (a j)
 ·rw[WW ok d b c,WW ok d c b];exact ok.sym _ _ (a i) (a j)
 ·rw[WW ok d b b];exact ok.dia _ (a i)
theorem LN{n k:Nat}(b:n<=5)(a:k<n)(f:Nat->Int):sN n (λi=>f ((i+k)%n))=sN n f:=by
 have:n=1\/n=2\/n=3\/n=4\/n=5:=by omega
 have:k=0\/k=1\/k=2\/k=3\/k=4:=by omega
 rcases ‹n=1\/_› with rfl | rfl | rfl | rfl | rfl<;>rcases ‹k=0\/_› with rfl | rfl | rfl | rfl | rfl<;>first
  | (exfalso;omega)
  | (simp[sN];done)
  | (simp[sN];omega)
theorem CF{n k:Nat}{M:List (List Int)}(ok:MatOk n M)(b:n<=5)(a:k<n):Oc n (Qg k M)=Oc n M:=by unfold Oc;rw[Zi (g:=λi=>sN n (λj=>ZZ M ((i+k)%n) ((j+k)%n))) λi c=>Zi λj d=>WW ok a c d];rw[LN b a (λx=>sN n (λj=>ZZ M x ((j+k)%n)))];exact Zi λx _=>LN b a (λy=>ZZ M x y)
noncomputable def upL(n:Nat):List Int:=(aF n).map λ(i:Nat)=>(i:Int)
theorem My{n i:Nat}(h:i<n):Zl (upL n) i=(i:Int):=Z1 h
noncomputable def bkL(n k:Nat):List Int:=(aF n).map λ(i:Nat)=>(((i+n-k)%n:Nat):Int)
theorem En{n k i:Nat}(h:i<n):Zl (bkL n k) i=(((i+n-k)%n:Nat):Int):=Z1 h
theorem Ik{n k i:Nat}(b:k<n)(a:i<n):((i+n-k)%n+k)%n=i:=by rw[Nat.mod_add_mod,show i+n-k+k=i+n by omega,Nat.add_mod_right,fV a]
theorem Eo{n k:Nat}(c:n<=5)(b:k<n):NamesOk n (bkL n k):=by
 refine⟨by simp[bkL],?_,λx a=>?_,λx a=>?_⟩
 ·have:n=1\/n=2\/n=3\/n=4\/n=5:=by omega
  have:k=0\/k=1\/k=2\/k=3\/k=4:=by omega
  rcases ‹n=1\/_› with rfl | rfl | rfl | rfl | rfl<;>rcases ‹k=0\/_› with rfl | rfl | rfl | rfl | rfl<;>first
   | (exfalso;omega)
   | decide
 ·obtain⟨i,_,rfl⟩:=bc.mp a;omega
 ·obtain⟨i,_,rfl⟩:=bc.mp a;have:(i+n-k)%n<n:=fR _ (by omega);omega
theorem Ep{n k:Nat}{M:List (List Int)}(ok:MatOk n M)(g:n<=5)(a:k<n)(f:Grown M (upL n) n):Xr (Qg k M):=by refine Grown.conn (n:=n) (l:=bkL n k) (λj d b=>?_) (Ij ok a).len (Eo g a);obtain⟨h,c,e⟩:=f j d b;refine⟨h,c,?_⟩;rw[En b,En (by omega),cK,cK,WW ok a (fR _ (by omega)) (fR _ (by omega)),Ik a b,Ik a (by omega)];rw[My b,My (by omega),cK,cK] at e;exact e
theorem Er{n k:Nat}{M:List (List Int)}(ok:MatOk n M)(p:n<=5)(t:k<n){s:ZF}(j:Za 4 s=aA (.lst (rL M)))(c:Za 11 s=aA (.int (k:Int)))(m:ZR 1 [11] s=[none,aA (.int (k:Int))]) :
  Zt 1 [11] (Xw (Zk GX (Up Xx (Za 4) (WN (Za 11)) So) (Up Xx (Za 4) So (WN (Za 11))))) (.one 0) Zz (Zk Uh (Up Xx (Za 0) (WN (Za 1)) So) (Up Xx (Za 0) So (WN (Za 1)))) s=aA (.lst (rL (Qg k M))):=by
 have d:(rL M).length=n:=by unfold rL;rw[aM];exact ok.len
 have g:WN (Za 11) s=aA (aA (k:Int)):=by unfold WN;rw[c]
 have s1:Up Xx (Za 4) (WN (Za 11)) So s=aA (.lst ((rL M).drop k)):=by rw[Xq,j,g];show aA (PV.lst (Xg (rL M) (aA (k:Int)) none))=_;rw[CD _ (by omega)]
 have s2:Up Xx (Za 4) So (WN (Za 11)) s=aA (.lst ((rL M).take k)):=by rw[Xq,j,g];show aA (PV.lst (Xg (rL M) none (aA (k:Int))))=_;rw[CC _ (by omega)]
 have o:Xw (Zk GX (Up Xx (Za 4) (WN (Za 11)) So) (Up Xx (Za 4) So (WN (Za 11)))) s=aA ((Qf k M).map λr=>.lst (iL r)):=by unfold Xw;rw[VY,s1,s2];show((if((rL M).drop k).length+((rL M).take k).length<=10000 then aA (PV.lst ((rL M).drop k++(rL M).take k)) else none).bind _)=_;rw[lQ (by rw[bK,ay];omega)];unfold Qf rL;rw[cT,iY,iX];rfl
 rw[ZT (Qf k M) (λr=>.lst (iL r)) (λr=>.lst (iL (Qf k r))) o (by rw[Mw (by rw[ok.len];omega),ok.len];omega) (λr l=>⟨[aA (.lst (iL r)),aA (.int (k:Int))],by rw[m];rfl,rfl,?_⟩)]
 ·unfold Qg rL;rw[dF];rfl
 ·have q:r.length=n:=by
   have:r∈M:=by
    rcases b6.mp l with h | h
    ·exact jU h
    ·exact fO h
   obtain⟨i,f,e⟩:=dj this;have:=ok.row i (by rw[<-ok.len];exact f);unfold ZH at this;rw[aD,aG f] at this;rw[<-e];exact this
  refine o2 (a:=.lst (iL (r.drop k))) (b:=.lst (iL (r.take k))) ?_ ?_ ?_
  ·show aA (PV.lst (Xg (iL r) (aA (k:Int)) none))=_;rw[Mg]
  ·show aA (PV.lst (Xg (iL r) none (aA (k:Int))))=_;rw[Mf]
  ·show(if(iL (r.drop k)).length+(iL (r.take k)).length<=10000/\ZO (iL (r.drop k))=aC/\ZO (iL (r.take k))=aC then aA (PV.lst (iL (r.drop k)++iL (r.take k))) else none)=_;rw[lQ ⟨by rw[aM,aM,bK,ay];omega,Z4 _,Z4 _⟩,<-cT];rfl
theorem Zdp:SzOk [1,2,3,4,5] 8:=⟨by decide,by decide,by decide,by decide⟩
theorem Es{x:List Int}(B:x.length<=63)(z:SzOk Z mo):∃W,NQ [.cst (iL x),.lst (iL Z),.int (mo:Int)]=aA (wP W)/\ZE W/\Xr W/\W.length<=5/\(Vz W).length<=mo:=by
 have m8:=z.m8
 suffices h:YQ JP (ZJ 12 [.cst (iL x),.lst (iL Z),.int (mo:Int)]) λv=>∃W,v=wP W/\ZE W/\Xr W/\W.length<=5/\(Vz W).length<=mo by obtain⟨v,e,W,rfl,r⟩:=Uk h;exact⟨W,e,r⟩
 have at0:=Sn B 0;have Y:=λ{s:ZF} (h:Za 0 s=aA (.cst (iL x)))=>xb (H9 (vmd (c2 (g:=eC (.int 0)) h rfl at0) (show eC (.int 2) s=aA (.int 2) from rfl) (by decide)) (show eC (.int 1) s=aA (.int 1) from rfl));by_cases q:Zl x 0%2=1
 ·obtain⟨W,t,e,ok,cn,l5,sm,D⟩:=LL z (Zl x 1);exact FT ((Y rfl).trans (by rw[decide_eq_true q])) (Yu (c3 (c2 rfl rfl (Sn B 1)) rfl rfl e) ⟨W,rfl,ok,cn,l5,by rw[LM ok sm];exact D⟩)
 obtain⟨v,hv,ev⟩:=Yl (Zl x 0) (t:=1) (m:=Z.length) (by omega) z.ne;obtain⟨n,n1,E,nm,en⟩:=z.at hv;let st:List (List Int)->Nat->Option PV->Option PV->Option PV->Option PV->Option PV->ZF:=λM t G I F H o=>[aA (.cst (iL x)),aA (.lst (iL Z)),aA (.int (mo:Int)),aA (.int (n:Int)),aA (.lst (rL M)),aA (.int (t:Int)),G,I,F,H,o,none];refine ZD (JW ((Y rfl).trans (by rw[decide_eq_false q]))) (ZD (Zm (vP (o2 rfl (c3 (c2 rfl rfl at0) rfl (c1 rfl Em) ev) en))) (ZD (Zm (O6 (n:=n) rfl (by omega))) (ZD (Zm (vP rfl)) (XD (C9 (m:=1) (n:=13) (λi s=>∃M t G I F H o,s=st M t G I F H o/\Tied n M t/\t<=mo/\(i<=n->t+1=i)/\Grown M (upL n) (min i n)) rfl rfl ⟨_,0,none,none,none,none,none,rfl,Tied.zero n,by omega,λ_=>rfl,λj C N=>by omega⟩ ?_) ?_))))
 ·rintro i s C hi ⟨M,t,G,I,F,H,o,rfl,f,D,tl,L⟩;let c:=Zl x i;obtain⟨a,l,P⟩:=Yl c (t:=13) (m:=n) (by omega) (by omega);obtain⟨b,hb,eb⟩:=Yl c (t:=17) (m:=max 1 (n-1)) (by omega) (by omega);obtain⟨d,p,U⟩:=X8 ((a:Int)+1+(b:Int)) (m:=n) (by omega);obtain⟨r,hr,er⟩:=Yl c (t:=3) (m:=3) (by omega) (by omega);obtain⟨u,X,eu⟩:=Yl c (t:=5) (m:=i) (by omega) (by omega)
  refine Z3 (Zm (c2 rfl rfl (Sn B i))) (Z3 (Zm (c3 rfl rfl rfl P)) (Z3 (Zm (vP (Bg U (by omega) (HD (HD rfl rfl) (c3 rfl rfl (c2 (b:=.int ((n:Int)-1)) rfl (HZ rfl rfl) (R:=aA (.int ((max 1 (n-1):Nat):Int))) (by
   show aA (PV.int (if(n:Int)-1>1 then(n:Int)-1 else 1))=_;congr 2;split<;>omega)) eb)) rfl))) (JY (R:=λs=>∃a d:Nat,s=st M t (aA (.int (i:Int))) (aA (.int c)) (aA (.int (a:Int))) (aA (.int (d:Int))) o/\a<n/\d<n/\(1<n->a≠d)/\(i<n->a=i/\d<i)) (Ls (xb (vlt rfl rfl)) (λw=>Z3 (Zm (vP rfl)) (RE (Zm (c3 rfl rfl rfl eu)) ⟨i,u,rfl,of_decide_eq_true w,Nat.lt_trans X (of_decide_eq_true w),λ_=>by omega,λ_=>⟨rfl,X⟩⟩)) λw=>RE rfl ⟨a,d,rfl,l,p,λS=>Ii l (by omega) U,λw2=>absurd w2 (of_decide_eq_false w)⟩) ?_)))
  rintro s ⟨a,d,rfl,l,p,ne,ia⟩;refine Z3 (Zm (ep (ea (vgt (b:=1) rfl rfl) (ea (vlt rfl rfl) (vgt (b:=0) (c3 rfl rfl rfl er) rfl))))) (Ls (xo (xb (vlt rfl rfl)) (xb rfl)) (λw=>?_) λw=>RE rfl ⟨M,t,_,_,_,_,_,rfl,f,D,λh=>?_,λj C N=>?_⟩)
  ·have w:i<n\/1<n/\t<mo/\0<r:=by simpa using w
   have S:1<n:=by omega
   have T:=WK (t:=ZZ M a d+1) (b:=d) f.mat.len f.mat.row l;obtain⟨Q,O⟩:=f.grow l p;refine Z3 (LK f.mat l p rfl _ rfl rfl (HD (Mv f.mat.len f.mat.row l p rfl rfl rfl) rfl)) (Z3 (Nd f.mat l p rfl (ZZ M a d+1) rfl rfl ((Mv T.1 T.2 l p rfl rfl rfl).trans (by rw[QQ f.mat.len f.mat.row l p,lQ ⟨rfl,rfl⟩]))) (RE (Zm (vP (vsc rfl))) ⟨Bf M a d,t+1,_,_,_,_,_,rfl,f.up (by omega) l p (ne S),by omega,λh=>by omega,λj C N=>?_⟩));by_cases y:j<min i n
   ·exact(L.mono Q) j C y
   ·obtain⟨rfl,hd'⟩:=ia (by omega);have hj:j=a:=by omega
    refine⟨d,by omega,?_⟩;rw[hj,My l,My p,cK,cK];exact O
  ·have:¬i<n:=λy=>by rw[decide_eq_true y] at w;cases w
   omega
  ·have:¬i<n:=λy=>by rw[decide_eq_true y] at w;cases w
   exact L j C (by omega)
 rintro s ⟨M,t,y6,y7,y8,y9,y10,rfl,f,D,_,L⟩;obtain⟨k,J,ek⟩:=Yl (Zl x 0) (t:=7) (m:=n) (by omega) (by omega);have A:=Ij f.mat J;have ok:ZE (Qg k M):=A.web (by omega) (by omega);exact ZD (Zm (c3 (c2 rfl rfl at0) rfl rfl ek)) (ZD (Zm (Er f.mat E J rfl rfl rfl)) (Yu (Ih (n:=n) (by rw[A.len];omega) rfl) ⟨_,rfl,ok,Ep f.mat E J λj C N=>L j C (by omega),by rw[A.len];exact E,by rw[LM (t:=t) ok (by rw[A.len,CF f.mat E J];exact f.sum)];exact D⟩))
end PW
namespace PW
open PySem L2 VL VX
theorem Od{W:List (List Int)}{D S:List Int}{X Y:PV}(ok:ZE W)(v:D.length=W.length)(u:∀k:Nat,k<W.length->ZN X (.int (k:Int))=aA (.int (Zl D k)))(t:∀k:Nat,k<W.length->ZN Y (.int (k:Int))=aA (.int (Zl S k))) :
  Vx [wP W,X,Y]=aA (pP (ZS W D S)):=by
 have x:=ok.few;have z:(ZS W D S).length=W.length:=by rw[Yc,v]
 let st:Nat->Option PV->Option PV->Option PV->Option PV->ZF:=λi f m d b=>[aA (wP W),aA X,aA Y,aA (.lst (iL ((ZS W D S).take i))),f,m,d,b];let part:Nat->Nat->Int:=λh j=>Zl D h-sN j (λg=>ZZ W h g*(Zl S h-Zl S g));refine Sg (ZD (s1:=st 0 none none none none) rfl (XD (PR (n:=W.length) (λi s=>∃f m d b,s=st i f m d b) (c1 rfl Ul) ⟨none,none,none,none,rfl⟩ ?_) ?_))
 ·rintro h s c ⟨f,m,d,b,rfl⟩
  have w:part h W.length=Zl (ZS W D S) h:=by
   rw[XY (by omega)];show Zl D h-sN W.length _=_
   have:sN W.length (λg=>ZZ W h g*(Zl S h-Zl S g))=(-1)*gN W (Zl S) h:=by
    unfold gN;rw[<-ZC];exact Zi λg _=>by rw[dt,dt];omega
   rw[this];omega
  refine Z3 (Zm (vP (a:=part h 0) ((o2 rfl rfl (u h c)).trans (by rw[show part h 0=Zl D h from gw _])))) (JY (PR (n:=W.length) (λj s=>∃q p,s=st h (aA (.int (h:Int))) (aA (.int (part h j))) q p) (c1 rfl Ul) ⟨d,b,rfl⟩ ?_) ?_)
  ·rintro j s o ⟨q,p,rfl⟩;have lo:=ok.lo h j c o;have y:=ok.hi h j c o;have e:part h j-ZZ W h j*(Zl S h-Zl S j)=part h (j+1):=by show Zl D h-sN j (λg=>ZZ W h g*(Zl S h-Zl S g))-ZZ W h j*(Zl S h-Zl S j)=Zl D h-(sN j (λg=>ZZ W h g*(Zl S h-Zl S g))+ZZ W h j*(Zl S h-Zl S j));omega
   exact Z3 (Zm (vP (HZ (o2 rfl rfl (t h c)) (o2 rfl rfl (t j o))))) (RE (Zm (vP (a:=part h (j+1)) ((HZ rfl (vC (C:=CMul) (op:=(· * ·)) (Zdg c (by rw[ok.sq h c];exact o) rfl rfl rfl) rfl (.inl (by omega)))).trans (by rw[<-e])))) ⟨_,_,rfl⟩)
  ·rintro s ⟨q,p,rfl⟩;exact RE (AM (l:=ZS W D S) (k:=h) (by rw[<-w];exact vP rfl) rfl (by omega) (by omega)) ⟨_,_,_,_,rfl⟩
 ·rintro s ⟨f,m,d,b,rfl⟩;exact Yu (Lr (c1 rfl (by rw[b7 (by omega)];rfl))) rfl
theorem Il{l:List Int}{k:Nat}{v:Int}(b:k<l.length):(l.set k v).sum=l.sum+(v-Zl l k):=by
 rw[WV,WV l,cS]
 have e:sN l.length (Zl (l.set k v))=sN l.length (λi=>Zl l i+(if i=k then v-Zl l k else 0)):=Zi λi a=>by
  rw[PW.nth_set a];by_cases q:i=k
  ·subst q;rw[lQ rfl,lQ rfl];omega
  ·rw[lU q,lU q];omega
 rw[e,ZY,Z6 (k:=k) b λi _ a=>lU a,lQ rfl]
theorem Im(t:Int):Vv [.int t]=aA (.bl aC):=by simp[Vv,O1,YO,ZJ]
theorem LO{l:List Int}{n:Nat}(h:l.length=n)(c:n<=1000):Tp [pP l,.int (n:Int)]=aA (.bl aC):=by
 refine Y9 (sq (JW (gP (xo (p:=aB) (p2:=aB) (xn (xb (p:=aC) rfl)) (xb (gP (o2 (c1 rfl (by rw[G3,aM,h])) rfl (VZ aC _ _)) (by simp)))) rfl)) (ret (ep (c1 (a:=.lst ((l.map λ_=>aC).map PV.bl)) ?_ ?_))))
 ·rw[ZT l PV.int (λ_=>.bl aC) (T6 rfl) (by omega) (λi b=>⟨_,rfl,rfl,c1 rfl (Im i)⟩),dF];rfl
 ·rw[Au];simp
theorem p20(s:ZF):Zk Nv (eC (.int 10)) (eC (.int 20)) s=aA (.int (10^20)):=vC (a:=10) (b:=20) (C:=Gn) (op:=λi j=>i^j.toNat) rfl rfl (by decide)
theorem p21(s:ZF):Zk Ym (Zk Ui (eC (.int 2)) (Zk Nv (eC (.int 10)) (eC (.int 20)))) (eC (.int 1)) s=aA (.int (2*10^20+1)):=vI (vC (C:=CMulW) (op:=(· * ·)) rfl (p20 _) ⟨by decide +kernel,by decide +kernel⟩) rfl
theorem Et{W:List (List Int)}(H:1<=W.length)(M:W.length<=5)(c:Int):∃P:List Int,SQ [wP W,.int c]=aA (pP P)/\P.length=W.length/\∀h,h<W.length->(Zl P h).natAbs<=10^22:=by
 suffices g:YQ O3 (ZJ 6 [wP W,.int c]) λv=>∃P:List Int,v=pP P/\P.length=W.length/\∀h,h<W.length->(Zl P h).natAbs<=10^22 by obtain⟨v,e,P,rfl,r⟩:=Uk g;exact⟨P,e,r⟩
 have f:xB (Zk (Wr aB) (Zk Wc (Za 1) (eC (.int 2))) (eC (.int 1))) (ZJ 6 [wP W,.int c])=aA (decide (c%2=1)):=xb (H9 (vmd (b:=2) rfl rfl) rfl);by_cases q:c%2=1
 ·rw[decide_eq_true q] at f;refine FT f (ZD (Zm (vP (vC (C:=W6) (op:=gS) (a:=c) (b:=2) rfl rfl ⟨by decide,by decide +kernel⟩))) (ZD (Zm (v:=.lst (iL ([]:List Int))) rfl) (XD (PR (n:=W.length) (λi st=>∃(a:Int) (t:List Int) (p:Option PV),st=[aA (wP W),aA (.int c),aA (.int a),aA (.lst (iL t)),p,none]/\t.length=i/\∀h,h<t.length->(Zl t h).natAbs<=10^20) (c1 rfl Ul) ⟨_,[],none,rfl,rfl,λh d=>by simp at d⟩ ?_) ?_)))
  ·rintro i st B ⟨a,t,p,rfl,lt,w⟩;obtain⟨y,z⟩:∃y:Int,y=a%(2*10^20+1)-10^20:=⟨_,rfl⟩;have j:y.natAbs<=10^20:=by have O:=gp a (show(2*10^20+1:Int)≠0 by decide);have H:=iG a (show(0:Int)<2*10^20+1 by decide);omega
   refine Z3 (Mi PV.int (L:=t) (y:=y) (vP ((HZ (vmd (b:=2*10^20+1) rfl (p21 _)) (p20 _)).trans (by rw[z]))) rfl (by omega)) (RE (Zm (vP (vC (C:=W6) (op:=gS) (b:=2*10^20+1) rfl (p21 _) ⟨by decide,by decide +kernel⟩))) ⟨_,t++[y],_,rfl,by simp;omega,λh d=>?_⟩);rw[au,eH] at d;by_cases q:h<t.length
   ·have:Zl (t++[y]) h=Zl t h:=by simp[Zl,aD,aZ q]
    rw[this];exact w h q
   ·have e:h=t.length:=by omega
    have:Zl (t++[y]) h=y:=by simp[Zl,aD,e]
    rw[this];exact j
  ·rintro st ⟨a,t,p,rfl,lt,w⟩;exact Yu (Lr (c1 rfl (YB _))) ⟨t,rfl,lt,λh d=>aP (w h (by omega)) (by decide)⟩
 ·rw[decide_eq_false q] at f;obtain⟨v,E,A⟩:=Yl c (t:=281) (m:=3) (by omega) (by omega)
  have u:∃y:Int,1<=y/\y<=10^20+39/\ZN (.lst [.int 1,.int 1,.int (10^20+39)]) (.int (v:Int))=aA (.int y):=by
   have h:=YN (l:=[1,1,10^20+39]) (k:=v) (by simpa using E);refine⟨Zl [1,1,10^20+39] v,?_,?_,h⟩<;>(have:v=0\/v=1\/v=2:=by omega)<;>rcases this with r | r | r<;>subst r<;>decide
  obtain⟨y,J,N,D⟩:=u;have F:∀i:Nat,∃x:Nat,x<9/\Z8 [.int (c+5*(i:Int)),.int 283,.int 9]=aA (.int (x:Int)):=λi=>Yl (c+5*(i:Int)) (t:=283) (m:=9) (by omega) (by omega);obtain⟨x,o⟩:=gF F;have I:∀s:ZF,WX [eC (.int 1),eC (.int 1),Zk Ym (Zk Nv (eC (.int 10)) (eC (.int 20))) (eC (.int 39))] s=aA (.lst [.int 1,.int 1,.int (10^20+39)]):=λs=>by have e:Zk Ym (Zk Nv (eC (.int 10)) (eC (.int 20))) (eC (.int 39)) s=aA (.int (10^20+39)):=vI (p20 _) rfl;rw[Q7,Zw,Zw,Zw,e];rfl
  refine ZD (JW f) (ZD (Zm (vP (o2 (I _) (c3 rfl rfl rfl A) D))) (Yu (Lr (c1 (WD (λi=>((x i:Nat)-4:Int)*y) (YC (n:=W.length) (c1 rfl Ul) (by omega)) (by omega) λi B=>⟨_,rfl,rfl,vC (C:=CMulW) (op:=(· * ·)) (HZ (c3 (vI rfl (vC (C:=CMulW) (op:=(· * ·)) (a:=5) (b:=(i:Int)) rfl rfl ⟨by decide +kernel,?_⟩)) rfl rfl (o i).2) rfl) rfl ⟨?_,?_⟩⟩) (YB _))) ⟨_,rfl,by simp,λh d=>?_⟩))
  ·have:=P8 (x:=(i:Int)) (G:=10) (by omega) (by omega);omega
  ·have:=(o i).1;have:=P8 (x:=((x i:Nat)-4:Int)) (G:=10) (by omega) (by omega);omega
  ·have:=P8 (x:=y) (G:=70) (by omega) (by omega);omega
  ·have e:Zl ((aF W.length).map λi=>((x i:Nat)-4:Int)*y) h=((x h:Nat)-4:Int)*y:=Yn d;rw[e,dX];have:=(o h).1;exact aP (dG (show _<=8 by omega) (show _<=10^20+39 by omega)) (by decide)
theorem HW{W:List (List Int)}{D S:List Int}(ok:ZE W)(d:W.length<=5)(j:D.length=W.length){M:Nat}(e:∀h,h<W.length->(Zl D h).natAbs<=M)(c:∀h,h<W.length->(Zl S h).natAbs<=3){h:Nat}(a:h<W.length):(Zl (ZS W D S) h).natAbs<=M+540:=by
 rw[XY (by omega)];have k:=e h a;have l:=F7 (f:=λg=>ZZ W h g*(Zl S g-Zl S h)) (M:=108) (n:=W.length) λg b=>by have lo:=ok.lo h g a b;have i:=ok.hi h g a b;have b1:=c g b;have b2:=c h a;rw[dX];exact dG (show _<=18 by omega) (show _<=6 by omega)
 have m:W.length*108<=5*108:=cu _ d;have o:gN W (Zl S) h=sN W.length (λg=>ZZ W h g*(Zl S g-Zl S h)):=rfl;omega
theorem Nf{l:List Int}{k i:Nat}{v:Int}{M:Nat}(c:i<l.length)(b:(Zl l i).natAbs<=M)(a:v.natAbs<=M):(Zl (l.set k v) i).natAbs<=M:=by
 rw[PW.nth_set c];split
 ·exact a
 ·exact b
theorem Eu{W:List (List Int)}{P:List Int}(ok:ZE W)(M:W.length<=5)(p:P.length=W.length)(Z:∀h,h<W.length->(Zl P h).natAbs<=10^22)(c:Int):∃Q:List Int,SR [wP W,pP P,.int c]=aA (pP Q)/\Q.length=W.length/\Q.sum=P.sum/\∀h,h<W.length->(Zl Q h).natAbs<=10^23:=by
 suffices g:YQ O4 (ZJ 6 [wP W,pP P,.int c]) λv=>∃Q:List Int,v=pP Q/\Q.length=W.length/\Q.sum=P.sum/\∀h,h<W.length->(Zl Q h).natAbs<=10^23 by obtain⟨v,e,P,rfl,r⟩:=Uk g;exact⟨P,e,r⟩
 have hp:=ok.pos;have N:∀i:Nat,∃x:Nat,x<7/\Z8 [.int (c+(i:Int)),.int 293,.int 7]=aA (.int (x:Int)):=λi=>Yl (c+(i:Int)) (t:=293) (m:=7) (by omega) (by omega);obtain⟨x,F⟩:=gF N;obtain⟨S,C⟩:∃S:List Int,S=ZV W.length λi=>((x i:Nat)-3:Int):=⟨_,rfl⟩;have L:S.length=W.length:=by rw[C,ZG]
 have bS:∀h,h<W.length->(Zl S h).natAbs<=3:=λh f=>by rw[C,Yn f];have:=(F h).1;omega
 obtain⟨R,q⟩:∃R:List Int,R=ZS W P S:=⟨_,rfl⟩;have G:R.length=W.length:=by rw[q,Yc,p]
 have E:R.sum=P.sum:=by rw[q];exact JT ok p
 have u:∀h,h<W.length->(Zl R h).natAbs<=10^22+540:=λh f=>by rw[q];exact HW ok M p Z bS f
 have X:Vx [wP W,pP P,.lst (iL S)]=aA (pP R):=by rw[q];exact Od ok p (F6 p) (Zbt L)
 have Y:Zt 1 [2] (Yp [Zc Ys [Za 0]]) (.one 0) Zz (Zk Wb (Zc Z8 [Zk Ym (Za 1) (Za 0),eC (.int 293),eC (.int 7)]) (eC (.int 3))) (ZJ 6 [wP W,pP P,.int c])=aA (.lst (iL S)):=by rw[C];exact WD (λi=>((x i:Nat)-3:Int)) (YC (n:=W.length) (c1 rfl Ul) (by omega)) (by omega) λi hi=>⟨_,rfl,rfl,HZ (c3 (vI rfl rfl) rfl rfl (F i).2) rfl⟩
 obtain⟨v0,hv0,D⟩:=Yl c (t:=307) (m:=3) (by omega) (by omega);obtain⟨j,y,B⟩:=Yl c (t:=311) (m:=W.length) (by omega) (by omega);obtain⟨o,A,w⟩:=Yl c (t:=313) (m:=W.length) (by omega) (by omega);refine ZD (Zm (v:=.lst (iL R)) (c1 (c3 rfl rfl Y X) ((Q8 _).trans (lQ (Z4 _))))) (XD (R:=λs=>∃(T:List Int) (H I:Option PV),s=[aA (wP W),aA (pP P),aA (.int c),aA (.lst (iL T)),H,I]/\T.length=W.length/\T.sum=P.sum/\∀h,h<W.length->(Zl T h).natAbs<=10^23) (Ls (xb (H9 (c3 rfl rfl rfl D) rfl)) (λz=>?_) λz=>RE rfl ⟨R,_,_,rfl,G,E,λh f=>aP (u h f) (by decide)⟩) ?_)
 ·obtain⟨d,b⟩:∃d:List Int,d=R.set j (Zl R j-1):=⟨_,rfl⟩;have U:d.length=W.length:=by rw[b,cS,G]
  have b1:∀h,h<W.length->(Zl d h).natAbs<=10^22+541:=λh f=>by rw[b];have:=u j y;exact Nf (by omega) (aP (u h f) (by omega)) (by omega)
  refine Z3 (Zm (c3 rfl rfl (c1 rfl Ul) B)) (Z3 (FW (k:=j) (l:=R) (a:=Zl R j-1) rfl (HZ (o2 rfl rfl (YN (l:=R) (k:=j) (by omega))) rfl) rfl (by omega)) (Z3 (Zm (c3 rfl rfl (c1 rfl Ul) w)) (RE (FW (k:=o) (l:=d) (a:=Zl d o+1) rfl (vI (o2 (a:=.lst (iL d)) (by rw[b];rfl) rfl (YN (l:=d) (k:=o) (by omega))) rfl) (by rw[b];rfl) (by omega)) ⟨d.set o (Zl d o+1),_,_,rfl,by rw[cS,U],?_,λh f=>?_⟩)))
  ·rw[Il (by omega),b,Il (by omega),<-b,E];omega
  ·have:=b1 o A;exact Nf (by omega) (aP (b1 h f) (by decide)) (by omega)
 ·rintro s ⟨T,H,I,rfl,lT,O,J⟩;exact Yu (Lr (c1 rfl (YB _))) ⟨T,rfl,lT,O,J⟩
theorem bbN(p:Bool):Wr aC (.bl p) (.bl p)=aA (.bl aB):=by unfold Wr;rw[lQ (show Uv 8 (.bl p) (.bl p)=aC from rfl),decide_eq_true rfl];rfl
theorem isF{f:XE}{s:ZF}{v:PV}{b n:Bool}(q:f s=aA v)(h:GG n v=aA (.bl b)):xB (Uu n f) s=aA b:=xb (by rw[M4,q];exact h)
theorem Zdr{f:XE}{s:ZF}{v:PV}(q:f s=aA v):R6 [f] s=aA (.tup [v]):=by rw[Q6,Zw,q];rfl
theorem Zds{f:XE}{s:ZF}{v:PV}(q:f s=aA v):WX [f] s=aA (.lst [v]):=by rw[Q7,Zw,q];rfl
theorem Zdt{f g:XE}{s:ZF}{v w:PV}(q:f s=aA v)(a:g s=aA w):WX [f,g] s=aA (.lst [v,w]):=by rw[Q7,Zw,q,Zw,a];rfl
section
variable {W:List (List Int)} {m:Nat} {A B:List Int}
noncomputable def Ak(W:List (List Int))(A B:List Int):Prop:=∃Y:Nat->Int,∀h,h<W.length->Zl B h=Zl A h+gN W Y h
theorem Jf(ok:ZE W)(s:Xr W)(a:A.length=W.length)(q:B.length=W.length)(m:∀h,h<W.length->(Zl A h).natAbs<=2^208)(j:∀h,h<W.length->(Zl B h).natAbs<=2^208):∃p:Bool,SS [wP W,pP A,pP B]=aA (.bl p)/\(p=aC↔Ak W A B):=by
 have w:=ok.pos;have t:=ok.few;rcases Nc ok s a q m j with⟨O,k,c,n⟩ | ⟨f,g⟩
 ·have d:(ZP O).length=W.length:=by rw[Yf];exact k
  have b:ZS W A (ZP O)=ZS W A O:=HB (- Xy O) a λi u=>by rw[XU (l:=O) (by omega)];omega
  have o:Vx [wP W,pP A,pP (ZP O)]=aA (pP B):=by rw[c,<-b];exact Od ok a (F6 a) (F6 d)
  have e:JK [pP (ZP O)]=aA (.int 0):=by rw[<-HK (l:=O) (by omega)];exact JM Xy (di.mp (by omega))
  refine⟨aC,Sg (ZD (Zm (c3 rfl rfl rfl n)) (ZD (JW (isF rfl rfl)) (ZD (JW (gP (xo (p:=aB) (p2:=aB) (xn (xb (c2 rfl (c1 rfl Ul) (LO d (by omega))))) (xb (o2 (c1 rfl e) rfl (by rw[VZ];rfl)))) rfl)) (ZD (JW (neq (c3 rfl rfl rfl o) rfl)) (Yu (ep rfl) rfl))))),λ_=>⟨Zl O,λh v=>by rw[c,XY (by omega)]⟩,λ_=>rfl⟩
 ·exact⟨aB,Sg (ZD (Zm (c3 rfl rfl rfl f)) (FT (isF rfl rfl) (Yu (ep rfl) rfl))),(λz=>nomatch z),λz=>absurd z g⟩
theorem Jg{b:Nat}(ok:ZE W)(s:Xr W)(l:b<W.length)(m:A.length=W.length)(q:B.length=W.length)(D:∀h,h<W.length->(Zl A h).natAbs<=2^208)(w:∀h,h<W.length->(Zl B h).natAbs<=2^208):∃(x y x' y':PV) (N d:List Int),Z2 [wP W,pP A,.int (b:Int)]=aA (.tup [x,pP N,y])/\Z2 [wP W,pP B,.int (b:Int)]=aA (.tup [x',pP d,y'])/\(N=d↔Ak W A B):=by
 obtain⟨S,N,F,G,L,p,st⟩:=WG ok s m l D;obtain⟨f,d,J,j,v,g,k⟩:=WG ok s q l w;have H:N.length=W.length:=by rw[p,Yc,m]
 have t:d.length=W.length:=by rw[g,Yc,q]
 have n:∀h,h<W.length->Zl N h=Zl A h+gN W (Zl S) h:=λh a=>by rw[p];exact XY (by omega)
 have o:∀h,h<W.length->Zl d h=Zl B h+gN W (Zl f) h:=λh a=>by rw[g];exact XY (by omega)
 refine⟨_,_,_,_,N,d,G,j,λz=>⟨λx=>Zl S x+(-1)*Zl f x,λh a=>?_⟩,λ⟨Y,C⟩=>?_⟩
 ·have E:=n h a;have M:=o h a;rw[Vm (Zl S) (λx=>(-1)*Zl f x),XX];rw[z] at E;omega
 ·obtain⟨T,u⟩:∃T:Nat->Int,T=λx=>(λx=>Y x+Zl f x) x+(λx=>(-1)*Zl S x) x:=⟨_,rfl⟩;have e:∀h,h<W.length->Zl d h=Zl N h+gN W T h:=λh a=>by rw[u,Vm (λx=>Y x+Zl f x) (λx=>(-1)*Zl S x),Vm Y (Zl f),XX,n h a,o h a,C h a];omega
  have one:=RW ok l st k e;refine Wy (by omega) λi I=>?_;rw[e i (by omega),P7 (c:=T b) one (by omega)];omega
theorem HX(ok:ZE W)(X:Xr W)(I:W.length<=5)(J:(Vz W).length<=8)(x:W.length=m+1)(o:A.length=W.length)(w:B.length=W.length)(N:∀h,h<W.length->(Zl A h).natAbs<=10^29)(F:∀h,h<W.length->(Zl B h).natAbs<=10^29)(t:B.sum=A.sum) :
  ∃R R':List Int,XJ [wP W,pP A]=aA (pP (A.sum::R))/\XJ [wP W,pP B]=aA (pP (A.sum::R'))/\(R=R'↔Ak W A B):=by
 obtain⟨E,S,bk,fo,eP,q,C,U,Z⟩:=LH ok X I J x;have O:(10:Nat)^29<2^100:=by decide
 have p:∀D:List Int,D.length=W.length->(∀h,h<W.length->(Zl D h).natAbs<=10^29)->XJ [wP W,pP D]=aA (pP (D.sum::ZV m λi=>Mq m (Sl m E) D i%E i i)):=λD hd M=>by have r:=LI (m:=m) (L:=Sl m E) (R:=HQ m E) (bk:=bk) (fo:=fo) (v:=λi=>E i i) (D:=D) (by omega) (by omega) (λi j b u=>Jd (G:=S+101) (av (U i j b u) (cw (by omega) (by omega))) (a9 (show _<2^100 by have:=M (j+1) (by omega);omega) (PM.pw2 (by omega))) (by omega) (by omega)) (λi b=>q.d2 i b);refine Y9 (ret (Lr (o2 (a:=pP [D.sum]) (Zdr (c1 rfl (Lm D))) (c2 (c1 rfl eP) rfl r) ?_)));rw[JX (by rw[eH,ZG];omega)];rfl
 have ea:=p A o N;have s:=p B w F;rw[t] at s;refine⟨_,_,ea,s,?_⟩;obtain⟨D,n⟩:∃D:List Int,D=ZV W.length λh=>Zl A h-Zl B h:=⟨_,rfl⟩;have y:D.length=W.length:=by rw[n,ZG]
 have f:∀h,h<W.length->Zl D h=Zl A h-Zl B h:=λh c=>by rw[n,Yn c]
 have H:D.sum=0:=by rw[WV,y,Zi (g:=λh=>Zl A h+(-1)*Zl B h) λh c=>by rw[f h c];omega,ZY,ZC];rw[WV,WV A,o,w] at t;omega
 have T:Ak W A B↔∃Y:Nat->Int,∀h,h<W.length->1*Zl D h+gN W Y h=0:=
  ⟨λ⟨Y,k⟩=>⟨Y,λh c=>by have:=k h c;rw[f h c];omega⟩,λ⟨Y,k⟩=>⟨Y,λh c=>by have:=k h c;rw[f h c] at this;omega⟩⟩
 rw[T,Ob ok x y H,<-PM.image q (λj=>Zl D (j+1)) 1]
 have d:∀i,i<m->(Mq m (Sl m E) A i%E i i=Mq m (Sl m E) B i%E i i↔E i i∣1*sN m (λj=>E i (m+j)*Zl D (j+1))):=λi b=>by
  have e:sN m (λj=>E i (m+j)*Zl D (j+1))=Mq m (Sl m E) A i-Mq m (Sl m E) B i:=by have P:Mq m (Sl m E) A i=sN m λj=>E i (m+j)*Zl A (j+1):=rfl;have Q:Mq m (Sl m E) B i=sN m λj=>E i (m+j)*Zl B (j+1):=rfl;rw[P,Q,Zi (g:=λj=>E i (m+j)*Zl A (j+1)+(-1)*(E i (m+j)*Zl B (j+1))) λj u=>by rw[f (j+1) (by omega),dt];omega,ZY,ZC];omega
  rw[e,fQ,Int.emod_eq_emod_iff_emod_sub_eq_zero];exact⟨Int.dvd_of_emod_eq_zero,Int.emod_eq_zero_of_dvd⟩
 constructor
 ·intro z i b;refine(d i b).mp ?_;have:=congrArg (λl=>Zl l i) z;simp only[Yn b] at this;exact this
 ·intro z;refine Wy (by rw[ZG,ZG]) λi b=>?_;rw[ZG] at b;rw[Yn b,Yn b];exact(d i b).mpr (z i b)
theorem mulL{k:Int}{P:List Int}{f:XE}{s:ZF}{i:Nat}(b : -(2^64)<k/\k<2^64)(e:P.length<=100)(q:f s=aA (pP P))(c:(s[i]?).join=aA (.int k)):Zc ZI [Zt 1 [i] (SE f) (.one 0) Zz (Zk R5 (Za 1) (Za 0))] s=aA (pP (P.map λx=>k*x)):=by refine c1 (a:=.lst (iL (P.map λx=>k*x))) ?_ (YB _);refine P5 (λx=>k*x) (T6 q) (by omega) λx d=>⟨[aA (.int x),aA (.int k)],?_,rfl,vC (C:=CMul) (op:=(· * ·)) rfl rfl (AA b)⟩;show aA (List.set [none,(s[i]?).join] 0 (aA (PV.int x)))=_;rw[c];rfl
theorem Oe{k:Int}{P:List Int}{h:Nat}(a:h<P.length):Zl (P.map λx=>k*x) h=k*Zl P h:=by rw[P4,Z1 a]
theorem Io{l:List Int}{n:Nat}(h:l.length=n):l=ZV n (Zl l):=by have:=P4 l λx=>x;rw[List.map_id'] at this;rw[<-h];exact this
theorem Jh(ok:ZE W)(H:Xr W)(U:W.length<=5)(h8:(Vz W).length<=8)(hm:W.length=m+1)(y:A.length=W.length)(G:B.length=W.length)(bA:∀h,h<W.length->(Zl A h).natAbs<=10^23)(R:∀h,h<W.length->(Zl B h).natAbs<=10^23)(hs:B.sum=A.sum):SW [wP W,pP A,pP B]=aA (.bl aC):=by
 have hp:=ok.pos;obtain⟨P,n⟩:∃P:List Int,P=ZV W.length λh=>Zl A h-Zl B h:=⟨_,rfl⟩;have u:P.length=W.length:=by rw[n,ZG]
 have C:∀h,h<W.length->Zl P h=Zl A h-Zl B h:=λh c=>by rw[n,Yn c]
 have sP:P.sum=0:=by rw[WV,u,Zi (g:=λh=>Zl A h+(-1)*Zl B h) λh c=>by rw[C h c];omega,ZY,ZC];rw[WV,WV A,y,G] at hs;omega
 have F:∀h,h<W.length->(Zl P h).natAbs<=10^29:=λh c=>by have h1:=bA h c;have h2:=R h c;rw[C h c];omega
 obtain⟨E,q,X,eR,eX,x4,q0,i,ql,q1,e1,qd⟩:=Ek (D:=P) ok H U h8 hm u sP F;obtain⟨Z,l⟩:∃Z:List Int,Z=ZV W.length λ_=>0:=⟨_,rfl⟩;have lZ:Z.length=W.length:=by rw[l,ZG]
 have w:∀h,h<W.length->Zl Z h=0:=λh c=>by rw[l,Yn c]
 have L:∀k:Nat,k<=2^17->∀h,h<W.length->(Zl (P.map λx=>(k:Int)*x) h).natAbs<=2^208:=λk s h c=>by rw[Oe (by omega),dX,jq];refine aP (dG s (F h c)) (by decide)
 have bZ:∀h,h<W.length->(Zl Z h).natAbs<=2^208:=λh c=>by rw[w h c];exact dW _
 have f:∀k:Nat,k<=2^17->(q∣k/\∃O,Y5 [wP W,pP (P.map λx=>(k:Int)*x),pP Z]=aA (pP (ZP O)))\/(¬q∣k/\Y5 [wP W,pP (P.map λx=>(k:Int)*x),pP Z]=aA .non):=λk s=>by
  have T:(P.map λx=>(k:Int)*x).length=W.length:=by rw[aM];exact u
  have d:q∣k↔∃Y:Nat->Int,∀h,h<W.length->Zl Z h=Zl (P.map λx=>(k:Int)*x) h+gN W Y h:=by rw[qd k];exact⟨λ⟨Y,o⟩=>⟨Y,λh c=>by rw[w h c,Oe (by omega),o h c]⟩,λ⟨Y,o⟩=>⟨Y,λh c=>by have:=o h c;rw[w h c,Oe (by omega)] at this;exact this.symm⟩⟩
  rcases Nc ok H T lZ (L k s) bZ with⟨O,lO,I,t⟩ | ⟨J,Q⟩
  ·refine .inl ⟨d.mpr ⟨Zl O,λh c=>?_⟩,O,t⟩;rw[I,XY (by omega)]
  ·exact .inr ⟨λz=>Q (d.mp z),J⟩
 have M:∃O,Y5 [wP W,pP (P.map λx=>(q:Int)*x),pP Z]=aA (pP (ZP O)):=by
  rcases f q i with⟨_,h⟩ | ⟨h,_⟩
  ·exact h
  ·exact absurd (Nat.dvd_refl q) h
 obtain⟨O,t⟩:=M;have qb : -(2^64)<(q:Int)/\(q:Int)<2^64:=by omega
 have N:q=1\/(q≠1/\Y5 [wP W,pP P,pP Z]=aA .non):=by
  by_cases z:q=1
  ·exact .inl z
  ·rcases f 1 (by decide) with⟨h,_⟩ | ⟨_,h⟩
   ·exact absurd (Nat.dvd_one.mp h) z
   ·have e:(P.map λx=>((1:Nat):Int)*x)=P:=(ao (g:=id) λx _=>fQ x).trans (List.map_id _);rw[e] at h;exact .inr ⟨z,h⟩
 have S:Zt 2 [] (Um aB aB [Za 1,Za 2]) (.many [0,1]) Zz (Zk Wb (Za 0) (Za 1)) (ZJ 6 [wP W,pP A,pP B])=aA (.lst (iL P)):=by rw[n];refine Xu (q:=λj=>.tup [.int (Zl A j),.int (Zl B j)]) (λj=>Zl A j-Zl B j) ?_ (by omega) λj hj=>⟨_,rfl,HZ rfl rfl⟩;have:Ve (iL (ZV W.length (Zl A))) (iL (ZV W.length (Zl B)))=(aF W.length).map λj=>.tup [.int (Zl A j),.int (Zl B j)]:=Mn;rw[<-Io y,<-Io G] at this;rw[<-this];rfl
 refine Sg (ZD (Zm (Lr (c1 S (YB _)))) (ZD (Zm (v:=pP Z) (Lr (c1 (o2 rfl (c1 rfl Ul) (Be (by omega))) (by rw[l];rfl)))) (ZD (Zm (c2 rfl rfl eR)) (ZD (JW ?_) (ZD (JW (isF (c3 rfl (mulL qb (by omega) rfl rfl) rfl t) rfl)) (Yu (ep (v:=.bl aC) ?_) rfl))))))
 ·refine gP (xo (p:=aB) (p2:=aB) (xn (xb (c1 rfl (Im _)))) (xb (gP (o2 rfl rfl rfl) ?_))) rfl;show aA (PV.bl (decide ((q:Int)<1)))=_;rw[decide_eq_false (by omega)]
 ·rw[Ds];rcases N with h | ⟨h,e⟩
  ·rw[xb (H9 (a:=q) (b:=1) rfl rfl),decide_eq_true (by omega)];rfl
  ·rw[xb (H9 (a:=q) (b:=1) rfl rfl),decide_eq_false (by omega)];show Uu aB _ _=_;rw[M4,c3 (D:=Y5) rfl rfl rfl e];rfl
end
theorem Ew(a:List Int)(lo b:Option Int):∃L:List Int,Xg (iL a) lo b=iL L/\L.length<=a.length:=by
 refine⟨(a.drop (HT.sIx (iL a).length 0 lo)).take (HT.sIx (iL a).length (iL a).length b-HT.sIx (iL a).length 0 lo),?_,?_⟩
 ·unfold Xg;rw[<-iY,<-iX]
 ·rw[ay,bK];omega
theorem law_true(d:List Int)(f:d.length<=63)(Y:∀n∈d,n.natAbs.log2<=1048576):D_law [.cst (iL d)]=aA (.bl aC):=by
 obtain⟨W,U,ok,D,w,P⟩:=Es f Zdp;have hp:=ok.pos;obtain⟨m,S⟩:∃m,W.length=m+1:=⟨W.length-1,by omega⟩;obtain⟨b,hb,eb⟩:=Yl (Zl d 13) (t:=317) (m:=W.length) (by omega) (by omega);obtain⟨L,eL,lL⟩:=Ew d (aA 13) (aA 24);have b1:(10:Nat)^22<=2^208:=by decide
 have b2:(10:Nat)^23<=2^208:=by decide
 have b3:(10:Nat)^22<=10^29:=by decide
 have b4:(10:Nat)^23<=10^29:=by decide
 have b5:(10:Nat)^22<=10^23:=by decide
 refine Sg (ZD (Zm (c3 rfl rfl rfl U)) (ZD (Zm (c3 (c2 rfl rfl (Sn f 13)) rfl (c1 rfl Ul) eb)) (XD (RF (ls:=iL (Zl d 12::L)) (λi s=>∃I J O M G,s=[aA (.cst (iL d)),aA (wP W),aA (.int (b:Int)),I,J,O,M,G]) ?_ ⟨_,_,_,_,_,rfl⟩ ?_) ?_)))
 ·have e1:WX [Zc Vf [Za 0,eC (.int 12)]] (Xh [] [aA (.cst (iL d)),aA (wP W),aA (.int (b:Int)),none,none,none,none,none])=aA (.lst (iL [Zl d 12])):=Zds (c2 rfl rfl (Sn f 12));have e2:Up Xx (Za 0) (WN (eC (.int 13))) (WN (eC (.int 24))) (Xh [] [aA (.cst (iL d)),aA (wP W),aA (.int (b:Int)),none,none,none,none,none])=aA (.lst (iL L)):=by rw[<-eL];rfl
  have e3:Uh (.lst (iL [Zl d 12])) (.lst (iL L))=aA (.lst (iL (Zl d 12::L))):=by unfold Uh;simp only[];rw[lQ ⟨by rw[aM,aM,eH];omega,Z4 _,Z4 _⟩,<-cT];rfl
  exact congrArg (λo=>k3 o Al) (o2 e1 e2 e3)
 ·rintro i l s g ⟨I,J,O,M,G,rfl⟩
  obtain⟨c,rfl⟩:∃c,l = .int c:=by
   rw[aU] at g
   cases h:(Zl d 12::L)[i]? with
   | none=>rw[h] at g;cases g
   | some c=>rw[h] at g;cases g;exact⟨c,rfl⟩
  obtain⟨A,eA,j,x⟩:=Et hp w c;obtain⟨B,eB,C,sB,E⟩:=Eu ok w j x c;have u:∀h,h<W.length->(Zl A h).natAbs<=2^208:=λh e=>aP (x h e) b1;have v:∀h,h<W.length->(Zl B h).natAbs<=2^208:=λh e=>aP (E h e) b2;obtain⟨p,ep,q⟩:=Jf ok D j C u v;obtain⟨R,R',eR,H,T⟩:=HX ok D w P S j C (λh e=>aP (x h e) b3) (λh e=>aP (E h e) b4) sB;obtain⟨y,z,y',z',N,Q,eS,F,hN⟩:=Jg ok D hb j C u v;have X:=Jh ok D w P S j C (λh e=>aP (x h e) b5) E sB;have Z:decide ((A.sum::R)=(A.sum::R'))=p:=by rw[f9,decide_eq_true_iff,q,<-T];exact⟨λh=>(List.cons.inj h).2,λh=>by rw[h]⟩
  have d2:decide (N=Q)=p:=by rw[f9,decide_eq_true_iff,q,<-hN]
  refine⟨_,rfl,Z3 (Zm (c2 rfl rfl eA)) (Z3 (Zm (c3 rfl rfl rfl eB)) (Z3 (Zm (c3 rfl rfl rfl ep)) (Z3 (Zm (Zdt (c2 rfl rfl eR) (c2 rfl rfl H))) (Z3 (JW ?_) (Z3 (JW ?_) (Z3 (JW ?_) (RE (JW ?_) ⟨_,_,_,_,_,rfl⟩)))))))⟩
  ·refine gP (xo (p:=aB) (p2:=aB) (isF rfl rfl) (gP (xo (p:=aB) (p2:=aB) (xn (xb (p:=aC) rfl)) (xb (gP (o2 (a:=.int A.sum) (b:=.int A.sum) (o2 (a:=pP (A.sum::R)) rfl rfl (YN (l:=A.sum::R) (k:=0) (by simp))) (c1 rfl (As A)) (VZ aC _ _)) (by simp)))) rfl)) rfl
  ·exact xb (o2 rfl (o2 rfl rfl ((NM aB _ _).trans (by rw[Z];rfl))) (bbN p))
  ·exact xb (o2 rfl (o2 (a:=pP N) (b:=pP Q) (o2 (c3 rfl rfl rfl eS) rfl rfl) (o2 (c3 rfl rfl rfl F) rfl rfl) ((NM aB _ _).trans (by rw[d2];rfl))) (bbN p))
  ·exact xn (xb (c3 rfl rfl rfl X))
 ·rintro s ⟨I,J,O,M,G,rfl⟩;exact Yu (ep rfl) rfl
end PW
namespace PW
open PySem L2 VL
theorem all_mk{P:b9}{w:cW}{K:aE}{mg:aq->Option aI}{fa:aL}(hfa:mg "law" = aA (.ref fa))(B:X2 mg)(T:P.given.tree=none)
  (d0:Def K mg "_law_pick" Pr)
  (d1:Def K mg "_law_read_web" V8)
  (d2:Def K mg "_law_at" Kv)
  (d3:Def K mg "_law_web" NZ)
  (d4:Def K mg "_law_purse" S9)
  (d5:Def K mg "_law_lend" Pu)
  (d6:Def K mg "_law_other" Ra)
  (d7:Def K mg "reduced" Rc)
  (d8:Def K mg "evened" Pw)
  (d9:Def K mg "solved_below" WT)
  (d10:Def K mg "ties_at" Rf)
  (d11:Def K mg "row_of" Px)
  (d12:Def K mg "square_without" XN)
  (d13:Def K mg "nearing" Rh)
  (d14:Def K mg "gain" KG)
  (d15:Def K mg "run" Fv)
  (d16:Def K mg "in_debt" Rj)
  (d17:Def K mg "borrowing" UG)
  (d18:Def K mg "plus" KJ)
  (d19:Def K mg "least" N2)
  (d20:Def K mg "ties_to" Rk)
  (d21:Def K mg "house_to_burn" Wk)
  (d22:Def K mg "burnt" N3)
  (d23:Def K mg "settle" Py)
  (d24:Def K mg "minus" N4)
  (d25:Def K mg "alike" N5)
  (d26:Def K mg "_law_whole" Rq)
  (d27:Def K mg "_law_wholes" Tx)
  (d28:Def K mg "_law_alike" Rr)
  (d29:Def K mg "by_row" Pz)
  (d30:Def K mg "rests" N6)
  (d31:Def K mg "total" N7)
  (d32:Def K mg "square_of" UH)
  (d33:Def K mg "unit_row" Tz)
  (d34:Def K mg "block_of" TB)
  (d35:Def K mg "rows_to_clear" Wl)
  (d36:Def K mg "less" KS)
  (d37:Def K mg "cleared_below" Wm)
  (d38:Def K mg "turned_over" Vj)
  (d39:Def K mg "crossed_out" Vk)
  (d40:Def K mg "unfit_row" UI)
  (d41:Def K mg "part_found" V9)
  (d42:Def K mg "divided" Rw)
  (d43:Def K mg "row_by_column" Wn)
  (d44:Def K mg "row_times" UJ)
  (d45:Def K mg "multiplied" Ua)
  (d46:Def K mg "parts" Me)
  (d47:Def K mg "place_of" TC)
  (d48:Def K mg "common_divisor" XQ)
  (d49:Def K mg "round_of" TF)
  (d50:Def K mg "_law_round" Rz)
  (d51:Def K mg "law" FG)
  : ∃fd:eh,(∀(s:aO)(u:aI),jv s fd ⟨[u],[]⟩ [("_law_script",u)])/\∀base:bp,K.In base->base.Ns cq mg->RY P w K mg base L3 42 fa fd ["_law_script"] (YX K D_law 1):=by
 refine GY d51 hfa (λ_ _ _ _ _ _ _=>rfl) λbase f fd _ _ F=>?_;have C_l_pick:Vy P w K mg base:=Hq d0 B;have C_l_read_web:V5 P w K mg base:=Ov d1 B;have C_l_at:NU P w K mg base:=DK d2 B;have C_p_web:NV P w K mg base:=Fu d3 B C_l_at C_l_read_web C_l_pick;have C_t_purse:SX P w K mg base:=Kw d4 B C_l_pick;have C_l_lend:Sb P w K mg base:=Hr d5 B;have C_t_other:SY P w K mg base:=Kx d6 B C_l_lend C_l_pick;have C_reduced:S1 P w K mg base:=Kz d7 B;have C_evened:Po P w K mg base:=Hs d8 B C_reduced;have C_solved_below:WS P w K mg base:=Qd d9 B C_evened;have C_ties_at:S2 P w K mg base:=KC d10 B;have C_row_of:Pp P w K mg base:=Hu d11 B C_ties_at;have C_square_without:Y8 P w K mg base:=Se d12 B C_row_of;have C_nearing:S3 P w K mg base:=KD d13 B C_solved_below C_square_without;have C_gain:Kt P w K mg base:=DM d14 B;have C_run:Ft P w K mg base:=AH d15 B C_gain;have C_in_debt:S4 P w K mg base:=KI d16 B;have C_borrowing:UB P w K mg base:=N1 d17 B;have C_plus:Ku P w K mg base:=DO d18 B;have C_least:Qr P w K mg base:=Fw d19 B;have C_ties_to:S5 P w K mg base:=KO d20 B;have C_house_to_burn:Wg P w K mg base:=Rl d21 B C_ties_to;have C_burnt:NW P w K mg base:=Fx d22 B C_house_to_burn;have C_settle:Sd P w K mg base:=Hv d23 B C_nearing C_run C_in_debt C_borrowing C_plus C_burnt C_least;have C_minus:NX P w K mg base:=Fz d24 B;have C_alike:Qs P w K mg base:=FA d25 B C_settle C_least C_minus;have C_l_whole:U5 P w K mg base:=KQ d26 B;have C_l_wholes:Ts P w K mg base:=Lf d27 B C_l_whole;have C_t_alike:S6 P w K mg base:=KR d28 B C_alike C_l_wholes C_l_lend;have C_by_row:Pq P w K mg base:=Hx d29 B;have C_rests:Qt P w K mg base:=FC d30 B C_by_row;have C_total:Qu P w K mg base:=FE d31 B;have C_square_of:UC P w K mg base:=N9 d32 B C_square_without;have C_unit_row:Tt P w K mg base:=Lh d33 B;have C_block_of:Tu P w K mg base:=Li d34 B C_unit_row;have C_rows_to_clear:Wh P w K mg base:=Ru d35 B;have C_less:NY P w K mg base:=DQ d36 B;have C_cleared_below:Wi P w K mg base:=Rv d37 B T C_rows_to_clear C_less;have C_turned_over:Vh P w K mg base:=PD d38 B;have C_crossed_out:Vi P w K mg base:=PF d39 B C_cleared_below C_turned_over;have C_unfit_row:UD P w K mg base:=Ma d40 B;have C_part_found:V6 P w K mg base:=Ox d41 B C_crossed_out C_unfit_row C_less;have C_divided:S7 P w K mg base:=KW d42 B;have C_row_by_column:Wj P w K mg base:=Ry d43 B;have C_row_times:UE P w K mg base:=Md d44 B C_row_by_column;have C_multiplied:V7 P w K mg base:=Oz d45 B C_row_times;have C_parts:Qv P w K mg base:=FF d46 B C_square_of C_block_of C_part_found C_divided C_multiplied;have C_place_of:Tv P w K mg base:=Lk d47 B C_total C_rests C_parts;have C_common_divisor:XM P w K mg base:=Sf d48 B;have C_round_of:Tw P w K mg base:=Ll d49 B C_total C_parts C_rests C_common_divisor;have C_t_round:S8 P w K mg base:=KY d50 B C_round_of C_l_whole C_alike;exact AI F B C_p_web C_l_pick C_l_at C_t_purse C_t_other C_t_alike C_place_of C_settle C_t_round
end PW
namespace PySem.W.Fast
def tw12604047065606062547:=()
def tw7619122619718927656:=()
def tw14117575856888305966:=()
def tw2800204635046496983:=()
def tw8509907115274989714:=()
def tw10311726524360118543:=()
def tw10352974520732143080:=()
def tw7050933754229135364:=()
def tw9536805319552706282:=()
def tw1204424272168605998:=()
def tw5659795818637254334:=()
def tw15311313387275302519:=()
def tw16241601656059538668:=()
def tw12934525093018640799:=()
def tw11885414751227332887:=()
def tw5759491204264610643:=()
def tw15858778052572848796:=()
def tw1505484085788006933:=()
def tw8763509322052050005:=()
def tw319345392569506533:=()
def tw12822495591903756135:=()
def tw15713710419902162179:=()
def tw7322393437314557064:=()
def tw14877293244054249055:=()
def tw4200192504123055146:=()
def tw6670941885453255893:=()
def tw6160614699967510339:=()
def tw10185013869373460738:=()
def tw124737202450034924:=()
def tw10532220519164204695:=()
def tw14700824196367710427:=()
def tw4736998375040218105:=()
def tw15114311975230292184:=()
def tw18420757080921402217:=()
def tw3842213708875601995:=()
def tw10221670426175453144:=()
def tw14132270097589340348:=()
def tw15383737815081705176:=()
def tw16966181706352453263:=()
def tw11925312225720178552:=()
def tw14268920994728415804:=()
def tw16115824635132355554:=()
def tw257094683837542138:=()
def tw6186221583727866263:=()
def tw17018624814076947566:=()
def tw17953929319503034831:=()
def tw12564010040642318298:=()
def tw12581942432868609058:=()
def tw2037243497759654187:=()
def tw10579297802589107649:=()
def tw13025351897552040637:=()
def tw6318676668182175925:=()
def tw10069158351416209587:=()
def tw13775755353873356774:=()
def tw15005355339713283235:=()
def tw1687009616234912833:=()
def tw18287331577639891832:=()
def tw12705121813841280670:=()
def tw17420604069297159444:=()
def tw9846939498170572812:=()
def tw7057390417684834275:=()
def tw9985782129722493776:=()
def tw5086069466842023141:=()
def tw17867720341428197413:=()
def tw16349649003971035760:=()
def tw6622373561605738567:=()
def tw14397698652578942596:=()
def tw7254165122498908691:=()
def tw13852563428950663718:=()
def tw5064122788874973079:=()
def tw4907652378315876676:=()
def tw674979485437742279:=()
def tw7132517840686151894:=()
def tw2318662329781873834:=()
def tw12492046121371334026:=()
def tw4287576455043574969:=()
def tw2416552055995845182:=()
def tw9510682771439072558:=()
def tw5278414551357304911:=()
def tw13230268688792141520:=()
def tw7488330942938608610:=()
def tw7192351338538837589:=()
def tw11819425989857861854:=()
def tw10478529222003514688:=()
def tw7812179452478622140:=()
def tw15419393321094701924:=()
def tw17921305330181135900:=()
def tw6258618928636068062:=()
def tw9726294688370178214:=()
def tw15324635465058731552:=()
def tw5139924296710724469:=()
def tw16354316861598792887:=()
def tw4208942687839258574:=()
def tw17028341229302769837:=()
def tw18256350354144139101:=()
def tw12202672368503745334:=()
def tw13759861109988981096:=()
def tw9714498613892308614:=()
def tw16166508435330215626:=()
def tw277716054996334455:=()
def tw4073893807166116266:=()
def tw13475295864415545711:=()
def tw11416113526871951436:=()
def tw16218259729663527266:=()
def tw8264299406475131239:=()
def tw1372667646323071084:=()
def tw4270533645522010296:=()
def tw3817774623467246573:=()
def tw12411985218850643227:=()
def tw15151159609452758573:=()
def tw11474412991043918159:=()
def tw13803446388874249384:=()
def tw6264186254334398528:=()
def tw10813753189309857107:=()
def tw162795962909829546:=()
def tw11145553770298218189:=()
def tw17319300446925775951:=()
def tw18124119764292374334:=()
def tw10337038118056911760:=()
def tw2272508905770536031:=()
end PySem.W.Fast
open PySem PySem.W PyProof.Rows
set_option maxRecDepth 100000 in
set_option maxHeartbeats 0 in
theorem PySem.Challenge.cw_purseweb_k92_whole_two_roads_to_alike_holds : PySem.Challenge.rw_purseweb_k92_whole_two_roads_to_alike.Holds := by
 w_on;o_law;k_head;(case hw=>w_witness2)
 k_fill
 refine VL.law_walkB (l:=gi) (D:=PW.D_law) (x:="_law_script") 42 rfl rfl ⟨rfl,by decide,by decide,rfl⟩ (λw=>VL.noLam (by kernel_rfl)) PW.law_true (λw h Y=>PySem.W.kIn_of Y) ?F
 case F=>
  intro w mg fa h KX G hmg
  refine' PW.all_mk hmg ?B rfl ?d0 ?d1 ?d2 ?d3 ?d4 ?d5 ?d6 ?d7 ?d8 ?d9 ?d10 ?d11 ?d12 ?d13 ?d14 ?d15 ?d16 ?d17 ?d18 ?d19 ?d20 ?d21 ?d22 ?d23 ?d24 ?d25 ?d26 ?d27 ?d28 ?d29 ?d30 ?d31 ?d32 ?d33 ?d34 ?d35 ?d36 ?d37 ?d38 ?d39 ?d40 ?d41 ?d42 ?d43 ?d44 ?d45 ?d46 ?d47 ?d48 ?d49 ?d50 ?d51
  case B=>constructor<;>(refine PySem.W.mg_none_of KX G ?_;k_is)
  case d0 | d1 | d2 | d3 | d4 | d5 | d6 | d7 | d8 | d9 | d10 | d11 | d12 | d13 | d14 | d15 | d16 | d17 | d18 | d19 | d20 | d21 | d22 | d23 | d24 | d25 | d26 | d27 | d28 | d29 | d30 | d31 | d32 | d33 | d34 | d35 | d36 | d37 | d38 | d39 | d40 | d41 | d42 | d43 | d44 | d45 | d46 | d47 | d48 | d49 | d50 | d51=>(refine' L2.def_mk KX G ?a ?l ?c ?k;(case a=>k_is);(case l=>k_is);(case c=>k_is);(case k=>k_is))
