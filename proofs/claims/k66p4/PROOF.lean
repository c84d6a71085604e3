import PyProof.Rows.All
import Wide.All
import OpenK.AllK
import Wide.FinOn
import Lean
import PyProof.EqAt
import PyProof.EqKinds
import PyProof.TupleCall
import PyProof.NeKinds
import PyProof.ListMulRoad
import PyProof.WalkInts
import PyProof.ListRange
import KE.KRevIter
import KE.KSortTup
import KE.KDictSum
import PyProof.Rows.SortWalk
import PyProof.ExcInit
import PyProof.InstStoreFacts
import OpenK.KMake
import OpenK.KCls
import PyProof.FString2
import PyProof.TupleOfSeq
import KE.KUnpack
import PySem.Challenge.RW_purseweb_k66_whole_each_place_is_reached
open Option renaming some → aA,bind_some → aY,isSome_iff_exists → bc,map_some → dZ,getD_none → jx,none → kf,some → ax
open Bool renaming false → aB,true → aC,false_ne_true → bO,and_eq_true → bT,eq_iff_iff → i8
open PySem.W renaming Frag → aD,kitOne → cG,kia_one → cJ,codeIn → cY,fnOf → cg,findIn → fC,keepIn → fZ,nsIn → gA,cellsFrom_some → iS,instObj → iZ,lookIn → il,kitx_list → jc,kitx_dict → jd,plainGet → jv,mroIn → kY,ktsIn → k6
open List renaming range → aE,getD_eq_getElem?_getD → aH,getElem?_eq_getElem → aI,length_map → aN,size_toArray → aP,mem_range → aQ,getElem?_eq_some_iff → aR,mem_cons_of_mem → aT,replicate → aV,getElem?_map → aW,mem_cons_self → aZ,mem_cons → a9,mem_append_right → af,mem_singleton → ag,getElem?_append_left → ah,map_congr_left → ak,all_eq_true → ar,getElem?_set → au,length_append → bA,getElem?_append_right → bI,getElem?_range → bJ,nodup_cons → bK,length_take → bP,lookup_cons → bQ,getElem?_eq_none → bV,mem_append_left → bX,getElem?_replicate → b0,mem_append → b6,length_cons → b9,take_of_length_le → ba,mem_map → bb,length_range → bj,mem_of_getElem? → cH,length_set → cK,length_drop → cL,map_map → cM,map_append → cU,ext_getElem? → cj,length_replicate → cu,not_mem_nil → cy,getElem_mem → cz,nodup_nil → dC,append_nil → dG,replicate_succ → dJ,getElem?_drop → dQ,length_singleton → dW,mem_iff_getElem → dc,getElem?_take_of_lt → dj,map_cons → dk,length_pos_iff → dw,take_length → eA,any_eq_true → eH,flatten_cons → eY,nodup_append → eh,getElem_of_mem → fK,range_succ → fP,length_eq_zero_iff → fU,any_eq_false → fX,append_assoc → fj,drop_eq_nil_of_le → fu,filter_cons → gP,length → gR,mem_of_mem_take → gU,mem_filter → gW,filterMap_cons → gZ,drop_zero → gm,getElem?_zip_eq_some → gu,mem_of_find?_eq_some → gv,all_cons → hW,set_eq_of_length_le → iA,map → iN,getElem?_set_self → iQ,of_mem_zip → i6,getElem?_set_ne → ig,take_zero → jC,sum_cons → jT,mem_filterMap → jW,foldl → jZ,zip_cons_cons → j3,find?_eq_none → j5,take_sublist → jg,all_map → jm,map_set → jo,getElem_inj → ju,sum_append → kH,find?_some → kJ,take_left' → kK,take_succ → kW,range_add → kX,take_nil → kZ,drop_nil → k4,map_take → k7,map_drop → k8
open PySem.Heap renaming get?_push_of_some → aF,lt_size → aS,get?_push_size → a0,size_push → bt,SameBut → cS,get?_update_other → iU,get?_update_self → ie,ExtBut → kE
open PySem renaming Value → aG,Addr → aJ,wpAny_bind → aM,Shared → aO,starEach → aX,wpAny_pure → aj,Str → ao,Expr → av,wpAny → bG,Program → bN,Heap → bW,foldedSetIterable → bY,Stmt → b7,Around → cA,World → cC,mainGlobals → cE,wpAny_field → cN,behindInMarks → cP,wpAny_mono → cZ,wpAny_truthy_bool → c9,mem_of_lookup → cp,bootBuiltins → dA,binaryOp → dB,wpAny_callSpecial?_slot → dD,wpAny_newObj_type → dE,Obj → dF,Scope → dM,NameKind → dO,wpAny_seqItems → dR,wpAny_setField_rec → dS,wpAny_passesOwn → dY,FuncData → dy,compareOp → eU,Pos → eu,backTo → fA,IsPair → fD,wpAny_call_entry → fG,wpAny_comprehension_free → fO,wpAny_ite_false → fQ,call_meets → fR,sliceBounds → fT,cLine → fY,wpAny_updateSeq_pair → gS,wpAny_execs_nil → gX,wpAny_loadPart' → gY,swapsWith → g9,cellsFrom → gg,assignEach → gi,wpAny_Call_Name_kw → gj,newFunctionEnv → gk,wpAny_binaryOp_repeat_ref → gq,wpAny_holding → hU,wpAny_onRaise → hV,bindArgs → iI,noFill_tuple_add → iJ,codeAny → iR,typeIs_int → iV,letOwnedTupleGo → i5,IsZip → i7,wpAny_isTrue_Compare1 → ic,rawInt → ij,sizeLine_eq → ik,recursionLimit → ip,compEnvC → iu,PassesOwn → jK,notedBy → jL,Builtin → jM,wpAny_standAt → jR,seq_tuple_add → jS,builtinsNs → jU,wpAny_pyIter_tuple → jV,IsPart → jX,BindsTo → je,codeAny_mono → jf,concat_meets → jh,seqIndex_neg → ji,callerA → jj,Env → jt,pushCells → jz,CmpOp → kC,seqIndex_of → kD,wpAny_letGo → kF,getItem → kO,isTrue → kQ,wpAny_Name → kR,bindL → kS,bindC → kT,wpAny_rule → kU,Within → k9,pyNext → kd,Result → ke
open Nat renaming le_refl → aL,le_trans → aU,lt_of_lt_of_le → aa,lt_of_le_of_lt → aq,le_mul_of_pos_right → az,ne_of_lt → bB,mul_le_mul_left → bR,mul_le_mul_right → bp,pow_lt_pow_right → bq,one_le_two_pow → br,mul_le_mul → bu,lt_irrefl → bz,zero_le → cO,le_of_lt → cQ,mul_comm → cT,min_eq_left → dH,lt_of_le_of_ne → dU,pow_succ → di,mul_assoc → dt,le_add_right → dz,le_of_dvd → eV,mul_left_comm → el,one_le_pow → fE,ne_of_gt → fF,pow_add → fW,le_succ_of_le → gC,le_mul_of_pos_left → gF,lt_succ_self → gM,not_lt → gO,pow_le_pow_left → g6,min_eq_right → iK,sub_zero → iX,le_succ → jA,add_mul → jF,one_mul → jG,pow_le_pow_right → jH,add_le_add_right → jI,add_left_cancel → jP,add_sub_cancel → j7,mod_lt → ja,lt_succ_of_lt → jl,lt_trichotomy → jq,mod_eq_of_lt → kB,log2_lt → kG,strongRecOn → kI,div_add_mod → kL
open Ne renaming symm → aw
open Option.some renaming inj → ay
open Int renaming mul_comm → bC,neg_mul → bH,mul_assoc → bS,mul_zero → bU,zero_mul → bZ,natAbs_mul → bh,natAbs_dvd_natAbs → cB,mul_left_comm → cD,mul_nonneg → cI,dvd_zero → cV,emod_lt_of_pos → cW,one_mul → cq,emod_nonneg → dI,fdiv_eq_ediv_of_nonneg → dN,le_refl → df,mul_sub → dh,mul_fdiv_cancel_left → dq,mul_le_mul_of_nonneg_left → eJ,lt_or_gt_of_ne → eM,toNat_natCast → eZ,le_of_mul_le_mul_left → fH,mul_add → fV,add_zero → gD,natAbs_neg → gE,dvd_refl → gG,mul_one → gQ,mul_neg → gV,le_of_lt → g7,zero_dvd → g8,not_lt → gn,eq_of_mul_eq_mul_left → gw,mul_neg_of_neg_of_pos → gx,natAbs_sub_le → gy,emod_eq_of_lt → gz,lt_mul_ediv_self_add → iG,dvd_mul_of_dvd_right → iH,eq_ofNat_of_zero_le → iO,fmod_nonneg_of_pos → iY,add_mul → jB,fdiv → jD,mul_ediv_self_le → jE,sub_eq_add_neg → j6,natCast_nonneg → j8,fmod_lt_of_pos → j9,zero_add → jn,sub_zero → jr,neg_fdiv_neg → kA
open PySem.NameKind renaming free → bM,cell → bg
open Classical renaming byContradiction → b5
open PyProof.Rows renaming callWith_type1 → cX,slot_tuple_getitem → du,envOfC → gL,AllBare → iP,subscriptTail_builtinR → iT,Constant_none → jQ,floordiv_int → jb
open True renaming intro → cw
open Eq renaming trans → dP
open PySem.Builtin.Slice renaming slicePlaces → dX,sliceAdjust → gp
open PySem.F renaming plainAttrs_list → eI,args_tuple_add_2 → fM,entry_tuple_add → fS,slot_tuple_add → f9,slot_list_insert → iB,type_list_insert → iC,slot_list_append → iD,type_list_append → iE
open False renaming elim → eK
open ForInStep renaming yield → eQ
open PySem.PassesOwn renaming never → eT
open Array renaming length_toList → fJ,toList_append → jN,toList → kc
open PySem.Builtin.Int renaming intBits → fL
open PySem.Builtin.List renaming listTooLong → fN
open PySem.Challenge renaming pw_purseweb_k66_whole_each_place_is_reached → gH,rw_purseweb_k66_whole_each_place_is_reached → gJ
open PySem.Calls renaming Name_function_global → gh
open PySem.Builtin.SmallTypes renaming nextOf → gs
open PySem.W.WData renaming weightAll → iM,int → jy
open PySem.SeqAt renaming EqAt → iW
open PySem.SeqAt.EqAt renaming same → i9,of_refs → j4
open Or renaming inr → ir,inl → j1
open PySem.Value renaming int → jJ,ref → js,type → kP
open PySem.Heap.SameBut renaming update → jO
open PySem.Obj renaming mapSeq → jY,data_mapFields → j2
open PyProof.Rows.IsTup renaming new → jw
open Sum renaming inl → kM,inr → kN
open PySem.Shared renaming heap → kg
open PySem.PylongRoom renaming of → kh
theorem kz.{u}{c:Prop}{h:Decidable c}(a:c){b:Sort u}{t e:b}:ite c t e=t:=if_pos a
theorem l4.{u}{c:Prop}{h:Decidable c}(a:Not c){b:Sort u}{t e:b}:ite c t e=e:=if_neg a
noncomputable section
set_option Elab.async false
set_option linter.all false
set_option maxRecDepth 100000
namespace L2
open PySem PySem.Spec PyProof.Rows
abbrev Pn:=Sum Int ao
noncomputable def DP:Pn->aG->Bool
 | .inl k,v=>aG.isInt k v
 | .inr x,v=>aG.isStrOf x v
noncomputable def Za9(w:cC):Pn->Int
 | .inl k=>hashInt k
 | .inr x=>hashStr w x
theorem Yl:∀{k:Pn}{v:aG},DP k v=aC->(∃i t,k=kM i/\v=jJ i t)\/(∃x t,k=kN x/\v=aG.str x t)
 | .inl i,v,h=>by obtain⟨t,e⟩:=aG.isInt_shape h;exact .inl ⟨i,t,rfl,e⟩
 | .inr x,v,h=>by obtain⟨t,e⟩:=aG.isStrOf_shape h;exact .inr ⟨x,t,rfl,e⟩
theorem Ct(a b:Int):decide ((kM a:Pn)=kM b)=(a==b):=by grind
theorem Cu(a b:ao):decide ((kN a:Pn)=kN b)=decide (a=b):=by simp
theorem Cv(a:Int)(b:ao):decide ((kM a:Pn)=kN b)=aB:=decide_eq_false (λq=>nomatch q)
theorem Cy(a:ao)(b:Int):decide ((kN a:Pn)=kM b)=aB:=decide_eq_false (λq=>nomatch q)
noncomputable def KD(prog:bN)(w:cC):PySem.KeyKind prog w Pn where
 is:=DP
 hash:=Za9 w
 inj:=λv a b ha hb=>by
  rcases Yl ha with⟨i,t,rfl,rfl⟩ | ⟨x,t,rfl,rfl⟩
  ·rcases Yl hb with⟨j,u,rfl,e⟩ | ⟨y,u,rfl,e⟩
   ·injection e with e1 _;rw[e1]
   ·exact nomatch e
  ·rcases Yl hb with⟨j,u,rfl,e⟩ | ⟨y,u,rfl,e⟩
   ·exact nomatch e
   ·injection e with e1 _;rw[e1]
 byValue:=λk v h=>by rcases Yl h with⟨i,t,rfl,rfl⟩ | ⟨x,t,rfl,rfl⟩<;>rfl
 pyHash:=λhv h=>by
  rcases Yl hv with⟨i,t,rfl,rfl⟩ | ⟨x,t,rfl,rfl⟩
  ·exact wpAny_pyHash_int h
  ·exact wpAny_pyHash_str h
 eqBool:=λhu hv h=>by
  rcases Yl hu with⟨i,t,rfl,rfl⟩ | ⟨x,t,rfl,rfl⟩
  ·rcases Yl hv with⟨j,u,rfl,rfl⟩ | ⟨y,u,rfl,rfl⟩
   ·rw[Ct] at h;exact wpAny_eqBool_int h
   ·rw[Cv] at h;exact iW.int_str i t y u _ _ _ _ h
  ·rcases Yl hv with⟨j,u,rfl,rfl⟩ | ⟨y,u,rfl,rfl⟩
   ·rw[Cy] at h;exact iW.str_int x t j u _ _ _ _ h
   ·rw[Cu] at h;exact wpAny_eqBool_str h
 «strs»:=λk x t v h=>by
  rcases Yl h with⟨i,u,rfl,e⟩ | ⟨y,u,rfl,e⟩
  ·exact nomatch e
  ·injection e with e1 _;subst e1;cases v<;>rfl
inductive V where
 | non | bl (b:Bool) | int (i:Int) | str (x:ao) | byt (b:Array UInt8) | flt (b:UInt64) | ref (a:aJ) | ty (n:String)
 deriving DecidableEq
noncomputable def RelV:V->aG->Prop
 | .non,u=>u=aG.none
 | .bl b,u=>u=aG.bool b
 | .int i,u=>∃t,u=jJ i t
 | .str x,u=>∃t,u=aG.str x t
 | .byt b,u=>∃t,u=aG.bytes b t
 | .flt b,u=>∃t,u=aG.float b t
 | .ref a,u=>u=js a
 | .ty n,u=>u=kP n
abbrev Vals:List V->List aG->Prop:=Paired RelV
theorem Vals.length{b:List V}{a:List aG}(r:Vals b a):b.length=a.length:=Paired.length r
theorem Vals.get:∀{xs:List V}{us:List aG}{i:Nat}{x:V},Vals xs us->xs[i]?=aA x->∃u,us[i]?=aA u/\RelV x u
 | _,_,_,_,.nil,e=>by simp at e
 | _,_,0,_,.cons r _,e=>by simp at e;subst e;exact⟨_,rfl,r⟩
 | _,_,i+1,x,.cons _ t,e=>by obtain⟨u,b,a⟩:=Vals.get (i:=i) (x:=x) t (by simpa using e);exact⟨u,by simpa using b,a⟩
theorem Vals.set{x:V}{u:aG}(r:RelV x u):∀{xs:List V}{us:List aG}(i:Nat),Vals xs us->Vals (xs.set i x) (us.set i u)
 | _,_,_,.nil=>.nil
 | _,_,0,.cons _ t=>.cons r t
 | _,_,i+1,.cons q t=>.cons q (Vals.set r i t)
theorem Vals.append:∀{xs ys:List V}{us ws:List aG},Vals xs us->Vals ys ws->Vals (xs++ys) (us++ws)
 | _,_,_,_,.nil,s=>s
 | _,_,_,_,.cons r t,s=>.cons r (Vals.append t s)
theorem Vals.take:∀{xs:List V}{us:List aG}(n:Nat),Vals xs us->Vals (xs.take n) (us.take n)
 | _,_,0,_=>.nil
 | _,_,_+1,.nil=>.nil
 | _,_,n+1,.cons r t=>.cons r (Vals.take n t)
theorem Vals.drop:∀{xs:List V}{us:List aG}(n:Nat),Vals xs us->Vals (xs.drop n) (us.drop n)
 | _,_,0,r=>r
 | _,_,_+1,.nil=>.nil
 | _,_,n+1,.cons _ t=>Vals.drop n t
noncomputable def Cz:Option V->Option aG->Prop
 | some v,aA u=>RelV v u
 | none,none=>True
 | _,_=>False
noncomputable def KV{κ:Type}:List (κ×V)->List (κ×aG)->Prop:=Paired λ(p:κ×V) (q:κ×aG)=>p.1=q.1/\RelV p.2 q.2
noncomputable def kV:Pn->V
 | .inl i=>.int i
 | .inr x=>.str x
inductive HO where
 /-- a list -/
 | lst (xs:List V)
 /-- a tuple (never changes) -/
 | tup (xs:List V)
 /-- a dict whose keys are ints and texts;one whose keys are tuples of ints and texts (the empty one is both) -/
 | dK (ko:List (Pn×V)) | dT (ko:List (List Pn×V))
 /-- a set of ints: ky members,ky size -/
 | set (S:Int->Bool) (n:Nat)
 /-- an instance of the class at C,ky dict at dx,ky attributes -/
 | ins (C dx:aJ) (fs:List (ao×V))
 /-- the dict of the instance at x -/
 | own (x:aJ)
 /-- the dict of an exception -/
 | xd (fs:List (ao×V))
 /-- a bound method,f of x -/
 | met (f x:aJ)
 /-- a range object lo,lo+1,.. below hi -/
 | rng (lo hi:Int)
 /-- a thing that is known to the object (the script;a dict while a loop walks it): read,never written while it is so -/
 | frz (o:dF) (u:HO)
 /-- a code object's table -/
 | tbl (ps:Array aG)
 /-- any other thing,by what is aC of ky one object (a def of one's own: SetO a S n:=HO.ext λh=>..) -/
 | ext (φ:bW->Prop)
abbrev Hp:=aJ->Option HO
noncomputable def upd(H:Hp)(a:aJ)(o:HO):Hp:=λb=>if b=a then aA o else H b
theorem Zt{H:Hp}{a:aJ}{o:HO}:upd H a o a=aA o:=by unfold upd;rw[kz rfl]
theorem upd_ne{H:Hp}{a b:aJ}{o:HO}(h:b≠a):upd H a o b=H b:=by unfold upd;rw[l4 h]
theorem Zu{H:Hp}{a b:aJ}{o:HO}(h:H a=aA o)(c:H b=none):a≠b:=by grind
noncomputable def JK(x:ao):Bool:=x=="tree_of" || x=="still_by" || x=="made_of"
noncomputable def Zba(x:ao):ao:=x++".<locals>."++"<lambda>"
noncomputable def Hf(o:dF)(q:ao):Prop:=∃vs t,o.data = .fields vs/\vs[1]?=aA (.str q t)
noncomputable def Ai(q:ao)(H:Hp)(ps:List aG):Prop:=TriplesOk ps/\∀pos v,codeAmong pos ps=aA v->∃c o,v = .ref c/\H c=aA (.frz o (.own 0))/\Hf o q
theorem R5{h:bW}{T:aG}{a:Array aG}{n:Nat}{o:dF}(e:(h.push { cls:=T,data:=.seq a n }).get? h.objs.size=aA o):o.dict=none:=by rw[a0 _ rfl] at e;cases e;rfl
section
variable (P:bN) (w:cC)
noncomputable def ObjOk(H:Hp)(h:bW)(a:aJ):HO->Prop
 | .lst xs=>xs.length<=sizeLine/\∃(ky:List aG) (n:Nat),Vals xs ky/\h.get? a=aA { cls:=.type "list",data:=.seq ky.toArray n }
 | .tup xs=>(xs.length<=sizeLine/\∀o,h.get? a=aA o->o.dict=none)/\∃ky:List aG,Vals xs ky/\IsTup h a ky.toArray
 | .dK ko=>ko.length<=sizeLine/\(a==sysModules)=aB/\∃vs,KV ko vs/\h.DictOf (KD P w) a vs
 | .dT ko=>ko.length<=sizeLine/\(a==sysModules)=aB/\∃xs:List (List Pn×aJ×aG),
   Paired (λ(p:List Pn×V) (q:List Pn×aJ×aG)=>p.1=q.1/\H q.2.1=aA (.tup (p.1.map kV))/\RelV p.2 q.2.2) ko xs/\
   ∃o es ep,h.get? a=aA o/\o.ExactDict/\o.data = .dict es ep/\es.toList=xs.map (entryOfKey (tupleKind (KD P w)))/\(xs.map (·.1)).Nodup
 | .set S n=>h.SetOf (intKind P w) a S n
 | .ins C dx fs=>H dx=aA (.own a)/\fs.length<=1000/\dx≠a/\h.get? a=aA (iZ C dx)/\
   ∃mA,h.Ns1 dx mA/\(∀f,Cz (fs.lookup f) (mA f))/\k9 mA (fs.map (·.1))
 | .own _=>∃o,h.get? a=aA o
 | .xd fs=>∃mA,h.Ns1 a mA/\∀f,Cz (fs.lookup f) (mA f)
 | .rng lo hi=>∃t u v,h.get? a=aA { cls:=.type "range",data:=.fields #[.int lo t,.int hi u,.int 1 v] }
 | .frz o u=>h.get? a=aA o/\ObjOk H h a u
 | .tbl ps=>∃(q:ao) (t:Tok) (ps':Array aG),ps[0]?=aA (.str q t)/\h.get? a=aA { cls:=.none,data:=.fields ps' }/\Ai q H ps'.toList
 | .met f x=>h.get? a=aA (PySem.W.methodObj (.ref f) (.ref x))
 | .ext φ=>φ h/\(∃o,h.get? a=aA o)/\∀h1 h2:bW,φ h1->(∀o,h1.get? a=aA o->h2.get? a=aA o)->φ h2
noncomputable def HOk(H:Hp)(h:bW):Prop:=∀a o,H a=aA o->ObjOk P w H h a o
end
section
variable {P:bN} {w:cC} {H H':Hp} {h h':bW} {a:aJ} {o:HO}
theorem ObjOk.lt(x:ObjOk P w H h a o):a<h.objs.size:=by
 cases o with
 | lst xs=>obtain⟨_,_,_,_,e⟩:=x;exact aS e
 | tup xs=>obtain⟨_,_,_,p⟩:=x;exact p.lt
 | dK ko=>obtain⟨_,_,_,_,o,_,_,e,_⟩:=x;exact aS e
 | dT ko=>obtain⟨_,_,_,_,o,_,_,e,_⟩:=x;exact aS e
 | set S n=>obtain⟨o,_,_,_,e,_⟩:=x;exact aS e
 | ins C dx fs=>obtain⟨_,_,_,e,_⟩:=x;exact aS e
 | own y=>obtain⟨_,e⟩:=x;exact aS e
 | xd fs=>obtain⟨_,⟨_,_,_,e,_⟩,_⟩:=x;exact aS e
 | rng lo hi=>obtain⟨_,_,_,e⟩:=x;exact aS e
 | frz ob u=>obtain⟨e,_⟩:=x;exact aS e
 | tbl ps=>obtain⟨_,_,_,_,e,_⟩:=x;exact aS e
 | met f y=>exact aS (show h.get? a=aA _ from x)
 | ext φ=>obtain⟨_,⟨_,e⟩,_⟩:=x;exact aS e
theorem Paired.mapP{d c:Type}{F G:d->c->Prop}:∀{l₁:List d}{l₂:List c},Paired F l₁ l₂->(∀a b,F a b->G a b)->Paired G l₁ l₂
 | _,_,.nil,_=>.nil
 | _,_,.cons r t,f=>.cons (f _ _ r) (Paired.mapP t f)
theorem ObjOk.stay(x:ObjOk P w H h a o)(k:∀b u,(b=a\/H b=aA (.own a))->h.get? b=aA u->h'.get? b=aA u)
  (D:∀b,H b=aA (.own a)->H' b=aA (.own a)) (E:∀b j,H b=aA (.tup j)->H' b=aA (.tup j)) (L:∀b u,H b=aA (.frz u (.own 0))->H' b=aA (.frz u (.own 0))):ObjOk P w H' h' a o:=by
 induction o with
 | lst j=>obtain⟨z,s,n,r,e⟩:=x;exact⟨z,s,n,r,k _ _ (.inl rfl) e⟩
 | tup j=>obtain⟨z,s,r,g,e,c⟩:=x;exact⟨⟨z.1,λo q=>by rw[k _ _ (.inl rfl) e] at q;cases q;exact z.2 _ e⟩,s,r,g,k _ _ (.inl rfl) e,c⟩
 | dK ko=>obtain⟨z,y,vs,r,g,i,ep,e,c⟩:=x;exact⟨z,y,vs,r,g,i,ep,k _ _ (.inl rfl) e,c⟩
 | dT ko=>
  obtain⟨z,y,j,r,g,i,ep,e,c⟩:=x;exact⟨z,y,j,Paired.mapP r λp q z=>⟨z.1,E _ _ z.2.1,z.2.2⟩,g,i,ep,k _ _ (.inl rfl) e,c⟩
 | set S n=>obtain⟨g,i,ep,t,e,c⟩:=x;exact⟨g,i,ep,t,k _ _ (.inl rfl) e,c⟩
 | ins C dx fs=>
  obtain⟨d,z,ne,e,l,⟨A,i,ep,m,c⟩,r⟩:=x;exact⟨D _ d,z,ne,k _ _ (.inl rfl) e,l,⟨A,i,ep,k _ _ (.inr d) m,c⟩,r⟩
 | own y=>obtain⟨g,e⟩:=x;exact⟨g,k _ _ (.inl rfl) e⟩
 | xd fs=>obtain⟨l,⟨A,i,ep,e,c⟩,r⟩:=x;exact⟨l,⟨A,i,ep,k _ _ (.inl rfl) e,c⟩,r⟩
 | rng lo hi=>obtain⟨t,u,v,e⟩:=x;exact⟨t,u,v,k _ _ (.inl rfl) e⟩
 | frz g u ih=>obtain⟨e,q⟩:=x;exact⟨k _ _ (.inl rfl) e,ih q⟩
 | tbl ps=>
  obtain⟨q,t,B,M,e,I,G⟩:=x;refine⟨q,t,B,M,k a _ (.inl rfl) e,I,λpos v F=>?_⟩;obtain⟨c,o,J,m,N⟩:=G pos v F;exact⟨c,o,J,L c o m,N⟩
 | met f y=>
  have e:=x;exact k a _ (.inl rfl) e
 | ext φ=>obtain⟨p,⟨o,e⟩,st⟩:=x;exact⟨st _ _ p λo q=>k _ _ (.inl rfl) q,⟨o,k _ _ (.inl rfl) e⟩,st⟩
theorem HOk.lt(x:HOk P w H h)(e:H a=aA o):a<h.objs.size:=(x a o e).lt
theorem HOk.fresh(x:HOk P w H h)(e:h.objs.size<=a):H a=none:=by
 cases q:H a with
 | none=>rfl
 | some u=>exact absurd (aa (x.lt q) e) (bz _)
theorem HOk.kept(x:HOk P w H h)(k:∀b u,h.get? b=aA u->h'.get? b=aA u):HOk P w H h':=λa o e=>
 (x a o e).stay (λb u _ q=>k b u q) (λ_ q=>q) (λ_ _ q=>q) λ_ _ q=>q
theorem HOk.laid(x:HOk P w H h)(k:∀b u,h.get? b=aA u->h'.get? b=aA u)(g:h.objs.size<=a)(new:ObjOk P w (upd H a o) h' a o):HOk P w (upd H a o) h':=λb u e=>by
 have d:=x.fresh g;by_cases f:b=a
 ·subst f;rw[Zt] at e;cases e;exact new
 ·rw[upd_ne f] at e;exact(x b u e).stay (λc v _ q=>k c v q) (λc q=>by rw[upd_ne (Zu q d)];exact q) (λc i q=>by rw[upd_ne (Zu q d)];exact q) λc u q=>by rw[upd_ne (Zu q d)];exact q
end
noncomputable def Rd(H:Hp)(a:aJ)(u:HO):Prop:=H a=aA u\/∃o,H a=aA (.frz o u)
theorem Rd.ok{P:bN}{w:cC}{H:Hp}{h:bW}{a:aJ}{u:HO}(r:Rd H a u)(x:HOk P w H h):ObjOk P w H h a u:=by
 rcases r with r | ⟨o,r⟩
 ·exact x a u r
 ·obtain⟨_,q⟩:=x a _ r;exact q
noncomputable def Uz:Option HO->Prop
 | some (.lst _)=>True
 | some (.dK _)=>True
 | some (.dT _)=>True
 | some (.set _ _)=>True
 | some (.ins _ _ _)=>True
 | some (.ext _)=>True
 | _=>False
section
variable {P:bN} {w:cC} {H:Hp} {h h':bW} {x e:aJ} {o':HO}
theorem HOk.write(ok:HOk P w H h)(f:Uz (H x))(o:e=x\/H e=aA (.own x))(k:∀b u,b≠e->h.get? b=aA u->h'.get? b=aA u)(m:∃u,h'.get? e=aA u)
  (new:ObjOk P w (upd H x o') h' x o'):HOk P w (upd H x o') h':=λb u q=>by
 have d:∀c y,H c=aA (.own y)->c≠x:=λc y r z=>by subst z;rw[r] at f;exact f
 have g:∀c j,H c=aA (.tup j)->c≠x:=λc j r z=>by subst z;rw[r] at f;exact f
 by_cases i:b=x
 ·subst i;rw[Zt] at q;cases q;exact new
 ·rw[upd_ne i] at q;by_cases a:b=e
  ·have n:H b=aA (.own x):=by
    rcases o with z | z
    ·exact absurd (a.trans z) i
    ·rw[a];exact z
   rw[q] at n;cases n;obtain⟨v,p⟩:=m;exact⟨v,by rw[a];exact p⟩
  ·refine(ok b u q).stay (λc v l r=>k c v ?_ r) (λc r=>by rw[upd_ne (d c b r)];exact r) (λc j r=>by rw[upd_ne (g c j r)];exact r) λc v r=>by rw[upd_ne (λz=>by subst z;rw[r] at f;exact f)];exact r
   rcases l with rfl | l
   ·exact a
   ·rintro rfl;rcases o with z | z
    ·exact d c b l z
    ·rw[l] at z;cases z;exact i rfl
end
structure Un(fs ex:List aJ)(H H':Hp)(h h':bW):Prop where
 keep:∀b o,h.get? b=aA o->H b=none->b∉fs->b∉ex->h'.get? b=aA o
 slot:∀b o,h.get? b=aA o->H b=none->b∈fs->b∉ex->∃sl,h'.get? b=aA { o with slots:=sl }
 free:∀b o,h.get? b=aA o->H b=none->b∉ex->H' b=none
 there:∀b o,h.get? b=aA o->b∉ex->∃o',h'.get? b=aA o'
 tups:∀b xs,H b=aA (.tup xs)->H' b=aA (.tup xs)
 frzs:∀b o u,H b=aA (.frz o u)->H' b=aA (.frz o u)
 tbls:∀b ps,H b=aA (.tbl ps)->∃more,H' b=aA (.tbl (ps++more))
section
variable {fs fs' ex ex':List aJ} {H H1 H2:Hp} {h h1 h2 h':bW} {a x e:aJ} {o:HO}
theorem Un.any(u:Un fs ex H H1 h h1){b:aJ}{a:dF}(q:h.get? b=aA a)(n:H b=none)(c:b∉ex):∃sl,h1.get? b=aA { a with slots:=sl }:=by
 by_cases d:b∈fs
 ·exact u.slot b a q n d c
 ·exact⟨a.slots,u.keep b a q n d c⟩
theorem Un.kept(k:∀b u,h.get? b=aA u->h'.get? b=aA u):Un fs ex H H h h':=
 ⟨λb a q _ _ _=>k b a q,λb a q _ _ _=>⟨a.slots,k b a q⟩,λ_ _ _ n _=>n,λb a q _=>⟨a,k b a q⟩,λ_ _ q=>q,λ_ _ _ q=>q,λ_ c q=>⟨#[],by rw[q];simp⟩⟩
theorem Un.refl:Un fs ex H H h h:=Un.kept λ_ _ q=>q
theorem Un.laid(k:∀b u,h.get? b=aA u->h'.get? b=aA u)(d:h.objs.size<=a)(c:H a=none):Un fs ex H (upd H a o) h h' where
 keep:=λb u q _ _ _=>k b u q
 slot:=λb u q _ _ _=>⟨u.slots,k b u q⟩
 free:=λb u q n _=>by rw[upd_ne (bB (aa (aS q) d))];exact n
 there:=λb u q _=>⟨u,k b u q⟩
 tups:=λb e q=>by rw[upd_ne (Zu q c)];exact q
 frzs:=λb u e q=>by rw[upd_ne (Zu q c)];exact q
 tbls:=λb f q=>⟨#[],by rw[upd_ne (Zu q c),q];simp⟩
theorem Un.write(c:Uz (H x))(j:e=x\/H e=aA (.own x))(k:∀b u,b≠e->h.get? b=aA u->h'.get? b=aA u)(d:∃u,h'.get? e=aA u):Un fs ex H (upd H x o) h h':=by
 have g:∀b,H b=none->b≠x:=λb n z=>by subst z;rw[n] at c;exact c
 have i:∀b,H b=none->b≠e:=λb n z=>by
  subst z;rcases j with r | r
  ·exact g b n r
  ·rw[n] at r;cases r
 have f:∀b u,H b=aA u->¬Uz (aA u)->b≠x:=λb u q l z=>by subst z;rw[q] at c;exact l c
 refine⟨λb u q n _ _=>k b u (i b n) q,λb u q n _ _=>⟨u.slots,k b u (i b n) q⟩,λb u q n _=>by rw[upd_ne (g b n)];exact n,λb u q _=>?_,
  λb m q=>by rw[upd_ne (f b _ q λz=>z)];exact q,λb u m q=>by rw[upd_ne (f b _ q λz=>z)];exact q,λb p q=>⟨#[],by rw[upd_ne (f b _ q λz=>z),q];simp⟩⟩
 by_cases a:b=e
 ·subst a;exact d
 ·exact⟨u,k b u a q⟩
end
noncomputable def TabsH(K:aD)(mg:ao->Option aG)(base:bW)(H:Hp):Prop:=∀(q:ao)(c:aJ),JK q=aC->cY K (.ref c) q=aC->
 ∃Pt ps t,PySem.W.CodeHd base c Pt/\H Pt=aA (.tbl ps)/\ps[0]?=aA (.str (Zba q) t)/\base.BuiltinsAt mg Pt
theorem TabsH.un{K:aD}{i:ao->Option aG}{base:bW}{fs k:List aJ}{H f:Hp}{h o:bW}(t:TabsH K i base H)(u:Un fs k H f h o):TabsH K i base f:=λq c j s=>by
 obtain⟨g,a,tk,p,l,d,r⟩:=t q c j s;obtain⟨e,m⟩:=u.tbls g a l
 have b:0<a.size:=by
  cases z:a.size with
  | zero=>rw[Array.getElem?_eq_none (by omega)] at d;cases d
  | succ n=>omega
 exact⟨g,_,tk,p,m,by rw[Array.getElem?_append_left b];exact d,r⟩
noncomputable def trk(h:bW)(H:Hp):List aJ:=(aE h.objs.size).filter λa=>(H a).isSome
noncomputable def OD(h:bW)(H:Hp):bW:=PySem.W.hideAll h (trk h H)
theorem JL(h:bW)(H:Hp):(OD h H).objs.size=h.objs.size:=PySem.W.hideAll_size _ _
theorem Hg{h:bW}{H:Hp}{b:aJ}{o:dF}(e:h.get? b=aA o)(n:H b=none):(OD h H).get? b=aA o:=
 PySem.W.hideAll_get _ e λa=>by have q:=(gW.mp a).2;rw[n] at q;simp at q
theorem FN{h:bW}{H:Hp}{b:aJ}{o:dF}(e:(OD h H).get? b=aA o):h.get? b=aA o/\H b=none:=by
 have a:=PySem.W.of_hideAll (trk h H) e;refine⟨a,?_⟩
 cases q:H b with
 | none=>rfl
 | some x=>
  have c:b∈trk h H:=gW.mpr ⟨aQ.mpr (aS a),by simp[q]⟩;have z:(OD h H).get? b=none:=PySem.W.hideAll_none (trk h H) c;rw[z] at e;cases e
noncomputable def FO(g h:bW)(L:aJ):List (aJ×dF):=(aE h.objs.size).filterMap λa=>if a=L\/(g.get? a).isSome=aC then none else(h.get? a).map λo=>(a,o)
noncomputable def Ym(g h:bW)(L d:aJ):List (aJ×dF):=(FO g h L).filter λp=>decide (p.1≠d)
structure Mod(K:aD)(mg:ao->Option aG)(base:bW):Prop where
 kin:K.In base
 glob:base.Ns cE mg
 blt:∃mb,base.Ns jU mb/\∀x:ao,x≠"__name__"->mb x=dA x
 nolimit:base.NoLimit
 seer:base.NoSeer
structure Cx where
 prog:bN
 w:cC
 K:aD
 mg:ao->Option aG
 base:bW
 A:cA
 N:List ao
 s₀:aO
 H₀:Hp
 env:jt
 outer:List jt
 stack:List jt
 ex:List aJ
 fn:ao->Bool
 calm:Bool
 pn:List (aJ×dF)
 xe:aG->aO->Prop
noncomputable def M9(l:List jt):List aJ:=l.filterMap (·.frame)
abbrev Cx.fs(X:Cx):List aJ:=M9 X.outer
noncomputable def Vis(sc:dM)(x:ao):Prop:=sc.names.lookup x=aA .local\/sc.names.lookup x=aA .cell\/sc.names.lookup x=aA .free
noncomputable def FP(sc:dM)(x:ao):Prop:=sc.names.lookup x=aA .local\/sc.names.lookup x=aA .cell
noncomputable def Zbb(env:jt)(h:bW)(m:ao->Option aG)(x:ao)(u:aG):Prop:=
 (env.kindOf x=aA .local/\m x=aA u)\/((env.kindOf x=aA .cell\/env.kindOf x=aA .free)/\∃c,env.cells.lookup x=aA c/\h.IsCell c (aA u))
structure Cx.Ok(X:Cx):Prop where
 mod:Mod X.K X.mg X.base
 kind:X.env.scope.kind = .function
 glob:X.env.globals=cE
 blt:X.env.builtins=jU
 above:X.s₀.heap.objs.size<=X.env.locals
 inj:∀x y c,X.env.cells.lookup x=aA c->X.env.cells.lookup y=aA c->x=y
 has:∀x,(X.env.kindOf x=aA .cell\/X.env.kindOf x=aA .free)->∃c,X.env.cells.lookup x=aA c
 cab:∀x c,X.fn x=aC->X.env.cells.lookup x=aA c->X.s₀.heap.objs.size<=c
 hd:X.calm=aC->X.A.handled=none
 frames:X.A.frames=aA X.stack
 stk:X.stack=X.outer\/(X.stack=X.env::X.outer/\X.env.frame=aA X.env.locals)
 exf:∀b∈X.ex,b≠X.env.locals/\∀x c,X.env.cells.lookup x=aA c->c≠b
 bs:∀b o,X.base.get? b=aA o->X.s₀.heap.get? b=aA o/\X.H₀ b=none
 bsz:X.base.objs.size<=X.s₀.heap.objs.size
 noex:∀b o,X.base.get? b=aA o->b∉X.ex
 exfs:∀b∈X.ex,b∉X.fs
 funs:X.s₀.heap.FunFrames X.base X.outer
 frf:∀b∈X.fs,X.H₀ b=none
 tab:TabsH X.K X.mg X.base X.H₀
 cod:∀q:ao,X.env.func≠none->X.env.qual=q++".<locals>."->JK q=aC->cY X.K X.env.code q=aC
structure Inv(X:Cx)(kj:List (aJ×dF))(σ:List (Option V))(H:Hp)(s:aO):Prop where
 ok:X.Ok
 os:s.os=X.s₀.os
 bare:iP s.gens
 base:Un X.fs X.ex X.H₀ H X.s₀.heap s.heap
 loc:∃m,s.heap.Ns X.env.locals m/\∀(i:Nat)(x:ao)(v:V),X.N[i]?=aA x->σ[i]?=aA (aA v)->Vis X.env.scope x->∃u,RelV v u/\Zbb X.env s.heap m x u
 cell:∀x c,X.env.cells.lookup x=aA c->∃v,s.heap.IsCell c v
 free:H X.env.locals=none
 freeC:∀x c,X.env.cells.lookup x=aA c->H c=none
 pin:∀p∈X.pn++kj,s.heap.get? p.1=aA p.2/\H p.1=none/\p.1≠X.env.locals/\p.1∉X.fs/\∀v,p.2.data≠.cell v
 hok:HOk X.prog X.w H s.heap
 len:σ.length=X.N.length
section
variable {X:Cx} {kj:List (aJ×dF)} {σ:List (Option V)} {H H':Hp} {s:aO} {h':bW}
theorem Cx.Ok.nofr(ok:X.Ok){b:aJ}{o:dF}(e:X.base.get? b=aA o):b∉X.fs:=λa=>by have:=(ok.funs.mem a).1;rw[e] at this;cases this
theorem Inv.bs(I:Inv X kj σ H s):∀b o,X.base.get? b=aA o->s.heap.get? b=aA o/\H b=none:=λb o e=>
 ⟨I.base.keep b o (I.ok.bs b o e).1 (I.ok.bs b o e).2 (I.ok.nofr e) (I.ok.noex b o e),I.base.free b o (I.ok.bs b o e).1 (I.ok.bs b o e).2 (I.ok.noex b o e)⟩
theorem Inv.bk(I:Inv X kj σ H s):∀b o,X.base.get? b=aA o->s.heap.get? b=aA o:=λb o e=>(I.bs b o e).1
theorem Inv.mod(I:Inv X kj σ H s):Mod X.K X.mg X.base:=I.ok.mod
theorem Inv.kIn(I:Inv X kj σ H s):X.K.In s.heap:=I.ok.mod.kin.keeps I.bk
theorem Inv.nolimit(I:Inv X kj σ H s):s.heap.NoLimit:=I.ok.mod.nolimit.keeps I.bk
theorem Inv.fr(I:Inv X kj σ H s):∃m,Fr X.base X.env.locals s.heap m:=
 let⟨m,a,_⟩:=I.loc
 ⟨m,a,I.bk,aU I.ok.bsz I.ok.above⟩
theorem Inv.lt(I:Inv X kj σ H s):X.env.locals<s.heap.objs.size:=let⟨_,a,_⟩:=I.loc;a.lt
theorem Inv.sz(I:Inv X kj σ H s):X.s₀.heap.objs.size<=s.heap.objs.size:=aU I.ok.above (cQ I.lt)
theorem Inv.nofs(I:Inv X kj σ H s){a:aJ}(h:s.heap.objs.size<=a):a∉X.fs:=λc=>by obtain⟨_,o,b,_⟩:=I.ok.funs.mem c;exact absurd (aa (aS b) (aU I.sz h)) (bz _)
theorem Inv.cne(I:Inv X kj σ H s):∀x c,X.env.cells.lookup x=aA c->c≠X.env.locals:=λx c e z=>by obtain⟨v,o,d,f⟩:=I.cell x c e;obtain⟨m,⟨h,g,ep,a,b,_⟩,_⟩:=I.loc;rw[z,a] at d;cases d;rw[b] at f;cases f
theorem Inv.funs(I:Inv X kj σ H s):s.heap.FunFrames X.base X.outer:=by
 have all:∀(l:List jt),(∀b∈M9 l,b∈X.fs)->X.s₀.heap.FunFrames X.base l->s.heap.FunFrames X.base l:=by
  intro l
  induction l with
  | nil=>intro _ _;trivial
  | cons env r ih=>
   intro f j;obtain⟨g,⟨L,o,d,i,h,k⟩,m⟩:=j;have c:L∈X.fs:=f L (by unfold M9;rw[gZ,d];exact aZ);obtain⟨n,e⟩:=I.base.slot L o h (I.ok.frf L c) c λz=>I.ok.exfs L z c;exact⟨g,⟨L,_,d,i,e,k⟩,ih (λb a=>f b (by unfold M9;rw[gZ,d];exact aT _ a)) m⟩
 exact all X.outer (λ_ a=>a) I.ok.funs
theorem Inv.stack(I:Inv X kj σ H s):s.heap.FunFrames X.base X.stack:=by
 rcases I.ok.stk with e | ⟨e,b⟩
 ·rw[e];exact I.funs
 ·rw[e];obtain⟨m,a,_⟩:=I.loc;refine .cons (by rw[I.ok.kind];decide) b a ?_ I.funs;exact bW.get?_none_of_le (aU I.ok.bsz I.ok.above)
theorem Inv.stkSub(I:Inv X kj σ H s):∀b∈M9 X.stack,b∈X.env.locals::X.fs:=λb a=>by
 rcases I.ok.stk with e | ⟨e,c⟩
 ·rw[e] at a;exact aT _ a
 ·rw[e] at a;unfold M9 at a;rw[gZ,c] at a;exact a
theorem Inv.stkFree(I:Inv X kj σ H s):∀b∈M9 X.stack,H b=none:=λb a=>by
 rcases a9.mp (I.stkSub b a) with e | a
 ·rw[e];exact I.free
 ·obtain⟨_,o,c,_⟩:=I.ok.funs.mem a;exact I.base.free b o c (I.ok.frf b a) λz=>I.ok.exfs b z a
theorem Inv.step{S:Array GenState}{t':Nat}{d':Drawn}{ch:List aJ}(I:Inv X kj σ H s)
  (h:∀b∈ch,(b∈X.ex\/X.s₀.heap.objs.size<=b)/\b≠X.env.locals/\(∀x c,X.env.cells.lookup x=aA c->c≠b)/\∀p∈X.pn++kj,p.1≠b)
  (f:∀b o,b≠X.env.locals->b∉X.fs->b∉ch->s.heap.get? b=aA o->H b=none->h'.get? b=aA o)
  (y:∀b o,b≠X.env.locals->b∈X.fs->b∉ch->s.heap.get? b=aA o->H b=none->∃R,h'.get? b=aA { o with slots:=R }) (free:∀b o,b∉ch->s.heap.get? b=aA o->H b=none->H' b=none)
  (B:∀b o,b∉ch->s.heap.get? b=aA o->∃F,h'.get? b=aA F)
  (G:∀b A,H b=aA (.tup A)->H' b=aA (.tup A)) (E:∀b o u,H b=aA (.frz o u)->H' b=aA (.frz o u)) (M:∀b N,H b=aA (.tbl N)->∃more,H' b=aA (.tbl (N++more)))
  (ns:∀m,s.heap.Ns X.env.locals m->h'.Ns X.env.locals m) (Q:HOk X.prog X.w H' h') (hg:iP S) :
  Inv X kj σ H' { s with heap:=h',gens:=S,drawn:=d',toks:=t' }:=by
 have L:∀b o,X.s₀.heap.get? b=aA o->b≠X.env.locals:=λb o e=>bB (aa (aS e) I.ok.above)
 have t:∀b o,X.s₀.heap.get? b=aA o->b∉X.ex->b∉ch:=λb o e a C=>by
  rcases(h b C).1 with z | z
  ·exact a z
  ·exact absurd (aa (aS e) z) (bz _)
 have g:∀x c,X.env.cells.lookup x=aA c->∀v,s.heap.IsCell c v->h'.IsCell c v:=λx c e v ⟨o,D,P⟩=>by
  have j:=λz=>(h c z).2.2.1 x c e rfl;by_cases U:c∈X.fs
  ·obtain⟨R,q⟩:=y c o (I.cne x c e) U j D (I.freeC x c e);exact⟨_,q,P⟩
  ·exact⟨o,f c o (I.cne x c e) U j D (I.freeC x c e),P⟩
 refine⟨I.ok,I.os,hg,⟨λb o e n C a=>?_,λb o e n C a=>?_,λb o e n a=>?_,λb o e a=>?_,λb A e=>G b A (I.base.tups b A e),λb o A e=>E b o A (I.base.frzs b o A e),λb N e=>?_⟩,?_,λx c e=>?_,?_,λx c e=>?_,λp W=>?_,Q,I.len⟩
 ·exact f b o (L b o e) C (t b o e a) (I.base.keep b o e n C a) (I.base.free b o e n a)
 ·obtain⟨R,w⟩:=I.base.slot b o e n C a;obtain⟨O,J⟩:=y b _ (L b o e) C (t b o e a) w (I.base.free b o e n a);exact⟨O,J⟩
 ·obtain⟨F,w⟩:=I.base.there b o e a;exact free b F (t b o e a) w (I.base.free b o e n a)
 ·obtain⟨F,w⟩:=I.base.there b o e a;exact B b F (t b o e a) w
 ·obtain⟨m1,w⟩:=I.base.tbls b N e;obtain⟨m2,J⟩:=M b _ w;exact⟨m1++m2,by rw[J,Array.append_assoc]⟩
 ·obtain⟨m,Y,Z⟩:=I.loc;refine⟨m,ns m Y,λi x v w J e3=>?_⟩;obtain⟨u,r,l⟩:=Z i x v w J e3;refine⟨u,r,?_⟩;rcases l with l | ⟨k,c,e,z⟩
  ·exact .inl l
  ·exact .inr ⟨k,c,e,g x c e _ z⟩
 ·obtain⟨v,z⟩:=I.cell x c e;exact⟨v,g x c e v z⟩
 ·obtain⟨m,⟨o,_,_,D,_⟩,_⟩:=I.loc;exact free _ o (λz=>(h _ z).2.1 rfl) D I.free
 ·obtain⟨v,o,D,P⟩:=I.cell x c e;exact free c o (λz=>(h c z).2.2.1 x c e rfl) D (I.freeC x c e)
 ·obtain⟨e,n,ne,T,d⟩:=I.pin p W;have j:=λz=>(h p.1 z).2.2.2 p W rfl;exact⟨f p.1 p.2 ne T j e n,free p.1 p.2 j e n,ne,T,d⟩
theorem Inv.un{t':Nat}(I:Inv X kj σ H s)(u:Un X.fs [] H H' s.heap h')(f:HOk X.prog X.w H' h'):Inv X kj σ H' { s with heap:=h',toks:=t' }:=by
 obtain⟨m,⟨o,l,ep,h,r⟩,_⟩:=id I.loc;obtain⟨t,j⟩:=u.any h I.free (by simp)
 exact I.step (ch:=[]) (λ_ z=>nomatch z) (λb o _ c _ e n=>u.keep b o e n c (by simp)) (λb o _ c _ e n=>u.slot b o e n c (by simp)) (λb o _ e n=>u.free b o e n (by simp)) (λb o _ e=>u.there b o e (by simp)) u.tups u.frzs u.tbls (λq k=>by
  obtain⟨p,d,g,a,i⟩:=k;rw[h] at a;cases a;exact⟨_,d,g,j,i⟩) f I.bare
theorem Inv.call{l:Array GenState}{t':Nat}{v:Drawn}{ch:List aJ}(I:Inv X kj σ H s)(u:Un (M9 X.stack) ch H H' s.heap h')(i:HOk X.prog X.w H' h')(y:iP l)
  (f:∀b∈ch,(b∈X.ex\/X.s₀.heap.objs.size<=b)/\b≠X.env.locals/\(∀x c,X.env.cells.lookup x=aA c->c≠b)/\∀p∈X.pn++kj,p.1≠b) :
  Inv X kj σ H' { s with heap:=h',gens:=l,drawn:=v,toks:=t' }:=by
 obtain⟨m,⟨o,A,ep,k,r⟩,_⟩:=id I.loc;obtain⟨D,g⟩:=u.any k I.free λz=>(f _ z).2.1 rfl
 exact I.step f (λb o g t a e n=>u.keep b o e n (λz=>(a9.mp (I.stkSub b z)).elim g t) a) (λb o _ _ a e n=>u.any e n a) (λb o a e n=>u.free b o e n a) (λb o a e=>u.there b o e a) u.tups u.frzs u.tbls (λC w=>by
  obtain⟨B,h,j,d,q⟩:=w;rw[k] at d;cases d;exact⟨_,h,j,g,q⟩) i y
theorem Inv.turned{t':Nat}{a:aJ}(I:Inv X kj σ H s)(k:∀b o,b≠a->s.heap.get? b=aA o->h'.get? b=aA o)(i:H a=none)(g:a≠X.env.locals)
  (l:a∈X.ex\/X.s₀.heap.objs.size<=a) (A:∀x c,X.env.cells.lookup x=aA c->c≠a) (w:∀p∈X.pn++kj,p.1≠a):Inv X kj σ H { s with heap:=h',toks:=t' }:=by
 have f:∀b u,H b=aA u->b≠a:=λb u e z=>by rw[z,i] at e;cases e
 refine I.step (ch:=[a]) (λb t=>?_) (λb o _ _ d e _=>k b o (λz=>d (by simp[z])) e) (λb o _ _ d e _=>⟨o.slots,k b o (λz=>d (by simp[z])) e⟩) (λ_ _ _ _ n=>n)
  (λb o d e=>⟨o,k b o (λz=>d (by simp[z])) e⟩) (λ_ _ e=>e) (λ_ _ _ e=>e) (λb B e=>⟨#[],by rw[e];simp⟩) (λm y=>?_) (λb u e=>?_) I.bare
 ·have e:b=a:=by simpa using t
  subst e;exact⟨l,g,A,w⟩
 ·obtain⟨o,j,ep,h,r⟩:=y;exact⟨o,j,ep,k _ o (aw g) h,r⟩
 ·refine(I.hok b u e).stay (λc v d q=>k c v ?_ q) (λ_ q=>q) (λ_ _ q=>q) λ_ _ q=>q;rcases d with z | z
  ·rw[z];exact f b u e
  ·exact f c _ z
theorem Inv.tok(I:Inv X kj σ H s)(t:Nat):Inv X kj σ H { s with toks:=t }:=I.un Un.refl I.hok
theorem Inv.kept{t':Nat}(I:Inv X kj σ H s)(k:∀b u,s.heap.get? b=aA u->h'.get? b=aA u):Inv X kj σ H { s with heap:=h',toks:=t' }:=I.un (Un.kept k) (I.hok.kept k)
theorem Inv.laid{a:aJ}{o:HO}{t':Nat}(I:Inv X kj σ H s)(k:∀b u,s.heap.get? b=aA u->h'.get? b=aA u)(c:s.heap.objs.size<=a)(new:ObjOk X.prog X.w (upd H a o) h' a o) :
  Inv X kj σ (upd H a o) { s with heap:=h',toks:=t' }:=I.un (Un.laid k c (I.hok.fresh c)) (I.hok.laid k c new)
theorem Inv.write{x e:aJ}{o:HO}{t':Nat}(I:Inv X kj σ H s)(d:Uz (H x))(c:e=x\/H e=aA (.own x))(k:∀b u,b≠e->s.heap.get? b=aA u->h'.get? b=aA u)(a:∃u,h'.get? e=aA u)
  (new:ObjOk X.prog X.w (upd H x o) h' x o):Inv X kj σ (upd H x o) { s with heap:=h',toks:=t' }:=I.un (Un.write d c k a) (I.hok.write d c k a new)
theorem Inv.weak{a:List (Option V)}(I:Inv X kj σ H s)(c:a.length=σ.length)(w:∀(i:Nat) v,a[i]?=aA (aA v)->σ[i]?=aA (aA v)):Inv X kj a H s:=
 ⟨I.ok,I.os,I.bare,I.base,let⟨m,d,b⟩:=I.loc;⟨m,d,λi x v e f g=>b i x v e (w i v f) g⟩,I.cell,I.free,I.freeC,I.pin,I.hok,c.trans I.len⟩
theorem Inv.pins_of{a:List (aJ×dF)}(I:Inv X kj σ H s)(h:∀p∈a,s.heap.get? p.1=aA p.2/\H p.1=none/\p.1≠X.env.locals/\p.1∉X.fs/\∀v,p.2.data≠.cell v):Inv X a σ H s:=
 ⟨I.ok,I.os,I.bare,I.base,I.loc,I.cell,I.free,I.freeC,λp b=>(b6.mp b).elim (λz=>I.pin p (bX _ z)) (h p),I.hok,I.len⟩
theorem NX{N:List ao}(c:N.Nodup){i j:Nat}{x:ao}(a:N[i]?=aA x)(b:N[j]?=aA x):i=j:=by obtain⟨f,d⟩:=aR.mp a;obtain⟨g,e⟩:=aR.mp b;exact(ju c).mp (d.trans e.symm)
theorem JM{M:Model}{A:cA}{E:aG->aO->Prop}{i:Nat}{x:ao}{v:V}{u:aG}{Q:Unit->aO->Prop}(I:Inv X kj σ H s)(hN:X.N.Nodup)(U:X.N[i]?=aA x)(w:FP X.env.scope x)(r:RelV v u)
  (h:∀s',Inv X kj (σ.set i (aA v)) H s'->(∃a,cS a s.heap s'.heap/\(a=X.env.locals\/X.env.cells.lookup x=aA a))->Q () s') (hf:X.fn x=aC\/X.env.scope.names.lookup x=aA .local:=by first | exact .inl rfl | exact .inr rfl | assumption):bG M A (storeName X.env x u) Q E s:=by
 obtain⟨m,Z,hl⟩:=id I.loc;have T:(X.env.scope.kind==.class || (X.env.scope.kind==.module&&X.env.locals != X.env.globals))=aB:=by rw[I.ok.kind];rfl
 have F:i<σ.length:=by rw[I.len];exact(aR.mp U).1
 have cne:=I.cne
 have g:∀{a:aJ}{N:bW},(∃o,s.heap.get? a=aA o/\H a=none)->cS a s.heap N->HOk X.prog X.w H N:=λ{a N} ha f b ob e=>by
  obtain⟨_,_,B⟩:=ha;refine(I.hok b ob e).stay (λc W t q=>(f.2 c ?_).trans q) (λ_ q=>q) (λ_ _ q=>q) λ_ _ q=>q;rintro rfl;rcases t with rfl | t
  ·rw[B] at e;cases e
  ·rw[B] at t;cases t
 rcases w with D | D
 ·refine wpAny_storeName_local D Z (λN hn' f=>?_) T;obtain⟨oL,_,_,hoL,_⟩:=id Z;refine h _ ⟨I.ok,I.os,I.bare,⟨λb o e n G w=>?_,λb o e n G w=>?_,I.base.free,λb o e w=>?_,I.base.tups,I.base.frzs,I.base.tbls⟩,⟨_,hn',λj y v' l C e3=>?_⟩,λy c e=>?_,I.free,I.freeC,λp hp=>?_,g ⟨oL,hoL,I.free⟩ f,by simpa using I.len⟩ ⟨_,f,.inl rfl⟩
  ·exact(f.2 b (bB (aa (aS e) I.ok.above))).trans (I.base.keep b o e n G w)
  ·obtain⟨sl,l⟩:=I.base.slot b o e n G w;exact⟨sl,(f.2 b (bB (aa (aS e) I.ok.above))).trans l⟩
  ·obtain⟨o',l⟩:=I.base.there b o e w;exact⟨o',(f.2 b (bB (aa (aS e) I.ok.above))).trans l⟩
  ·by_cases J:j=i
   ·subst J;rw[U] at l;cases l;rw[iQ F] at C;cases C;exact⟨u,r,.inl ⟨D,by simp⟩⟩
   ·rw[ig (aw J)] at C;obtain⟨u',r',q⟩:=hl j y v' l C e3;refine⟨u',r',?_⟩;rcases q with⟨k,e⟩ | ⟨k,c,e,z⟩
    ·refine .inl ⟨k,?_⟩;have:y≠x:=λe=>J (NX hN l (e▸U));simp[this,e]
    ·exact .inr ⟨k,c,e,z.sameBut f (cne y c e)⟩
  ·obtain⟨W,z⟩:=I.cell y c e;exact⟨W,z.sameBut f (cne y c e)⟩
  ·obtain⟨e,n,ne,nf,d⟩:=I.pin p hp;exact⟨(f.2 p.1 ne).trans e,n,ne,nf,d⟩
 ·have L:X.fn x=aC:=by
   rcases hf with z | z
   ·exact z
   ·rw[z] at D;cases D
  obtain⟨c,t⟩:=I.ok.has x (.inl D);obtain⟨W,z⟩:=I.cell x c t;refine wpAny_storeName_cell I.ok.kind D t z (λN R f=>?_);obtain⟨oc,O,P⟩:=id z;refine h { s with heap:=N } ⟨I.ok,I.os,I.bare,⟨λb o e n G w=>?_,λb o e n G w=>?_,I.base.free,λb o e w=>?_,I.base.tups,I.base.frzs,I.base.tbls⟩,⟨m,Z.sameBut f (aw (cne x c t)),λj y v' l C e3=>?_⟩,λy Y e=>?_,I.free,I.freeC,λp hp=>?_,g ⟨oc,O,I.freeC x c t⟩ f,by simpa using I.len⟩ ⟨c,f,.inr t⟩
  ·exact(f.2 b (bB (aa (aS e) (I.ok.cab x c L t)))).trans (I.base.keep b o e n G w)
  ·obtain⟨sl,l⟩:=I.base.slot b o e n G w;exact⟨sl,(f.2 b (bB (aa (aS e) (I.ok.cab x c L t)))).trans l⟩
  ·obtain⟨o',l⟩:=I.base.there b o e w;exact⟨o',(f.2 b (bB (aa (aS e) (I.ok.cab x c L t)))).trans l⟩
  ·by_cases J:j=i
   ·subst J;rw[U] at l;cases l;rw[iQ F] at C;cases C;exact⟨u,r,.inr ⟨.inl D,c,t,R⟩⟩
   ·rw[ig (aw J)] at C;obtain⟨u',r',q⟩:=hl j y v' l C e3;refine⟨u',r',?_⟩;rcases q with q | ⟨k,Y,e,z'⟩
    ·exact .inl q
    ·refine .inr ⟨k,Y,e,z'.sameBut f ?_⟩;rintro rfl;exact J (NX hN l (I.ok.inj _ _ _ e t▸U))
  ·by_cases S:Y=c
   ·subst S;exact⟨_,R⟩
   ·obtain⟨w2,z2⟩:=I.cell y Y e;exact⟨w2,z2.sameBut f S⟩
  ·obtain⟨e,n,ne,nf,d⟩:=I.pin p hp;refine⟨(f.2 p.1 ?_).trans e,n,ne,nf,d⟩;intro q;rw[q,O] at e;have q':oc=p.2:=ay e;exact d W (by rw[<-q'];exact P)
theorem R6{M:Model}{A:cA}{E:aG->aO->Prop}{i:Nat}{x:ao}{v:V}{u:aG}{Q:Unit->aO->Prop}(I:Inv X kj σ H s)(d:X.N.Nodup)(f:X.N[i]?=aA x)(b:FP X.env.scope x)(r:RelV v u)
  (h:∀a,Inv X kj (σ.set i (aA v)) H a->Q () a) (c:X.fn x=aC\/X.env.scope.names.lookup x=aA .local:=by first | exact .inl rfl | exact .inr rfl | assumption):bG M A (storeName X.env x u) Q E s:=
 JM I d f b r (λa e _=>h a e) c
theorem Inv.call'{a:aO}{ch:List aJ}(I:Inv X kj σ H s)(g:a.os=s.os)(u:Un (M9 X.stack) ch H H' s.heap a.heap)(d:HOk X.prog X.w H' a.heap)(h:iP a.gens)
  (f:∀b∈ch,(b∈X.ex\/X.s₀.heap.objs.size<=b)/\b≠X.env.locals/\(∀x c,X.env.cells.lookup x=aA c->c≠b)/\∀p∈X.pn++kj,p.1≠b):Inv X kj σ H' a:=by
 obtain⟨j,i,l,t',k⟩:=a;have e:=g;subst e;exact I.call u d h f
end
abbrev XK:=aG->Option aJ->Hp->Prop
abbrev St:=List (Option V)
abbrev VK:=V->Hp->Prop
abbrev TE:=St->Hp->VK->Prop
abbrev TT:=St->Hp->(Bool->Hp->Prop)->Prop
abbrev TA:=St->Hp->(List V->Hp->Prop)->Prop
structure Y0 where
 nx:St->Hp->Prop
 rt:VK
 bk:St->Hp->Prop:=λ_ _=>False
 ct:St->Hp->Prop:=λ_ _=>False
abbrev TS:=Y0->St->Hp->Prop
noncomputable def EP(X:Cx)(kj:List (aJ×dF))(σ:St)(Q:VK)(u:aG)(s':aO):Prop:=∃v H',Inv X kj σ H' s'/\RelV v u/\Q v H'
noncomputable def TP(X:Cx)(kj:List (aJ×dF))(σ:St)(Q:Bool->Hp->Prop)(b:Bool)(s':aO):Prop:=∃H',Inv X kj σ H' s'/\Q b H'
noncomputable def AP(X:Cx)(kj:List (aJ×dF))(σ:St)(Q:List V->Hp->Prop)(us:List aG)(s':aO):Prop:=∃vs H',Inv X kj σ H' s'/\Vals vs us/\Q vs H'
noncomputable def SP(X:Cx)(kj:List (aJ×dF))(D:Y0)(f:Flow)(s':aO):Prop:=
 match f with
 | .next=>∃σ' H',Inv X kj σ' H' s'/\D.nx σ' H'
 | .brk=>∃σ' H',Inv X kj σ' H' s'/\D.bk σ' H'
 | .cont=>∃σ' H',Inv X kj σ' H' s'/\D.ct σ' H'
 | .ret u=>∃v σ' H',Inv X kj σ' H' s'/\RelV v u/\D.rt v H'
noncomputable def PE(X:Cx)(e:av)(t:TE):Prop:=
 ∀(kj:List (aJ×dF))(s:aO)(σ:St)(H:Hp)(Q:VK),Inv X kj σ H s->t σ H Q->bG (model X.prog X.w) X.A (eval e X.env) (EP X kj σ Q) X.xe s
noncomputable def PT(X:Cx)(e:av)(t:TT):Prop:=
 ∀(kj:List (aJ×dF))(s:aO)(σ:St)(H:Hp)(Q:Bool->Hp->Prop),Inv X kj σ H s->t σ H Q->bG (model X.prog X.w) X.A (kQ e X.env (eval e X.env)) (TP X kj σ Q) X.xe s
noncomputable def PW(X:Cx)(e:av)(t:TT):Prop:=
 ∀(whole:Sem aG)(kj:List (aJ×dF))(s:aO)(σ:St)(H:Hp)(Q:Bool->Hp->Prop),Inv X kj σ H s->t σ H Q->bG (model X.prog X.w) X.A (kQ e X.env whole) (TP X kj σ Q) X.xe s
theorem PW.pt{X:Cx}{e:av}{t:TT}(h:PW X e t):PT X e t:=h _
noncomputable def PA(X:Cx)(es:List av)(t:TA):Prop:=
 ∀(pos:eu)(kj:List (aJ×dF))(s:aO)(σ:St)(H:Hp)(Q:List V->Hp->Prop),Inv X kj σ H s->t σ H Q->bG (model X.prog X.w) X.A (spliced (fA pos (aX es X.env))) (AP X kj σ Q) X.xe s
noncomputable def PS(X:Cx)(st:b7)(t:TS):Prop:=
 ∀(kj:List (aJ×dF))(s:aO)(σ:St)(H:Hp)(D:Y0),Inv X kj σ H s->t D σ H->bG (model X.prog X.w) X.A (exec st X.env) (SP X kj D) X.xe s
noncomputable def PSs(X:Cx)(st:List b7)(t:TS):Prop:=
 ∀(kj:List (aJ×dF))(s:aO)(σ:St)(H:Hp)(D:Y0),Inv X kj σ H s->t D σ H->bG (model X.prog X.w) X.A (execs st X.env) (SP X kj D) X.xe s
theorem YJ{c:Type}{t:Sem c}{Q b:c->aO->Prop}{M:Model}{A:cA}{E:aG->aO->Prop}{s:aO}(h:bG M A t Q E s)(d:∀a s,Q a s->b a s):bG M A t b E s:=cZ h d λ_ _ x=>x
section
variable {X:Cx}
theorem bin{a b:av}{k l:TE}(n:PE X a k)(q:PE X b l){i:List (aJ×dF)}{s:aO}{d:St}{H:Hp}{R:V->V->Hp->Prop}(I:Inv X i d H s)(h:k d H λx j=>l d j λy c=>R x y c)
  {m:Type} {Q:m->aO->Prop} {f:aG->aG->Sem m}
  (w:∀v u s2 x y c,Inv X i d c s2->RelV x v->RelV y u->R x y c->bG (model X.prog X.w) X.A (f v u) Q X.xe s2) :
  bG (model X.prog X.w) X.A (eval a X.env) (λv e=>bG (model X.prog X.w) X.A (eval b X.env) (λu g=>bG (model X.prog X.w) X.A (f v u) Q X.xe g) X.xe e) X.xe s:=by
 refine YJ (n i s d H _ I h) λv s1 ⟨x,j,o,z,p⟩=>?_;refine YJ (q i s1 d j _ o p) λu s2 ⟨y,c,t,A,r⟩=>?_;exact w v u s2 x y c t z A r
noncomputable def Po(i:Nat):TE:=λσ H Q=>∃v,σ[i]?=aA (aA v)/\Q v H
noncomputable def tC(v:V):TE:=λ_ H Q=>Q v H
theorem CA{i:Nat}{x:ao}{pos:eu}(w:X.N[i]?=aA x)(n:Vis X.env.scope x)(g:(x==("__debug__" : ao))=aB:=by decide)(f:(x==("__classdict__" : ao))=aB:=by decide):PE X (.Name x pos) (Po i):=by
 intro p s q H Q I h;obtain⟨v,e,h⟩:=h;obtain⟨m,k,o⟩:=I.loc;obtain⟨u,r,l⟩:=o i x v w e n;have d:EP X p q Q u s:=⟨v,H,I,r,h⟩;rcases l with⟨b,t⟩ | ⟨b,c,j,a⟩
 ·exact kR (wpAny_loadName_local I.ok.kind b k t d) g
 ·rcases b with b | b
  ·exact kR (wpAny_loadName_cell I.ok.kind b j a d) g
  ·exact kR (wpAny_loadName_free I.ok.kind b j a d f) g
theorem CB{i j pos}:PE X (.Constant (.int i) j pos) (tC (.int i)):=λ_ _ _ H _ I h=>wpAny_Constant_int ⟨.int i,H,I.tok _,⟨_,rfl⟩,h⟩
theorem Aj{b j pos}:PE X (.Constant (.bool b) j pos) (tC (.bl b)):=λ_ _ _ H _ I h=>Constant_bool ⟨.bl b,H,I,rfl,h⟩
theorem CC{j pos}:PE X (.Constant .none j pos) (tC .non):=λ_ _ _ H _ I h=>jQ ⟨.non,H,I,rfl,h⟩
noncomputable def Gl(X:Cx)(x:ao):Prop:=X.env.kindOf x=aA .globalImplicit
theorem FQ{E:aG->aO->Prop}{a:List (aJ×dF)}{s:aO}{b:St}{H:Hp}{x:ao}{u:aG}{pos:eu}{Q:aG->aO->Prop}(I:Inv X a b H s)(e:Gl X x)(d:X.mg x=aA u)(h:Q u s)
  (c:(x==("__debug__" : ao))=aB:=by decide):bG (model X.prog X.w) X.A (eval (.Name x pos) X.env) Q E s:=
 gh I.ok.kind e (Calls.loadGlobal_global (by rw[I.ok.glob];exact I.mod.glob.keeps I.bk) d h) c
theorem UL{E:aG->aO->Prop}{e:List (aJ×dF)}{s:aO}{f:St}{H:Hp}{x:ao}{u:aG}{pos:eu}{Q:aG->aO->Prop}(I:Inv X e f H s)(j:Gl X x)(g:X.mg x=none)(c:dA x=aA u)(h:Q u s)
  (a:x≠"__name__":=by decide) (d:(x==("__debug__" : ao))=aB:=by decide):bG (model X.prog X.w) X.A (eval (.Name x pos) X.env) Q E s:=by
 obtain⟨k,b,i⟩:=I.mod.blt;exact gh I.ok.kind j (Calls.loadGlobal_builtin (by rw[I.ok.glob];exact I.mod.glob.keeps I.bk) g (by rw[I.ok.blt];exact b.keeps I.bk) ((i x a).trans c) h) d
theorem FR{x:ao}{v:V}{u:aG}{pos:eu}(e:Gl X x)(b:X.mg x=none)(d:dA x=aA u)(r:RelV v u)(a:x≠"__name__":=by decide)(c:(x==("__debug__" : ao))=aB:=by decide):PE X (.Name x pos) (tC v):=
 λ_ _ _ H _ I h=>UL I e b d ⟨v,H,I,r,h⟩ a c
variable {a b:av} {ta tb:TE} {pos:eu}
noncomputable def PC(X:Cx)(op:kC)(a b:av)(t:TE):Prop:=
 ∀(kj:List (aJ×dF))(s:aO)(σ:St)(H:Hp)(Q:VK),Inv X kj σ H s->t σ H Q->
  bG (model X.prog X.w) X.A (eval a X.env) (λv s₁=>bG (model X.prog X.w) X.A (eval b X.env) (λu s₂=>bG (model X.prog X.w) X.A (eU op v u) (EP X kj σ Q) X.xe s₂) X.xe s₁) X.xe s
theorem NY(b:av){op:kC}(h:op≠.In)(c:op≠.NotIn):cP op b=aB:=by
 have a:(op==kC.In)=aB:=by cases op<;>first | rfl | exact absurd rfl h
 have d:(op==kC.NotIn)=aB:=by cases op<;>first | rfl | exact absurd rfl c
 cases b<;>simp[cP,a,d]
noncomputable def Al(ta:TE):TE:=λσ H Q=>ta σ H λx H1=>Q (.bl (decide (x = .non))) H1
noncomputable def DQ(ta:TE):TE:=λσ H Q=>ta σ H λx H1=>Q (.bl (!decide (x = .non))) H1
theorem RelV.none_iff{x:V}{v:aG}(r:RelV x v):(v==aG.none)=decide (x = .non):=by
 cases x with
 | non=>cases r;rfl
 | bl _=>cases r;rfl
 | int _=>obtain⟨t,rfl⟩:=r;rfl
 | str _=>obtain⟨t,rfl⟩:=r;rfl
 | byt _=>obtain⟨t,rfl⟩:=r;rfl
 | flt _=>obtain⟨t,rfl⟩:=r;rfl
 | ref _=>cases r;rfl
 | ty _=>cases r;rfl
theorem CD{j pos'}(f:PE X a ta):PC X .Is a (.Constant .none j pos') (Al ta):=by intro b s d H Q I h;refine YJ (f b s d H _ I h) λv s1 ⟨x,e,i,g,c⟩=>?_;exact jQ (is_none_gen ⟨.bl _,e,i,by rw[g.none_iff];rfl,c⟩)
theorem FT{j pos'}(f:PE X a ta):PC X .IsNot a (.Constant .none j pos') (DQ ta):=by intro b s d H Q I h;refine YJ (f b s d H _ I h) λv s1 ⟨x,e,i,g,c⟩=>?_;exact jQ (isnot_none_gen ⟨.bl _,e,i,by rw[g.none_iff];rfl,c⟩)
noncomputable def tB(t:TE):TT:=λσ H Q=>t σ H λx H1=>∃c,x = .bl c/\Q c H1
theorem CF{op:kC}{t:TE}(h:PC X op a b t)(f:cP op b=aB:=by first | exact NY _ (by decide) (by decide) | rfl):PE X (.Compare a [op] [b] pos) t:=λc s d H Q I e=>wpAny_Compare1 (h c s d H Q I e) f
theorem CG{op:kC}{t:TE}(h:PC X op a b t)(e:cP op b=aB:=by first | exact NY _ (by decide) (by decide) | rfl):PT X (.Compare a [op] [b] pos) (tB t):=by intro j s k H Q I f;refine ic (YJ (h j s k H _ I f) λv s1 e=>YJ e λu s2 l=>YJ l λc o ⟨x,m,g,n,i⟩=>?_) e;obtain⟨d,rfl,q⟩:=i;cases n;exact c9 ⟨m,g,q⟩
theorem CH{e:av}{t:TE}(h:PE X e t)(i:∀whole,kQ e X.env whole=(do let v <-whole;standAt e.pos;holding [v] (truthy v)):=by intro _;rfl):PT X e (tB t):=by intro f s g H Q I a;refine isTrue_plain (YJ (h f s g H _ I a) λv s1 ⟨x,j,b,k,c⟩=>?_) (i _);obtain⟨d,rfl,q⟩:=c;cases k;exact c9 ⟨j,b,q⟩
variable {tA tB':TT} {Ym:List av}
noncomputable def Am(t u:TT):TT:=λσ H Q=>t σ H λc H1=>if c=aC then u σ H1 Q else Q aB H1
noncomputable def tOr(t u:TT):TT:=λσ H Q=>t σ H λc H1=>if c=aC then Q aC H1 else u σ H1 Q
noncomputable def Zbc(t:TT):TT:=λσ H Q=>t σ H λc H1=>Q (!c) H1
theorem FU(f:PT X a tA):PW X (.BoolOp .And [a] pos) tA:=by
 intro g b s d H Q I h;refine isTrue_and (YJ (f b s d H Q I h) λc s1 e=>?_)
 cases c with
 | true=>exact isTrue_and_nil e
 | false=>exact e
theorem CI(f:PT X a tA):PW X (.BoolOp .Or [a] pos) tA:=by
 intro g b s d H Q I h;refine isTrue_or (YJ (f b s d H Q I h) λc s1 e=>?_)
 cases c with
 | false=>exact isTrue_or_nil e
 | true=>exact e
theorem CJ(l:PT X a tA)(k:PW X (.BoolOp .And (b::Ym) pos) tB'):PW X (.BoolOp .And (a::b::Ym) pos) (Am tA tB'):=by
 intro j d s f H Q I h;refine isTrue_and (YJ (l d s f H _ I h) λc s1 ⟨g,i,e⟩=>?_)
 cases c with
 | true=>exact k j d s1 f g Q i e
 | false=>exact⟨g,i,e⟩
theorem An(l:PT X a tA)(k:PW X (.BoolOp .Or (b::Ym) pos) tB'):PW X (.BoolOp .Or (a::b::Ym) pos) (tOr tA tB'):=by
 intro j d s f H Q I h;refine isTrue_or (YJ (l d s f H _ I h) λc s1 ⟨g,i,e⟩=>?_)
 cases c with
 | true=>exact⟨g,i,e⟩
 | false=>exact k j d s1 f g Q i e
theorem CK(f:PT X a tA):PT X (.UnaryOp .Not a pos) (Zbc tA):=by intro b s d H Q I h;exact isTrue_not (f b s d H (λc e=>Q (!c) e) I h)
noncomputable def Ao(ta tb:TE):TE:=λσ H Q=>ta σ H λx H1=>∃c,x = .bl c/\if c=aC then tb σ H1 Q else Q (.bl aB) H1
noncomputable def Ap(ta:TE):TE:=λσ H Q=>ta σ H λx H1=>∃c,x = .bl c/\Q (.bl (!c)) H1
theorem CM{op}{t:TE}(h:PE X a t):PE X (.BoolOp op [a] pos) t:=λb s c H Q I d=>BoolOp_one (h b s c H Q I d)
theorem CN(k:PE X a ta)(j:PE X (.BoolOp .And (b::Ym) pos) tb):PE X (.BoolOp .And (a::b::Ym) pos) (Ao ta tb):=by
 intro e s f H Q I h;refine BoolOp_and (YJ (k e s f H _ I h) λv s1 ⟨x,g,i,l,d⟩=>?_);obtain⟨c,rfl,d⟩:=d;cases l;refine c9 ?_
 cases c with
 | true=>exact j e s1 f g Q i d
 | false=>exact⟨.bl aB,g,i,rfl,d⟩
theorem CO(g:PE X a ta):PE X (.UnaryOp .Not a pos) (Ap ta):=by intro d s e H Q I h;refine UnaryOp_ (YJ (g d s e H _ I h) λv s1 ⟨x,f,j,i,b⟩=>?_);obtain⟨c,rfl,b⟩:=b;cases i;exact not_of (c9 ⟨.bl (!c),f,j,rfl,b⟩)
noncomputable def tIf(t:TT)(ta tb:TE):TE:=λσ H Q=>t σ H λc H1=>if c=aC then ta σ H1 Q else tb σ H1 Q
theorem Hh{c:av}(k:PT X c tA)(m:PE X a ta)(l:PE X b tb):PE X (.IfExp c a b pos) (tIf tA ta tb):=by
 intro e s f H Q I h;refine wpAny_IfExp (YJ (k e s f H _ I h) λd s1 ⟨i,j,g⟩=>?_)
 cases d with
 | true=>exact m e s1 f i Q j g
 | false=>exact l e s1 f i Q j g
end
noncomputable def SqL(K:aD)(H:Hp)(a:aJ)(xs:List V):Prop:=
 Rd H a (.lst xs)\/
  ∃(o:dF) (ky:Array aG) (n:Nat),K.lookup a=aA o/\o.cls = .type "list"/\o.dict=none/\o.data = .seq ky n/\ky.size<=sizeLine/\Vals xs ky.toList
noncomputable def SqT(K:aD)(H:Hp)(a:aJ)(xs:List V):Prop:=
 Rd H a (.tup xs)\/
  ∃(o:dF) (ky:Array aG) (n:Nat),K.lookup a=aA o/\o.cls = .type "tuple"/\o.data = .seq ky n/\ky.size<=sizeLine/\Vals xs ky.toList
noncomputable def Zbd:aG->Option V
 | .none=>aA .non
 | .bool b=>aA (.bl b)
 | .int i _=>aA (.int i)
 | .str x _=>aA (.str x)
 | .bytes b _=>aA (.byt b)
 | .float b _=>aA (.flt b)
 | .ref a=>aA (.ref a)
 | .type n=>aA (.ty n)
 | _=>none
theorem RelV.abs{x:V}{u:aG}(r:RelV x u):Zbd u=aA x:=by
 cases x with
 | non=>cases r;rfl
 | bl _=>cases r;rfl
 | int _=>obtain⟨t,rfl⟩:=r;rfl
 | str _=>obtain⟨t,rfl⟩:=r;rfl
 | byt _=>obtain⟨t,rfl⟩:=r;rfl
 | flt _=>obtain⟨t,rfl⟩:=r;rfl
 | ref _=>cases r;rfl
 | ty _=>cases r;rfl
theorem RelV.inj{x y:V}{u:aG}(r:RelV x u)(q:RelV y u):x=y:=ay (r.abs.symm.trans q.abs)
theorem Vals.inj:∀{xs ys:List V}{us:List aG},Vals xs us->Vals ys us->xs=ys
 | _,_,_,.nil,.nil=>rfl
 | _,_,_,.cons r t,.cons r' t'=>by rw[r.inj r',Vals.inj t t']
section
variable {X:Cx} {kj:List (aJ×dF)} {σ:St} {H:Hp} {s:aO} {a:aJ} {xs ys:List V}
theorem SqL.of{K:aD}(h:H a=aA (.lst xs)):SqL K H a xs:=.inl (.inl h)
theorem SqT.of{K:aD}(h:H a=aA (.tup xs)):SqT K H a xs:=.inl (.inl h)
theorem Inv.list(I:Inv X kj σ H s)(h:SqL X.K H a xs):∃b:List aG,Vals xs b/\PlainL s.heap a b.toArray/\xs.length<=sizeLine:=by
 rcases h with h | ⟨o,b,n,c,f,d,g,i,r⟩
 ·obtain⟨z,b,n,r,e⟩:=h.ok I.hok;exact⟨b,r,⟨_,n,e,rfl,rfl,rfl⟩,z⟩
 ·refine⟨b.toList,r,⟨o,n,I.kIn a o c,f,d,by simpa using g⟩,?_⟩;have e:=r.length;simp only[fJ] at e;omega
theorem Inv.tuple(I:Inv X kj σ H s)(h:SqT X.K H a xs):∃b:List aG,Vals xs b/\IsTup s.heap a b.toArray/\xs.length<=sizeLine:=by
 rcases h with h | ⟨o,b,n,c,d,f,g,r⟩
 ·obtain⟨z,b,r,p⟩:=h.ok I.hok;exact⟨b,r,p,z.1⟩
 ·refine⟨b.toList,r,⟨o,I.kIn a o c,d,n,by simpa using f⟩,?_⟩;have e:=r.length;simp only[fJ] at e;omega
theorem Inv.list_inj(I:Inv X kj σ H s)(h:SqL X.K H a xs)(j:SqL X.K H a ys):xs=ys:=by
 obtain⟨i,r,⟨o,n,e,_,_,d⟩,_⟩:=I.list h;obtain⟨b,g,⟨k,l,c,_,_,f⟩,_⟩:=I.list j;rw[e] at c;cases c;rw[d] at f;injection f with d1 _
 have:i=b:=by simpa using congrArg kc d1
 subst this;exact r.inj g
theorem Inv.tuple_inj(I:Inv X kj σ H s)(h:SqT X.K H a xs)(j:SqT X.K H a ys):xs=ys:=by
 obtain⟨i,r,⟨o,e,_,n,d⟩,_⟩:=I.tuple h;obtain⟨b,g,⟨k,c,_,l,f⟩,_⟩:=I.tuple j;rw[e] at c;cases c;rw[d] at f;injection f with d1 _
 have:i=b:=by simpa using congrArg kc d1
 subst this;exact r.inj g
end
abbrev Cx.wish(X:Cx)(E:aG->aO->Prop):Cx:={ X with xe:=E }
abbrev Cx.nox(X:Cx):Cx:=X.wish λ_ _=>False
theorem Cx.Ok.wish{X:Cx}(ok:X.Ok)(E:aG->aO->Prop):(X.wish E).Ok:=
 ⟨ok.mod,ok.kind,ok.glob,ok.blt,ok.above,ok.inj,ok.has,ok.cab,ok.hd,ok.frames,ok.stk,ok.exf,ok.bs,ok.bsz,ok.noex,ok.exfs,ok.funs,ok.frf,ok.tab,ok.cod⟩
theorem Cx.Ok.unwish{X:Cx}{E:aG->aO->Prop}(ok:(X.wish E).Ok):X.Ok:=
 ⟨ok.mod,ok.kind,ok.glob,ok.blt,ok.above,ok.inj,ok.has,ok.cab,ok.hd,ok.frames,ok.stk,ok.exf,ok.bs,ok.bsz,ok.noex,ok.exfs,ok.funs,ok.frf,ok.tab,ok.cod⟩
section
variable {X:Cx} {kj:List (aJ×dF)} {σ:St} {H:Hp} {s:aO} {E:aG->aO->Prop}
theorem Inv.wish(I:Inv X kj σ H s)(E:aG->aO->Prop):Inv (X.wish E) kj σ H s:=⟨I.ok.wish E,I.os,I.bare,I.base,I.loc,I.cell,I.free,I.freeC,I.pin,I.hok,I.len⟩
theorem Inv.unwish(I:Inv (X.wish E) kj σ H s):Inv X kj σ H s:=⟨I.ok.unwish,I.os,I.bare,I.base,I.loc,I.cell,I.free,I.freeC,I.pin,I.hok,I.len⟩
theorem SP.unwish{D:Y0}{f:Flow}{c:aO}(h:SP (X.wish E) kj D f c):SP X kj D f c:=by
 cases f with
 | next=>obtain⟨a,b,I,q⟩:=h;exact⟨a,b,I.unwish,q⟩
 | brk=>obtain⟨a,b,I,q⟩:=h;exact⟨a,b,I.unwish,q⟩
 | cont=>obtain⟨a,b,I,q⟩:=h;exact⟨a,b,I.unwish,q⟩
 | ret u=>obtain⟨v,a,b,I,r,q⟩:=h;exact⟨v,a,b,I.unwish,r,q⟩
theorem PSs.nox{st:List b7}{t:TS}(h:PSs X.nox st t):PSs X st t:=λa s b H D I c=>
 cZ (h a s b H D (I.wish _) c) (λ_ _ q=>q.unwish) λ_ _ z=>eK z
end
section
variable {X:Cx} {st:b7} {Ym:List b7} {t u:TS} {e:av} {te:TE} {pos:eu}
noncomputable def DR:TS:=λD σ H=>D.nx σ H
noncomputable def Zbe(t u:TS):TS:=λD σ H=>t { D with nx:=u D } σ H
theorem FV:PSs X [] DR:=λ_ _ a H _ I h=>gX ⟨a,H,I,h⟩
theorem NZ(e:PS X st t)(g:PSs X Ym u):PSs X (st::Ym) (Zbe t u):=by
 intro b s c H D I h;refine wpAny_execs_cons (YJ (e b s c H { D with nx:=u D } I h) λf s1 q=>?_)
 cases f with
 | next=>
  obtain⟨a,d,i,q⟩:=q;exact g b s1 a d D i q
 | ret v=>exact q
 | brk=>exact q
 | cont=>exact q
theorem KG(c:PS X st t):PSs X [st] t:=by
 intro a s b H D I h;refine wpAny_execs_cons (YJ (c a s b H D I h) λf s1 q=>?_)
 cases f with
 | next=>exact gX q
 | ret v=>exact q
 | brk=>exact q
 | cont=>exact q
theorem Inv.quiet{a:List (aJ×dF)}{b:St}{H:Hp}{s:aO}(I:Inv X a b H s):interactive X.env=aB:=by simp[interactive,I.ok.kind]
noncomputable def KH(te:TE):TS:=λD σ H=>te σ H λ_ H1=>D.nx σ H1
theorem Up(f:PE X e te)(d:g9 e none pos.line X.env=pure aB:=by rfl):PS X (.Expr e pos) (KH te):=by intro b s a H D I h;exact wpAny_Expr_any (YJ (f b s a H _ I h) λv s1 ⟨x,g,i,j,c⟩=>⟨a,g,i,c⟩) I.quiet d
noncomputable def Zbf(te:TE):TS:=λD σ H=>te σ H D.rt
theorem Ld(d:PE X e te):PS X (.Return (aA e) pos) (Zbf te):=by intro b s a H D I h;exact wpAny_Return_some (YJ (d b s a H _ I h) λv s1 ⟨x,f,i,g,c⟩=>⟨x,a,f,i,g,c⟩)
noncomputable def Zbg(c:TT)(t u:TS):TS:=λD σ H=>c σ H λb H1=>if b=aC then t D σ H1 else u D σ H1
theorem Aq{c:av}{a b:List b7}{j:TT}(n:PT X c j)(l:PSs X a t)(m:PSs X b u):PS X (.If c a b pos) (Zbg j t u):=by
 intro e s f H D I h;refine wpAny_If (YJ (n e s f H _ I h) λd s1 ⟨k,g,i⟩=>?_)
 cases d with
 | true=>exact l e s1 f k D g i
 | false=>exact m e s1 f k D g i
end
abbrev TG:=V->St->Hp->(St->Hp->Prop)->Prop
abbrev DS:=List V->St->Hp->(St->Hp->Prop)->Prop
noncomputable def PG(X:Cx)(target:av)(t:TG):Prop:=
 ∀(kj:List (aJ×dF))(s:aO)(σ:St)(H:Hp)(v:V)(u:aG)(Q:St->Hp->Prop),Inv X kj σ H s->RelV v u->t v σ H Q->
  bG (model X.prog X.w) X.A (assign target X.env u) (λ_ s'=>∃σ' H',Inv X kj σ' H' s'/\Q σ' H') X.xe s
noncomputable def PGs(X:Cx)(ts:List av)(t:DS):Prop:=
 ∀(kj:List (aJ×dF))(s:aO)(σ:St)(H:Hp)(vs:List V)(us:List aG)(Q:St->Hp->Prop),Inv X kj σ H s->Vals vs us->t vs σ H Q->
  bG (model X.prog X.w) X.A (assignInOrder ((gi ts X.env).map (·.2)) us) (λ_ s'=>∃σ' H',Inv X kj σ' H' s'/\Q σ' H') X.xe s
abbrev CP:=V->V->V->Hp->(Hp->Prop)->Prop
noncomputable def Ar(X:Cx)(t:CP):Prop:=
 ∀(kj:List (aJ×dF))(s:aO)(σ:St)(H:Hp)(o i v:V)(ov iv u:aG)(Q:Hp->Prop),Inv X kj σ H s->RelV o ov->RelV i iv->RelV v u->t o i v H Q->
  bG (model X.prog X.w) X.A (setItem ov iv u) (λ_ s'=>∃H',Inv X kj σ H' s'/\Q H') X.xe s
section
variable {X:Cx} {pos:eu}
noncomputable def U9(i:Nat):TG:=λv σ H Q=>Q (σ.set i (aA v)) H
theorem Ry{i:Nat}{x:ao}(c:X.N.Nodup)(e:X.N[i]?=aA x)(a:FP X.env.scope x)(b:X.fn x=aC\/X.env.scope.names.lookup x=aA .local:=by first | exact .inl rfl | exact .inr rfl | assumption):PG X (.Name x pos) (U9 i):=by intro f s g H v u Q I r h;exact wpAny_assign_Name (R6 I c e a r (λj d=>⟨_,H,d,h⟩) b)
noncomputable def As:DS:=λvs σ H Q=>vs=[]/\Q σ H
noncomputable def DT(t:TG)(u:DS):DS:=λvs σ H Q=>∃v r,vs=v::r/\t v σ H λσ' H'=>u r σ' H' Q
theorem Yn:PGs X [] As:=by intro b s a H vs c Q I r h;obtain⟨e,h⟩:=h;subst e;cases r;exact assignInOrder_nil ⟨a,H,I,h⟩
theorem Zv{e:av}{a:List av}{t:TG}{u:DS}(d:PG X e t)(l:PGs X a u)
  (i:(gi (e::a) X.env).map (·.2)=assign e X.env::(gi a X.env).map (·.2):=by rfl):PGs X (e::a) (DT t u):=by
 intro c s j H vs o Q I r h;obtain⟨v,n,k,h⟩:=h;subst k
 cases r with
 | cons r rr=>
  rw[i];refine assignInOrder_cons (YJ (d c s j H _ _ _ I r h) λ_ s1 ⟨b,m,f,g⟩=>?_);exact l c s1 b m _ _ Q f rr g
noncomputable def Au(K:aD)(n:Nat)(t:DS):TG:=λv σ H Q=>∃a xs,v = .ref a/\SqT K H a xs/\xs.length=n/\t xs σ H Q
theorem YD{c:List av}{k:Nat}{t:DS}{n:Nat}(z:X.calm=aC)(h:PGs X c t)
  (j:(gi c X.env).length=n:=by rfl) (d:(gi c X.env).findIdx? (·.1)=none:=by rfl):PG X (.Tuple c k pos) (Au X.K n t):=by
 intro w s x H v u Q I r f;obtain⟨a,q,y,i,p,f⟩:=f;subst y;cases r;obtain⟨B,g,A,C⟩:=I.tuple i;refine assign_Tuple_tuple (I.ok.hd z) A (by simp[j,<-p,g.length]) d λD l=>?_;have m:=I.kept (t':=s.toks) λb o e=>l b o (bB (aS e)) e;exact h w _ x H q _ Q m (by simpa using g) f
noncomputable def CQ(to ti:TE)(t:CP):TG:=λv σ H Q=>to σ H λo H1=>ti σ H1 λi H2=>t o i v H2 λH3=>Q σ H3
theorem VQ{o i:av}{e f:TE}{t:CP}(g:PE X o e)(D:PE X i f)(l:Ar X t)
  (E:∀v,assign (.Subscript o i pos) X.env v=(do
   let a <-holding [v] (eval o X.env);let b <-holding [v,a] (eval i X.env)
   standAt pos
   holding [v,a,b] (setItem a b v)
   release [v,a,b] []):=by intro _;rfl):PG X (.Subscript o i pos) (CQ e f t):=by
 intro d s c H v u Q I r h;refine aM (hU (YJ (g d s c H _ I h) λa s1 ⟨x,A,j,B,k⟩=>?_));refine aM (hU (YJ (D d s1 c A _ j k) λb s2 ⟨y,m,q,C,n⟩=>?_));refine aM (jR (aM (hU (YJ (l d s2 c m x y v a b u _ q B C r n) λ_ F ⟨w,p,z⟩=>?_))));exact wpAny_release ⟨c,w,p,z⟩
noncomputable def Lf(te:TE)(g:TG):TS:=λD σ H=>te σ H λx H1=>g x σ H1 D.nx
theorem VR{a e:av}{d:TE}{g:TG}(m:PE X e d)(p:PG X a g)(l:swapsWithSole [a] e pos.line X.env=pure aB:=by rfl)(f:swappedStores [a] e X.env=pure none:=by rfl)
  (i:(gi [a] X.env).map (·.2)=[assign a X.env]:=by rfl):PS X (.Assign [a] e pos) (Lf d g):=by
 intro b s c H D I h;refine wpAny_Assign_stores (YJ (m b s c H _ I h) λv s1 ⟨x,n,j,o,k⟩=>?_) l f;rw[i];exact YJ (p b s1 c n x v _ j o k) λ_ s2 q=>q
theorem CS{i:Nat}{x:ao}{e:av}{b:TE}{a:eu}(m:X.N.Nodup)(r:X.N[i]?=aA x)(c:FP X.env.scope x)(o:PE X e b)(g:g9 e (aA (.Name x a)) pos.line X.env=pure aB:=by rfl)(n:X.fn x=aC\/X.env.scope.names.lookup x=aA .local:=by first | exact .inl rfl | exact .inr rfl | assumption) :
  PS X (.Assign [.Name x a] e pos) (Lf b (U9 i)):=by
 intro j s k H D I h;refine wpAny_Assign_Name (YJ (o j s k H _ I h) λv s1 ⟨y,p,d,q,f⟩=>?_) g;exact R6 d m r c q (λs2 l=>⟨_,p,l,f⟩) n
end
section
variable {X:Cx} {pos:eu}
noncomputable def CT(c:TT)(tb:TS):TS:=λD σ H=>∃W:Nat->St->Hp->Prop,(∃m,W m σ H)/\∀m σ H,W m σ H->
 c σ H λb H1=>if b=aC then ∃N:St->Hp->Prop,(∀σ' H',N σ' H'->∃m',m'<m/\W m' σ' H')/\tb { D with nx:=N,ct:=N,bk:=D.nx } σ H1 else D.nx σ H1
theorem Hi{c:av}{e:List b7}{x:TT}{r:TS}(z:jK (model X.prog X.w) X.A X.env X.xe)(L:PT X c x)(B:PSs X e r):PS X (.While c e [] pos) (CT x r):=by
 intro m s F H D I h;obtain⟨W,⟨G,E⟩,turn⟩:=h;refine wpAny_While (codeAny_whileLoop (λn C=>∃σ' H',Inv X m σ' H' C/\W n σ' H') ?_ G ⟨F,H,I,E⟩);rintro n s1 ⟨d,y,A,J⟩;refine dY z (YJ (L m s1 d y _ A (turn n d y J)) λb s2 ⟨t,u,i⟩=>?_)
 cases b with
 | true=>
  obtain⟨N,w,i⟩:=i;refine dY z (YJ (B m s2 d t _ u i) λf M j=>?_)
  cases f with
  | next=>
   obtain⟨a,g,o,k⟩:=j;obtain⟨q,p,l⟩:=w a g k;exact⟨q,p,a,g,o,l⟩
  | cont=>
   obtain⟨a,g,o,k⟩:=j;obtain⟨q,p,l⟩:=w a g k;exact⟨q,p,a,g,o,l⟩
  | brk=>exact j
  | ret v=>exact j
 | false=>
  exact gX ⟨d,t,u,i⟩
end
structure It where
 go:Nat->Hp->Prop
 yld:Nat->Hp->V->Hp->Prop
 stop:Nat->Hp->Prop
noncomputable def W5(X:Cx)(kj:List (aJ×dF))(H:Hp)(b:aJ):Prop:=
 H b=none/\b≠X.env.locals/\b∉X.fs/\(b∈X.ex\/X.s₀.heap.objs.size<=b)/\(∀x c,X.env.cells.lookup x=aA c->c≠b)/\∀p∈X.pn++kj,p.1≠b
theorem Inv.fpOk{X:Cx}{d:List (aJ×dF)}{g:St}{H f:Hp}{s:aO}{b:aJ}(I:Inv X d g H s)(a:s.heap.objs.size<=b)(h:f b=none):W5 X d f b:=by
 refine⟨h,fF (aa I.lt a),I.nofs a,.inr (aU I.sz a),λx c e z=>?_,λp i z=>?_⟩
 ·obtain⟨v,q⟩:=I.cell x c e;exact absurd (aa q.lt (by rw[z];exact a)) (bz _)
 ·exact absurd (aa (aS (I.pin p i).1) (by rw[z];exact a)) (bz _)
structure OE(P:bN)(w:cC)(K:aD)(tg:av)(J:It)(fp:List aJ)(it:aJ)(tn:Nat->bW->Prop):Prop where
 mem:it∈fp
 obj:∀i h,tn i h->∀b∈fp,∃o,h.get? b=aA o/\∀v,o.data≠.cell v
 keep:∀i h h',tn i h->(∀b∈fp,∀o,h.get? b=aA o->h'.get? b=aA o)->tn i h'
 item:∀(X:Cx),X.prog=P->X.w=w->X.K=K->X.calm=aC->∀(i:Nat)(kj:List (aJ×dF))(s:aO)(σ:St)(H:Hp)(E:aG->aO->Prop),Inv X kj σ H s->(∀b∈fp,W5 X kj H b)->tn i s.heap->J.go i H->
  bG (model P w) X.A (kd (.ref it)) (λr s1=>∃u,r=aA u/\
   bG (model P w) X.A (i5 tg (.ref it) u) (λ_ s2=>∃x H',Inv X kj σ H' s2/\RelV x u/\J.yld i H x H'/\tn (i+1) s2.heap/\∀b∈fp,H' b=none) E s1) E s
 done:∀(X:Cx),X.prog=P->X.w=w->X.K=K->X.calm=aC->∀(i:Nat)(kj:List (aJ×dF))(s:aO)(σ:St)(H:Hp)(E:aG->aO->Prop),Inv X kj σ H s->(∀b∈fp,W5 X kj H b)->tn i s.heap->J.stop i H->
  bG (model P w) X.A (kd (.ref it)) (λr s1=>r=none/\Inv X kj σ H s1) E s
 self:∀(A:cA)(i:Nat)(s:aO)(Q:aG->aO->Prop)(E:aG->aO->Prop),tn i s.heap->Q (.ref it) s->bG (model P w) A (pyIter (.ref it)) Q E s
abbrev TI:=St->Hp->(It->Hp->Prop)->Prop
noncomputable def PIE(X:Cx)(kj:List (aJ×dF))(σ:St)(tg:av)(R:It->Hp->Prop)(itv:aG)(s2:aO):Prop:=
 ∃(it:aJ) (fp:List aJ) (tn:Nat->bW->Prop) (J:It) (H':Hp),itv = .ref it/\Inv X kj σ H' s2/\OE X.prog X.w X.K tg J fp it tn/\tn 0 s2.heap/\(∀b∈fp,W5 X kj H' b)/\R J H'
noncomputable def PI(X:Cx)(tg iter:av)(wi:TI):Prop:=
 ∀(kj:List (aJ×dF))(s:aO)(σ:St)(H:Hp)(R:It->Hp->Prop),Inv X kj σ H s->wi σ H R->
  bG (model X.prog X.w) X.A (eval iter X.env) (λv s1=>bG (model X.prog X.w) X.A (pyIter v) (PIE X kj σ tg R) X.xe s1) X.xe s
theorem Hj{M:Model}{A:cA}{E:aG->aO->Prop}{s:aO}{c:av}{b:aJ}{u:aG}{o:dF}{n:String}{vs:Array aG}{Q:Unit->aO->Prop}(d:s.heap.get? b=aA o)(f:o.cls = .type n)(e:o.data = .fields vs)
    (g:["enumerate","zip","dict_itemiterator","dict_reverseitemiterator","odict_iterator","itertools.zip_longest","itertools.pairwise"].contains n=aB) (a:Q () s):bG M A (i5 c (.ref b) u) Q E s:=by
  cases c<;>first
    | exact aj a
    | (cases u<;>first
        | exact aj a
        | (refine aM (wpAny_load d ?_)
           rw[f,e];show bG M A (if(["enumerate","zip","dict_itemiterator","dict_reverseitemiterator","odict_iterator","itertools.zip_longest","itertools.pairwise"].contains n&&vs[0]?==aA (ij _))=aC then _ else _) Q E s;rw[l4 (by intro h;rw[g] at h;cases h)];exact aj a))
noncomputable def Itl(K:aD)(a:aJ):It:=
 ⟨λi H=>∃xs x,SqL K H a xs/\xs[i]?=aA x,λi H x H'=>H'=H/\∀xs,SqL K H a xs->xs[i]?=aA x,λi H=>∃xs,SqL K H a xs/\xs.length<=i⟩
noncomputable def Itt(K:aD)(a:aJ):It:=
 ⟨λi H=>∃xs x,SqT K H a xs/\xs[i]?=aA x,λi H x H'=>H'=H/\∀xs,SqT K H a xs->xs[i]?=aA x,λi H=>∃xs,SqT K H a xs/\xs.length<=i⟩
noncomputable def Av(lo:Int)(n:Nat):It:=⟨λi _=>i<n,λi H x H'=>H'=H/\x = .int (lo+i),λi _=>n<=i⟩
theorem JN{P:bN}{w:cC}{K:aD}{Q:av}(a g:aJ):OE P w K Q (Itl K a) [g] g (λi h=>h.IsListIter g a i) where
 mem:=by simp
 obj:=λi h st b f=>by
  have e:b=g:=by simpa using f
  subst e;obtain⟨o,e,c,d⟩:=st;exact⟨o,e,λv z=>by rw[d] at z;cases z⟩
 keep:=λi h G st k=>st.at λo e=>k g (by simp) o e
 item:=by intro X D r B J i Y s Z H E I m st F;subst D r B;obtain⟨U,x,l,q⟩:=F;obtain⟨S,C,p,T⟩:=I.list l;obtain⟨u,M,L⟩:=C.get q;obtain⟨y,f1,f2,t,A,n⟩:=m g (by simp);refine wpAny_pyNext_list_item st p.isList (by simpa using M) λG j W=>?_;have N:=I.turned (t':=s.toks) (λb o f e=>(W.2 b f).trans e) y f1 t A n;obtain⟨o,e,c,d⟩:=id j;exact⟨u,rfl,Hj e c d rfl ⟨x,H,N,L,⟨rfl,λys O=>by rw[I.list_inj O l];exact q⟩,j,λb f=>(m b f).1⟩⟩
 done:=by intro X D r B J i Y s Z H E I m st F;subst D r B;obtain⟨U,l,q⟩:=F;obtain⟨S,C,p,T⟩:=I.list l;obtain⟨y,f1,f2,t,A,n⟩:=m g (by simp);have hl:=C.length;exact wpAny_pyNext_list_end (I.ok.hd J) st p.isList (by simp;omega) λG R=>⟨rfl,I.turned (λb o f e=>R b o f e) y f1 t A n⟩
 self:=λ_ _ _ _ _ st h=>wpAny_pyIter_listiter st h
theorem Lg{P:bN}{w:cC}{K:aD}{Q:av}(a g:aJ):OE P w K Q (Itt K a) [g] g (λi h=>h.IsTupleIter g a i) where
 mem:=by simp
 obj:=λi h st b f=>by
  have e:b=g:=by simpa using f
  subst e;obtain⟨o,e,c,d⟩:=st;exact⟨o,e,λv z=>by rw[d] at z;cases z⟩
 keep:=λi h G st k=>st.at λo e=>k g (by simp) o e
 item:=by intro X D r B J i Y s Z H E I m st F;subst D r B;obtain⟨U,x,l,q⟩:=F;obtain⟨S,C,p,T⟩:=I.tuple l;obtain⟨u,M,L⟩:=C.get q;obtain⟨y,f1,f2,t,A,n⟩:=m g (by simp);refine wpAny_pyNext_tuple_item st (p) (by simpa using M) λG j W=>?_;have N:=I.turned (t':=s.toks) (λb o f e=>(W.2 b f).trans e) y f1 t A n;obtain⟨o,e,c,d⟩:=id j;exact⟨u,rfl,Hj e c d rfl ⟨x,H,N,L,⟨rfl,λys O=>by rw[I.tuple_inj O l];exact q⟩,j,λb f=>(m b f).1⟩⟩
 done:=by intro X D r B J i Y s Z H E I m st F;subst D r B;obtain⟨U,l,q⟩:=F;obtain⟨S,C,p,T⟩:=I.tuple l;obtain⟨y,f1,f2,t,A,n⟩:=m g (by simp);have hl:=C.length;exact wpAny_pyNext_tuple_end (I.ok.hd J) st (p) (by simp;omega) λG R=>⟨rfl,I.turned (λb o f e=>R b o f e) y f1 t A n⟩
 self:=λ_ _ _ _ _ st h=>wpAny_pyIter_tupleiter st h
theorem Lh{P:bN}{w:cC}{K:aD}{D:av}(a:aJ)(lo:Int)(n:Nat):OE P w K D (Av lo n) [a] a (λi h=>IsRangeIter h a (lo+(i:Nat)*1) ((n:Int)-(i:Nat)) 1) where
 mem:=by simp
 obj:=λi h st b c=>by
  have e:b=a:=by simpa using c
  subst e
  exact⟨_,st,λv z=>by
   have J:=z;cases J⟩
 keep:=λi h p st k=>k a (by simp) _ st
 item:=by intro X B u x q i y s A H E I f st r;subst B u x;obtain⟨l,f1,f2,j,m,g⟩:=f a (by simp);have W:=Walks.range (prog:=X.prog) (w:=X.w) (I.ok.hd q) a lo 1 n;refine W.item i s _ _ r st λv p tk F d kk=>?_;obtain⟨t,rfl⟩:=F;have C:Inv X y A H { s with heap:=p,toks:=tk }:=I.turned (λb o c e=>kk b o (by simpa using c) e) l f1 j m g;refine⟨_,rfl,Hj d rfl rfl rfl ⟨.int (lo+i),H,C,⟨t,?_⟩,⟨rfl,rfl⟩,d,λb c=>(f b c).1⟩⟩;rw[gQ]
 done:=by intro X B u x q i y s A H E I f st r;obtain⟨l,f1,f2,j,m,g⟩:=f a (by simp);exact wpAny_pyNext_range_end (I.ok.hd q) st (by have:n<=i:=r;omega) λp G=>⟨rfl,I.turned (λb o c e=>G b o c e) l f1 j m g⟩
 self:=λ_ _ _ _ _ st h=>wpAny_pyIter_rangeiter st h
section
variable {X:Cx} {tg:av}
noncomputable def Aw(K:aD)(tl:TE):TI:=λσ H R=>tl σ H λx H1=>∃a,x = .ref a/\(∃xs,SqL K H1 a xs)/\R (Itl K a) H1
noncomputable def Zbi(K:aD)(tl:TE):TI:=λσ H R=>tl σ H λx H1=>∃a,x = .ref a/\(∃xs,SqT K H1 a xs)/\R (Itt K a) H1
theorem FW{l:av}{d:TE}(i:PE X l d):PI X tg l (Aw X.K d):=by
 intro k s m H R I h;refine YJ (i k s m H _ I h) λv s1 ⟨x,n,c,r,g⟩=>?_;obtain⟨a,e,⟨y,f⟩,q⟩:=g;subst e;cases r;obtain⟨t,w,p,u⟩:=c.list f;refine wpAny_pyIter_list p.isList ?_;refine⟨s1.heap.objs.size,[s1.heap.objs.size],_,_,n,rfl,c.kept λb o e=>aF _ e,JN a _,⟨_,a0 _ rfl,rfl,rfl⟩,λb j=>?_,q⟩;have e:b=s1.heap.objs.size:=by simpa using j
 subst e;exact c.fpOk (aL _) (c.hok.fresh (aL _))
theorem CU{l:av}{d:TE}(i:PE X l d):PI X tg l (Zbi X.K d):=by
 intro k s m H R I h;refine YJ (i k s m H _ I h) λv s1 ⟨x,n,c,r,g⟩=>?_;obtain⟨a,e,⟨y,f⟩,q⟩:=g;subst e;cases r;obtain⟨t,w,p,u⟩:=c.tuple f;refine jV (p) ?_;refine⟨s1.heap.objs.size,[s1.heap.objs.size],_,_,n,rfl,c.kept λb o e=>aF _ e,Lg a _,⟨_,a0 _ rfl,rfl,rfl⟩,λb j=>?_,q⟩;have e:b=s1.heap.objs.size:=by simpa using j
 subst e;exact c.fpOk (aL _) (c.hok.fresh (aL _))
theorem N0{d:List (aJ×dF)}{f:St}{H:Hp}{s:aO}{R:It->Hp->Prop}{E:aG->aO->Prop}{lo a:Int}{t u v:Tok}{tk:Nat}(I:Inv X d f H s)(g : -(2^62)<=lo)(m:lo<2^62)(k : -(2^62)<=a)(i:a<2^62)
  (q:R (Av lo (a-lo).toNat) H):bG (model X.prog X.w) X.A (pyIter (.ref s.heap.objs.size)) (PIE X d f tg R) E { s with heap:=s.heap.push { cls:=.type "range",data:=.fields #[.int lo t,.int a u,.int 1 v] },toks:=tk }:=by
 refine wpAny_pyIter_range (IsRange.new ..) (small_one g m k i) ?_;have c:Inv X d f H { s with heap:=s.heap.push { cls:=.type "range",data:=.fields #[.int lo t,.int a u,.int 1 v] },toks:=tk }:=I.kept λb o e=>aF _ e
 refine⟨(s.heap.push { cls:=.type "range",data:=.fields #[.int lo t,.int a u,.int 1 v] }).objs.size,[(s.heap.push { cls:=.type "range",data:=.fields #[.int lo t,.int a u,.int 1 v] }).objs.size],_,_,H,rfl,
  c.kept λb o e=>aF _ e,Lh _ lo (a-lo).toNat,?_,λb j=>?_,q⟩
 ·have l:lo+((0:Nat):Int)*1=lo:=by simp
  have h:(((a-lo).toNat:Nat):Int)-((0:Nat):Int)=jM.Range.rangeSize lo a 1:=by rw[rangeSize_one];split<;>omega
  rw[l,h];exact a0 _ rfl
 ·have e:b=(s.heap.push { cls:=.type "range",data:=.fields #[.int lo t,.int a u,.int 1 v] }).objs.size:=by simpa using j
  subst e;exact c.fpOk (aL _) (c.hok.fresh (aL _))
noncomputable def Ax(ta:TA):TI:=λσ H R=>ta σ H λvs H1=>∃j:Int,vs=[.int j]/\-(2^62)<=j/\j<2^62/\R (Av 0 j.toNat) H1
noncomputable def Ay(ta:TA):TI:=λσ H R=>ta σ H λvs H1=>∃i j:Int,vs=[.int i,.int j]/\(-(2^62)<=i/\i<2^62/\-(2^62)<=j/\j<2^62)/\R (Av i (j-i).toNat) H1
theorem JO{a:av}{c:TA}{p pos:eu}(o:Gl X "range")(m:X.mg "range" = none)(d:PA X [a] c)(g:aX [a] X.env=[(aB,eval a X.env)]:=by rfl):PI X tg (.Call (.Name "range" p) [a] [] pos) (Ax c):=by
 intro k s l H R I h;refine Call_ (UL I o m boot_range (cX (YJ (d pos k s l H _ I h) λv s1 ⟨vs,u,f,n,b⟩=>?_) g rfl));obtain⟨j,e,b,i,q⟩:=b;subst e
 cases n with
 | cons r rr=>
  cases rr;obtain⟨t,rfl⟩:=r;exact call_range_1 (N0 f (by omega) (by omega) b i (by simpa using q))
theorem JP{a b:av}{f:TA}{p pos:eu}(y:Gl X "range")(v:X.mg "range" = none)(g:PA X [a,b] f)(l:aX [a,b] X.env=[(aB,eval a X.env),(aB,eval b X.env)]:=by rfl)(c:aX [b] X.env=[(aB,eval b X.env)]:=by rfl) :
  PI X tg (.Call (.Name "range" p) [a,b] [] pos) (Ay f):=by
 intro n s u H R I h;refine Call_ (UL I y v boot_range (cX (YJ (g pos n s u H _ I h) λA s1 ⟨vs,z,k,x,d⟩=>?_) (by rw[l,c]) (by rw[c];rfl)));obtain⟨i,j,e,⟨d,m,w,o⟩,q⟩:=d;subst e
 cases x with
 | cons r rr=>
  cases rr with
  | cons r' rr=>
   cases rr;obtain⟨t,rfl⟩:=r;obtain⟨t',rfl⟩:=r';exact call_range_2 (N0 k d m w o q)
noncomputable def Zbj(wi:TI)(g:TG)(tb:TS):TS:=λD σ H=>wi σ H λJ H1=>∃W:Nat->Nat->St->Hp->Prop,(∃m,W 0 m σ H1)/\∀i m σ H,W i m σ H->
 (J.stop i H/\D.nx σ H)\/(J.go i H/\∃N:St->Hp->Prop,(∀σ' H',N σ' H'->∃m',m'<m/\W (i+1) m' σ' H')/\∀x H',J.yld i H x H'->g x σ H' λσ2 H2=>tb { D with nx:=N,ct:=N,bk:=D.nx } σ2 H2)
noncomputable def T5(fp:List aJ)(h:bW):List (aJ×dF):=fp.filterMap λb=>(h.get? b).map λo=>(b,o)
theorem W6{a:List aJ}{h:bW}{b:aJ}{o:dF}(c:b∈a)(e:h.get? b=aA o):(b,o)∈T5 a h:=jW.mpr ⟨b,c,by rw[e];rfl⟩
theorem JQ{a:List aJ}{h:bW}{p:aJ×dF}(d:p∈T5 a h):p.1∈a/\h.get? p.1=aA p.2:=by
 obtain⟨b,c,e⟩:=jW.mp d
 cases q:h.get? b with
 | none=>rw[q] at e;cases e
 | some o=>
  rw[q] at e;have f:=ay e;subst f;exact⟨c,q⟩
theorem Inv.pinned{a:List (aJ×dF)}{h:St}{H:Hp}{s:aO}{c:List aJ}(I:Inv X a h H s)(k:∀b∈c,W5 X a H b)(i:∀b∈c,∃o,s.heap.get? b=aA o/\∀v,o.data≠.cell v):Inv X (a++T5 c s.heap) h H s:=
 I.pins_of λp l=>(b6.mp l).elim (λz=>I.pin p (af _ z)) λz=>by obtain⟨g,e⟩:=JQ z;obtain⟨j,f1,f2,_⟩:=k p.1 g;obtain⟨o,f,d⟩:=i p.1 g;rw[e] at f;cases f;exact⟨e,j,f1,f2,d⟩
theorem Inv.unpinned{a c:List (aJ×dF)}{b:St}{H:Hp}{s:aO}(I:Inv X (a++c) b H s):Inv X a b H s:=I.pins_of λp d=>I.pin p (af _ (bX _ d))
theorem CV{q:av}{t:List b7}{Z:TI}{g:TG}{tb:TS}{pos:eu}(B:jK (model X.prog X.w) X.A X.env X.xe)(hc:X.calm=aC)(hi:PI X tg q Z)(hg:PG X tg g)(c:PSs X t tb)
  (hs:∀x,bY q X.env x=pure x:=by intro _;rfl):PS X (.For tg q t [] pos) (Zbj Z g tb):=by
 intro y s σ H D I h;refine wpAny_For (YJ (hi y s σ H _ I h) λv s1 h1=>YJ h1 λitv s2 h2=>?_) hs;obtain⟨it,G,tn,J,H2,e,I2,T,O,f2,W,⟨m0,w0⟩,turn⟩:=h2;subst e
 -- what stays aC of the iterator's objects through the loop
 have k:∀{H':Hp},(∀b∈G,H' b=none)->∀b∈G,W5 X y H' b:=λhn b c=>⟨hn b c,(f2 b c).2⟩;refine codeAny_forLoop_any (λn U=>∃i σ' H',Inv X y σ' H' U/\tn i U.heap/\(∀b∈G,H' b=none)/\W i n σ' H') ?_ m0 ⟨0,σ,H2,I2,O,λb c=>(f2 b c).1,w0⟩;rintro n s3 ⟨i,l,L,I3,F,E,w3⟩;rcases turn i n l L w3 with⟨A,qn⟩ | ⟨go,N,hN,step⟩
 ·refine dY B (YJ (T.done X rfl rfl rfl hc i y s3 l L X.xe I3 (k E) F A) λr s4 ⟨S,I4⟩=>?_);subst S;exact gX ⟨l,L,I4,qn⟩
 ·refine dY B (YJ (T.item X rfl rfl rfl hc i y s3 l L X.xe I3 (k E) F go) λr s4 ⟨u,S,h4⟩=>?_);subst S;refine dY B (YJ h4 λ_ s5 ⟨x,Y,I5,r5,y5,z,R⟩=>?_);have Q:=I5.pinned (k R) (T.obj _ _ z);refine dY B (YJ (hg _ s5 l Y x u _ Q r5 (step x Y y5)) λ_ s6 ⟨P,H6,I6,q6⟩=>?_);refine dY B (YJ (c _ s6 P H6 _ I6 q6) λf M w=>?_);have again:∀{a:St}{j:Hp},Inv X (y++T5 G s5.heap) a j M->N a j->∃m,m<n/\∃i σ' H',Inv X y σ' H' M/\tn i M.heap/\(∀b∈G,H' b=none)/\W i m σ' H':=λ{a j} p C=>by obtain⟨m',hm,w7⟩:=hN a j C;refine⟨m',hm,i+1,a,j,p.unpinned,T.keep _ _ _ z λb c o e=>(p.pin (b,o) (af _ (af _ (W6 c e)))).1,λb c=>?_,w7⟩;obtain⟨o,e,d⟩:=T.obj _ _ z b c;exact(p.pin (b,o) (af _ (af _ (W6 c e)))).2.1
  cases f with
  | next=>obtain⟨a,j,p,C⟩:=w;exact again p C
  | cont=>obtain⟨a,j,p,C⟩:=w;exact again p C
  | brk=>obtain⟨a,j,p,w⟩:=w;exact⟨a,j,p.unpinned,w⟩
  | ret v=>obtain⟨x7,a,j,p,r7,w⟩:=w;exact⟨x7,a,j,p.unpinned,r7,w⟩
end
abbrev R2:=V->V->Hp->VK->Prop
noncomputable def U7(X:Cx)(f:aG->aG->Sem aG)(r:R2):Prop:=
 ∀(kj:List (aJ×dF))(s:aO)(σ:St)(H:Hp)(x y:V)(v u:aG)(Q:VK),Inv X kj σ H s->RelV x v->RelV y u->r x y H Q->
  bG (model X.prog X.w) X.A (f v u) (EP X kj σ Q) X.xe s
noncomputable def UnR(X:Cx)(f:aG->Sem aG)(r:V->Hp->VK->Prop):Prop:=
 ∀(kj:List (aJ×dF))(s:aO)(σ:St)(H:Hp)(x:V)(v:aG)(Q:VK),Inv X kj σ H s->RelV x v->r x H Q->
  bG (model X.prog X.w) X.A (f v) (EP X kj σ Q) X.xe s
noncomputable def Xx(X:Cx)(f:aG)(r:List V->Hp->VK->Prop):Prop:=
 ∀(kj:List (aJ×dF))(s:aO)(σ:St)(H:Hp)(xs:List V)(us:List aG)(Q:VK),Inv X kj σ H s->Vals xs us->r xs H Q->
  bG (model X.prog X.w) X.A (call f us) (EP X kj σ Q) X.xe s
noncomputable def Zbl(X:Cx)(r:V->Hp->(Bool->Hp->Prop)->Prop):Prop:=
 ∀(kj:List (aJ×dF))(s:aO)(σ:St)(H:Hp)(x:V)(v:aG)(Q:Bool->Hp->Prop),Inv X kj σ H s->RelV x v->r x H Q->
  bG (model X.prog X.w) X.A (truthy v) (TP X kj σ Q) X.xe s
noncomputable def B8(r:R2)(ta tb:TE):TE:=λσ H Q=>ta σ H λx H1=>tb σ H1 λy H2=>r x y H2 Q
noncomputable def tUn(r:V->Hp->VK->Prop)(ta:TE):TE:=λσ H Q=>ta σ H λx H1=>r x H1 Q
noncomputable def rI(C:Int->Int->Prop)(g:Int->Int->V):R2:=λx y H Q=>∃i j,x = .int i/\y = .int j/\C i j/\Q (g i j) H
noncomputable def DU(g:Int->Int->V):R2:=λx y H Q=>∃i j,x = .int i/\y = .int j/\Q (g i j) H
noncomputable def rU(g:Int->V):V->Hp->VK->Prop:=λx H Q=>∃i,x = .int i/\Q (g i) H
section
variable {X:Cx} {a b c:av} {ta tb tc:TE} {pos:eu}
theorem CW(k:PE X a ta)(n:PE X b tb){i:List (aJ×dF)}{s:aO}{d:St}{H:Hp}{R:V->V->Hp->Prop}(I:Inv X i d H s)
  (h:ta d H λx j=>tb d j λy c=>R x y c) {Q:aG->aO->Prop} {f:aG->aG->Sem aG}
  (q:∀v u s2 x y c,Inv X i d c s2->RelV x v->RelV y u->R x y c->bG (model X.prog X.w) X.A (f v u) Q X.xe s2) :
  bG (model X.prog X.w) X.A (eval a X.env) (λv e=>bG (model X.prog X.w) X.A (eval b X.env) (λu g=>bG (model X.prog X.w) X.A (f v u) Q X.xe g) X.xe e) X.xe s:=by
 refine YJ (k i s d H _ I h) λv s1 ⟨x,j,l,r,m⟩=>?_;refine YJ (n i s1 d j _ l m) λu s2 ⟨y,c,p,t,o⟩=>?_;exact q v u s2 x y c p r t o
theorem Hk{op:Operator}{r:R2}(c:U7 X (dB op) r)(d:PE X a ta)(e:PE X b tb):PE X (.BinOp a op b pos) (B8 r ta tb):=by intro g s i H Q I h;exact wpAny_BinOp (CW d e I h λv u s2 x y f j l k q=>c g s2 i f x y v u Q j l k q)
theorem Az{op:UnaryOp}{r:V->Hp->VK->Prop}(d:UnR X (unaryOp op) r)(g:PE X a ta):PE X (.UnaryOp op a pos) (tUn r ta):=by intro b s c H Q I h;exact UnaryOp_ (YJ (g b s c H _ I h) λv s1 ⟨x,f,j,i,e⟩=>d b s1 c f x v Q j i e)
theorem CY{f:aG->aG->Sem aG}{C:Int->Int->Prop}{g:Int->Int->Int}
  (rule:∀(i j:Int)(t u:Tok)(s:aO)(Q:aG->aO->Prop)(E:aG->aO->Prop),C i j->Q (.int (g i j) s.toks) { s with toks:=s.toks+1 }->bG (model X.prog X.w) X.A (f (.int i t) (.int j u)) Q E s) :
  U7 X f (rI C λi j=>.int (g i j)):=by
 intro d s e H x y v u Q I b a h;obtain⟨i,j,rfl,rfl,c,q⟩:=h;obtain⟨t,rfl⟩:=b;obtain⟨t',rfl⟩:=a;exact rule i j t t' s _ _ c ⟨.int (g i j),H,I.tok _,⟨_,rfl⟩,q⟩
theorem AA{f:aG->aG->Sem aG}{g:Int->Int->Int}
  (rule:∀(i j:Int)(t u:Tok)(s:aO)(Q:aG->aO->Prop)(E:aG->aO->Prop),Q (.int (g i j) s.toks) { s with toks:=s.toks+1 }->bG (model X.prog X.w) X.A (f (.int i t) (.int j u)) Q E s) :
  U7 X f (DU λi j=>.int (g i j)):=by
 intro c s d H x y v u Q I b a h;obtain⟨i,j,rfl,rfl,q⟩:=h;obtain⟨t,rfl⟩:=b;obtain⟨t',rfl⟩:=a;exact rule i j t t' s _ _ ⟨.int (g i j),H,I.tok _,⟨_,rfl⟩,q⟩
theorem AB{f:aG->aG->Sem aG}{g:Int->Int->Bool}
  (rule:∀(i j:Int)(t u:Tok)(s:aO)(Q:aG->aO->Prop)(E:aG->aO->Prop),Q (.bool (g i j)) s->bG (model X.prog X.w) X.A (f (.int i t) (.int j u)) Q E s) :
  U7 X f (DU λi j=>.bl (g i j)):=by
 intro c s d H x y v u Q I b a h;obtain⟨i,j,rfl,rfl,q⟩:=h;obtain⟨t,rfl⟩:=b;obtain⟨t',rfl⟩:=a;exact rule i j t t' s _ _ ⟨.bl (g i j),H,I,rfl,q⟩
noncomputable def Li(i j:Int):Prop:=0<j/\j<1073741824
noncomputable def DV(i j:Int):Prop:=j≠0/\j.natAbs<1073741824
noncomputable def JR(i j:Int):Prop:=0<=j/\j<=1000000/\i.natAbs<2^64
noncomputable def CMul(i j:Int):Prop:=(-(2^64)<i/\i<2^64)\/(-(2^64)<j/\j<2^64)
theorem CMul.ok{i j:Int}(h:CMul i j):IntMulOk i j:=by
 rcases h with⟨a,b⟩ | ⟨a,b⟩
 ·exact .of_left (intBits_le_64 a b)
 ·exact .of_right (intBits_le_64 a b)
theorem CZ:U7 X (dB .Add) (DU λi j=>.int (i+j)):=AA λ_ _ _ _ _ _ _ q=>add_int q
theorem C0:U7 X (dB .Sub) (DU λi j=>.int (i-j)):=AA λ_ _ _ _ _ _ _ q=>sub_int q
theorem C1:U7 X (dB .Mult) (rI CMul λi j=>.int (i*j)):=CY λ_ _ _ _ _ _ _ a q=>mul_int q a.ok
theorem FX:U7 X (dB .FloorDiv) (rI Li λi j=>.int (i/j)):=CY λi j _ _ _ _ _ a q=>by have b:=a.1;have c:=a.2;exact jb (by omega) (by rw[dN i (by omega)];exact q) (.inl (PyProof.noPylong_small (by omega)))
theorem C2:U7 X (dB .Mod) (rI (λ_ j=>0<j) λi j=>.int (i%j)):=CY λi j _ _ _ _ _ a q=>by exact mod_int' (by omega) (by rw[Int.fmod_eq_emod_of_nonneg i (by omega)];exact q)
theorem FY:U7 X (dB .Mod) (rI (λ_ j=>j≠0) λi j=>.int (i.fmod j)):=CY λ_ _ _ _ _ _ _ a q=>mod_int' a q
theorem C3:U7 X (dB .Pow) (rI JR λi j=>.int (i^j.toNat)):=CY λ_ _ _ _ _ _ _ a q=>pow_int_small a.1 a.2.1 a.2.2 q
theorem unI{f:aG->Sem aG}{g:Int->Int}
  (rule:∀(i:Int)(t:Tok)(s:aO)(Q:aG->aO->Prop)(E:aG->aO->Prop),Q (.int (g i) s.toks) { s with toks:=s.toks+1 }->bG (model X.prog X.w) X.A (f (.int i t)) Q E s) :
  UnR X f (rU λi=>.int (g i)):=by
 intro b s c H x v Q I a h;obtain⟨i,rfl,q⟩:=h;obtain⟨t,rfl⟩:=a;exact rule i t s _ _ ⟨.int (g i),H,I.tok _,⟨_,rfl⟩,q⟩
theorem C4:UnR X (unaryOp .USub) (rU λi=>.int (-i)):=unI λ_ _ _ _ _ q=>neg_int q
end
section
variable {X:Cx} {a b c:av} {ta tb tc:TE} {pos:eu}
theorem DW:U7 X (eU .Lt) (DU λi j=>.bl (decide (i<j))):=AB λ_ _ _ _ _ _ _ q=>lt_int q
theorem AD:U7 X (eU .Gt) (DU λi j=>.bl (decide (j<i))):=AB λ_ _ _ _ _ _ _ q=>gt_int q
theorem UM(b:av){op:kC}(h:op≠.In:=by decide)(c:op≠.NotIn:=by decide):cP op b=aB:=by
 have a:(op==kC.In)=aB:=by cases op<;>first | rfl | exact absurd rfl h
 have d:(op==kC.NotIn)=aB:=by cases op<;>first | rfl | exact absurd rfl c
 cases b<;>simp[cP,a,d]
theorem FZ{op:kC}{r:R2}(c:U7 X (eU op) r)(d:PE X a ta)(e:PE X b tb)(j:cP op b=aB):PE X (.Compare a [op] [b] pos) (B8 r ta tb):=by intro g s i H Q I h;exact wpAny_Compare1 (CW d e I h λv u s2 x y f k m l q=>c g s2 i f x y v u Q k m l q) j
noncomputable def KI(t:TE):TT:=λσ H Q=>t σ H λx H'=>∃k,x = .bl k/\Q k H'
theorem F0{op:kC}{r:R2}(g:U7 X (eU op) r)(i:PE X a ta)(m:PE X b tb)(q:cP op b=aB):PT X (.Compare a [op] [b] pos) (KI (B8 r ta tb)):=by
 intro d s f H Q I h
 refine ic (YJ (i d s f H _ I h) λv s1 ⟨x,B,j,C,l⟩=>YJ (m d s1 f B _ j l) λu s2 ⟨y,n,t,E,o⟩=>
  YJ (g d s2 f n x y v u _ t C E o) λc F ⟨z,w,p,D,k,e,A⟩=>?_) q
 subst e;cases D;exact c9 ⟨w,p,A⟩
noncomputable def Zbm(K:aD)(x:V)(H:Hp)(k:Bool):Prop:=
 match x with
 | .non=>k=aB
 | .bl b=>k=b
 | .int i=>k=(i != 0)
 | .str y=>y.length<=sizeLine/\k=((y.length:Int) != 0)
 | .byt y=>y.size<=sizeLine/\k=((y.size:Int) != 0)
 | .ref p=>(∃xs,SqL K H p xs/\k = !xs.isEmpty)\/(∃xs,SqT K H p xs/\k = !xs.isEmpty)\/∃ko,H p=aA (.dK ko)/\k = !ko.isEmpty
 | _=>False
theorem Lj{b:Type}{a:List (b×V)}{vs:List (b×aG)}(r:KV a vs):(!vs.isEmpty) = !a.isEmpty:=by cases r<;>rfl
theorem R7{b:List V}{a:List aG}(r:Vals b a):(!a.toArray.isEmpty) = !b.isEmpty:=by cases r<;>simp
theorem OF:(sizeLine:Nat)<2^63:=by rw[ik];decide
theorem tru_ok:Zbl X (λx H Q=>∃k,Zbm X.K x H k/\Q k H):=by
 intro A s B H x v Q I d h;obtain⟨k,e,q⟩:=h;have z:=ik
 cases x with
 | non=>
  cases d;have a:=e;subst a;exact truthy_none ⟨H,I,q⟩
 | bl b=>
  cases d;have a:=e;subst a;exact c9 ⟨H,I,q⟩
 | int i=>
  obtain⟨t,rfl⟩:=d;have a:=e;subst a;exact PySem.P.truthy_int ⟨H,I,q⟩
 | str y=>
  obtain⟨t,rfl⟩:=d;obtain⟨l,a⟩:=e;subst a;exact PySem.P.truthy_str (by omega) ⟨H,I.tok _,q⟩
 | byt y=>
  obtain⟨t,rfl⟩:=d;obtain⟨l,a⟩:=e;subst a;exact PySem.W.truthy_bytes (by omega) ⟨H,I.tok _,q⟩
 | ref p=>
  cases d;have a:=e;rcases a with⟨u,f,a⟩ | ⟨u,f,a⟩ | ⟨w,f,a⟩
  ·subst a;obtain⟨o,r,g,j⟩:=I.list f;have c:=r.length;exact wpAny_truthy_list g.isList (by simp only[aP];omega) ⟨H,I.tok _,by rw[R7 r];exact q⟩
  ·subst a;obtain⟨o,r,g,j⟩:=I.tuple f;have c:=r.length;exact truthy_tuple g (by simp only[aP];omega) ⟨H,I.tok _,by rw[R7 r];exact q⟩
  ·subst a;obtain⟨j,n,vs,r,m⟩:=I.hok p _ f;have c:=Paired.length r;exact wpAny_truthy_dict n m (by omega) ⟨H,I.tok _,by rw[Lj r];exact q⟩
 | _=>exact(e).elim
theorem Ta{x:V}{a:List aG}(r:Vals [x] a):∃u,a=[u]/\RelV x u:=by
 cases r with
 | cons r1 r2=>cases r2;exact⟨_,rfl,r1⟩
theorem DX{x y:V}{a:List aG}(r:Vals [x,y] a):∃u w',a=[u,w']/\RelV x u/\RelV y w':=by
 cases r with
 | cons r1 r2=>
  cases r2 with
  | cons r3 r4=>cases r4;exact⟨_,_,rfl,r1,r3⟩
theorem N1:Xx X (.builtin "abs") (λa H Q=>∃i,a=[.int i]/\Q (.int (if i<0 then -i else i)) H):=by intro b s c H a d Q I r h;obtain⟨i,rfl,q⟩:=h;obtain⟨u,rfl,t,rfl⟩:=Ta r;exact call_abs_int λu tk=>⟨.int (if i<0 then -i else i),H,I.tok _,⟨_,rfl⟩,q⟩
theorem JS(c:X.calm=aC):Xx X (.builtin "min") (λb H Q=>∃i j,b=[.int i,.int j]/\Q (.int (if j<i then j else i)) H):=by
 intro e s f H b l Q I r h;obtain⟨i,j,rfl,q⟩:=h;obtain⟨u,d,rfl,⟨t,rfl⟩,⟨t',rfl⟩⟩:=DX r;refine min_two_ints (I.ok.hd c) λg tk k=>⟨_,H,I.kept k,?_,q⟩;by_cases a:j<i
 ·rw[kz a,kz a];exact⟨_,rfl⟩
 ·rw[l4 a,l4 a];exact⟨_,rfl⟩
noncomputable def AE(K:aD)(x:V)(H:Hp)(n:Nat):Prop:=
 match x with
 | .str y=>y.length<=sizeLine/\n=y.length
 | .byt y=>y.size<=sizeLine/\n=y.size
 | .ref p=>(∃xs,SqL K H p xs/\n=xs.length)\/∃xs,SqT K H p xs/\n=xs.length
 | _=>False
theorem Hl:Xx X (.builtin "len") (λc H Q=>∃x n,c=[x]/\AE X.K x H n/\Q (.int n) H):=by
 intro o s v H c w Q I r h;obtain⟨x,n,rfl,e,q⟩:=h;obtain⟨u,rfl,i⟩:=Ta r;have m:=ik
 cases x with
 | str y=>
  obtain⟨t,rfl⟩:=i;obtain⟨j,b⟩:=e;subst b;exact len_str (by omega) ⟨.int _,H,I.tok _,⟨_,rfl⟩,q⟩
 | byt y=>
  obtain⟨t,rfl⟩:=i;obtain⟨j,b⟩:=e;subst b;exact PySem.W.len_bytes (by omega) ⟨.int _,H,I.tok _,⟨_,rfl⟩,q⟩
 | ref p=>
  cases i;have b:=e;rcases b with⟨c,d,b⟩ | ⟨c,d,b⟩
  ·subst b;obtain⟨k,g,f,l⟩:=I.list d;have a:=g.length;exact Calls.call_len_list f.isList (by simp only[aP];omega) ⟨.int c.length,H,I.tok _,⟨_,by simp only[aP];rw[a]⟩,q⟩
  ·subst b;obtain⟨k,g,f,l⟩:=I.tuple d;have a:=g.length;exact len_tuple f (by simp only[aP];omega) ⟨.int c.length,H,I.tok _,⟨_,by simp only[aP];rw[a]⟩,q⟩
 | _=>exact(e).elim
end
structure ObjM(h:bW)(x dx C:aJ)(mA:ao->Option aG):Prop where
 obj:h.get? x=aA (iZ C dx)
 ns:h.Ns1 dx mA
 ne:dx≠x
theorem JT{h:bW}{g:aJ}{f:ao->Option aG}(n:h.Ns1 g f):∃od,h.get? g=aA od/\∀b,il b od=aA (f b):=by
 obtain⟨o,d,ep,i,l,j,_,p⟩:=n;refine⟨o,i,λb=>?_⟩;have e:=p b;unfold nsFind findBy at e;rw[<-Array.find?_toList] at e;unfold il;rw[l]
 dsimp only
 split
 ·rename_i y q;rw[q] at e;exact congrArg aA e
 ·rename_i q;rw[q] at e;have a:d.toList.any (·.refKey)=aB:=by rw[fX];intro y k;obtain⟨z,t,c⟩:=j y (Array.mem_toList_iff.mp k);simp[DictEntry.refKey,c]
  have m:¬d.toList.any (·.refKey)=aC:=by rw[a];exact bO
  rw[l4 m];exact congrArg aA e
theorem ObjM.look{h:bW}{x b C:aJ}{c:ao->Option aG}(I:ObjM h x b C c):∃a,PySem.W.InstAt h x (iZ C b) C (aA a)/\∀name,il name a=aA (c name):=
 let⟨a,d,e⟩:=JT I.ns
 ⟨a,⟨I.obj,rfl,rfl,d⟩,e⟩
section
variable {P:bN} {w:cC} {H H':Hp} {h h':bW} {a C dx:aJ} {fs fs':List (ao×V)}
theorem F1(c:HOk P w H h)(e:H a=aA (.ins C dx fs)):∃b,ObjM h a dx C b/\(∀f,Cz (fs.lookup f) (b f))/\k9 b (fs.map (·.1))/\fs.length<=1000/\H dx=aA (.own a):=by obtain⟨d,z,ne,g,b,n,r,q⟩:=(c a _ e);exact⟨b,⟨g,n,ne⟩,r,q,z,d⟩
end
structure Cls(K:aD)(C:aJ):Prop where
 pg:jv K C ao.empty=aC
 hd:PySem.W.hasDictIn K C=aC
 po:PySem.W.plainOver K C=aC
 sa:fC K (.ref C) "__setattr__" = aA (aA (.builtin "object.__setattr__"))
theorem Cls.get{K:aD}{C:aJ}(c:Cls K C)(f:ao):jv K C f=aC:=c.pg
section
variable {X:Cx} {kj:List (aJ×dF)} {σ:St} {H:Hp} {s:aO} {A:cA} {E:aG->aO->Prop} {Q:aG->aO->Prop} {c:aG} {b:Bool}
inductive TyOf(K:aD)(H:Hp):V->aG->Prop where
 | non:TyOf K H .non (.type "NoneType")
 | bl (x:Bool):TyOf K H (.bl x) (.type "bool")
 | int (i:Int):TyOf K H (.int i) (.type "int")
 | str (x:ao):TyOf K H (.str x) (.type "str")
 | flt (x:UInt64):TyOf K H (.flt x) (.type "float")
 | lst {a:aJ} {xs:List V} (e:H a=aA (.lst xs)):TyOf K H (.ref a) (.type "list")
 | frz {a:aJ} {o:dF} {xs:List V} (e:H a=aA (.frz o (.lst xs))):TyOf K H (.ref a) (.type "list")
 | tup {a:aJ} {xs:List V} (e:H a=aA (.tup xs)):TyOf K H (.ref a) (.type "tuple")
 | dK {a:aJ} {ko:List (Pn×V)} (e:H a=aA (.dK ko)):TyOf K H (.ref a) (.type "dict")
 | dT {a:aJ} {ko:List (List Pn×V)} (e:H a=aA (.dT ko)):TyOf K H (.ref a) (.type "dict")
 | ins {a C dx:aJ} {fs:List (ao×V)} (e:H a=aA (.ins C dx fs)) (cl:Cls K C) (ha:fC K (.ref C) "__class__" = aA (aA (.builtin "object.__class__")))
   (hn:PySem.W.specialIn K (.builtin "object.__class__") "__get__" = aA (aA (.builtin "getset_descriptor.__get__"))) (htk:PySem.W.takesIn K (.builtin "object.__class__")=aA aC)
   (hm:kY K C (.type "object")=aA aC):TyOf K H (.ref a) (.ref C)
theorem JU{x:V}{u t:aG}(I:Inv X kj σ H s)(d:RelV x u)(ty:TyOf X.K H x t)(e:cG X.K t c=aA b)(h:∀tk,Q (.bool b) { s with toks:=tk }) :
  bG (model X.prog X.w) A (call (.builtin "isinstance") [u,c]) Q E s:=by
 cases ty with
 | non=>cases (d);exact cJ PySem.W.kitx_none I.kIn cw e (λz=>nomatch z) h
 | bl y=>cases (d);exact cJ PySem.W.kitx_bool I.kIn cw e (λz=>nomatch z) h
 | int i=>obtain⟨t,q⟩:=(d);cases q;exact cJ PySem.W.kitx_int I.kIn cw e (λz=>nomatch z) h
 | str y=>obtain⟨t,q⟩:=(d);cases q;exact cJ PySem.W.kitx_str I.kIn cw e (λz=>nomatch z) h
 | flt y=>obtain⟨t,q⟩:=(d);cases q;exact cJ PySem.W.kitx_float I.kIn cw e (λz=>nomatch z) h
 | @lst a j ea=>
  cases (d);obtain⟨_,_,n,_,f⟩:=(I.hok a _ ea);exact cJ jc I.kIn ⟨_,f,rfl⟩ e (λz=>nomatch z) h
 | @frz a ob j ea=>
  cases (d);obtain⟨_,_,_,n,_,f⟩:=(I.hok a _ ea);exact cJ jc I.kIn ⟨_,f,rfl⟩ e (λz=>nomatch z) h
 | @tup a j ea=>
  cases (d);obtain⟨_,_,_,p⟩:=(I.hok a _ ea);obtain⟨o,f,g,_⟩:=p;exact cJ PySem.W.kitx_tuple I.kIn ⟨o,f,g⟩ e (λz=>nomatch z) h
 | @dK a ko ea=>
  cases (d);obtain⟨_,_,vs,_,p⟩:=(I.hok a _ ea);obtain⟨o,k,ep,f,g,_⟩:=p;exact cJ jd I.kIn ⟨o,f,g.1⟩ e (λz=>nomatch z) h
 | @dT a ko ea=>
  cases (d);obtain⟨_,_,j,_,o,k,ep,f,g,_⟩:=(I.hok a _ ea);exact cJ jd I.kIn ⟨o,f,g.1⟩ e (λz=>nomatch z) h
 | @ins a C dx fs ea cl ha hn htk hm=>
  cases (d);obtain⟨l,O,_⟩:=F1 I.hok ea;obtain⟨m,J,_⟩:=O.look;exact cJ (PySem.W.kitx_own (cl.get _) cl.hd ha hn htk hm) I.kIn J e (λz=>nomatch z) h
end
structure Room(k:Nat)(A:cA):Prop where
 hd:A.handled=none
 dp:A.depth+3*k+5<ip
 un:A.units+16*k+200<fY
 gd:A.guards=aA []
theorem Room.mono{j k:Nat}{A:cA}(r:Room k A)(h:j<=k):Room j A:=⟨r.hd,by have:=r.dp;omega,by have:=r.un;omega,r.gd⟩
theorem Room.deeper{k:Nat}{A:cA}(r:Room (k+1) A)(env:jt):Room k (A.deeper env):=
 ⟨r.hd,by have:=r.dp;show A.depth+1+3*k+5<_;omega,by have:=r.un;show A.units+3+16*k+200<_;omega,r.gd⟩
theorem Room.depth{k:Nat}{A:cA}(r:Room k A):A.depth<ip:=by have:=r.dp;omega
theorem Room.units{k:Nat}{A:cA}(r:Room k A):A.units+64<fY:=by have:=r.un;omega
noncomputable def F2:TA:=λ_ H Q=>Q [] H
noncomputable def R8(ta:TE)(tr:TA):TA:=λσ H Q=>ta σ H λx H1=>tr σ H1 λxs H2=>Q (x::xs) H2
section
variable {X:Cx} {e:av} {es:List av} {te:TE} {t:TA} {pos:eu}
theorem UN:PA X [] F2:=λ_ _ _ _ H Q I h=>Calls.spliced_nil ⟨[],H,I,.nil,h⟩
theorem Y3(c:PE X e te)(m:PA X es t)(g:aX (e::es) X.env=(aB,eval e X.env)::aX es X.env:=by rfl):PA X (e::es) (R8 te t):=by intro pos a s b H Q I h;rw[g];refine Calls.spliced_cons (YJ (c a s b H _ I h) λu s1 ⟨x,n,d,o,f⟩=>?_);exact YJ (m pos a s1 b n _ d f) λq s2 ⟨k,i,l,p,j⟩=>⟨x::k,i,l,.cons o p,j⟩
noncomputable def AF(t:TA):TE:=λσ H Q=>t σ H λxs H1=>xs.length<=sizeLine/\∀p,H1 p=none->Q (.ref p) (upd H1 p (.tup xs))
noncomputable def Zbn(t:TA):TE:=λσ H Q=>t σ H λxs H1=>xs.length<=sizeLine/\∀p,H1 p=none->Q (.ref p) (upd H1 p (.lst xs))
theorem Lk{x1}(h:PA X es t):PE X (.Tuple es x1 pos) (AF t):=by intro f s g H Q I c;refine wpAny_Tuple_spliced (YJ (h pos f s g H _ I c) λk s1 ⟨d,j,a,r,z,q⟩=>⟨by rw[<-r.length];exact z,?_⟩);have i:=a.hok.fresh (aL _);refine⟨.ref s1.heap.objs.size,upd j s1.heap.objs.size (.tup d),a.laid (λb u e=>aF _ e) (aL _) ?_,rfl,q _ i⟩;exact⟨⟨z,λo e=>R5 e⟩,k,r,⟨_,a0 _ rfl,rfl,_,rfl⟩⟩
theorem Hm(h:PA X es t):PE X (.List es pos) (Zbn t):=by intro f s g H Q I c;refine wpAny_List_spliced (YJ (h pos f s g H _ I c) λk s1 ⟨d,j,a,r,z,q⟩=>⟨by rw[<-r.length];exact z,?_⟩);have i:=a.hok.fresh (aL _);refine⟨.ref s1.heap.objs.size,upd j s1.heap.objs.size (.lst d),a.laid (λb u e=>aF _ e) (aL _) ?_,rfl,q _ i⟩;exact⟨z,k,0,r,a0 _ rfl⟩
end
abbrev Sp:=List V->Hp->VK->XK->Prop
abbrev F3:=List jt->Hp->aO->XK->aG->aO->Prop
structure F4(P:bN)(w:cC)(K:aD)(mg:ao->Option aG)(base:bW)(A:cA)(outer:List jt)(s:aO)(H:Hp):Prop where
 frames:A.frames=aA outer
 mod:Mod K mg base
 bs:∀b o,base.get? b=aA o->s.heap.get? b=aA o/\H b=none
 bsz:base.objs.size<=s.heap.objs.size
 funs:s.heap.FunFrames base outer
 frf:∀b∈M9 outer,H b=none
 tab:TabsH K mg base H
 hok:HOk P w H s.heap
 bare:iP s.gens
noncomputable def CE(outer:List jt)(P:bN)(w:cC)(H:Hp)(s:aO)(Q:VK)(u:aG)(s':aO):Prop:=
 ∃v H',s'.os=s.os/\iP s'.gens/\Un (M9 outer) [] H H' s.heap s'.heap/\HOk P w H' s'.heap/\RelV v u/\Q v H'
noncomputable def CR(CX:F3)(outer:List jt)(P:bN)(w:cC)(H:Hp)(s:aO)(Q:VK)(E:XK)(r:ke)(s':aO):Prop:=
 match r with
 | .ok (.ret u)=>CE outer P w H s Q u s'
 | .ok _=>False
 | .error e=>CX outer H s E e s'
structure T6(P:bN)(w:cC)(K:aD)(mg:ao->Option aG)(base:bW)(CX:F3)(k:Nat)(f:aJ)(fd:dy)(ps:List ao)(sp:Sp):Prop where
 len:∀vs H Q E,sp vs H Q E->vs.length=ps.length
 run:∀(A:cA)(outer:List jt)(s:aO)(H:Hp)(args:Args)(us:List aG)(vs:List V)(Q:VK)(E:XK),Room k A->F4 P w K mg base A outer s H->je s fd args (ps.zip us)->Vals vs us->sp vs H Q E->
  iR (model P w) A (.call (.ref f) args) (CR CX outer P w H s Q E) s
section
variable {X:Cx} {kj:List (aJ×dF)} {σ:St} {H:Hp} {s s':aO}
theorem Inv.env0(I:Inv X kj σ H s):F4 X.prog X.w X.K X.mg X.base X.A X.stack s H:=
 ⟨I.ok.frames,I.ok.mod,I.bs,aU I.ok.bsz I.sz,I.stack,I.stkFree,I.ok.tab.un I.base,I.hok,I.bare⟩
theorem Inv.after{Q:VK}{u:aG}(I:Inv X kj σ H s)(h:CE X.stack X.prog X.w H s Q u s'):EP X kj σ Q u s':=by obtain⟨v,e,os,a,un,c,r,q⟩:=h;obtain⟨i,g,d,t,f⟩:=s';obtain rfl:=os;exact⟨v,e,I.call un c a (λb z=>absurd z (by simp)),r,q⟩
end
noncomputable def Hn(sp:Sp)(dvs:List V)(E:XK)(t:TA):TE:=λσ H Q=>t σ H λvs H1=>sp (vs++dvs) H1 Q E
noncomputable def Binds(K:aD)(fd:dy)(ps:List ao)(ds:List aG):Prop:=
 ∀(s:aO)(us:List aG),K.In s.heap->(us++ds).length=ps.length->je s fd ⟨us,[]⟩ (ps.zip (us++ds))
theorem Binds.all{K:aD}{d:dy}{b:List ao}(h:∀a:List aG,a.length=b.length->iI d ⟨a,[]⟩=pure (b.zip a)):Binds K d b []:=λs a _ c=>by rw[dG] at c ⊢;exact .of_eq (h a c)
noncomputable def Ll(CX:F3)(X:Cx)(E:XK):Prop:=∀(kj:List (aJ×dF))(σ:St)(H:Hp)(s:aO)(e:aG)(s':aO),Inv X kj σ H s->CX X.stack H s E e s'->X.xe e s'
section
variable {X:Cx} {CX:F3} {k:Nat} {f C:aJ} {fd:dy} {ps:List ao} {sp:Sp} {dvs:List V} {ds:List aG} {E:XK} {x m:ao} {p pos apos:eu} {e o:av} {es:List av} {ta:TE} {t:TA}
theorem C5{c:List (aJ×dF)}{d:St}{H:Hp}{s:aO}{Q:VK}{a:List aG}{vs:List V}(F:T6 X.prog X.w X.K X.mg X.base CX k f fd ps sp)(o:Room k X.A)(m:Binds X.K fd ps ds)(j:Vals dvs ds)(i:Ll CX X E)
  (I:Inv X c d H s) (r:Vals vs a) (h:sp (vs++dvs) H Q E):bG (model X.prog X.w) X.A (call (.ref f) a) (EP X c d Q) X.xe s:=by
 have g:=r.append j;have l:(a++ds).length=ps.length:=by rw[<-g.length];exact F.len _ _ _ _ h
 refine wpAny_call (jf (F.run X.A X.stack s H ⟨a,[]⟩ (a++ds) (vs++dvs) Q E o I.env0 (m s a I.kIn l) g h) λr n b=>?_)
 cases r with
 | error e=>exact i c d H s e n I b
 | ok fl=>
  cases fl with
  | ret u=>exact I.after b
  | next=>exact eK b
  | brk=>exact eK b
  | cont=>exact eK b
theorem F5(F:T6 X.prog X.w X.K X.mg X.base CX k f fd ps sp)(u:Room k X.A)(w:Gl X x)(o:X.mg x=aA (.ref f))(d:fZ X.K (.ref f)=aC)(l:Binds X.K fd ps ds)(j:Vals dvs ds)(g:Ll CX X E)
  (i:PA X (e::es) t) (b:(x==("__debug__" : ao))=aB:=by decide) (v:aX (e::es) X.env=(aB,eval e X.env)::aX es X.env:=by rfl) (a:(fA pos (aX es X.env)).any (·.1)=aB:=by rfl) :
  PE X (.Call (.Name x p) (e::es) [] pos) (Hn sp dvs E t):=by
 intro m s n H Q I h;refine gj (FQ I w o ?_ b);refine PySem.W.callWith_K I.ok.mod.kin d (YJ (i pos m s n H _ I h) λz s1 ⟨vs,y,c,r,q⟩=>⟨c.kIn,?_⟩) v a;exact C5 F u l j g c r q
end
structure Zl(N P:List ao)(sc:dM):Prop where
 kind:sc.kind = .function
 co:sc.isCoroutine=aB
 gen:sc.isGenerator=aB
 nd:N.Nodup
 pre:N.take P.length=P
 par:∀x∈P,sc.names.lookup x=aA .local\/sc.names.lookup x=aA .cell
 nofree:∀y∈sc.names,y.2≠.free
theorem PR{kindOf:ao->Option dO}{x:ao}:∀{binds:List (ao×aG)}{m:ao->Option aG},(∀v,(x,v)∉binds)->kS kindOf binds m x=m x
 | [],_,_=>rfl
 | (n,v)::r,m,h=>by
  unfold kS;rw[PR λw a=>h w (aT _ a)];split
  ·have:x≠n:=by rintro rfl;exact h v aZ
   simp[this]
  ·rfl
theorem PU{kindOf:ao->Option dO}{x:ao}:∀{binds:List (ao×aG)}{m:ao->Option aG},(∀v,(x,v)∉binds)->kT kindOf binds m x=m x
 | [],_,_=>rfl
 | (n,v)::r,m,h=>by
  unfold kT;rw[PU λw a=>h w (aT _ a)];split
  ·rfl
  ·have:x≠n:=by rintro rfl;exact h v aZ
   simp[this]
theorem PX{kindOf:ao->Option dO}{x:ao}{v:aG}:∀{P:List ao}{vs:List aG}{i:Nat}{m:ao->Option aG},P.Nodup->P[i]?=aA x->vs[i]?=aA v->kindOf x=aA .local->
  kS kindOf (P.zip vs) m x=aA v
 | [],_,_,_,_,h,_,_=>by simp at h
 | _::_,[],_,_,_,_,h,_=>by simp at h
 | p::P,w::vs,0,m,nd,h1,h2,hk=>by simp at h1 h2;subst h1;subst h2;show kS kindOf ((p,w)::P.zip vs) m p=_;unfold kS;rw[PR λv a=>(bK.mp nd).1 (i6 a).1,kz hk];simp
 | p::P,w::vs,i+1,m,nd,h1,h2,hk=>by show kS kindOf ((p,w)::P.zip vs) m x=_;unfold kS;exact PX (i:=i) (bK.mp nd).2 (by simpa using h1) (by simpa using h2) hk
theorem PY{kindOf:ao->Option dO}{x:ao}{v:aG}:∀{P:List ao}{vs:List aG}{i:Nat}{m:ao->Option aG},P.Nodup->P[i]?=aA x->vs[i]?=aA v->kindOf x≠aA .local->
  kT kindOf (P.zip vs) m x=aA v
 | [],_,_,_,_,h,_,_=>by simp at h
 | _::_,[],_,_,_,_,h,_=>by simp at h
 | p::P,w::vs,0,m,nd,h1,h2,hk=>by simp at h1 h2;subst h1;subst h2;show kT kindOf ((p,w)::P.zip vs) m p=_;unfold kT;rw[PU λv a=>(bK.mp nd).1 (i6 a).1,l4 hk];simp
 | p::P,w::vs,i+1,m,nd,h1,h2,hk=>by show kT kindOf ((p,w)::P.zip vs) m x=_;unfold kT;exact PY (i:=i) (bK.mp nd).2 (by simpa using h1) (by simpa using h2) hk
noncomputable def start(N:List ao)(vs:List V):St:=vs.map aA++aV (N.length-vs.length) none
noncomputable def R9(CX:F3)(P:bN)(w:cC)(K:aD)(mg:ao->Option aG)(base:bW)(N:List ao)(qual:ao)(scope:dM)(f:aJ)(cd:aG)(A:cA)(outer:List jt)(s:aO)(H:Hp)(E:XK):Cx where
 prog:=P
 w:=w
 K:=K
 mg:=mg
 base:=base
 A:=A.deeper (gL qual scope s.heap.objs.size f cd)
 N:=N
 s₀:=s
 H₀:=H
 env:=gL qual scope s.heap.objs.size f cd
 outer:=outer
 stack:=gL qual scope s.heap.objs.size f cd::outer
 ex:=[]
 calm:=aC
 fn:=λ_=>aC
 pn:=[]
 xe:=λe s'=>bG (model P w) (A.deeper (gL qual scope s.heap.objs.size f cd)) (leaving (gL qual scope s.heap.objs.size f cd) e) (λ_ s''=>CX outer H s E e s'') (λe' s''=>CX outer H s E e' s'') s'
theorem N2{a:dM}{n:Nat}{x:ao}(h:a.names.lookup x=aA .cell):∃c,(gg n a.names []).lookup x=aA c:=by have q:=iS a.names n [] (.inl h);exact bc.mp q
theorem F6{a b c:ao}(h:a++c=b++c):a=b:=by
 obtain⟨a⟩:=a;obtain⟨b⟩:=b;have d:a++c.cps=b++c.cps:=congrArg ao.cps h;have f:a.toList++c.cps.toList=b.toList++c.cps.toList:=by rw[<-jN,<-jN,d]
 have e:=Array.toList_inj.mp (List.append_cancel_right f);rw[e]
theorem JV{Q:F3}{P:bN}{w:cC}{K:aD}{J:ao->Option aG}{base:bW}{N o:List ao}{g:ao}{d:dM}{f:aJ}{B:aG}{A:cA}{j:List jt}{s s1:aO}{H:Hp}{E:XK}{L:List aG}{vs:List V}
  (I:cY K B g=aC) (S:Zl N o d) (W:A.handled=none) (m:F4 P w K J base A j s H) (Y:vs.length=o.length) (r:Vals vs L)
  (x:InCallC s s.heap.objs.size (kS (gL g d s.heap.objs.size f B).kindOf (o.zip L) λ_=>none) (gg (s.heap.objs.size+1) d.names []) (kT (gL g d s.heap.objs.size f B).kindOf (o.zip L) λ_=>none) s1) :
  Inv (R9 Q P w K J base N g d f B A j s H E) [] (start N vs) H s1:=by
 have U:o.length<=N.length:=by have:=congrArg gR S.pre;rw[bP] at this;omega
 obtain⟨F,tk,rfl,M⟩:=x.done;have t:∀b:aJ,b∉(R9 Q P w K J base N g d f B A j s H E).ex:=λb z=>absurd (show b∈([]:List aJ) from z) (by simp)
 refine⟨⟨m.mod,S.kind,rfl,rfl,aL _,λy z c F l=>?_,λy n=>?_,λy c _ h=>?_,λ_=>W,cA.frames_deeper m.frames,.inr ⟨rfl,rfl⟩,λb z=>absurd z (t b),m.bs,m.bsz,λb _ _=>t b,λb z=>absurd z (t b),m.funs,m.frf,m.tab,λq _ R _=>by rw[<-F6 R];exact I⟩,
  rfl,m.bare,Un.kept M,⟨_,x.toInCall.ns,λi y v F l Z=>?_⟩,λy c h=>⟨_,x.cell y c h⟩,m.hok.fresh (aL _),λy c h=>?_,λp D=>absurd (show p∈([]:List (aJ×dF)) from D) (by simp),m.hok.kept M,?_⟩
 ·exact name_of_addr x.apart (cp F) (cp l)
 ·have n:=n;rcases n with n | n
  ·exact N2 n
  ·exact absurd rfl (S.nofree _ (cp n))
 ·exact cQ (x.above y c (cp h))
 ·have G:i<vs.length:=by
   unfold start at l;by_cases G:i<vs.length
   ·exact G
   ·rw[bI (by simpa using G)] at l;rw[b0] at l;split at l<;>cases l
  have T:vs[i]?=aA v:=by
   unfold start at l;rw[ah (by simpa using G),aW] at l
   cases e:vs[i]? with
   | none=>rw[e] at l;cases l
   | some a=>rw[e] at l;cases l;rfl
  obtain⟨u,O,X⟩:=r.get T;have D:o[i]?=aA y:=by rw[<-S.pre,dj (by omega)];exact F
  have C:o.Nodup:=by rw[<-S.pre];exact S.nd.sublist (jg _ _)
  refine⟨u,X,?_⟩;rcases S.par y (cH D) with k | k
  ·exact .inl ⟨k,PX C D O k⟩
  ·obtain⟨c,e⟩:=N2 k;refine .inr ⟨.inl k,c,e,?_⟩;have q:=x.cell y c e;rw[PY C D O (by show d.names.lookup y≠_;rw[k];decide)] at q;exact q
 ·exact m.hok.fresh (cQ (x.above y c (cp h)))
 ·unfold start;show _=N.length;rw[bA,aN,cu];omega
theorem YV{M:F3}{P:bN}{w:cC}{K:aD}{R:ao->Option aG}{base:bW}{k:Nat}{f:aJ}{m d:ao}{h:Arguments}{i:List b7}{a:dM}{dV kV F pm g ct oc:aG}{an od:Option aJ}
  {X:Array (Option aG)} {N O:List ao} {sp:Sp} (lk:K.lookup f=aA ⟨oc,od,.func (cg m d h i a dV kV F pm an g ct),X⟩) (C:cY K g d=aC) (S:Zl N O a)
  (len:∀vs H Q E,sp vs H Q E->vs.length=O.length)
  (p:∀(A:cA)(c:List jt)(s:aO)(H:Hp)(vs:List V)(Q:VK)(E:XK),Room k (A.deeper (gL d a s.heap.objs.size f g))->sp vs H Q E->
   ∃t,PSs (R9 M P w K R base N d a f g A c s H E) i t/\t { nx:=λ_ l=>Q .non l,rt:=Q } (start N vs) H) :
  T6 P w K R base M (k+1) f (cg m d h i a dV kV F pm an g ct) O sp:=by
 refine⟨len,λA c s H args us vs Q E Y L hb r D=>?_⟩;have hl:=len _ _ _ _ D;have Z:=L.mod.kin.keeps λb o e=>(L.bs b o e).1;have W:=L.mod.nolimit.keeps λb o e=>(L.bs b o e).1
 have z:∀y∈O.zip us,a.names.lookup y.1=aA .local\/(a.names.lookup y.1=aA .cell/\((gg (s.heap.objs.size+1) a.names []).lookup y.1).isSome=aC):=λ⟨n,v⟩ hy=>by
  rcases S.par n (i6 hy).1 with q | q
  ·exact .inl q
  ·exact .inr ⟨q,iS _ _ _ (.inl q)⟩
 refine codeAny_call_function Y.depth (Z _ _ lk) rfl S.co S.gen rfl (PySem.W.codeRec_of Z C) (hb _ _ _ _ ?_);refine wpAny_newFunctionEnv_cells S.kind z λenv he s1 x=>?_;subst he;refine⟨W.keeps x.toInCall.keep,codeAny_func ?_⟩;obtain⟨t,ht,hq⟩:=p A c s H vs Q E (Y.deeper _) D;have I:Inv (R9 M P w K R base N d a f g A c s H E) [] (start N vs) H s1:=JV C S Y.hd L hl r x;refine cZ (ht [] s1 (start N vs) H _ I hq) (λfl T B=>?_) λe T B=>B
 have G:∀{j:St}{l:Hp}{v:V}{u:aG},Inv (R9 M P w K R base N d a f g A c s H E) [] j l T->RelV v u->Q v l->CE c P w H s Q u T:=
  λ{j l v u} J U q=>⟨v,l,J.os,J.bare,J.base,J.hok,U,q⟩
 cases fl with
 | ret u=>
  obtain⟨v,j,l,J,U,q⟩:=B;exact G J U q
 | next=>
  obtain⟨j,l,J,q⟩:=B;exact G (v:=V.non) J rfl q
 | brk=>
  obtain⟨_,_,_,q⟩:=B;exact eK q
 | cont=>
  obtain⟨_,_,_,q⟩:=B;exact eK q
section
variable {X:Cx} {x:ao} {p pos:eu} {e:av} {es:List av} {t:TA} {id T:String} {r:List V->Hp->VK->Prop}
noncomputable def tCB(r:List V->Hp->VK->Prop)(t:TA):TE:=λσ H Q=>t σ H λvs H1=>r vs H1 Q
theorem Ho(m:Xx X (.builtin id) r)(v:Gl X x)(l:X.mg x=none)(j:dA x=aA (.builtin id))(g:PA X (e::es) t)(f:x≠"__name__":=by decide)(b:(x==("__debug__" : ao))=aB:=by decide)
  (n:aX (e::es) X.env=(aB,eval e X.env)::aX es X.env:=by rfl) (a:(fA pos (aX es X.env)).any (·.1)=aB:=by rfl):PE X (.Call (.Name x p) (e::es) [] pos) (tCB r t):=by
 intro c s d H Q I h;refine gj (UL I v l j ?_ f b);exact PyProof.Rows.callWith_builtin1 (YJ (g pos c s d H _ I h) λu s1 ⟨vs,o,i,q,k⟩=>m c s1 d o vs u Q i q k) n a
theorem PZ(m:Xx X (.type T) r)(v:Gl X x)(l:X.mg x=none)(j:dA x=aA (.type T))(g:PA X (e::es) t)(f:x≠"__name__":=by decide)(b:(x==("__debug__" : ao))=aB:=by decide)
  (n:aX (e::es) X.env=(aB,eval e X.env)::aX es X.env:=by rfl) (a:(fA pos (aX es X.env)).any (·.1)=aB:=by rfl):PE X (.Call (.Name x p) (e::es) [] pos) (tCB r t):=by
 intro c s d H Q I h;refine gj (UL I v l j ?_ f b);exact cX (YJ (g pos c s d H _ I h) λu s1 ⟨vs,o,i,q,k⟩=>m c s1 d o vs u Q i q k) n a
end
end L2
namespace HT
open PySem PyProof.Rows
section
variable {prog:bN} {w:cC} {A:cA} {E:aG->aO->Prop} {s:aO}
theorem cat_tup{t b:aJ}{vs a:List aG}{Q:aG->aO->Prop}(v:IsTup s.heap t vs.toArray)(z:IsTup s.heap b a.toArray)(o:vs≠[])
  (x:a=[]->Q (.ref t) s) (B:a≠[]->Q (.ref s.heap.objs.size) { s with heap:=s.heap.push { cls:=.type "tuple",data:=.seq (vs++a).toArray } })
  (l:vs.length+a.length<=sizeLine):bG (model prog w) A (dB .Add (.ref t) (.ref b)) Q E s:=by
 obtain⟨⟨m,q,g,r⟩,h,C,n,y⟩:=id v;obtain⟨⟨p,f,data2,d⟩,c,j,u,k⟩:=id z;subst C y j k;have e:vs.toArray++a.toArray=(vs++a).toArray:=by simp
 by_cases i:a=[]
 ·exact jh ⟨_,h,rfl⟩ ⟨_,c,rfl⟩ iJ jS f9 fS (fM _ _)
   (tuple_addW1 t b vs.toArray a.toArray n u q f r d (by simpa using o) (by simp[i])) ⟨h,c,x i⟩
 ·refine jh ⟨_,h,rfl⟩ ⟨_,c,rfl⟩ iJ jS f9 fS (fM _ _)
   (tuple_addW2 t b vs.toArray a.toArray n u q f r d (by simpa using o) (by simpa using i) (by rw[aP];exact l)) ⟨h,c,?_⟩
  rw[e];exact B i
noncomputable def sIx(n d:Nat):Option Int->Nat
 | none=>d
 | some v=>if v<0 then(v+(n:Int)).toNat else min v.toNat n
theorem sIx_none(n d:Nat):sIx n d none=d:=rfl
theorem sIx_nat(n d k:Nat):sIx n d (aA (k:Int))=min k n:=rfl
theorem KJ(v:Int)(n d:Nat):(if v<0 then max (v+(n:Int)) 0 else min v (n:Int))=((sIx n d (aA v):Nat):Int):=by
 show(if v<0 then max (v+(n:Int)) 0 else min v (n:Int))=(((if v<0 then(v+(n:Int)).toNat else min v.toNat n):Nat):Int);by_cases a:v<0
 ·simp only[kz a];omega
 ·simp only[l4 a];omega
theorem Lm(lo a:Option Int)(n:Nat):gp lo a 1 (n:Int)=(((sIx n 0 lo:Nat):Int),((sIx n n a:Nat):Int)):=by
 refine Prod.ext ?_ ?_
 ·cases lo with
  | none=>rfl
  | some v=>exact KJ v n 0
 ·cases a with
  | none=>rfl
  | some v=>exact KJ v n n
theorem Ln(i j:Nat):dX (i:Int) (j:Int) 1=j-i:=by
 unfold dX;split<;>omega
theorem Qa{v:aG}{o:Option Int}{Q:Option Int->aO->Prop}(p:jX v o)(h:Q o s):bG (model prog w) A (jM.Slice.slicePartIndex v) Q E s:=by
 cases p with
 | none=>exact slicePart_none h
 | int i t=>exact slicePart_int h
theorem T7{f:aJ}{d e:aG}{lo b:Option Int}{n:Nat}{Q:Int×Int×Nat->aO->Prop}(g:s.heap.IsSliceOf f d e .none)(i:jX d lo)(k:jX e b)
  (h:Q (((sIx n 0 lo:Nat):Int),1,sIx n n b-sIx n 0 lo) s):bG (model prog w) A (jM.Slice.sliceApplied (.ref f) (pure (n:Int))) Q E s:=by
 obtain⟨os,c,j,a⟩:=id g;refine aM (aM (cN c a rfl (aM (cN c a rfl (aM (cN c a rfl (aj ?_)))))));refine aM (slicePart_none ?_);refine aM (Qa i (aM (Qa k (aM (aj ?_)))));show bG _ _ (match gp lo b 1 (n:Int) with | (lo,b)=>pure (lo,(1:Int),dX lo b 1)) _ _ s;rw[Lm lo b n];show bG _ _ (pure (((sIx n 0 lo:Nat):Int),(1:Int),dX ((sIx n 0 lo:Nat):Int) ((sIx n n b:Nat):Int) 1)) _ _ s;rw[Ln];exact aj h
theorem Hq(a:Array aG)(i k:Nat):((aE k).filterMap λ(m:Nat)=>a[((i:Int)+(m:Int)*1).toNat]?).toArray=((a.toList.drop i).take k).toArray:=by
 have e:(λ(m:Nat)=>a[((i:Int)+(m:Int)*1).toNat]?)=λm=>a[i+m]?:=by
  funext m;have:((i:Int)+(m:Int)*1).toNat=i+m:=by omega
  rw[this]
 rw[e];have:=pick_run a i k;rw[List.filterMap_map] at this;have b:((λx=>a[x]?) ∘ λx=>i+x)=λm=>a[i+m]?:=rfl;rw[b] at this;rw[this]
theorem getItem_tuple_cut{t i:aJ}{a:Array aG}{k m:aG}{lo c:Option Int}{Q:aG->aO->Prop}(d:IsTup s.heap t a)(l:s.heap.IsSliceOf i k m .none)(o:jX k lo)(r:jX m c)
  (n:¬(sIx a.size 0 lo=0/\sIx a.size a.size c=a.size))
  (h:Q (.ref s.heap.objs.size) { s with heap:=s.heap.push { cls:=.type "tuple",data:=.seq ((a.toList.drop (sIx a.size 0 lo)).take (sIx a.size a.size c-sIx a.size 0 lo)).toArray } })
  (p:a.size<=sizeLine):bG (model prog w) A (kO (.ref t) (.ref i)) Q E s:=by
 have b:sizeOk (.seq ((a.toList.drop (sIx a.size 0 lo)).take (sIx a.size a.size c-sIx a.size 0 lo)).toArray):=by show((a.toList.drop (sIx a.size 0 lo)).take (sIx a.size a.size c-sIx a.size 0 lo)).toArray.size<=sizeLine;rw[aP,bP,cL,fJ];omega
 obtain⟨os,j,g,u⟩:=id l;have e:s.TypeIs (.ref i) "slice":=⟨os,j,g⟩;unfold kO
 try with_reducible refine hU ?_
 first | refine aM (aj ?_) | skip
 refine aM (wpAny_sequenceKey d.typeIs rfl ?_)
 refine aM (dD d.typeIs du
  (fG du d.typeIs entry_tuple_getitem ?_ (args_tuple_getitem _ _)))
 show bG _ _ (jM.Tuple.tupleItemsOf (.ref t) >>= _) _ _ s;refine aM (tupleItemsOf_ d ?_);refine aM (wpAny_typeOf e ?_);refine aM (T7 l o r ?_);have f:¬((((sIx a.size 0 lo:Nat):Int)==0&&(1:Int)==1&&(sIx a.size a.size c-sIx a.size 0 lo)==a.size)=aC):=by intro q;rw[bT,bT] at q;have v:=eq_of_beq q.1.1;have x:=eq_of_beq q.2;exact n ⟨by omega,by omega⟩
 show bG _ _ (if(((sIx a.size 0 lo:Nat):Int)==0&&(1:Int)==1&&(sIx a.size a.size c-sIx a.size 0 lo)==a.size)=aC then _ else _) _ _ s;rw[l4 f,Hq]
 first
  | exact aM (dE (aj ⟨_,rfl,aj h⟩) b)
  | exact aM (dE (aM (aj (aj ⟨_,rfl,aj h⟩))) b)
  | exact aM (aM (dE (aj (aj ⟨_,rfl,aj h⟩)) b))
  | exact aM (aM (dE (aj ⟨_,rfl,aj h⟩) b))
end
end HT
namespace L2
open PySem PySem.Spec PyProof.Rows
abbrev TO:=St->Hp->(Option Int->Hp->Prop)->Prop
noncomputable def PO(X:Cx)(e:Option av)(t:TO):Prop:=
 ∀(kj:List (aJ×dF))(s:aO)(σ:St)(H:Hp)(Q:Option Int->Hp->Prop),Inv X kj σ H s->t σ H Q->
  bG (model X.prog X.w) X.A (evalPart e X.env) (λu s'=>∃o H',Inv X kj σ H' s'/\jX u o/\Q o H') X.xe s
noncomputable def F7:TO:=λ_ H Q=>Q none H
noncomputable def AG(t:TE):TO:=λσ H Q=>t σ H λx H1=>∃i,x = .int i/\Q (aA i) H1
section
variable {X:Cx} {e:av} {te:TE} {lo hi:Option av} {tl th:TO} {pos p2:eu}
theorem F8:PO X none F7:=by intro a s b H Q I h;exact aj ⟨none,H,I,.none,h⟩
theorem F9(h:PE X e te):PO X (aA e) (AG te):=by intro a s c H Q I d;refine YJ (h a s c H _ I d) λu s1 ⟨x,f,j,g,b⟩=>?_;obtain⟨i,rfl,q⟩:=b;obtain⟨t,rfl⟩:=g;exact⟨aA i,f,j,.int i t,q⟩
noncomputable def SlR(X:Cx)(r:V->Option Int->Option Int->Hp->VK->Prop):Prop:=
 ∀(kj:List (aJ×dF))(s:aO)(σ:St)(H:Hp)(x:V)(v vl vu:aG)(lo hi:Option Int)(sl:aJ)(Q:VK),Inv X kj σ H s->RelV x v->s.heap.IsSliceOf sl vl vu .none->jX vl lo->jX vu hi->r x lo hi H Q->
  ∃T id,typeLookup (.type T) "__getitem__" = pure (aA (.builtin id))/\s.TypeIs v T/\bG (model X.prog X.w) X.A (kO v (.ref sl)) (EP X kj σ Q) X.xe s
noncomputable def tSl(r:V->Option Int->Option Int->Hp->VK->Prop)(te:TE)(tl th:TO):TE:=λσ H Q=>te σ H λx H1=>tl σ H1 λl H2=>th σ H2 λu H3=>r x l u H3 Q
theorem N3{r:V->Option Int->Option Int->Hp->VK->Prop}(C:SlR X r)(E:PE X e te)(t:PO X lo tl)(n:PO X hi th):PE X (.Subscript e (.Slice lo hi none p2) pos) (tSl r te tl th):=by intro a s d H Q I h;refine Subscript_ (YJ (E a s d H _ I h) λv s1 ⟨x,F,m,G,p⟩=>?_);refine wpAny_Slice (YJ (t a s1 d F _ m p) λf s2 ⟨l,w,B,k,y⟩=>YJ (n a s2 d w _ B y) λg c ⟨u,i,A,z,D⟩=>?_);refine aj ?_;have o:Inv X a d i { c with heap:=c.heap.push { cls:=.type "slice",data:=.fields #[f,g,.none] } }:=A.kept λb M q=>aF _ q;obtain⟨T,id,J,j,L⟩:=C a { c with heap:=c.heap.push { cls:=.type "slice",data:=.fields #[f,g,.none] } } d i x v f g l u c.heap.objs.size Q o G (bW.IsSliceOf.new ..) k z D;exact tail_any j J L rfl
noncomputable def JW(xs:List V)(lo hi:Option Int):List V:=(xs.drop (HT.sIx xs.length 0 lo)).take (HT.sIx xs.length xs.length hi-HT.sIx xs.length 0 lo)
theorem S7(a:List V)(lo b:Option Int):(JW a lo b).length<=a.length:=by unfold JW;rw[bP,cL];omega
noncomputable def Zbp(K:aD):V->Option Int->Option Int->Hp->VK->Prop:=λx lo hi H Q=>∃a xs,x = .ref a/\SqT K H a xs/\
 ¬(HT.sIx xs.length 0 lo=0/\HT.sIx xs.length xs.length hi=xs.length)/\∀p,H p=none->Q (.ref p) (upd H p (.tup (JW xs lo hi)))
theorem C6:SlR X (Zbp X.K):=by
 intro w s y H x v u A lo i z Q I t n l p h;obtain⟨a,d,rfl,j,k,q⟩:=h;cases t;obtain⟨m,r,f,g⟩:=I.tuple j;have c:m.toArray.size=d.length:=by rw[aP];exact r.length.symm
 refine⟨"tuple",_,du.lookup,f.typeIs,?_⟩;refine HT.getItem_tuple_cut f n l p (by rw[c];exact k) ?_ (by rw[c];exact g);rw[c];refine⟨.ref s.heap.objs.size,_,I.laid (λb B q=>aF _ q) (aL _) ?_,rfl,q _ (I.hok.fresh (aL _))⟩;exact⟨⟨aU (S7 d lo i) g,λo e=>R5 e⟩,_,(r.drop (HT.sIx d.length 0 lo)).take (HT.sIx d.length d.length i-HT.sIx d.length 0 lo),jw _ _⟩
noncomputable def AH(K:aD):R2:=λx y H Q=>∃a b xs ys,x = .ref a/\y = .ref b/\SqT K H a xs/\SqT K H b ys/\xs≠[]/\xs.length+ys.length<=sizeLine/\
 (ys=[]->Q (.ref a) H)/\(ys≠[]->∀p,H p=none->Q (.ref p) (upd H p (.tup (xs++ys))))
theorem Vals.nil_iff{b:List V}{a:List aG}(r:Vals b a):a=[]↔b=[]:=by
 cases r with
 | nil=>simp
 | cons _ _=>simp
theorem Ea:U7 X (dB .Add) (AH X.K):=by intro B s C H x y v u Q I r p h;obtain⟨a,b,A,D,rfl,rfl,k,m,j,g,l,n⟩:=h;cases r;cases p;obtain⟨t,d,i,_⟩:=I.tuple k;obtain⟨f,c,p2,_⟩:=I.tuple m;refine HT.cat_tup i p2 (λz=>j (d.nil_iff.mp z)) (λz=>⟨.ref a,H,I,rfl,l (c.nil_iff.mp z)⟩) (λz=>?_) (by rw[<-d.length,<-c.length];exact g);refine⟨.ref s.heap.objs.size,_,I.laid (λb E q=>aF _ q) (aL _) ?_,rfl,n (λw=>z (c.nil_iff.mpr w)) _ (I.hok.fresh (aL _))⟩;exact⟨⟨by rw[bA];exact g,λo e=>R5 e⟩,_,d.append c,jw _ _⟩
end
noncomputable def Pp(n:Nat)(i:Int):Option Nat:=if 0<=i then(if i<n then aA i.toNat else none) else if -(n:Int)<=i then aA (i+n).toNat else none
noncomputable def T4{α:Type}(xs:List α)(i:Int):Option α:=(Pp xs.length i).bind λj=>xs[j]?
theorem KN{n:Nat}{i:Int}{j:Nat}(h:Pp n i=aA j):seqIndex? i n=aA j/\j<n/\-(n:Int)<=i/\i<n:=by
 unfold Pp at h;by_cases b:0<=i
 ·rw[kz b] at h;by_cases a:i<n
  ·rw[kz a] at h;have e:=ay h;exact⟨by rw[kD b a,e],by omega,by omega,a⟩
  ·rw[l4 a] at h;cases h
 ·rw[l4 b] at h;by_cases a : -(n:Int)<=i
  ·rw[kz a] at h;have e:=ay h;exact⟨by rw[ji (by omega) a,e],by omega,a,by omega⟩
  ·rw[l4 a] at h;cases h
theorem OG{b:Type}{a:List b}{i:Int}{v:b}(h:T4 a i=aA v):∃j,seqIndex? i a.length=aA j/\a[j]?=aA v/\j<a.length/\-(a.length:Int)<=i/\i<a.length:=by
 unfold T4 at h
 cases e:Pp a.length i with
 | none=>rw[e] at h;cases h
 | some j=>
  rw[e] at h;obtain⟨d,f,c,g⟩:=KN e;exact⟨j,d,h,f,c,g⟩
theorem W7{b:Type}{a:List b}{j:Nat}{v:b}(h:a[j]?=aA v):T4 a (j:Int)=aA v:=by
 have c:=(aR.mp h).1;have e:Pp a.length (j:Int)=aA j:=by unfold Pp;rw[kz (by omega),kz (by omega)];simp
 unfold T4;rw[e];exact h
noncomputable def OH(b:av):Prop:=∀o i,subscripted b aB o i=operate [o,i] (kO o i)
noncomputable def IxR(X:Cx)(r:R2):Prop:=
 ∀(value slice:av)(kj:List (aJ×dF))(s:aO)(σ:St)(H:Hp)(x y:V)(v u:aG)(Q:VK),Inv X kj σ H s->RelV x v->RelV y u->r x y H Q->
  subscripted slice aB v u=operate [v,u] (kO v u)->bG (model X.prog X.w) X.A (subscriptTail value slice v u) (EP X kj σ Q) X.xe s
noncomputable def MtR(X:Cx)(id:String)(r:V->List V->Hp->VK->Prop):Prop:=
 ∀(kj:List (aJ×dF))(s:aO)(σ:St)(H:Hp)(x:V)(xs:List V)(v:aG)(us:List aG)(Q:VK),Inv X kj σ H s->RelV x v->Vals xs us->r x xs H Q->
  bG (model X.prog X.w) X.A (call (.builtin id) (v::us)) (EP X kj σ Q) X.xe s
section
variable {X:Cx} {a b:av} {ta tb:TE} {pos:eu}
theorem IxR.or{r c:R2}(h:IxR X r)(j:IxR X c):IxR X (λx y H Q=>r x y H Q\/c x y H Q):=by
 intro a b e s f H x y v u Q I i g q d;rcases q with q | q
 ·exact h a b e s f H x y v u Q I i g q d
 ·exact j a b e s f H x y v u Q I i g q d
theorem Hr{r:R2}(l:IxR X r)(c:PE X a ta)(e:PE X b tb)(d:OH b):PE X (.Subscript a b pos) (B8 r ta tb):=by intro g s i H Q I h;exact Subscript_ (CW c e I h λv u s2 x y f j m k q=>l a b g s2 i f x y v u Q j m k q (d _ _))
noncomputable def C7(K:aD):R2:=λx y H Q=>∃p xs i v,x = .ref p/\y = .int i/\SqL K H p xs/\T4 xs i=aA v/\Q v H
noncomputable def AI(K:aD):R2:=λx y H Q=>∃p xs i v,x = .ref p/\y = .int i/\SqT K H p xs/\T4 xs i=aA v/\Q v H
noncomputable def AJ:R2:=λx y H Q=>∃z i c,x = .str z/\y = .int i/\z.length<=sizeLine/\T4 z.cps.toList i=aA c/\Q (.str ⟨#[c]⟩) H
theorem ix_list:IxR X (C7 X.K):=by
 intro c f C s D H x y v u Q I G F h g;obtain⟨p,N,i,z,rfl,rfl,m,J,q⟩:=h;cases G;obtain⟨t,rfl⟩:=F;obtain⟨o,r,d,M⟩:=I.list m;obtain⟨j,b,E,O,n,B⟩:=OG J;obtain⟨w,k,ZE⟩:=r.get E;have A:=r.length;have L:=OF;have a:EP X C D Q w s:=⟨z,H,I,ZE,q⟩;by_cases l:0<=i
 ·have e:i.toNat=j:=by rw[kD l B] at b;exact ay b
  exact item_listR d.isList l (by omega) (by rw[e];simpa using k) a g
 ·have e:(i+(o.toArray.size:Int)).toNat=j:=by rw[ji (by omega) n] at b;rw[aP,<-A];exact ay b
  exact iT d.isList.typeIs slot_list_getitem.lookup
   (wpAny_getItem_list_neg d.isList (by omega) (by rw[aP]<;>omega) (by omega) (by rw[e];simpa using k) ⟨rfl,a⟩) g
theorem ix_tup:IxR X (AI X.K):=by
 intro a c l s m H x y v u Q I B A h k;obtain⟨p,L,i,z,rfl,rfl,e,C,q⟩:=h;cases B;obtain⟨t,rfl⟩:=A;obtain⟨F,r,d,G⟩:=I.tuple e;obtain⟨j,f,n,M,E,J⟩:=OG C;obtain⟨w,o,ZE⟩:=r.get n;have g:=r.length;have D:=OF;have b:EP X l m Q w s:=⟨z,H,I,ZE,q⟩
 exact iT d.typeIs slot_tuple_getitem.lookup
  (getItem_tuple d (by omega) (by omega) (by rw[aP,<-g];exact f) (by simpa using o) ⟨rfl,b⟩) k
theorem C8:IxR X AJ:=by
 intro a b C s D H x y v u Q I p o h k;obtain⟨z,i,c,rfl,rfl,A,r,q⟩:=h;obtain⟨t,rfl⟩:=p;obtain⟨t',rfl⟩:=o;obtain⟨j,d,n,B,f,l⟩:=OG r;have g:z.cps.toList.length=z.length:=by simp[ao.length]
 rw[g] at d f l;have w:=OF
 exact tail_any (typeIs_str s z t) slot_str_getitem.lookup (getItem_str (by
  have m:decide (i < -(2^63:Int))=aB:=decide_eq_false (by omega);have e:decide (i ≥ 2^63)=aB:=decide_eq_false (by omega);rw[m,e,Bool.or_false]) (by rw[d];simpa using n) ⟨.str ⟨#[c]⟩,H,I.tok _,⟨_,rfl⟩,q⟩) k
noncomputable def rIx(K:aD):R2:=λx y H Q=>C7 K x y H Q\/AI K x y H Q\/AJ x y H Q
theorem C9:IxR X (rIx X.K):=ix_list.or (ix_tup.or C8)
theorem Lo(a:List aG)(n j:Nat)(u:aG):jY (·.setIfInBounds j u) { cls:=.type "list",data:=.seq a.toArray n }={ cls:=.type "list",data:=.seq (a.set j u).toArray n }:=by simp[jY]
theorem Inv.lst{c:List (aJ×dF)}{d:St}{H:Hp}{s:aO}{p:aJ}{b:List V}(I:Inv X c d H s)(h:H p=aA (.lst b)) :
  ∃(a:List aG) (n:Nat),Vals b a/\s.heap.get? p=aA { cls:=.type "list",data:=.seq a.toArray n }/\b.length<=sizeLine:=by
 obtain⟨z,a,n,r,e⟩:=I.hok p _ h;exact⟨a,n,r,e,z⟩
theorem Inv.lstUpd{i:List (aJ×dF)}{j:St}{H:Hp}{s:aO}{p:aJ}{v d:List V}{g a:List aG}{n c:Nat}{f:dF->dF}(I:Inv X i j H s)(h:H p=aA (.lst v))
  (l:s.heap.get? p=aA { cls:=.type "list",data:=.seq g.toArray n }) (k:f { cls:=.type "list",data:=.seq g.toArray n }={ cls:=.type "list",data:=.seq a.toArray c }) (r:Vals d a) (m:d.length<=sizeLine) (t:Nat) :
  Inv X i j (upd H p (.lst d)) { s with heap:=s.heap.update p f,toks:=t }:=by
 have e:(s.heap.update p f).get? p=aA { cls:=.type "list",data:=.seq a.toArray c }:=by rw[ie f l (by rw[k]<;>rfl),k]
 refine I.write (by rw[h];trivial) (.inl rfl) (λb u o q=>(iU _ _ (aw o)).trans q) ⟨_,e⟩ ?_;exact⟨m,a,c,r,e⟩
noncomputable def Hs:V->V->V->Hp->(Hp->Prop)->Prop:=λo i v H Q=>∃p xs k j,o = .ref p/\i = .int k/\H p=aA (.lst xs)/\Pp xs.length k=aA j/\Q (upd H p (.lst (xs.set j v)))
theorem Xy:Ar X Hs:=by
 intro G s J H o i v D E u Q I y B z h;obtain⟨p,F,k,j,rfl,rfl,w,A,q⟩:=h;cases y;obtain⟨t,rfl⟩:=B;obtain⟨f,n,r,b,x⟩:=I.lst w;obtain⟨a,L,l,e⟩:=KN A;have d:=r.length;have C:=OF
 have g:=
  I.lstUpd w b (Lo f n j u) (r.set z j) (by rw[cK];exact x) s.toks
 by_cases m:0<=k
 ·have c:k.toNat=j:=by rw[kD m e] at a;exact ay a
  exact PySem.W.ki_setAt b m (by omega) (by rw[aP,<-d];exact e) (by rw[c];exact⟨_,g,q⟩)
 ·have c:(k+(f.toArray.size:Int)).toNat=j:=by rw[ji (by omega) l] at a;rw[aP,<-d];exact ay a
  exact PySem.W.ki_setBack b (by omega) (by rw[aP,<-d];exact l) (by omega) (by rw[c];exact⟨_,g,q⟩)
theorem OI(lo a:Option Int)(n:Nat):(fT lo a none n).1=((HT.sIx n 0 lo:Nat):Int)/\(fT lo a none n).2.1=((HT.sIx n n a:Nat):Int)/\(fT lo a none n).2.2=1:=by
 refine⟨?_,?_,rfl⟩
 ·cases lo with
  | none=>simp[fT,HT.sIx]
  | some i=>
   simp only[fT,HT.sIx,jx];by_cases h:i<0
   ·simp only[h,if_true]<;>omega
   ·simp only[h,if_false]<;>omega
 ·cases a with
  | none=>simp[fT,HT.sIx]
  | some i=>
   simp only[fT,HT.sIx,jx];by_cases h:i<0
   ·simp only[h,if_true]<;>omega
   ·simp only[h,if_false]<;>omega
theorem Pq(a:List aG)(lo b:Option Int):slicePick a.toArray lo b none=((a.drop (HT.sIx a.length 0 lo)).take (HT.sIx a.length a.length b-HT.sIx a.length 0 lo)).toArray:=by
 obtain⟨c,d,e⟩:=OI lo b a.toArray.size;unfold slicePick;rw[c,d,e];simp only[sliceRange_one,pick_run]<;>rfl
noncomputable def Zbq(K:aD):V->Option Int->Option Int->Hp->VK->Prop:=λx lo hi H Q=>∃a xs,x = .ref a/\SqL K H a xs/\∀p,H p=none->Q (.ref p) (upd H p (.lst (JW xs lo hi)))
theorem Eb:SlR X (Zbq X.K):=by intro p s t H x v n w lo f u Q I m k i l h;obtain⟨a,c,rfl,g,q⟩:=h;cases m;obtain⟨o,r,e,j⟩:=I.list g;have d:=r.length;refine⟨"list",_,slot_list_getitem.lookup,e.isList.typeIs,?_⟩;refine wpAny_getItem_list_slice e.isList k i l .none (by simp) ?_ (by rw[aP]<;>omega);rw[Pq,<-d];refine⟨.ref s.heap.objs.size,_,I.laid (λb y q=>aF _ q) (aL _) ?_,rfl,q _ (I.hok.fresh (aL _))⟩;exact⟨aU (S7 c lo f) j,_,0,(r.drop (HT.sIx c.length 0 lo)).take (HT.sIx c.length c.length f-HT.sIx c.length 0 lo),a0 _ rfl⟩
theorem X2:Xx X (.type "list") (λz H Q=>∃p f,z=[.ref p]/\(SqL X.K H p f\/SqT X.K H p f)/\∀l,H l=none->Q (.ref l) (upd H l (.lst f))):=by
 intro A s B H z D Q I r h;obtain⟨p,f,rfl,i,q⟩:=h;obtain⟨u,rfl,C⟩:=Ta r;cases C
 have k:∀(c:List aG),Vals f c->f.length<=sizeLine->∀(a:bW)(g:Nat),(∀b o',s.heap.get? b=aA o'->a.get? b=aA o')->
   a.get? s.heap.objs.size=aA { cls:=.type "list",dict:=none,data:=.seq c.toArray g,slots:=#[] }->EP X A B Q (.ref s.heap.objs.size) { s with heap:=a }:=λc d j a g t e=>
  ⟨.ref s.heap.objs.size,_,I.laid t (aL _) (show ObjOk X.prog X.w _ a _ (.lst f) from⟨j,c,g,d,e⟩),rfl,q _ (I.hok.fresh (aL _))⟩
 rcases i with i | i
 ·obtain⟨c,d,w,j⟩:=I.list i;have m:=d.length;obtain⟨o,v,y,n,x⟩:=w.isList;exact call_list_seq p (.inl rfl) v y x (λa g t e=>k c d j a g t e) (by simp only[aP]<;>omega)
 ·obtain⟨c,d,w,j⟩:=I.tuple i;have m:=d.length;obtain⟨o,v,y,n,x⟩:=w;exact call_list_seq p (.inr rfl) v y x (λa g t e=>k c d j a g t e) (by simp only[aP]<;>omega)
theorem Zm:Xx X (.type "tuple") (λk H Q=>∃p a,k=[.ref p]/\((SqL X.K H p a/\∀l,H l=none->Q (.ref l) (upd H l (.tup a)))\/(SqT X.K H p a/\Q (.ref p) H))):=by
 intro x s y H k z Q I r h;obtain⟨p,a,rfl,h⟩:=h;obtain⟨u,rfl,v⟩:=Ta r;cases v;rcases h with⟨c,q⟩ | ⟨c,q⟩
 ·obtain⟨i,f,d,j⟩:=I.list c;have m:=f.length;refine call_tuple_list d.isList (λt w=>?_) (by simp only[aP]<;>omega);have g:=I.kept (t':=s.toks) w
  have n:=
   g.laid (t':=s.toks) (λb o e=>aF _ e) (aL _) (show ObjOk X.prog X.w _ _ _ (.tup a) from⟨⟨j,λo e=>R5 e⟩,i,f,jw _ _⟩)
  exact⟨.ref t.objs.size,_,n,rfl,q _ (g.hok.fresh (aL _))⟩
 ·obtain⟨i,f,d,j⟩:=I.tuple c;exact call_tuple_same d ⟨.ref p,H,I,rfl,q⟩
noncomputable def tyV(K:aD)(T:String)(x:V)(H:Hp):Prop:=match x with
 | .str _=>T = "str"
 | .int _=>T = "int"
 | .ref p=>(T = "list"/\∃xs,SqL K H p xs)\/(T = "tuple"/\∃o,K.lookup p=aA o/\o.cls = .type "tuple"/\o.dict=none)\/
   (T = "dict"/\((∃ko,H p=aA (.dK ko))\/∃ko,H p=aA (.dT ko)))\/(T = "set"/\∃S n,H p=aA (.set S n))\/(T = "tuple"/\∃xs,H p=aA (.tup xs))
 | _=>False
theorem Ba{u:List (aJ×dF)}{w:St}{H:Hp}{s:aO}{T:String}{x:V}{v:aG}(I:Inv X u w H s)(r:RelV x v)(ty:tyV X.K T x H) :
  s.TypeIs v T/\∀a,v = .ref a->∃ob,s.heap.get? a=aA ob/\ob.dict=none:=by
 cases x with
 | str z=>
  obtain⟨t,rfl⟩:=r;cases (ty);exact⟨typeIs_str s z t,λ_ e=>nomatch e⟩
 | int i=>
  obtain⟨t,rfl⟩:=r;cases (ty);exact⟨iV s i t,λ_ e=>nomatch e⟩
 | ref p=>
  cases r;rcases ty with⟨rfl,q,k⟩ | ⟨rfl,o,b,y,g⟩ | ⟨rfl,b⟩ | ⟨rfl,S,n,b⟩ | ⟨rfl,q,b⟩;rotate_left 4
  ·obtain⟨z,l,_,o,h,f,_⟩:=(I.hok p _ b);refine⟨⟨o,h,f⟩,λa e=>?_⟩;cases e;exact⟨o,h,z.2 o h⟩
  ·obtain⟨l,_,j,_⟩:=I.list k;refine⟨j.isList.typeIs,λa e=>?_⟩;cases e;obtain⟨o,n,e,c,g,_⟩:=j;exact⟨o,e,g⟩
  ·refine⟨⟨o,I.kIn p o b,y⟩,λa e=>?_⟩;cases e;exact⟨o,I.kIn _ o b,g⟩
  ·have z:∃o,s.heap.get? p=aA o/\o.ExactDict:=by
    rcases b with⟨m,b⟩ | ⟨m,b⟩
    ·obtain⟨_,_,_,_,o,_,_,e,d,_⟩:=I.hok p _ b;exact⟨o,e,d⟩
    ·obtain⟨_,_,_,_,o,_,_,e,d,_⟩:=I.hok p _ b;exact⟨o,e,d⟩
   obtain⟨o,e,d⟩:=z;refine⟨⟨o,e,d.1⟩,λa f=>?_⟩;cases f;exact⟨o,e,d.2.1⟩
  ·obtain⟨o,_,_,_,e,d,_⟩:=I.hok p _ b;refine⟨⟨o,e,d.1⟩,λa f=>?_⟩;cases f;exact⟨o,e,d.2.1⟩
 | _=>exact eK ty
noncomputable def tBM(K:aD)(T:String)(r:V->List V->Hp->VK->Prop)(to:TE)(t:TA):TE:=λσ H Q=>to σ H λx H1=>tyV K T x H1/\t σ H1 λxs H2=>r x xs H2 Q
variable {o e:av} {es:List av} {to:TE} {t:TA} {name:ao} {apos cpos:eu} {T id:String} {r:V->List V->Hp->VK->Prop}
theorem KO(A:PlainAttrs T)(f:Slot T name id)(g:typeOf (.builtin id)=pure (.type "method_descriptor"))(B:MtR X id r)(n:PE X o to)(q:PA X (e::es) t)
  (c:attributeBase o name X.env (eval o X.env)=eval o X.env:=by rfl)
  (d:((fA cpos (aX (e::es) X.env)).all (λx=>!x.1)&&(backToKw cpos (keywordEach [] X.env)).all (λx=>x.1.isSome)
   &&decide ((e::es).length+([]:List Keyword).length+(if([]:List Keyword).isEmpty then 0 else 1)<30))=aC:=by rfl)
  (b:(apos.endLine==cpos.line)=aC:=by rfl) (w:aX (e::es) X.env=(aB,eval e X.env)::aX es X.env:=by rfl) (a:(fA cpos (aX es X.env)).any (·.1)=aB:=by rfl) :
  PE X (.Call (.Attribute o name apos) (e::es) [] cpos) (tBM X.K T r to t):=by
 intro i s j H Q I h;refine wpAny_Call_method_late c d b rfl (YJ (n i s j H _ I h) λv s1 ⟨x,E,k,m,ty,u⟩=>?_);obtain⟨p,D⟩:=Ba k m ty;refine⟨T,id,A,f,g,p,D,?_⟩;have l:=q cpos i s1 j E _ k u;rw[w] at l ⊢;refine Calls.callWith_builtin (by show(aB || (fA cpos (aX es X.env)).any (·.1))=aB;rw[a]<;>rfl) (Calls.evalArgs_plain ?_);exact YJ l λG s2 ⟨vs,y,C,F,z⟩=>B i s2 j y x vs v G Q C m F z
end
noncomputable def MtM(X:Cx)(id:String)(r:V->List V->Hp->VK->Prop):Prop:=
 ∀(kj:List (aJ×dF))(s:aO)(σ:St)(H:Hp)(x:V)(xs:List V)(v:aG)(us:List aG)(Q:VK),Inv X kj σ H s->RelV x v->Vals xs us->r x xs H Q->
  bG (model X.prog X.w) X.A (call (.builtin id) (v::us)) (EP X kj σ Q) X.xe s
theorem Vals.one:∀{x:V}{us:List aG},Vals [x] us->∃u,us=[u]/\RelV x u
 | _,_,.cons r .nil=>⟨_,rfl,r⟩
theorem Vals.two:∀{x y:V}{us:List aG},Vals [x,y] us->∃u v,us=[u,v]/\RelV x u/\RelV y v
 | _,_,_,.cons r (.cons q .nil)=>⟨_,_,rfl,r,q⟩
theorem Vals.dropLast{b:List V}{a:List aG}(h:Vals b a):Vals b.dropLast a.dropLast:=by
 induction h with
 | nil=>exact .nil
 | cons r t ih=>
  cases t with
  | nil=>exact .nil
  | cons q t'=>exact .cons r ih
theorem Vals.rep{b:List V}{a:List aG}(h:Vals b a):∀k:Nat,Vals (aV k b).flatten (aV k a).flatten
 | 0=>.nil
 | k+1=>by rw[dJ,dJ,eY,eY];exact Vals.append h (Vals.rep h k)
theorem T8(a:List aG):∀(k:Nat)(acc:List aG),
  jZ (λb c=>b++c) acc.toArray (aV k a.toArray)=(acc++(aV k a).flatten).toArray
 | 0,acc=>by simp
 | k+1,acc=>by
  have e:acc.toArray++a.toArray=(acc++a).toArray:=by simp
  have d:(acc++a)++(aV k a).flatten=acc++(aV (k+1) a).flatten:=by rw[dJ,eY,fj]
  rw[<-d,<-T8 a k (acc++a),<-e,dJ,List.foldl_cons]
section
variable {X:Cx} {kj:List (aJ×dF)} {σ:St} {H:Hp} {s:aO} {l b:aJ} {xs ys zs:List V}
theorem Inv.lset{b a:List aG}{n:Nat}{f:Array aG->Array aG}{t':Nat}(I:Inv X kj σ H s)(j:H l=aA (.lst xs))
  (e:s.heap.get? l=aA { cls:=.type "list",data:=.seq b.toArray n }) (d:f b.toArray=a.toArray) (i:Vals ys a) (c:ys.length<=sizeLine) :
  Inv X kj σ (upd H l (.lst ys)) { s with heap:=s.heap.update l (jY f),toks:=t' }:=by
 have q:=PySem.IsL.update e f;rw[d] at q;refine I.write (by rw[j];exact trivial) (.inl rfl) (λk u g h=>(iU s.heap (jY f) (aw g)).trans h) ⟨_,q⟩ ?_;exact⟨c,a,_,i,q⟩
theorem Inv.lnew{a:List aG}{t':Nat}(I:Inv X kj σ H s)(c:Vals ys a)(b:ys.length<=sizeLine) :
  Inv X kj σ (upd H s.heap.objs.size (.lst ys)) { s with heap:=s.heap.push { cls:=.type "list",data:=.seq a.toArray },toks:=t' }:=
 I.laid (λ_ _ q=>aF _ q) (aL _) ⟨b,a,0,c,a0 _ rfl⟩
theorem Inv.fresh(I:Inv X kj σ H s):H s.heap.objs.size=none:=I.hok.fresh (aL _)
theorem Inv.lstM(I:Inv X kj σ H s)(b:H l=aA (.lst xs)):xs.length<=sizeLine/\∃(a:List aG) (n:Nat),Vals xs a/\xs.length=a.length/\s.heap.get? l=aA { cls:=.type "list",data:=.seq a.toArray n }:=by obtain⟨z,a,n,r,e⟩:=I.hok l _ b;exact⟨z,a,n,r,r.length,e⟩
theorem N4{n:Nat}(h:n<=sizeLine):fN n=aB:=by exact decide_eq_false (by omega)
end
section
variable {X:Cx}
noncomputable def KP:V->List V->Hp->VK->Prop:=λx vs H Q=>∃l xs y,x = .ref l/\vs=[y]/\H l=aA (.lst xs)/\xs.length<sizeLine/\Q .non (upd H l (.lst (xs++[y])))
theorem P0:MtM X "list.append" KP:=by intro k s m H x vs v o Q I f d h;obtain⟨l,j,y,rfl,rfl,a,g,q⟩:=h;cases f;obtain⟨u,rfl,b⟩:=d.one;obtain⟨z,c,n,r,i,e⟩:=I.lstM a;refine fR F.slot_list_append ⟨_,e,rfl⟩ F.entry_list_append (F.args_list_append_2 _ _) (PySem.list_append l c.toArray n u (by rw[aP];omega)) ⟨e,?_⟩;refine⟨.non,_,I.lset a e (by simp) (r.append (.cons b .nil)) ?_,rfl,q⟩;rw[bA,dW];omega
noncomputable def Ec:V->List V->Hp->VK->Prop:=λx vs H Q=>∃l b xs zs,x = .ref l/\vs=[.ref b]/\H l=aA (.lst xs)/\H b=aA (.lst zs)/\xs.length+zs.length<=sizeLine/\Q .non (upd H l (.lst (xs++zs)))
theorem mt_extend:MtM X "list.extend" Ec:=by
 intro D s E H x vs v J Q I p m h;obtain⟨l,b,C,G,rfl,rfl,g,t,A,q⟩:=h;cases p;obtain⟨u,rfl,i⟩:=m.one;cases i;obtain⟨z,d,n,r,B,e⟩:=I.lstM g;obtain⟨y,a,o,w,k,j⟩:=I.lstM t;have f:d.toArray.size+a.toArray.size<=sizeLine:=by rw[aP,aP];omega
 have c:¬(!d.toArray.isEmpty&&fN (d.toArray.size+a.toArray.size))=aC:=by rw[N4 f,Bool.and_false];exact bO
 refine fR F.slot_list_extend ⟨_,e,rfl⟩ F.entry_list_extend (F.args_list_extend_2 _ _)
  (AutoSeq1.list_extend_list_list_0 l d.toArray n b a.toArray o c (by omega) (by omega)) ⟨e,j,?_⟩
 refine⟨.non,_,I.lset g e (by simp) (r.append w) ?_,rfl,q⟩;rw[bA];omega
noncomputable def Zbu:R2:=λx y H Q=>∃l b xs zs,x = .ref l/\y = .ref b/\H l=aA (.lst xs)/\H b=aA (.lst zs)/\xs.length+zs.length<=sizeLine/\∀p,H p=none->Q (.ref p) (upd H p (.lst (xs++zs)))
theorem Bc:U7 X (dB .Add) Zbu:=by
 intro A s B H x y v u Q I j i h;obtain⟨l,b,w,C,rfl,rfl,g,k,p,q⟩:=h;cases j;cases i;obtain⟨z,c,n,r,t,e⟩:=I.lstM g;obtain⟨o,a,D,m,f,d⟩:=I.lstM k;refine PySem.P.add_list e d ?_ (by rw[aP,aP];omega);have ea:c.toArray++a.toArray=(c++a).toArray:=by simp
 rw[ea];exact⟨.ref _,_,I.lnew (r.append m) (by rw[bA];omega),rfl,q _ I.fresh⟩
noncomputable def Zbv:R2:=λx y H Q=>∃l k xs,x = .ref l/\y = .int k/\H l=aA (.lst xs)/\-(2^63)<=k/\k<2^63/\xs.length*k.toNat<=sizeLine/\
 ∀p,H p=none->Q (.ref p) (upd H p (.lst (aV k.toNat xs).flatten))
theorem OJ{b:Type}(a:List b)(k:Nat):(aV k a).flatten.length=k*a.length:=by simp
theorem Be:U7 X (dB .Mult) Zbv:=by
 intro M s N H x y v u Q I E D h;obtain⟨l,k,L,rfl,rfl,B,o,C,j,q⟩:=h;cases E;obtain⟨t,rfl⟩:=D;obtain⟨z,b,n,r,w,e⟩:=I.lstM B;have g:b.toArray.size*k.toNat<=sizeLine:=by rw[aP,<-w];exact j
 have f:¬b.toArray.size*k.toNat>(2^63-1)/8:=by
  have:(sizeLine:Nat)<=(2^63-1)/8:=by decide
  omega
 have d:¬(!Builtin.List.listFitsIndex k)=aC:=by rw[fitsIndex_both o C];exact bO
 have c:¬fN (b.toArray.size*k.toNat)=aC:=by rw[N4 g];exact bO
 have i:jZ (λG J=>G++J) #[] (aV (if b.toArray.isEmpty=aC then 0 else k.toNat) b.toArray)=(aV k.toNat b).flatten.toArray:=by
  have p:=λm=>by have:=T8 b m [];rw[List.nil_append] at this;exact this
  rw[p]
  cases b with
  | nil=>simp
  | cons a r'=>rw[l4 (by simp)]
 refine gq rfl ⟨_,e,rfl⟩ (λA=>iV A k t) noFill_list_mul F.fills_int_mul F.slot_int_rmul repeat_list F.slot_int_index.lookup
  (fR F.slot_int_rmul (iV s k t) F.entry_int_rmul (F.args_int_rmul_2 _ _) (int___rmul___int_list k t l b.toArray n)
   ⟨e,rfl,⟨_,e,rfl⟩,fR F.slot_list_mul ⟨_,e,rfl⟩ F.entry_list_mul (F.args_list_mul_2 _ _) (AutoListH.list___mul___list_int_3 l b.toArray n k t d f c) ⟨e,?_⟩⟩)
 rw[i];exact⟨.ref _,_,I.lnew (r.rep k.toNat) (by rw[OJ,cT];exact j),rfl,q _ I.fresh⟩
end
end L2
namespace Att
open PySem PySem.W PySem.Calls PyProof.Rows
theorem Rq{P:Params}{h:bW}:∀(c:List Int)(vs:List aG),WellAll P h vs (c.map jy)->IntsAre vs c:=by
 intro c
 induction c with
 | nil=>
  intro vs w;cases w;exact .nil
 | cons n c ih=>
  intro vs w
  cases w with
  | cons a b=>
   cases a;exact .cons _ _ (ih _ b)
theorem script_of{l:OpenLaw}{n:Nat}(o:l.most=aA n){P:Params}{h:bW}{b:List WData}{c:List aG}
  (e:l.row.toRowW.claim.pre b=aC) (j:WellAll P h c b) :
  ∃a vs f,c=[js a]/\b=[WData.list (f.map jy)]/\h.get? a=aA { cls:=.type "list",data:=.seq vs.toArray }/\IntsAre vs f/\f.length<=n:=by
 have m:=(pre_splitW e).1;have t:=(pre_splitW e).2;obtain⟨d,r,rfl,p,s⟩:=hasAllW_cons m;obtain rfl:=hasAllW_nil s;obtain⟨u,rfl,q⟩:=hasW_list p;obtain⟨f,rfl⟩:=items_int q
 have g:f.length<=n:=by
  have i:(WTm.not (.lt (.lit (.int (n:Int))) (.len (.arg 0)))).holds [] { args:=[.list (f.map .int)] }=aC:=by have i:=(holds_andW t).1;rw[o] at i;exact i
  have k:=condW_of i (w_not (w_lt w_lit (w_len_list (w_arg rfl))))
  first
   | (rw[decide_eq_true q'] at k;exact absurd k rfl)
   | (simp at k;omega)
 cases j with
 | cons w1 w2=>
  cases w2
  cases w1 with
  | list ho hall=>exact⟨_,_,f,rfl,rfl,ho,Rq f _ hall,g⟩
theorem post_true(l:OpenLaw)(a:List WData):l.row.toRowW.claim.post a (.bool aC) a=aC:=
 postW_of
  (show WShape.has [] (.bool aC) .bool=aC by first | rfl | decide | simp[WShape.arms])
  (w_eq_bool (w_res rfl) w_lit) rfl
end Att
namespace L2
open PySem PySem.Spec PyProof.Rows
structure M2(X:Cx)(o:av)(m:ao)(apos:eu)(e f:av)(cpos:eu):Prop where
 base:attributeBase o m X.env (eval o X.env)=eval o X.env
 few:((fA cpos (aX [e,f] X.env)).all (λx=>!x.1)&&(backToKw cpos (keywordEach [] X.env)).all (λx=>x.1.isSome)
  &&decide (([e,f]:List av).length+([]:List Keyword).length+(if([]:List Keyword).isEmpty then 0 else 1)<30))=aC
 line:(apos.endLine==cpos.line)=aC
 trees:fA cpos (aX [e,f] X.env)=[(aB,eval e X.env),(aB,eval f X.env)]
theorem P4:∀{vs:List aG}{ns:List Int},IntsAre vs ns->Vals (ns.map V.int) vs
 | _,_,.nil=>.nil
 | _,_,.cons n t h=>.cons ⟨t,rfl⟩ (P4 h)
noncomputable def Bf(H:Hp):Prop:=∀b,H b=none\/∃o xs,H b=aA (.frz o (.lst xs))
theorem law_call{P:bN}{w:cC}{K:aD}{E W:ao->Option aG}{CX:F3}{k:Nat}{Y a:aJ}{fd:dy}{x:ao}{sp:Sp}{f:aO}{vs:List aG}{O:List Int}
  (M:∀(q:ao)(c:aJ),JK q=aC->cY K (.ref c) q=aC->False) (KX:K.In f.heap) (Q:f.heap.Ns cE E) (j:f.heap.Ns jU W) (I:∀x:ao,x≠"__name__"->W x=dA x) (G:f.heap.NoLimit) (p:f.heap.NoSeer) (hg:f.gens = #[])
  (S:f.heap.get? a=aA { cls:=.type "list",data:=.seq vs.toArray }) (hi:IntsAre vs O) (hl:O.length<=sizeLine) (hr:Room k jj)
  (F:∀base:bW,K.In base->base.Ns cE E->T6 P w K E base CX k Y fd [x] sp) (B:∀(s:aO)(u:aG),je s fd ⟨[u],[]⟩ [(x,u)])
  (hsp:∀H:Hp,Bf H->SqL K H a (O.map V.int)->sp [.ref a] H (λv _=>v = .bl aC) λ_ _ _=>False)
  (Z:∀H e l,CX [] H f (λ_ _ _=>False) e l->False) :
  iR (model P w) jj (.call (.ref Y) ⟨[.ref a],[]⟩) (λr l=>r = .ok (.ret (.bool aC))/\OldK f.heap l.heap/\l.os=f.os/\iP l.gens) f:=by
 have rv:=P4 hi;have N:=hi.length
 -- from an abstract heap in which nothing but the script may be tracked
 have A:∀H:Hp,Bf H->SqL K H a (O.map V.int)->HOk P w H f.heap->(∀b,H b≠none->b=a)->(H a≠none->K.lookup a=none)->
   iR (model P w) jj (.call (.ref Y) ⟨[.ref a],[]⟩) (λr l=>r = .ok (.ret (.bool aC))/\OldK f.heap l.heap/\l.os=f.os/\iP l.gens) f:=by
  intro H hO hS L hA hK;have g:∀{b:aJ}{o:dF},f.heap.get? b=aA o->H b=none->(OD f.heap H).get? b=aA o:=λe n=>Hg e n
  have noA:∀{b:aJ}{o:dF}{C:Array DictEntry}{ep:Nat},f.heap.get? b=aA o->o.data = .dict C ep->H b=none:=λ{b o C ep} e d=>by
   cases q:H b with
   | none=>rfl
   | some u=>
    have T:b=a:=hA b (by rw[q];simp);subst T;rw[S] at e;cases e;have d':Data.seq vs.toArray _=Data.dict C ep:=d;cases d'
  have i:∀{b:aJ}{m:ao->Option aG},f.heap.Ns b m->(OD f.heap H).Ns b m:=λ{b m} ⟨o,C,ep,e,d,r⟩=>⟨o,C,ep,g e (noA e d),d,r⟩
  have R:K.In (OD f.heap H):=λb o e=>g (KX b o e) (by
   cases q:H b with
   | none=>rfl
   | some u=>
    have T:b=a:=hA b (by rw[q];simp);subst T;rw[hK (by rw[q];simp)] at e;cases e)
  have hbm:∀{b:aJ}{o:dF},f.heap.get? b=aA o->o.cls = .type "module"->H b=none:=λ{b o} e d=>by
   cases q:H b with
   | none=>rfl
   | some u=>
    have T:b=a:=hA b (by rw[q];simp);subst T;rw[S] at e;cases e;injection d with d
    exact absurd d (by decide)
  have hM:Mod K E (OD f.heap H):=⟨R,i Q,⟨W,i j,I⟩,let⟨X,y,t⟩:=G;⟨X,i y,t⟩,⟨let⟨X,y,t⟩:=p.statics;⟨X,i y,t⟩,let⟨mm,y,t⟩:=p.mods;⟨mm,i y,t⟩,⟨W,i j,I⟩,let⟨mg',bm,ob,y,t,h3,h4,h5⟩:=p.main;⟨mg',bm,ob,i y,t,g h3 (hbm h3 h4),h4,h5⟩⟩⟩;have e0:F4 P w K E (OD f.heap H) jj [] f H:=⟨rfl,hM,λb o e=>FN e,Nat.le_of_eq (JL _ _),trivial,λb j=>absurd (show b∈([]:List aJ) from j) (by simp),λq c y t=>(M q c y t).elim,L,.of_eq hg⟩;refine jf ((F _ R (i Q)).run jj [] f H ⟨[.ref a],[]⟩ [.ref a] [.ref a] _ _ hr e0 (B f (.ref a)) (.cons rfl .nil) (hsp H hO hS)) λr l h=>?_
  cases r with
  | error e=>exact(Z H e l h).elim
  | ok fl=>
   cases fl with
   | next=>exact eK h
   | brk=>exact eK h
   | cont=>exact eK h
   | ret u=>
    obtain⟨v,H',os,J,un,D,r',q⟩:=h;have q':v = .bl aC:=q;subst q';obtain rfl:u=aG.bool aC:=r';refine⟨rfl,OldK.of_keep λb o e=>?_,os,J⟩
    cases q:H b with
    | none=>exact un.keep b o e q (by intro z;exact absurd (show b∈([]:List aJ) from z) (by simp)) (by simp)
    | some u=>
     rcases hO b with z | ⟨ob,xs,z⟩
     ·rw[q] at z;cases z
     ·have z2:=un.frzs b ob _ z;obtain⟨e1,_⟩:=L b _ z;obtain⟨e2,_⟩:=D b _ z2;rw[e] at e1;cases e1;exact e2
 cases hk:K.lookup a with
 | some o=>
  -- the script is one of the module's own objects
  have e:=KX a o hk;rw[S] at e;cases e;refine A (λ_=>none) (λ_=>.inl rfl) (.inr ⟨_,vs.toArray,_,hk,rfl,rfl,rfl,by rw[aP,N];exact hl,by simpa using rv⟩) (λb u z=>by have U:(none:Option HO)=aA u:=z;cases U) (λb z=>absurd rfl z) λz=>absurd rfl z
 | none=>
  refine A (λb=>if b=a then aA (.frz { cls:=.type "list",data:=.seq vs.toArray } (.lst (O.map V.int))) else none) (λb=>?_) (.inl (.inr ⟨{ cls:=.type "list",data:=.seq vs.toArray },kz rfl⟩)) (λb u z=>?_) (λb z=>?_) λ_=>hk
  ·by_cases j:b=a
   ·exact .inr ⟨_,_,kz j⟩
   ·exact .inl (l4 j)
  ·by_cases j:b=a
   ·have U:=(kz j).symm.trans z;cases U;subst j;exact⟨S,by rw[aN];exact hl,vs,_,rv,S⟩
   ·have U:=(l4 j).symm.trans z;cases U
  ·by_cases j:b=a
   ·exact j
   ·exact absurd (l4 j) z
noncomputable def Xv(s:b7):Arguments:=match s with
 | .FunctionDef _ a _ _ _ _ _ _ _ _=>a
 | _=>{ posonlyargs:=[],args:=[],vararg:=none,kwonlyargs:=[],kw_defaults:=[],kwarg:=none,defaults:=[] }
noncomputable def Yr(s:b7):List b7:=match s with
 | .FunctionDef _ _ b _ _ _ _ _ _ _=>b
 | _=>[]
noncomputable def Zf(s:b7):dM:=match s with
 | .FunctionDef _ _ _ _ _ _ sc _ _ _=>sc
 | _=>{ kind:=.function,names:=[],isGenerator:=aB,isCoroutine:=aB }
abbrev La:F3:=λ_ _ _ _ _ _=>False
abbrev E0:XK:=λ_ _ _=>False
theorem AK{X:Cx}:Ll La X E0:=λ_ _ _ _ _ _ _ h=>h.elim
structure Fun(K:aD)(x qual:ao)(st:b7)(f:aJ)(fd:dy):Prop where
 ex:∃(oc:aG) (od:Option aJ) (kV doc pm:aG) (an:Option aJ) (cdv ct:aG) (osl:Array (Option aG)),
  fd=cg x qual (Xv st) (Yr st) (Zf st) .none kV doc pm an cdv ct/\K.lookup f=aA ⟨oc,od,.func fd,osl⟩/\cY K cdv qual=aC
 kp:fZ K (.ref f)=aC
section
variable {P:bN} {w:cC} {K:aD} {mg:ao->Option aG} {base:bW}
theorem Fun.ok{x b:ao}{st:b7}{f:aJ}{j:dy}{N i:List ao}{k:Nat}{sp:Sp}(F:Fun K x b st f j)(S:Zl N i (Zf st))(len:∀vs H Q E,sp vs H Q E->vs.length=i.length)
  (d:∀(c:aG)(A:cA)(a:List jt)(s:aO)(H:Hp)(vs:List V)(Q:VK)(E:XK),Room k (A.deeper (gL b (Zf st) s.heap.objs.size f c))->sp vs H Q E->
   ∃t,PSs (R9 La P w K mg base N b (Zf st) f c A a s H E).nox (Yr st) t/\t { nx:=λ_ m=>Q .non m,rt:=Q } (start N vs) H):T6 P w K mg base La (k+1) f j i sp:=by
 obtain⟨u,v,kV,l,y,r,c,ct,o,rfl,n,e⟩:=F.ex;refine YV n e S len λA a s H vs Q E p g=>?_;obtain⟨t,h,q⟩:=d c A a s H vs Q E p g;exact⟨t,h.nox,q⟩
theorem Fun.binds{x a:ao}{st:b7}{f:aJ}{i:dy}{e:List ao}(F:Fun K x a st f i)
  (h:∀(kV c g:aG)(d:Option aJ)(b ct:aG)(us:List aG),us.length=e.length->iI (cg x a (Xv st) (Yr st) (Zf st) .none kV c g d b ct) ⟨us,[]⟩=pure (e.zip us)):Binds K i e []:=by
 obtain⟨m,n,kV,c,g,d,b,ct,k,rfl,l,j⟩:=F.ex;exact .all (h kV c g d b ct)
theorem Bg{x a:ao}{st:b7}{f:aJ}{i:aG}{j g:Option aJ}{e:Array (Option aG)}{kV d h b ct:aG}(l:K.lookup f=aA ⟨i,j,.func (cg x a (Xv st) (Yr st) (Zf st) .none kV d h g b ct),e⟩)
  (c:cY K b a=aC) (k:fZ K (.ref f)=aC):Fun K x a st f (cg x a (Xv st) (Yr st) (Zf st) .none kV d h g b ct):=⟨⟨i,j,kV,d,h,g,b,ct,e,rfl,l,c⟩,k⟩
end
section
variable {X:Cx}
theorem pv(i:Nat){x:ao}{pos:eu}(c:X.N[i]?=aA x:=by rfl)(d:Vis X.env.scope x:=by first | exact j1 rfl | exact ir (j1 rfl) | exact ir (ir rfl))(b:(x==("__debug__" : ao))=aB:=by decide)
  (a:(x==("__classdict__" : ao))=aB:=by decide):PE X (.Name x pos) (Po i):=CA c d b a
end
theorem AL{A B:Prop}(h:B):if aB=aC then A else B:=by rw[l4 bO];exact h
theorem AM{A B:Prop}(h:A):if aC=aC then A else B:=by rw[kz rfl];exact h
noncomputable def Same(H H':Hp):Prop:=∀b o,H b=aA o->H' b=aA o
theorem Same.refl(H:Hp):Same H H:=λ_ _ h=>h
theorem Same.trans{H d e:Hp}(a:Same H d)(b:Same d e):Same H e:=λc o h=>b c o (a c o h)
theorem Same.free{H a:Hp}(e:Same H a){l:aJ}(h:a l=kf):H l=kf:=by
 cases q:H l with
 | none=>rfl
 | some o=>
  rw[e l o q] at h;cases h
end L2
set_option maxHeartbeats 4000000
namespace L2
open PySem PySem.Spec PyProof.Rows
noncomputable def Xz(cells:List (ao×aJ)):List (ao×dO)->List (ao×aJ)->List (ao×aJ)
 | [],acc=>acc
 | (n,k)::r,acc=>Xz cells r (if(k==bM)=aC then(n,(cells.lookup n).getD 0)::acc else acc)
theorem UG{env:jt}:∀(names:List (ao×dO))(acc:List (ao×aJ)),(∀y∈names,y.2 = .free->(env.cells.lookup y.1).isSome=aC)->
  (forIn (m:=Sem) names acc λ(x:ao×dO) (d:List (ao×aJ))=>
   match x with
   | (name,kind)=>if(kind==bM)=aC then do
     let c <-cellOf env name
     pure (eQ ((name,c)::d))
    else pure (eQ d))=pure (Xz env.cells names acc)
 | [],acc,_=>rfl
 | (n,k)::r,acc,h=>by
  rw[List.forIn_cons];have e:=λa=>UG r a λy i=>h y (aT _ i)
  cases hk:(k==bM) with
  | true=>
   have f:=h (n,k) aZ (by simpa using hk);obtain⟨c,b⟩:=bc.mp f;have b:env.cells.lookup n=aA c:=b;have g:cellOf env n=pure c:=by unfold cellOf;rw[b]
   dsimp only
   rw[hk,kz rfl,g];refine dP (e ((n,c)::acc)) ?_;show _=pure (Xz env.cells r (if(k==bM)=aC then(n,(env.cells.lookup n).getD 0)::acc else acc));rw[kz hk,b];rfl
  | false=>
   dsimp only
   rw[hk,l4 bO];refine dP (e acc) ?_;show _=pure (Xz env.cells r (if(k==bM)=aC then(n,(env.cells.lookup n).getD 0)::acc else acc));rw[l4 (by rw[hk];exact bO)]
theorem WA{a:dM}{env:jt}(h:∀y∈a.names,y.2 = .free->(env.cells.lookup y.1).isSome=aC):closureFor a env=pure (Xz env.cells a.names []):=by
 have e:=UG a.names [] h;unfold closureFor
 dsimp only
 rw[e];rfl
theorem WS{cells:List (ao×aJ)}{x:ao}{c:aJ}:∀(names:List (ao×dO))(acc:List (ao×aJ)),(∀y∈names,y.2 = .free->(cells.lookup y.1).isSome=aC)->(acc.lookup x=aA c->cells.lookup x=aA c)->
  (Xz cells names acc).lookup x=aA c->cells.lookup x=aA c
 | [],_,_,h,e=>h e
 | (n,k)::r,acc,hf,h,e=>by
  refine WS r _ (λy g=>hf y (aT _ g)) ?_ e;intro q;by_cases b:(k==bM)=aC
  ·rw[kz b,bQ] at q
   cases hx:x==n with
   | true=>
    rw[hx] at q;have f:x=n:=by simpa using hx
    obtain⟨d,a⟩:=bc.mp (hf (n,k) aZ (by simpa using b));have a:cells.lookup n=aA d:=a;rw[a] at q;rw[f,a];exact q
   | false=>rw[hx] at q;exact h q
  ·rw[l4 b] at q;exact h q
theorem Qb{cells:List (ao×aJ)}{x:ao}:∀(names:List (ao×dO))(acc:List (ao×aJ)),(acc.lookup x).isSome=aC->((Xz cells names acc).lookup x).isSome=aC
 | [],_,h=>h
 | (n,k)::r,acc,h=>by
  refine Qb r _ ?_;split
  ·rw[bQ];split<;>simp_all
  ·exact h
theorem WT{cells:List (ao×aJ)}{x:ao}:∀(names:List (ao×dO))(acc:List (ao×aJ)),(x,bM)∈names->((Xz cells names acc).lookup x).isSome=aC
 | (n,k)::r,acc,h=>by
  rcases a9.mp h with e | h
  ·cases e;refine Qb r _ ?_;rw[kz (by decide),bQ];simp
  ·exact WT r _ h
structure CompScope(N:List ao)(around scope:dM)(own fr:List ao)(ix:List Nat):Prop where
 kind:scope.kind = .function
 nocell:∀y∈scope.names,y.2≠.cell
 names:∀y∈scope.names,y.2 = .local->scope.names.lookup y.1=aA .local
 frees:∀y∈scope.names,y.2 = .free->(around.names.lookup y.1=aA .cell\/around.names.lookup y.1=aA .free)
 slots:fr.map aA=ix.map (λi=>N[i]?)
 outs:∀x∈fr,(x,bM)∈scope.names
 apart:∀x∈fr,scope.names.lookup x≠aA .local
noncomputable def ZG(X:Cx)(N':List ao)(scope:dM)(cl:List (ao×aJ))(C:aJ)(s:aO)(H:Hp)(ex:List aJ):Cx:=
 { X with N:=N',s₀:=s,H₀:=H,env:=iu scope cl C X.env,outer:=X.stack,ex:=ex,fn:=λ_=>aB,pn:=[],xe:=λ_ _=>False }
noncomputable def ZY(n:Nat)(ix:List Nat)(σ:St):St:=aV n none++ix.map (λi=>(σ[i]?).join)
theorem YL{env:jt}{x:ao}:∀{names:List (ao×dO)}{k:dO},names.lookup x=aA k->
  (names.map λ(n,k)=>if(k==bM&&env.scope.kind==.function&&env.kindOf n==aA .cell) then(n,bg) else(n,k)).lookup x =
   aA (if(k==bM&&env.scope.kind==.function&&env.kindOf x==aA .cell)=aC then bg else k)
 | [],_,h=>by simp at h
 | (n,k')::r,k,h=>by
  show List.lookup x ((if(k'==bM&&env.scope.kind==.function&&env.kindOf n==aA .cell)=aC then(n,bg) else(n,k'))::_)=_
  cases hx:x==n with
  | true=>
   simp only[bQ,hx] at h;cases h;have e:x=n:=by simpa using hx
   subst e;split
   ·simp[bQ]
   ·simp[bQ]
  | false=>
   simp only[bQ,hx] at h;split
   ·simp only[bQ,hx];exact YL h
   ·simp only[bQ,hx];exact YL h
theorem X3{env:jt}{x:ao}:∀{names:List (ao×dO)}{k':dO},
  (names.map λ(n,k)=>if(k==bM&&env.scope.kind==.function&&env.kindOf n==aA .cell) then(n,bg) else(n,k)).lookup x=aA k'->∃k,names.lookup x=aA k
 | [],_,h=>by simp at h
 | (n,k0)::r,k',h=>by
  have h:List.lookup x ((if(k0==bM&&env.scope.kind==.function&&env.kindOf n==aA .cell)=aC then(n,bg) else(n,k0))::_)=aA k':=h
  cases hx:x==n with
  | true=>exact⟨k0,by simp[bQ,hx]⟩
  | false=>
   have:∃k,r.lookup x=aA k:=by
    apply X3 (env:=env) (k':=k');split at h<;>simpa [bQ,hx] using h
   obtain⟨k,e⟩:=this;exact⟨k,by simp[bQ,hx,e]⟩
section
variable {X:Cx} {kj:List (aJ×dF)} {σ:St} {H:Hp} {s:aO} {own fr:List ao} {ix:List Nat} {scope:dM}
theorem CompScope.clos(S:CompScope X.N X.env.scope scope own fr ix)(I:Inv X kj σ H s):∀y∈scope.names,y.2 = .free->(X.env.cells.lookup y.1).isSome=aC:=λy b a=>by obtain⟨c,e⟩:=I.ok.has y.1 (S.frees y b a);rw[e];rfl
end
theorem OK{prog:bN}{w:cC}{A:cA}{R:ke->aO->Prop}{s:aO}{D a z:av}{E:List av}{p:dM}{pos:eu}{C y:aG}{env:jt}(I:Nat->aO->Prop)
  (turn:∀n s,I n s->bG (model prog w) A (kd C) (λr b=>match r with
   | none=>R (.ok .next) b
   | some v=>bG (model prog w) A (i5 a C v) (λ_ i=>bG (model prog w) A (assign a env v) (λ_ l=>
     bG (model prog w) A (forIn E aC λc r=>if r=aC then do let ok <-kQ c env (eval c env);pure (eQ ok) else pure (eQ r)) (λok f=>
      if ok=aC then bG (model prog w) A (eval D env) (λx j=>
       bG (model prog w) A (call (.builtin "list.append") [y,x]) (λ_ o=>∃m,m<n/\I m o) (jL (model prog w) A env λe d=>R (.error e) d) j) (jL (model prog w) A env λe d=>R (.error e) d) f
      else ∃m,m<n/\I m f) (jL (model prog w) A env λe d=>R (.error e) d) l) (jL (model prog w) A env λe d=>R (.error e) d) i) (jL (model prog w) A env λe d=>R (.error e) d) b) (jL (model prog w) A env λe d=>R (.error e) d) s)
  (n:Nat) (h:I n s) :
  iR (model prog w) A (.compLoop (.ListComp D [⟨a,z,E,0⟩] p pos) 0 C y env) R s:=by
 refine codeAny_loop rfl I (λn s F=>?_) n h;refine wpAny_noted ?_;refine aM (jR (aM (cZ (turn n s F) (λr b h₁=>?_) λ_ _ g=>g)))
 cases r with
 | none=>exact aj h₁
 | some v=>
  refine aM (cZ h₁ (λ_ i q=>?_) λ_ _ g=>g);refine aM (cZ q (λ_ l t=>aM (cZ t (λok f k=>?_) λ_ _ g=>g)) λ_ _ g=>g)
  cases ok with
  | false=>exact aj ⟨rfl,k⟩
  | true=>
   exact aM (aM (cZ k (λx j u=>aM (cZ u (λ_ o B=>aj (aj ⟨rfl,B⟩)) λ_ _ g=>g)) λ_ _ g=>g))
noncomputable def Lp(X:Cx)(kr:List av)(t:TT):Prop:=
 ∀(kj:List (aJ×dF))(s:aO)(σ:St)(H:Hp)(Q:Bool->Hp->Prop),Inv X kj σ H s->t σ H Q->
  bG (model X.prog X.w) X.A (forIn kr aC λc r=>if r=aC then do let ok <-kQ c X.env (eval c X.env);pure (eQ ok) else pure (eQ r)) (TP X kj σ Q) X.xe s
noncomputable def AN:TT:=λ_ H Q=>Q aC H
theorem Ed{X:Cx}:Lp X [] AN:=λ_ _ _ H _ I h=>wpAny_tests_nil ⟨H,I,h⟩
theorem Ee{X:Cx}{c:av}{t:TT}(h:PT X c t):Lp X [c] t:=λa s b H Q I d=>wpAny_tests_one (h a s b H Q I d)
noncomputable def AO(n:Nat)(ix:List Nat)(g:TG)(tt:TT)(te:TE)(σ:St)(Q:VK)(J:It)(H1:Hp):Prop:=
 ∃W:Nat->Nat->List V->Hp->Prop,(∃m,W 0 m [] H1)/\∀i m ys H,W i m ys H->ys.length<=sizeLine/\
  ((J.stop i H/\∀p,H p=none->Q (.ref p) (upd H p (.lst ys)))\/
   (J.go i H/\∃N:List V->Hp->Prop,(∀ys' H',N ys' H'->∃m',m'<m/\W (i+1) m' ys' H')/\
    ∀x H',J.yld i H x H'->g x (ZY n ix σ) H' λσ2 H2=>σ2.drop n=(ZY n ix σ).drop n/\tt σ2 H2 λb H3=>if b=aC then te σ2 H3 λy H4=>N (ys++[y]) H4 else N ys H3))
noncomputable def Qc(n:Nat)(ix:List Nat)(wi:TI)(g:TG)(tt:TT)(te:TE):TE:=λσ H Q=>wi σ H λJ H1=>AO n ix g tt te σ Q J H1
theorem JX{n:Nat}{ix:List Nat}{b a:St}(d:a.drop n=(ZY n ix b).drop n):∀(i:Nat) v,(ZY n ix b)[i]?=aA (aA v)->a[i]?=aA (aA v):=λi v e=>by
 by_cases c:i<n
 ·unfold ZY at e;rw[ah (by simpa using c),b0] at e;rw[kz c] at e;cases e
 ·have q:=congrArg (λl=>l[i-n]?) d;simp only[dQ] at q;rw[show n+(i-n)=i by omega] at q;rw[q];exact e
section
variable {X:Cx} {tg ku iter:av} {kr:List av} {scope:dM} {pos:eu} {own fr:List ao} {ix:List Nat} {wi:TI} {g:TG} {tt:TT} {te:TE}
theorem Ht{Y:List (aJ×dF)}{B:St}{D:Hp}{s2:aO}{G:List aJ}{h₁:bW}{tk:Nat}{C:aJ}(S:CompScope X.N X.env.scope scope own fr ix)(d:Inv X Y B D s2)(f2:∀b∈G,W5 X Y D b)(Q:∀b∈G,b<s2.heap.objs.size)
  (N:s2.heap.objs.size<=C) (M:h₁.Ns C λ_=>none) (s:∀b o,s2.heap.get? b=aA o->h₁.get? b=aA o) :
  Inv (ZG X (own++fr) scope (Xz X.env.cells scope.names []) C s2 D G) [] (ZY own.length ix B) D { s2 with heap:=h₁,toks:=tk }:=by
 have cs:=S.clos d;have sub:∀x c,(Xz X.env.cells scope.names []).lookup x=aA c->X.env.cells.lookup x=aA c:=λx c e=>WS scope.names [] cs (λh=>by simp at h) e;have U:=d.stkSub
 have O:(ZG X (own++fr) scope (Xz X.env.cells scope.names []) C s2 D G).Ok:=by
  refine⟨d.ok.mod,S.kind,d.ok.glob,d.ok.blt,N,λx y c t f=>d.ok.inj x y c (sub x c t) (sub y c f),λx hx=>?_,λx c h _=>?_,d.ok.hd,d.ok.frames,.inl rfl,λb w=>⟨?_,λx c e=>?_⟩,d.bs,?_,λb o e w=>?_,λb w z=>?_,d.stack,d.stkFree,d.ok.tab.un d.base,λ_ z=>absurd rfl z⟩
  ·-- the cells of the block's free names
   have L:(x,bM)∈scope.names:=by
    have:∃k',(relabel scope X.env).names.lookup x=aA k'/\(k' = .cell\/k' = .free):=by
     rcases hx with h | h
     ·exact⟨_,h,.inl rfl⟩
     ·exact⟨_,h,.inr rfl⟩
    obtain⟨k',e,J⟩:=this;obtain⟨k,F⟩:=X3 e;have R:=YL (env:=X.env) F;have e:(scope.names.map λ(n,k)=>if(k==bM&&X.env.scope.kind==.function&&X.env.kindOf n==aA .cell) then(n,bg) else(n,k)).lookup x=aA k':=e;rw[R] at e;have m:=cp F
    cases k with
    | free=>exact m
    | cell=>exact absurd rfl (S.nocell _ m)
    | _=>simp at e;subst e;rcases J with z | z<;>cases z
   exact bc.mp (WT _ _ L)
  ·cases h
  ·-- G differs from the frame
   exact bB (aa (Q b w) N)
  ·exact(f2 b w).2.2.2.2.1 x c (sub x c e)
  ·exact aU d.ok.bsz d.sz
  ·rcases(f2 b w).2.2.2.1 with z | z
   ·exact d.ok.noex b o e z
   ·exact absurd (aa (aS (d.ok.bs b o e).1) z) (bz _)
  ·rcases a9.mp (U b z) with e | e
   ·exact(f2 b w).2.1 e
   ·exact(f2 b w).2.2.1 e
 have sl:fr.length=ix.length:=by simpa using congrArg gR S.slots
 refine⟨O,rfl,d.bare,Un.kept s,⟨_,M,λi x v t f g=>?_⟩,λx c e=>?_,d.hok.fresh N,λx c e=>d.freeC x c (sub x c e),λp hp=>absurd (show p∈([]:List (aJ×dF)) from hp) (by simp),d.hok.kept s,?_⟩
 ·-- a name of the def around
  have t:(own++fr)[i]?=aA x:=t;have H:¬i<own.length:=λH=>by unfold ZY at f;rw[ah (by simpa using H),b0,kz H] at f;cases f
  rw[bI (by omega)] at t;unfold ZY at f;rw[bI (by simpa using H),cu,aW] at f
  cases ej:ix[i-own.length]? with
  | none=>rw[ej] at f;cases f
  | some j=>
   rw[ej] at f;have f:(B[j]?).join=aA v:=by simpa using f
   have f:B[j]?=aA (aA v):=by
    cases q:B[j]? with
    | none=>rw[q] at f;cases f
    | some z=>rw[q] at f;exact congrArg aA f
   have hN:X.N[j]?=aA x:=by have q:=congrArg (λl=>l[i-own.length]?) S.slots;simp only[aW,t,ej] at q;exact(ay q).symm
   have Z:=S.outs x (cH t);have W:=S.frees _ Z rfl;obtain⟨m,hn,hl⟩:=d.loc;obtain⟨u,r,l⟩:=hl j x v hN f (by rcases W with k | k;exact .inr (.inl k);exact .inr (.inr k));refine⟨u,r,?_⟩;rcases l with⟨k,_⟩ | ⟨_,c,hc,A⟩
   ·have k:X.env.scope.names.lookup x=aA .local:=k;rcases W with q | q<;>rw[k] at q<;>cases q
   ·obtain⟨c',E⟩:=bc.mp (WT _ [] Z);have ec:=sub x c' E;rw[hc] at ec;cases ec;refine .inr ⟨?_,c,E,?_⟩
    ·have g:=g;rcases g with g | g
     ·obtain⟨k0,F⟩:=X3 g;have R:=YL (env:=X.env) F;have g:(scope.names.map λ(n,k)=>if(k==bM&&X.env.scope.kind==.function&&X.env.kindOf n==aA .cell) then(n,bg) else(n,k)).lookup x=aA .local:=g;rw[R] at g
      have T:k0 = .local:=by
       cases k0<;>simp at g ⊢
       split at g<;>cases g
      subst T;exact absurd F (S.apart x (cH t))
     ·exact g
    ·obtain⟨o,I,P⟩:=A;exact⟨o,s _ _ I,P⟩
 ·obtain⟨v,o,I,P⟩:=d.cell x c (sub x c e);exact⟨v,o,s _ _ I,P⟩
 ·show(ZY own.length ix B).length=(own++fr).length;unfold ZY;rw[bA,cu,aN,bA,sl]
noncomputable def NV(fv:ao->Bool)(X:Cx)(N':List ao)(scope:dM)(cl:List (ao×aJ))(C:aJ)(s:aO)(H:Hp)(ex:List aJ):Cx:=
 { X with N:=N',s₀:=s,H₀:=H,env:=iu scope cl C X.env,outer:=X.stack,ex:=ex,fn:=fv,pn:=[],xe:=λ_ _=>False }
theorem P5{fv:ao->Bool}{N:List ao}{cl:List (ao×aJ)}{kk:Nat}{C D:aJ}{h₁:bW}{tk:Nat}{kj:List (aJ×dF)}{σ:St}{w:Hp}{s2:aO}{k:List aJ}{it:aJ}{tn:Nat->bW->Prop}{J:It}{Fin:List V->Hp->Prop}{RR:aG->aJ->ke->aO->Prop}
  (G:X.calm=aC) (hg:PG (NV fv X N scope cl C s2 w k) tg g) (ht:Lp (NV fv X N scope cl C s2 w k) kr tt) (he:PE (NV fv X N scope cl C s2 w k) ku te)
  (I2:Inv X kj σ w s2) (T:OE X.prog X.w X.K tg J k it tn) (st2:tn 0 s2.heap) (f2:∀b∈k,W5 X kj w b)
  {W:Nat->Nat->List V->Hp->Prop} {m0:Nat} (w0:W 0 m0 [] w)
  (turn:∀i m f H,W i m f H->f.length<=sizeLine/\
   ((J.stop i H/\Fin f H)\/
    (J.go i H/\∃N:List V->Hp->Prop,(∀ys' j,N ys' j->∃m',m'<m/\W (i+1) m' ys' j)/\
     ∀x j,J.yld i H x j->g x (ZY kk ix σ) j λσ2 w=>σ2.drop kk=(ZY kk ix σ).drop kk/\tt σ2 w λb t=>if b=aC then te σ2 t λy H4=>N (f++[y]) H4 else N f t)))
  (hRR:∀(D C:aJ)(oC:dF)(m:ao->Option aG)(I:aO)(j:Hp)(f:List V),Inv X (kj++[(C,oC)]) σ (upd j D (.lst f)) I->I.heap.get? C=aA oC->I.heap.Ns C m->W5 X kj (upd j D (.lst f)) C->j D=none->Fin f j->RR (.ref D) C (.ok .next) I)
  (hfp:∀b∈k,b<s2.heap.objs.size) (hC:@Eq Nat C (D+1)) (hDD:@Eq Nat s2.heap.objs.size D) (old:∀b o,s2.heap.get? b=aA o->h₁.get? b=aA o) (hacc:h₁.get? D=aA { cls:=.type "list",data:=.seq ([]:List aG).toArray 0 })
  (I0:∀tk,Inv (NV fv X N scope cl C s2 w k) [] (ZY kk ix σ) w { s2 with heap:=h₁,toks:=tk }) (hcl:∀x c,cl.lookup x=aA c->c≠D) :
  iR (model X.prog X.w) X.A (.compStart (.ListComp ku [⟨tg,iter,kr,0⟩] scope pos) 0 (.ref it) (.ref D) (iu scope cl C X.env)) (RR (.ref D) C) { s2 with heap:=h₁,toks:=tk }:=by
 have hDC:@Ne Nat D C:=by omega
 have h:∀b,b<s2.heap.objs.size->b≠C/\b≠D:=λb a=>by rw[hDD] at a;exact⟨bB (by omega),bB a⟩
 have loop:iR (model X.prog X.w) X.A (.compLoop (.ListComp ku [⟨tg,iter,kr,0⟩] scope pos) 0 (.ref it) (.ref D) (iu scope cl C X.env)) (RR (.ref D) C) { s2 with heap:=h₁,toks:=tk }:=by
  generalize s:NV fv X N scope cl C s2 w k=Y at I0 hg ht he
  have E:∀{j:Hp}{pn:List (aJ×dF)},(∀b∈k,j b=none)->(∀p∈pn,∀b∈k,p.1≠b)->∀b∈k,W5 Y pn j b:=λ{j pn} hn B b a=>by
   subst s;refine⟨hn b a,(h b (hfp b a)).1,λz=>?_,.inl a,λx c e=>?_,λp hp'=>B p hp' b a⟩
   ·exact(I0 0).ok.exfs b a z
   ·exact((I0 0).ok.exf b a).2 x c e
  have dfp:=λb a=>aw (h b (hfp b a)).2;have U:∀x c,Y.env.cells.lookup x=aA c->c≠D:=by subst s;exact hcl
  have hfsD:D∉Y.fs:=λz=>by subst s;obtain⟨_,o,ho,_⟩:=(I0 0).ok.funs.mem z;have:=aS ho;have:D<s2.heap.objs.size:=this;exact bz _ (Nat.lt_of_lt_of_eq this hDD)
  have eL:Y.env.locals=C:=by subst s;rfl
  have eS:Y.s₀=s2:=by subst s;rfl
  have eP:Y.pn=[]:=by subst s;rfl
  refine OK (λn I=>∃i f A F j,Inv Y [] (ZY kk ix σ) j I/\tn i I.heap/\(∀b∈k,j b=none)/\I.heap.get? D=aA { cls:=.type "list",data:=.seq A F }/\Vals f A.toList/\j D=none/\W i n f j) ?_ m0
   ⟨0,[],#[],0,w,I0 _,T.keep _ _ _ st2 λb _ o e=>old b o e,λb a=>(f2 b a).1,hacc,.nil,I2.hok.fresh (by omega),w0⟩
  rintro n s3 ⟨i,f,A,F,t,I3,st3,fr3,oD,vD,nD,w3⟩;obtain⟨hlen,Q⟩:=turn i n f t w3;have hsize:A.size<=sizeLine:=by have:=vD.length;simp only[fJ] at this;omega
  have pD:Inv Y [(D,{ cls:=.type "list",data:=.seq A F })] (ZY kk ix σ) t s3:=I3.pins_of λp B=>by rw[ag.mp B];exact⟨oD,nD,by rw[eL];exact hDC,hfsD,λv z=>by cases z⟩
  have YP:Y.prog=X.prog:=by subst s;rfl
  have Yw:Y.w=X.w:=by subst s;rfl
  have YK:Y.K=X.K:=by subst s;rfl
  have YA:Y.A=X.A:=by subst s;rfl
  have Yx:Y.xe=λ_ _=>False:=by subst s;rfl
  have Ye:Y.env=iu scope cl C X.env:=by subst s;rfl
  have ne1:∀p∈[((D,{ cls:=.type "list",data:=.seq A F }):aJ×dF)],∀b∈k,p.1≠b:=λp B b a=>by rw[ag.mp B];exact dfp b a
  rcases Q with⟨stop,qn⟩ | ⟨go,N,hN,step⟩
  ·have d:=T.done Y YP Yw YK (by subst s;exact G) i _ s3 _ t (jL (model X.prog X.w) X.A (iu scope cl C X.env) λe I=>RR (.ref D) C (.error e) I) pD (E fr3 ne1) st3 stop;rw[YA] at d;refine YJ d λr s4 ⟨hr,I4⟩=>?_;subst hr;obtain⟨oD4,l,_⟩:=I4.pin (D,_) (by rw[eP];exact aZ);obtain⟨m,hn,_⟩:=I4.loc;rw[eL] at hn;obtain⟨oC,es,ep,hoC,hdC,hrest⟩:=id hn;have O:t C=none:=by have:=I4.free;rw[eL] at this;exact this
   have un:Un (M9 X.stack) k w t s2.heap s4.heap:=by have:=I4.base;subst s;exact this
   have lt2:∀b o,s2.heap.get? b=aA o->b≠D:=λb o e=>(h b (aS e)).2
   have un':Un (M9 X.stack) k w (upd t D (.lst f)) s2.heap s4.heap:=by
    refine⟨un.keep,un.slot,λb o e n hx=>?_,un.there,λb xs e=>?_,λb o u e=>?_,λb ps e=>?_⟩
    ·rw[upd_ne (lt2 b o e)];exact un.free b o e n hx
    ·have q:=un.tups b xs e;rw[upd_ne (Zu q l)];exact q
    ·have q:=un.frzs b o u e;rw[upd_ne (Zu q l)];exact q
    ·obtain⟨more,q⟩:=un.tbls b ps e;exact⟨more,by rw[upd_ne (Zu q l)];exact q⟩
   have hok4:HOk X.prog X.w t s4.heap:=by have:=I4.hok;rw[YP,Yw] at this;exact this
   have hok':HOk X.prog X.w (upd t D (.lst f)) s4.heap:=λb u q=>by
    by_cases a:b=D
    ·subst a;rw[Zt] at q;cases q;exact⟨hlen,A.toList,F,vD,by simpa using oD4⟩
    ·rw[upd_ne a] at q;exact(hok4 b u q).stay (λc v _ z=>z) (λc z=>by rw[upd_ne (Zu z l)];exact z) (λc xs z=>by rw[upd_ne (Zu z l)];exact z) λc u z=>by rw[upd_ne (Zu z l)];exact z
   have os4:s4.os=s2.os:=by rw[I4.os,eS]
   have I5:=I2.call' os4 un' hok' I4.bare λb a=>⟨(f2 b a).2.2.2.1,(f2 b a).2.1,(f2 b a).2.2.2.2.1,(f2 b a).2.2.2.2.2⟩;have CL:C≠X.env.locals:=λz=>by exact(h _ I2.lt).1 z.symm
   have R:W5 X kj (upd t D (.lst f)) C:=I2.fpOk (by omega) (by rw[upd_ne (aw hDC)];exact O);refine hRR D C oC m s4 t f (I5.pins_of λp B=>?_) hoC hn R l qn;rcases b6.mp B with z | z
   ·exact I5.pin p (af _ z)
   ·rw[ag.mp z];exact⟨hoC,R.1,R.2.1,R.2.2.1,λv z=>by rw[hdC] at z;cases z⟩
  ·have d:=T.item Y YP Yw YK (by subst s;exact G) i _ s3 _ t (λ_ _=>False) pD (E fr3 ne1) st3 go;rw[YA] at d;refine cZ d (λr s4 ⟨u,hr,h4⟩=>?_) λ_ _ z=>z.elim;subst hr;refine cZ h4 (λ_ s5 ⟨x,H5,I5,r5,y5,st5,fr5⟩=>?_) λ_ _ z=>z.elim;have I5':=I5.pinned (E fr5 ne1) (T.obj _ _ st5);have a6:=hg _ s5 _ H5 x u _ I5' r5 (step x H5 y5);rw[YP,Yw,YA,Ye,Yx] at a6;refine cZ a6 (λ_ s6 ⟨S,H6,I6,dr,q6⟩=>?_) λ_ _ z=>z.elim;have a7:=ht _ s6 S H6 _ I6 q6;rw[YP,Yw,YA,Ye,Yx] at a7;refine cZ a7 (λok s7 ⟨H7,I7,q7⟩=>?_) λ_ _ z=>z.elim
   have back:∀{M:Hp}{L:aO},Inv Y ([((D,{ cls:=.type "list",data:=.seq A F }):aJ×dF)]++T5 k s5.heap) S M L->
     L.heap.get? D=aA { cls:=.type "list",data:=.seq A F }/\M D=none/\tn (i+1) L.heap/\(∀b∈k,M b=none):=λ{M L} P=>by
    obtain⟨e1,Z,_⟩:=P.pin (D,{ cls:=.type "list",data:=.seq A F }) (by simp);refine⟨e1,Z,T.keep _ _ _ st5 λb a o e=>(P.pin (b,o) (by rw[eP];exact aT _ (W6 a e))).1,λb a=>?_⟩;obtain⟨o,e,_⟩:=T.obj _ _ st5 b a;exact(P.pin (b,o) (by rw[eP];exact aT _ (W6 a e))).2.1
   have unp:∀{M:Hp}{L:aO},Inv Y ([((D,{ cls:=.type "list",data:=.seq A F }):aJ×dF)]++T5 k s5.heap) S M L->Inv Y [] (ZY kk ix σ) M L:=λ{M L} P=>
    (P.pins_of λp B=>absurd B (by simp)).weak (by
     have e1:=(I0 0).len;have Z:=P.len;rw[e1,Z]) (JX dr)
   cases ok with
   | false=>
    obtain⟨e1,Z,e3,e4⟩:=back I7;obtain⟨m',hm,w7⟩:=hN _ _ q7;exact⟨m',hm,i+1,f,A,F,H7,unp I7,e3,e4,e1,vD,Z,w7⟩
   | true=>
    have a8:=he _ s7 S H7 _ I7 q7;rw[YP,Yw,YA,Ye,Yx] at a8;refine cZ a8 (λyv L ⟨y,M,P,ry,q8⟩=>?_) λ_ _ z=>z.elim;obtain⟨e1,Z,e3,e4⟩:=back P;obtain⟨m',hm,w8⟩:=hN _ _ q8;refine append_at e1 (λh9 hs9 hD9=>?_) hsize;have I9:=(unp P).turned (t':=L.toks) (λb o a e=>hs9.extBut b o a e) Z (by rw[eL];exact hDC) (.inr (by rw[eS];omega)) U (λp B=>absurd (show p∈([]:List (aJ×dF)) by rw[eP] at B;exact B) (by simp));refine⟨m',hm,i+1,f++[y],A.push yv,F+1,M,I9,T.keep _ _ _ e3 λb a o e=>hs9.extBut b o (aw (dfp b a)) e,e4,hD9,?_,Z,w8⟩;rw[Array.toList_push];exact vD.append (.cons ry .nil)
 exact codeAny_compStart_list loop (T.self X.A 0 _ _ _ (T.keep _ _ _ st2 λb _ o e=>old b o e) loop)
theorem Qd{M:List (aJ×dF)}{O:St}{w:Hp}{s2:aO}{Y:List aJ}{it:aJ}{tn:Nat->bW->Prop}{J:It}{Fin:List V->Hp->Prop}{RR:aG->aJ->ke->aO->Prop}{E:aG->aO->Prop}
  (p:X.calm=aC) (S:CompScope X.N X.env.scope scope own fr ix)
  (hg:∀cl C s H ex,PG (ZG X (own++fr) scope cl C s H ex) tg g) (ht:∀cl C s H ex,Lp (ZG X (own++fr) scope cl C s H ex) kr tt) (he:∀cl C s H ex,PE (ZG X (own++fr) scope cl C s H ex) ku te)
  (P:Inv X M O w s2) (T:OE X.prog X.w X.K tg J Y it tn) (u:tn 0 s2.heap) (f2:∀b∈Y,W5 X M w b)
  {W:Nat->Nat->List V->Hp->Prop} {m0:Nat} (w0:W 0 m0 [] w)
  (turn:∀i m ys H,W i m ys H->ys.length<=sizeLine/\
   ((J.stop i H/\Fin ys H)\/
    (J.go i H/\∃N:List V->Hp->Prop,(∀ys' H',N ys' H'->∃m',m'<m/\W (i+1) m' ys' H')/\
     ∀x H',J.yld i H x H'->g x (ZY own.length ix O) H' λn w=>n.drop own.length=(ZY own.length ix O).drop own.length/\tt n w λb Z=>if b=aC then te n Z λy H4=>N (ys++[y]) H4 else N ys Z)))
  (U:∀(D C:aJ)(oC:dF)(m:ao->Option aG)(s':aO)(H':Hp)(ys:List V),Inv X (M++[(C,oC)]) O (upd H' D (.lst ys)) s'->s'.heap.get? C=aA oC->s'.heap.Ns C m->W5 X M (upd H' D (.lst ys)) C->H' D=none->Fin ys H'->RR (.ref D) C (.ok .next) s') :
  bG (model X.prog X.w) X.A (newList []) (λG B=>bG (model X.prog X.w) X.A (gk scope X.env.globals (Xz X.env.cells scope.names []) [] X.env.qual none .none (aA X.env)) (λk t=>
   iR (model X.prog X.w) X.A (.compStart (.ListComp ku [⟨tg,iter,kr,0⟩] scope pos) 0 (.ref it) G { k with scope:=relabel scope X.env }) (RR G k.locals) t) E B) E s2:=by
 have A:∀b∈Y,b<s2.heap.objs.size:=λb L=>by obtain⟨o,e,_⟩:=T.obj 0 s2.heap u b L;exact aS e
 refine dE (wpAny_newFunctionEnv S.nocell (by simp) (λh₁ d a=>?_) S.kind);generalize r:s2.heap.push { cls:=.type "list",dict:=none,data:=.seq ([]:List aG).toArray }=G2 at d a ⊢;have Q:G2.objs.size=s2.heap.objs.size+1:=by rw[<-r,bt]
 generalize hCC:G2.objs.size=C at d a Q ⊢;generalize l:s2.heap.objs.size=D at Q ⊢;have R:D≠C:=by omega
 have f:∀b,b<s2.heap.objs.size->b≠C/\b≠D:=λb L=>by rw[l] at L;exact⟨bB (by omega),bB L⟩
 have I:=λb o e=>a.extBut b o (f b (aS e)).1 (aF _ (r▸aF _ e))
 have F:h₁.get? D=aA { cls:=.type "list",data:=.seq ([]:List aG).toArray 0 }:=by
  have e0:G2.get? D=aA { cls:=.type "list",data:=.seq ([]:List aG).toArray 0 }:=by rw[<-r,<-l];exact a0 _ rfl
  exact a.extBut _ _ R (aF _ e0)
 have j:h₁.Ns C λ_=>none:=by simpa using d
 have I0:=λtk=>Ht (tk:=tk) S P f2 A (by omega) j I;refine P5 (s2:=s2) (h₁:=h₁) (fv:=λ_=>aB) (N:=own++fr) (C:=C) (D:=D) (cl:=Xz X.env.cells scope.names []) p (hg _ _ _ _ _) (ht _ _ _ _ _) (he _ _ _ _ _) P T u f2 w0 turn U A Q l I F I0 λx c e z=>?_;obtain⟨v,q⟩:=P.cell x c (WS scope.names [] (S.clos P) (λh=>by simp at h) e);exact(f c q.lt).2 z
theorem Ef(c:X.calm=aC)(G:PI X tg iter wi)(S:CompScope X.N X.env.scope scope own fr ix)
  (M:∀cl C s H ex,PG (ZG X (own++fr) scope cl C s H ex) tg g) (L:∀cl C s H ex,Lp (ZG X (own++fr) scope cl C s H ex) kr tt) (F:∀cl C s H ex,PE (ZG X (own++fr) scope cl C s H ex) ku te)
  (p:∀x,bY iter X.env x=pure x:=by intro _;rfl):PE X (.ListComp ku [⟨tg,iter,kr,0⟩] scope pos) (Qc own.length ix wi g tt te):=by
 intro t s w H Q I h;refine fO rfl p (WA (S.clos I)) S.kind S.names (YJ (G t s w H _ I h) λv s1 k=>YJ k λE s2 B=>?_);obtain⟨R,fp,Z,J,O,e,z,T,d,f2,W,⟨Y,u⟩,turn⟩:=B;subst e;refine Qd c S M L F z T d f2 u turn ?_;intro D C N m P n y l A j a q i;refine⟨m,j,λU f=>⟨.ref D,upd n D (.lst y),?_,rfl,i D q⟩⟩;exact(l.unpinned).turned (λb o r e=>f.extBut b o r e) a.1 a.2.1 a.2.2.2.1 a.2.2.2.2.1 a.2.2.2.2.2
theorem Eg{i:Nat}{y:ao}{u c:eu}(hN:X.N.Nodup)(E:X.N[i]?=aA y)(d:X.env.scope.names.lookup y=aA .local)(f:X.calm=aC)(hi:PI X tg iter wi)(S:CompScope X.N X.env.scope scope own fr ix)
  (hg:∀cl C s H ex,PG (ZG X (own++fr) scope cl C s H ex) tg g) (ht:∀cl C s H ex,Lp (ZG X (own++fr) scope cl C s H ex) kr tt) (he:∀cl C s H ex,PE (ZG X (own++fr) scope cl C s H ex) ku te)
  (k:g9 (.ListComp ku [⟨tg,iter,kr,0⟩] scope pos) (aA (.Name y u)) c.line X.env=pure aC:=by rfl)
  (M:∀x,bY iter X.env x=pure x:=by intro _;rfl):PS X (.Assign [.Name y u] (.ListComp ku [⟨tg,iter,kr,0⟩] scope pos) c) (Lf (Qc own.length ix wi g tt te) (U9 i)):=by
 intro P s R H D0 I h;rw[exec_Assign_Name_used _ _ _ _ k];refine aM (jR (aM ?_))
 refine aM (cZ (fO rfl M (WA (S.clos I)) S.kind S.names
  (YJ (hi P s R H _ I h) λv s1 B=>YJ B λitv s2 h2=>?_)) (λ_ O w=>aj (aj w)) λ_ _ e=>e)
 obtain⟨it,fp,tn,J,H2,e,Y,T,l,f2,W,⟨m0,Q⟩,turn⟩:=h2;subst e;refine Qd f S hg ht he Y T l f2 Q turn ?_;intro D C r m O L U G q z a N p;refine wpAny_assign_Name (R6 G hN E (.inl d) (v:=.ref D) rfl (λs6 t=>?_) (.inr d));obtain⟨Z,_⟩:=t.pin (C,r) (af _ (af _ aZ));obtain⟨o',A,ep,j,F⟩:=z;rw[q] at j;cases j;refine⟨m,⟨r,A,ep,Z,F⟩,λh' n=>⟨_,upd L D (.lst U),?_,p D N⟩⟩;exact(t.unpinned).turned (λb o hb e=>n.extBut b o hb e) a.1 a.2.1 a.2.2.2.1 a.2.2.2.2.1 a.2.2.2.2.2
end
open AutoSeq1 (wpAny_loadPart')
section
variable {prog:bN} {w:cC} {A:cA} {E:aG->aO->Prop} {s:aO}
theorem Tc{c l:aJ}{i:Nat}{items}{x:aG}{Q:aG->aO->Prop}(a:s.heap.IsTupleIter c l i)
  (g:s.heap.IsTuple l items) (h:items[i]?=aA x)
  (k:∀h',h'.IsTupleIter c l (i+1)->cS c s.heap h'->Q x { s with heap:=h' }) :
  bG (model prog w) A (gs (.ref c)) Q E s:=by
 obtain⟨o,d,j,b⟩:=id a;obtain⟨m,e,_,n,f⟩:=g
 refine aM (dD a.typeIs F.slot_tuple_iterator_next
  (fG F.slot_tuple_iterator_next a.typeIs F.entry_tuple_iterator_next ?_ (F.args_tuple_iterator_next_1 _)))
 show bG _ _ (field (.ref c) 0 >>= _) _ _ s;refine aM (cN d b rfl ?_);refine aM (cN d b rfl ?_);refine aM (dR e f ?_);simp only[eZ,h];refine aM (wpAny_setField d b (by simp) (aj ⟨x,rfl,aj (k _ ?_ (jO ..))⟩));exact⟨_,ie _ d (dF.isFreed_of_fields (j2 b _)),(dF.cls_mapFields ..).trans j,by rw[j2 b];simp[ij]⟩
theorem T9{b l:aJ}{i:Nat}{items}{Q:aG->aO->Prop}(h:A.handled=none)
  (a:s.heap.IsTupleIter b l i) (j:s.heap.IsTuple l items) (k:items[i]?=none)
  (n:∀h' e,kE b s.heap h'->(∃o,h'.get? e=aA o/\o.cls = .type "StopIteration")->E (.ref e) { s with heap:=h' }) :
  bG (model prog w) A (gs (.ref b)) Q E s:=by
 obtain⟨o,c,p,f⟩:=id a;obtain⟨q,d,_,r,g⟩:=j
 refine aM (dD a.typeIs F.slot_tuple_iterator_next
  (fG F.slot_tuple_iterator_next a.typeIs F.entry_tuple_iterator_next ?_ (F.args_tuple_iterator_next_1 _)))
 show bG _ _ (field (.ref b) 0 >>= _) _ _ s;refine aM (cN c f rfl ?_);refine aM (cN c f rfl ?_);refine aM (dR d g ?_);simp only[eZ,k];refine aM (kU (aM (wpAny_setField c f (by simp) ?_)));refine aM ?_;refine aM (m:=firstArgMember _ _) (wpAny_of_eq rfl ?_);refine dE ?_ (by size_fits);refine aM (wpAny_handled ?_)
 first | rw[h] | rw[h]
 refine aM (aj (wpAny_throw ?_));exact n _ _ (((jO ..).extBut.push _).push _) ⟨_,a0 _ rfl,rfl⟩
end
noncomputable def SeqB(b:Bool)(h:bW)(a:aJ)(ky:Array aG):Prop:=if b=aC then h.IsList a ky else h.IsTuple a ky
noncomputable def IterB(b:Bool)(h:bW)(it a:aJ)(i:Nat):Prop:=if b=aC then h.IsListIter it a i else h.IsTupleIter it a i
noncomputable def S8(b:Bool)(K:aD)(H:Hp)(a:aJ)(xs:List V):Prop:=if b=aC then SqL K H a xs else SqT K H a xs
noncomputable def VC(b:Bool)(a:aJ):dF:={ cls:=.type (if b=aC then "list_iterator" else "tuple_iterator"),data:=.fields #[.ref a,.int 0 0] }
theorem SeqB.at{b:Bool}{h d:bW}{a:aJ}{c:Array aG}(x:SeqB b h a c)(k:∀o,h.get? a=aA o->d.get? a=aA o):SeqB b d a c:=by
 cases b with
 | true=>obtain⟨o,e,r⟩:=(x);exact⟨o,k o e,r⟩
 | false=>obtain⟨o,e,r⟩:=(x);exact⟨o,k o e,r⟩
theorem SeqB.has{b:Bool}{h:bW}{a:aJ}{c:Array aG}(x:SeqB b h a c):∃o,h.get? a=aA o:=by
 cases b with
 | true=>obtain⟨o,e,r⟩:=(x);exact⟨o,e⟩
 | false=>obtain⟨o,e,r⟩:=(x);exact⟨o,e⟩
theorem IterB.at{b:Bool}{h d:bW}{c a:aJ}{i:Nat}(x:IterB b h c a i)(k:∀o,h.get? c=aA o->d.get? c=aA o):IterB b d c a i:=by
 cases b with
 | true=>obtain⟨o,e,r⟩:=(x);exact⟨o,k o e,r⟩
 | false=>obtain⟨o,e,r⟩:=(x);exact⟨o,k o e,r⟩
theorem IterB.has{b:Bool}{h:bW}{c a:aJ}{i:Nat}(x:IterB b h c a i):∃o,h.get? c=aA o/\∀v,o.data≠.cell v:=by
 cases b with
 | true=>obtain⟨o,e,_,d⟩:=(x);exact⟨o,e,λv z=>by rw[d] at z;cases z⟩
 | false=>obtain⟨o,e,_,d⟩:=(x);exact⟨o,e,λv z=>by rw[d] at z;cases z⟩
theorem IterB.new{b:Bool}{h:bW}{c a:aJ}(e:h.get? c=aA (VC b a)):IterB b h c a 0:=by
 cases b with
 | true=>exact⟨_,e,rfl,rfl⟩
 | false=>exact⟨_,e,rfl,rfl⟩
section
variable {X:Cx} {kj:List (aJ×dF)} {σ:St} {H:Hp} {s:aO} {a:aJ} {xs ys:List V} {b:Bool}
theorem Inv.seqB(I:Inv X kj σ H s)(h:S8 b X.K H a xs):∃c:List aG,Vals xs c/\SeqB b s.heap a c.toArray/\xs.length<=sizeLine:=by
 cases b with
 | true=>
  obtain⟨c,r,p,z⟩:=I.list (h);exact⟨c,r,p.isList,z⟩
 | false=>
  obtain⟨c,r,p,z⟩:=I.tuple (h);exact⟨c,r,p,z⟩
theorem Inv.seqB_inj(I:Inv X kj σ H s)(h:S8 b X.K H a xs)(c:S8 b X.K H a ys):xs=ys:=by
 cases b with
 | true=>exact I.list_inj (h) (c)
 | false=>exact I.tuple_inj (h) (c)
end
theorem Draws.seq{prog:bN}{w:cC}{A:cA}(b:Bool)(q:A.handled=none)(f l:aJ)(g:l≠f)(a:Array aG) :
  Draws prog w A f [f,l] a.size (λi v=>a[i]?=aA v) (λi h=>IterB b h f l i/\SeqB b h l a) where
 live:=λ_ _ st=>let⟨o,r,_⟩:=st.1.has;⟨o,r⟩
 frame:=λ_ _ _ st m=>⟨st.1.at λo e=>m f (by simp) o e,st.2.at λo e=>m l (by simp) o e⟩
 item:=λi s Q E j st n=>by
  cases b with
  | true=>
   refine wpAny_nextOf_list_item (st.1) (st.2) (x:=a[i]) (by simp[j]) λk d c=>?_;exact n _ k s.toks (by simp[j]) ⟨d,st.2.at λo e=>c.extBut l o g e⟩ c
  | false=>
   refine Tc (st.1) (st.2) (x:=a[i]) (by simp[j]) λk d c=>?_;exact n _ k s.toks (by simp[j]) ⟨d,st.2.at λo e=>c.extBut l o g e⟩ c
 done:=λs Q E st p=>by
  cases b with
  | true=>exact wpAny_nextOf_list_end q (st.1) (st.2) (by simp) p
  | false=>exact T9 q (st.1) (st.2) (by simp) p
theorem Yc{prog:bN}{w:cC}{A:cA}{E:aG->aO->Prop}{s:aO}{b:Bool}{a:aJ}{d:Array aG}{Q:aG->aO->Prop}(h:SeqB b s.heap a d)
  (c:Q (.ref s.heap.objs.size) { s with heap:=s.heap.push (VC b a) }):bG (model prog w) A (pyIter (.ref a)) Q E s:=by
 cases b with
 | true=>exact wpAny_pyIter_list (h) c
 | false=>exact jV (h) c
set_option maxHeartbeats 4000000 in
theorem Qe(b:Bool)(l:aJ)(a:Array aG) :
  Meets (jM.«enumerate.__new__» ⟨[.type "enumerate",.ref l],[]⟩) (λ_ R s=>SeqB b s.heap l a/\
   R (.ok (.ret (.ref (s.heap.push (VC b l)).objs.size)))
    { s with heap:=(s.heap.push (VC b l)).push { cls:=.type "enumerate",data:=.fields #[.none,.bool aB,.ref s.heap.objs.size,ij 0,.none,.none] } }):=
 .of_wp λprog w A R s h=>by
  obtain⟨k,g,d,tk,os⟩:=s;obtain⟨i,h⟩:=h;have j:=sub_enumerate;obtain⟨o,e⟩:=i.has;have f:SeqB b (kg ⟨k,g,d,tk,os⟩) l a:=i
  wp_walk using gY e
  refine wpAny_stack_any λst=>aj ?_;split
  ·rename_i c _ _ _ _ _;cases (c==kP "enumerate")
   ·wp_walk using gY e,Yc f
    exact⟨_,rfl,h⟩
   ·wp_walk using gY e,Yc f
    exact⟨_,rfl,h⟩
  ·wp_walk using gY e,Yc f
   exact⟨_,rfl,h⟩
section
variable {prog:bN} {w:cC} {A:cA} {E:aG->aO->Prop} {s:aO}
theorem Pr{b:Bool}{l:aJ}{a:Array aG}{Q:aG->aO->Prop}(f:SeqB b s.heap l a)
  (h:∀h',IsEnum h' (s.heap.objs.size+1) s.heap.objs.size 0 .none->IterB b h' s.heap.objs.size l 0->h'.objs.size=s.heap.objs.size+2->
   (∀b o,s.heap.get? b=aA o->h'.get? b=aA o)->Q (.ref (s.heap.objs.size+1)) { s with heap:=h' }) :
  bG (model prog w) A (call (.type "enumerate") [.ref l]) Q E s:=by
 refine callType_new F.called_enumerate rfl (F.typeCall_enumerate_1 _) (F.newCall_enumerate_1 _) (λc=>F.args_object_init_2 c _) F.entry_enumerate_new
  (Qe b l a) ⟨f,?_⟩
 have d:(s.heap.push (VC b l)).objs.size=s.heap.objs.size+1:=bt ..;rw[d]
 have e:IsEnum ((s.heap.push (VC b l)).push
   { cls:=.type "enumerate",data:=.fields #[.none,.bool aB,.ref s.heap.objs.size,ij 0,.none,.none] }) (s.heap.objs.size+1) s.heap.objs.size 0 .none:=by
  have:=a0 (s.heap.push (VC b l))
   (o:={ cls:=.type "enumerate",data:=.fields #[.none,.bool aB,.ref s.heap.objs.size,ij 0,.none,.none] }) rfl
  rw[d] at this;exact this
 refine⟨⟨_,e,rfl⟩,h _ e (IterB.new (aF _ (a0 _ rfl))) (by simp) λb o x=>aF _ (aF _ x)⟩
end
noncomputable def Ite(b:Bool)(K:aD)(a:aJ):It:=
  ⟨λi H=>∃xs x,S8 b K H a xs/\xs[i]?=aA x,
   λi H v H'=>∃p x,H p=none/\v = .ref p/\H'=upd H p (.tup [.int i,x])/\∀xs,S8 b K H a xs->xs[i]?=aA x,
   λi H=>∃xs,S8 b K H a xs/\xs.length=i⟩
theorem JY{P:bN}{w:cC}{K:aD}{Y:List av}{k:Nat}{pos:eu}(b:Bool)(a e r:aJ)(J:e≠r) :
  OE P w K (.Tuple Y k pos) (Ite b K a) [e,r] e (λi h=>(∃C,IsEnum h e r i C)/\IterB b h r a i) where
 mem:=by simp
 obj:=λi h st c R=>by
  rcases a9.mp R with rfl | R
  ·obtain⟨⟨C,q⟩,_⟩:=st;exact⟨_,q,λv z=>by cases z⟩
  ·rw[ag.mp R];exact st.2.has
 keep:=λi h h' st kk=>⟨let⟨C,q⟩:=st.1;⟨C,kk e (by simp) _ q⟩,st.2.at λo q=>kk r (by simp) o q⟩
 item:=by
  intro X hP hw hK R i kj s σ H E I O st hg;subst hP hw hK;obtain⟨xs,x,hq,hx⟩:=hg;obtain⟨S,rv,p,hz⟩:=I.seqB hq;obtain⟨u,hu,ru⟩:=rv.get hx;obtain⟨⟨C,G⟩,l⟩:=st;have fe:=O e (by simp);have fi:=O r (by simp);obtain⟨oa,M⟩:=p.has
  -- the sequence is neither record
  have j:∀c,W5 X kj H c->(∃oc,s.heap.get? c=aA oc/\∃n vs,oc.cls = .type n/\oc.data = .fields vs)->a≠c:=λc _ ⟨oc,hoc,n,vs,hn,hv⟩ z=>by
   subst z;rw[M] at hoc;cases hoc
   cases b with
   | true=>obtain⟨o,F,_,m,d⟩:=(p);rw[M] at F;cases F;rw[hv] at d;cases d
   | false=>obtain⟨o,F,_,m,d⟩:=(p);rw[M] at F;cases F;rw[hv] at d;cases d
  have ae:=j e fe ⟨_,G,_,_,rfl,rfl⟩
  have ai:=j r fi (by
   cases b with
   | true=>obtain⟨o,F,c1,d1⟩:=(l);exact⟨o,F,_,_,c1,d1⟩
   | false=>obtain⟨o,F,c1,d1⟩:=(l);exact⟨o,F,_,_,c1,d1⟩)
  have D:=Draws.seq (prog:=X.prog) (w:=X.w) (A:=X.A.in1) b (I.ok.hd R) r a ai S.toArray;have hlt:i<S.toArray.size:=by have:=(aR.mp hu).1;simpa using this
  refine wpAny_pyNext_enum_itemD D G ⟨l,p⟩ hlt J (by simp[J,aw ae]) λy h' tk hPy ho hs' hT hsz hk=>?_
  have ey:y=u:=by
   have q1:=hPy;have q2:S.toArray[i]?=aA u:=by simpa using hu
   rw[q1] at q2;exact ay q2
  subst ey;refine⟨_,rfl,wpAny_letOwnedTupleGo_enum ho λZ he2 N=>?_⟩;have Tne:=fF (aS G);have B:=I.hok.fresh (aL _);have kk:∀c o,c∉[e,r]->s.heap.get? c=aA o->Z.get? c=aA o:=λc o g q=>N.extBut c o (λz=>g (by simp[z])) (hk c o (λz=>g (by simp[z])) (λz=>g (by simp[z])) q);have U:=N.extBut _ _ Tne hT;have hcs:∀c∈[e,r],(c∈X.ex\/X.s₀.heap.objs.size<=c)/\c≠X.env.locals/\(∀x d,X.env.cells.lookup x=aA d->d≠c)/\∀p∈X.pn++kj,p.1≠c:=λc g=>by have f:=O c g;exact⟨f.2.2.2.1,f.2.1,f.2.2.2.2.1,f.2.2.2.2.2⟩
  have nfp:∀c L,H c=aA L->c∉[e,r]:=λc L q g=>by rw[(O c g).1] at q;cases q
  have hok0:=λc L q=>(I.hok c L q).stay (λd v hd q'=>kk d v (by
    rcases hd with z | z
    ·rw[z];exact nfp c L q
    ·exact nfp d _ z) q') (λ_ z=>z) (λ_ _ z=>z) λ_ _ z=>z
  have new:ObjOk X.prog X.w (upd H s.heap.objs.size (.tup [.int i,x])) Z s.heap.objs.size (.tup [.int i,x]):=
   ⟨⟨by show 2<=sizeLine;decide,λo e=>by rw[U] at e;cases e;rfl⟩,[.int i tk,y],.cons ⟨tk,rfl⟩ (.cons ru .nil),⟨_,U,rfl,_,rfl⟩⟩
  have hok1:HOk X.prog X.w (upd H s.heap.objs.size (.tup [.int i,x])) Z:=λc L q=>by
   by_cases hb:c=s.heap.objs.size
   ·subst hb;rw[Zt] at q;cases q;exact new
   ·rw[upd_ne hb] at q;exact(hok0 c L q).stay (λd v _ q'=>q') (λd z=>by rw[upd_ne (Zu z B)];exact z) (λd zs z=>by rw[upd_ne (Zu z B)];exact z) λd u z=>by rw[upd_ne (Zu z B)];exact z
  have un:Un (M9 X.stack) [e,r] H (upd H s.heap.objs.size (.tup [.int i,x])) s.heap Z:=by
   refine⟨λc o q _ _ t=>kk c o t q,λc o q _ _ t=>⟨o.slots,kk c o t q⟩,λc o q n _=>?_,λc o q t=>⟨o,kk c o t q⟩,λc zs q=>?_,λc o zs q=>?_,λc ps q=>⟨#[],?_⟩⟩
   ·rw[upd_ne (bB (aS q))];exact n
   ·rw[upd_ne (Zu q B)];exact q
   ·rw[upd_ne (Zu q B)];exact q
   ·rw[upd_ne (Zu q B),q];simp
  have I2:Inv X kj σ (upd H s.heap.objs.size (.tup [.int i,x])) { s with heap:=Z,toks:=tk+1 }:=I.call un hok1 I.bare hcs;refine⟨.ref s.heap.objs.size,upd H s.heap.objs.size (.tup [.int i,x]),I2,rfl,⟨_,x,B,rfl,rfl,λzs hzs=>by rw[I.seqB_inj hzs hq];exact hx⟩,⟨⟨y,by simpa using he2⟩,?_⟩,λc g=>?_⟩
  ·exact hs'.1.at λo q=>N.extBut r o (aw J) q
  ·rw[upd_ne (bB (by
    rcases a9.mp g with rfl | g
    ·exact aS G
    ·rw[ag.mp g];obtain⟨o,q,_⟩:=l.has;exact aS q))]
   exact(O c g).1
 done:=by
  intro X hP hw hK R i kj s σ H E I O st hg;subst hP hw hK;obtain⟨xs,hq,hx⟩:=hg;obtain⟨S,rv,p,hz⟩:=I.seqB hq;obtain⟨⟨C,G⟩,l⟩:=st;have fi:=O r (by simp)
  have ai:a≠r:=λz=>by
   subst z
   cases b with
   | true=>
    obtain⟨o,F,_,m,d⟩:=(p);obtain⟨o',T,_,W⟩:=(l);rw[F] at T;cases T;rw[d] at W;cases W
   | false=>
    obtain⟨o,F,_,m,d⟩:=(p);obtain⟨o',T,_,W⟩:=(l);rw[F] at T;cases T;rw[d] at W;cases W
  have D:=Draws.seq (prog:=X.prog) (w:=X.w) (A:=X.A.in1) b (I.ok.hd R) r a ai S.toArray;have hl:=rv.length;have hi:i=S.toArray.size:=by simp;omega
  refine wpAny_pyNext_enum_endD D G (by rw[<-hi];exact⟨l,p⟩) λh' t=>⟨rfl,?_⟩;obtain⟨f0,f1,f2,f3,f4,f5⟩:=fi;exact I.turned (λc o hb q=>t c o hb q) f0 f1 f3 f4 f5
 self:=λA i s Q E st hQ=>by obtain⟨⟨C,G⟩,_⟩:=st;exact wpAny_pyIter_enum G hQ
end L2
namespace L2
open PySem PySem.Spec PyProof.Rows
section
variable {X:Cx}
noncomputable def AQ(b:Bool)(K:aD)(ta:TA):TI:=λσ H R=>ta σ H λvs H1=>∃a,vs=[.ref a]/\(∃xs,S8 b K H1 a xs)/\R (Ite b K a) H1
theorem Eh{f:List av}{k:Nat}{i:eu}(b:Bool){a:av}{m:TA}{p pos:eu}(E:Gl X "enumerate")(A:X.mg "enumerate" = none)(u:PA X [a] m)(w:aX [a] X.env=[(aB,eval a X.env)]:=by rfl) :
  PI X (.Tuple f k i) (.Call (.Name "enumerate" p) [a] [] pos) (AQ b X.K m):=by
 intro y s z H R I h;refine Call_ (UL I E A rfl (cX (YJ (u pos y s z H _ I h) λN s1 ⟨vs,C,d,D,v⟩=>?_) w rfl));obtain⟨a,e,⟨L,t⟩,q⟩:=v;subst e
 cases D with
 | cons r rr=>
  cases rr;cases r;obtain⟨F,J,g,G⟩:=d.seqB t;refine Pr g λM n j x o=>?_;refine wpAny_pyIter_enum n ?_;have B:=d.kept (t':=s1.toks) o;have ne:s1.heap.objs.size+1≠s1.heap.objs.size:=fF (gM _);refine⟨s1.heap.objs.size+1,[s1.heap.objs.size+1,s1.heap.objs.size],_,_,C,rfl,B,JY b a (s1.heap.objs.size+1) s1.heap.objs.size ne,⟨⟨.none,n⟩,j⟩,λc l=>?_,q⟩;rcases a9.mp l with rfl | l
  ·exact d.fpOk (jA _) (d.hok.fresh (jA _))
  ·rw[ag.mp l];exact d.fpOk (aL _) (d.hok.fresh (aL _))
end
section
variable {prog:bN} {w:cC} {A:cA} {E:aG->aO->Prop} {s:aO}
structure P6(z TI TO i1 i2:aJ)(fp1 fp2:List aJ):Prop where
 TIz:TI≠z
 TOz:TO≠z
 i1z:i1≠z
 i2z:i2≠z
 TITO:TI≠TO
 TIi1:TI≠i1
 TIi2:TI≠i2
 TOi1:TO≠i1
 TOi2:TO≠i2
 i12:i1≠i2
 z1:z∉fp1
 TO1:TO∉fp1
 i21:i2∉fp1
 z2:z∉fp2
 TO2:TO∉fp2
 i12':i1∉fp2
theorem Hu{z TI TO i1 Z:aJ}{fp1 fp2:List aJ}{n1 n2 k:Nat}{P1 P2:Nat->aG->Prop}{U T:Nat->bW->Prop}{a b:aG}{Q:aG->aO->Prop}(D:P6 z TI TO i1 Z fp1 fp2)
  (D1:Draws prog w A i1 fp1 n1 P1 U) (D2:Draws prog w A Z fp2 n2 P2 T)
  (hz:i7 s.heap z TI TO .none) (hTI:fD s.heap TI (.ref i1) (.ref Z)) (hTO:fD s.heap TO a b)
  (h1:U k s.heap) (h2:T k s.heap) (hx:k<n1) (hy:k<n2)
  (hQ:∀x y h' tk,P1 k x->P2 k y->i7 h' z TI TO (ij s.heap.objs.size)->fD h' TO x y->U (k+1) h'->T (k+1) h'->fD h' s.heap.objs.size x y->h'.objs.size=s.heap.objs.size+1->
   (∀c o,c≠z->c≠TO->c≠i1->c≠Z->s.heap.get? c=aA o->h'.get? c=aA o)->Q (.ref s.heap.objs.size) { s with heap:=h',toks:=tk }) :
  bG (model prog w) A (jM.«zip.__next__» ⟨[.ref z],[]⟩) (λfin s'=>∃v,fin = .done (.ret v)/\Q v s') E s:=by
 show bG _ _ (field (.ref z) 2 >>= _) _ _ _;refine aM (cN hz rfl rfl ?_);refine aM (cN hz rfl rfl ?_);refine aM (dR hTI rfl ?_);refine aM ?_;refine aM (cN hz rfl rfl (aj ?_));refine aM (kU ?_);refine aM (cN hz rfl rfl ?_);refine aM (dS hz (by simp) λh₁ r l=>?_)
 replace r:i7 h₁ z TI TO .ellipsis:=r
 refine aM ?_;refine aM (aM (hV ?_));have st1:=D1.frame _ _ _ h1 λc B o e=>l.extBut c o (λq=>D.z1 (q▸B)) e;refine aM (D1.item k _ _ _ hx st1 λx N tk₂ hPx W g=>aj ?_)
 replace g:cS i1 h₁ N:=g
 have F:=g.extBut _ _ D.TOi1 (l.extBut _ _ D.TOz hTO);refine aM (dR F rfl ?_);refine aM (gS F λI n f=>?_)
 replace n:fD I TO x b:=n
 replace f:cS TO N I:=f
 refine aM (kF (aj ?_));refine aM (aM (hV ?_));have st2:=D2.frame _ _ _ h2 λc B o e=>f.extBut c o (λq=>D.TO2 (q▸B)) (g.extBut c o (λq=>D.i12' (q▸B)) (l.extBut c o (λq=>D.z2 (q▸B)) e));refine aM (D2.item k _ _ _ hy st2 λy L X hPy O h=>aj ?_)
 replace h:cS Z I L:=h
 have C:=h.extBut _ _ D.TOi2 n;refine aM (dR C rfl ?_);refine aM (gS C λi j d=>?_)
 replace j:fD i TO x y:=j
 replace d:cS TO L i:=d
 refine aM (kF (aj (aj ?_)));refine aM (dR j rfl ?_);refine aM (wpAny_newTuple ?_);have hsz:i.objs.size=s.heap.objs.size:=by rw[d.1,h.1,f.1,g.1,l.1]
 have J:=d.extBut _ _ D.TOz.symm (h.extBut _ _ D.i2z.symm (f.extBut _ _ D.TOz.symm (g.extBut _ _ D.i1z.symm r)))
 have R:∀c o,c≠z->c≠TO->c≠i1->c≠Z->s.heap.get? c=aA o->i.get? c=aA o:=λc o c1 c2 c3 c4 e=>
  d.extBut _ _ c2 (h.extBut _ _ c4 (f.extBut _ _ c2 (g.extBut _ _ c3 (l.extBut _ _ c1 e))))
 have Y:=D1.frame _ _ _ W λc B o e=>d.extBut c o (λq=>D.TO1 (q▸B)) (h.extBut c o (λq=>D.i21 (q▸B)) (f.extBut c o (λq=>D.TO1 (q▸B)) e));have P:=D2.frame _ _ _ O λc B o e=>d.extBut c o (λq=>D.TO2 (q▸B)) e;have M:=aS J;refine aM ?_;have S:i7 (i.push { cls:=.type "tuple",data:=.seq #[x,y] }) z TI TO .ellipsis:=aF _ J;refine aM (dS S (by simp) λh₇ p u=>?_)
 replace p:i7 h₇ z TI TO (ij i.objs.size):=p
 refine dS p (by simp) λG m t=>?_
 replace m:i7 G z TI TO (ij i.objs.size):=m
 have up:∀c o,c≠z->i.get? c=aA o->G.get? c=aA o:=λc o c1 e=>t.extBut _ _ c1 (u.extBut _ _ c1 (aF _ e));have H:=t.extBut _ _ (fF M) (u.extBut _ _ (fF M) (a0 _ rfl));have hz8:G.objs.size=i.objs.size+1:=by rw[t.1,u.1,bt]
 rw[hsz] at m H hz8;refine aj ⟨_,rfl,?_⟩;rw[hsz];exact hQ x y G X hPx hPy m (up _ _ D.TOz j) (D1.frame _ _ _ Y λc B o e=>up c o (λq=>D.z1 (q▸B)) e) (D2.frame _ _ _ P λc B o e=>up c o (λq=>D.z2 (q▸B)) e) H hz8 λc o c1 c2 c3 c4 e=>up c o c1 (R c o c1 c2 c3 c4 e)
theorem Ei{z TI TO F H:aJ}{M G:List aJ}{Y n2 k:Nat}{P1 P2:Nat->aG->Prop}{O L:Nat->bW->Prop}{a b:aG}{Q:PySem.Fin->aO->Prop}(D:P6 z TI TO F H M G)
  (U:Draws prog w A F M Y P1 O) (D2:Draws prog w A H G n2 P2 L)
  (J:i7 s.heap z TI TO .none) (Z:fD s.heap TI (.ref F) (.ref H)) (S:fD s.heap TO a b)
  (h1:O k s.heap) (h2:L k s.heap) (N:k=Y\/(k<Y/\k=n2))
  (hE:∀h' tk e,(∀c o,c≠z->c≠TO->c≠F->c≠H->s.heap.get? c=aA o->h'.get? c=aA o)->(∃o,h'.get? e=aA o/\o.cls = .type "StopIteration")->E (.ref e) { s with heap:=h',toks:=tk }) :
  bG (model prog w) A (jM.«zip.__next__» ⟨[.ref z],[]⟩) Q E s:=by
 show bG _ _ (field (.ref z) 2 >>= _) _ _ _;refine aM (cN J rfl rfl ?_);refine aM (cN J rfl rfl ?_);refine aM (dR Z rfl ?_);refine aM ?_;refine aM (cN J rfl rfl (aj ?_));refine aM (kU ?_);refine aM (cN J rfl rfl ?_);refine aM (dS J (by simp) λh₁ i g=>?_)
 replace i:i7 h₁ z TI TO .ellipsis:=i
 replace g:cS z s.heap h₁:=g
 refine aM ?_;refine aM (aM (hV ?_));have B:=U.frame _ _ _ h1 λc P o e=>g.extBut c o (λq=>D.z1 (q▸P)) e;rcases N with T | ⟨hx,T⟩
 ·rw[T] at B;refine aM (U.done _ _ _ B λm e d he=>?_)
  replace d:kE F h₁ m:=d
  obtain⟨oe,n,r⟩:=he;have t:=d _ _ D.i1z.symm i;have C:e≠z:=λx=>by subst x;rw[t] at n;cases n;simp at r
  refine dS t (by simp) λl _ f=>?_
  replace f:cS z m l:=f
  exact hE l _ e (λc o c1 _ c3 _ x=>f.extBut _ _ c1 (d _ _ c3 (g.extBut _ _ c1 x))) ⟨oe,f.extBut _ _ C n,r⟩
 ·refine aM (U.item k _ _ _ hx B λx m X hPx W d=>aj ?_)
  replace d:cS F h₁ m:=d
  have p:=d.extBut _ _ D.TOi1 (g.extBut _ _ D.TOz S);refine aM (dR p rfl ?_);refine aM (gS p λl R f=>?_)
  replace f:cS TO m l:=f
  refine aM (kF (aj ?_));refine aM (aM (hV ?_));have I:=D2.frame _ _ _ h2 λc P o e=>f.extBut c o (λq=>D.TO2 (q▸P)) (d.extBut c o (λq=>D.i12' (q▸P)) (g.extBut c o (λq=>D.z2 (q▸P)) e));rw[T] at I;refine aM (D2.done _ _ _ I λv e h he=>?_)
  replace h:kE H l v:=h
  obtain⟨oe,n,r⟩:=he;have u:=h _ _ D.i2z.symm (f.extBut _ _ D.TOz.symm (d.extBut _ _ D.i1z.symm i));have C:e≠z:=λx=>by subst x;rw[u] at n;cases n;simp at r
  refine dS u (by simp) λy _ j=>?_
  replace j:cS z v y:=j
  exact hE y _ e (λc o c1 c2 c3 c4 x=>j.extBut _ _ c1 (h _ _ c4 (f.extBut _ _ c2 (d.extBut _ _ c3 (g.extBut _ _ c1 x))))) ⟨oe,j.extBut _ _ C n,r⟩
theorem Rr{z TI TO j i:aJ}{h g:List aJ}{q r k:Nat}{p t:Nat->aG->Prop}{f e:Nat->bW->Prop}{a b:aG}{Q:Option aG->aO->Prop}(D:P6 z TI TO j i h g)
  (C:Draws prog w A.in1 j h q p f) (L:Draws prog w A.in1 i g r t e)
  (n:i7 s.heap z TI TO .none) (m:fD s.heap TI (.ref j) (.ref i)) (l:fD s.heap TO a b)
  (H:f k s.heap) (P:e k s.heap) (G:k<q) (I:k<r)
  (M:∀x y d tk,p k x->t k y->i7 d z TI TO (ij s.heap.objs.size)->fD d TO x y->f (k+1) d->e (k+1) d->fD d s.heap.objs.size x y->d.objs.size=s.heap.objs.size+1->
   (∀c o,c≠z->c≠TO->c≠j->c≠i->s.heap.get? c=aA o->d.get? c=aA o)->Q (aA (.ref s.heap.objs.size)) { s with heap:=d,toks:=tk }) :
  bG (model prog w) A (kd (.ref z)) Q E s:=by
 have u:s.TypeIs (.ref z) "zip":=⟨_,n,rfl⟩
 exact aM (wpAny_attempt (dD u F.slot_zip_next
  (fG F.slot_zip_next u F.entry_zip_next
   (Hu D C L n m l H P G I λx y d tk B p2 O T v S R N J=>aj (M x y d tk B p2 O T v S R N J)) (F.args_zip_next_1 _))))
theorem Qf{z TI TO l j:aJ}{g d:List aJ}{n t k:Nat}{G M:Nat->aG->Prop}{i f:Nat->bW->Prop}{a b:aG}{Q:Option aG->aO->Prop}(D:P6 z TI TO l j g d)
  (y:Draws prog w A.in1 l g n G i) (C:Draws prog w A.in1 j d t M f)
  (r:i7 s.heap z TI TO .none) (p:fD s.heap TI (.ref l) (.ref j)) (m:fD s.heap TO a b)
  (B:i k s.heap) (I:f k s.heap) (h:k=n\/(k<n/\k=t))
  (H:∀q tk,(∀c o,c≠z->c≠TO->c≠l->c≠j->s.heap.get? c=aA o->q.get? c=aA o)->Q none { s with heap:=q,toks:=tk }):bG (model prog w) A (kd (.ref z)) Q E s:=by
 have u:s.TypeIs (.ref z) "zip":=⟨_,r,rfl⟩
 refine aM (wpAny_attempt (dD u F.slot_zip_next
  (fG F.slot_zip_next u F.entry_zip_next (Ei D y C r p m B I h λq tk e v L=>?_) (F.args_zip_next_1 _))))
 obtain⟨o,x,J⟩:=L;refine aM (wpAny_isInstance ⟨o,x,J⟩ isSubtype_stop ?_);exact aj (H _ tk v)
end
abbrev zq1(h:bW)(b1:Bool)(l1:aJ):bW:=h.push (VC b1 l1)
abbrev zq2(h:bW)(b1 b2:Bool)(l1 l2:aJ):bW:=(zq1 h b1 l1).push (VC b2 l2)
abbrev zq3(h:bW)(b1 b2:Bool)(l1 l2:aJ):bW:=(zq2 h b1 b2 l1 l2).push { cls:=.type "tuple",data:=.seq #[.ref h.objs.size,.ref (zq1 h b1 l1).objs.size] }
abbrev zq4(h:bW)(b1 b2:Bool)(l1 l2:aJ):bW:=(zq3 h b1 b2 l1 l2).push { cls:=.type "tuple",data:=.seq #[.none,.none] }
abbrev Bh(h:bW)(b1 b2:Bool)(l1 l2:aJ):bW:=(zq4 h b1 b2 l1 l2).push { cls:=.type "zip",data:=.fields #[.none,.bool aB,.bool aB,.ref (zq2 h b1 b2 l1 l2).objs.size,.ref (zq3 h b1 b2 l1 l2).objs.size] }
theorem Pu(f c:Bool)(b a:aJ)(p m:Array aG) :
  Meets (jM.«zip.__new__» ⟨[.type "zip",.ref b,.ref a],[]⟩) (λ_ R s=>SeqB f s.heap b p/\SeqB c s.heap a m/\
   R (.ok (.ret (.ref (zq4 s.heap f c b a).objs.size))) { s with heap:=Bh s.heap f c b a }):=
 .of_wp λprog w A R s h=>by
  obtain⟨q,g,d,tk,os⟩:=s;obtain⟨k,i,h⟩:=h;have n:=sub_zip;have l:=k;have j:SeqB c (kg ⟨q.push (VC f b),g,d,tk,os⟩) a m:=i.at λo e=>aF _ e
  wp_walk using Yc l,Yc j
  exact⟨_,rfl,h⟩
section
variable {prog:bN} {w:cC} {A:cA} {E:aG->aO->Prop} {s:aO}
theorem OL{b e:Bool}{a d:aJ}{t u:Array aG}{Q:aG->aO->Prop}(i:SeqB b s.heap a t)(g:SeqB e s.heap d u)
  (h:∀h',i7 h' (s.heap.objs.size+4) (s.heap.objs.size+2) (s.heap.objs.size+3) .none->fD h' (s.heap.objs.size+2) (.ref s.heap.objs.size) (.ref (s.heap.objs.size+1))->
   fD h' (s.heap.objs.size+3) .none .none->IterB b h' s.heap.objs.size a 0->IterB e h' (s.heap.objs.size+1) d 0->h'.objs.size=s.heap.objs.size+5->
   (∀c o,s.heap.get? c=aA o->h'.get? c=aA o)->Q (.ref (s.heap.objs.size+4)) { s with heap:=h' }) :
  bG (model prog w) A (call (.type "zip") [.ref a,.ref d]) Q E s:=by
 refine callType_new F.called_zip rfl (F.typeCall_zip_2 _ _) (F.newCall_zip_2 _ _) (λk=>F.args_object_init_3 k _ _) F.entry_zip_new
  (Pu b e a d t u) ⟨i,g,?_⟩
 have m:(zq1 s.heap b a).objs.size=s.heap.objs.size+1:=bt ..;have f:(zq2 s.heap b e a d).objs.size=s.heap.objs.size+2:=by rw[bt,m]
 have n:(zq3 s.heap b e a d).objs.size=s.heap.objs.size+3:=by rw[bt,f]
 have j:(zq4 s.heap b e a d).objs.size=s.heap.objs.size+4:=by rw[bt,n]
 have v:(Bh s.heap b e a d).objs.size=s.heap.objs.size+5:=by rw[bt,j]
 have l:(Bh s.heap b e a d).get? (zq4 s.heap b e a d).objs.size=aA _:=a0 _ rfl;have p:(Bh s.heap b e a d).get? (zq3 s.heap b e a d).objs.size=aA _:=aF _ (a0 _ rfl);have r:(Bh s.heap b e a d).get? (zq2 s.heap b e a d).objs.size=aA _:=aF _ (aF _ (a0 _ rfl));have q:(Bh s.heap b e a d).get? (zq1 s.heap b a).objs.size=aA (VC e d):=aF _ (aF _ (aF _ (a0 _ rfl)));have y:(Bh s.heap b e a d).get? s.heap.objs.size=aA (VC b a):=aF _ (aF _ (aF _ (aF _ (a0 _ rfl))));rw[f,n,j] at l;rw[m,f] at r;rw[n] at p;rw[m] at q;rw[j]
 exact⟨⟨_,l,rfl⟩,h _ l r p (IterB.new y) (IterB.new q) v λc o x=>
  aF _ (aF _ (aF _ (aF _ (aF _ x))))⟩
end
theorem Inv.newTup{X:Cx}{w:List (aJ×dF)}{D:St}{H:Hp}{s:aO}{t:List aJ}{k:bW}{tk n:Nat}{B:List aG}{h:List V}(I:Inv X w D H s)(F:∀b∈t,W5 X w H b)
  (kk:∀c o,c∉t->s.heap.get? c=aA o->k.get? c=aA o) (G:k.get? s.heap.objs.size=aA { cls:=.type "tuple",data:=.seq B.toArray n }) (M:Vals h B) (J:h.length<=sizeLine) :
  Inv X w D (upd H s.heap.objs.size (.tup h)) { s with heap:=k,toks:=tk }:=by
 have a:=I.hok.fresh (aL _);have A:∀c∈t,(c∈X.ex\/X.s₀.heap.objs.size<=c)/\c≠X.env.locals/\(∀x d,X.env.cells.lookup x=aA d->d≠c)/\∀p∈X.pn++w,p.1≠c:=λc i=>by have f:=F c i;exact⟨f.2.2.2.1,f.2.1,f.2.2.2.2.1,f.2.2.2.2.2⟩
 have m:∀c j,H c=aA j->c∉t:=λc j q i=>by rw[(F c i).1] at q;cases q
 have l:=λc j q=>(I.hok c j q).stay (λd v L y=>kk d v (by
   rcases L with z | z
   ·rw[z];exact m c j q
   ·exact m d _ z) y) (λ_ z=>z) (λ_ _ z=>z) λ_ _ z=>z
 have new:ObjOk X.prog X.w (upd H s.heap.objs.size (.tup h)) k s.heap.objs.size (.tup h):=
  ⟨⟨J,λo e=>by rw[G] at e;cases e;rfl⟩,B,M,⟨_,G,rfl,_,rfl⟩⟩
 have r:HOk X.prog X.w (upd H s.heap.objs.size (.tup h)) k:=λc j q=>by
  by_cases C:c=s.heap.objs.size
  ·subst C;rw[Zt] at q;cases q;exact new
  ·rw[upd_ne C] at q;exact(l c j q).stay (λd v _ y=>y) (λd z=>by rw[upd_ne (Zu z a)];exact z) (λd E z=>by rw[upd_ne (Zu z a)];exact z) λd u z=>by rw[upd_ne (Zu z a)];exact z
 have un:Un (M9 X.stack) t H (upd H s.heap.objs.size (.tup h)) s.heap k:=by
  refine⟨λc o q _ _ g=>kk c o g q,λc o q _ _ g=>⟨o.slots,kk c o g q⟩,λc o q n _=>?_,λc o q g=>⟨o,kk c o g q⟩,λc E q=>?_,λc o E q=>?_,λc N q=>⟨#[],?_⟩⟩
  ·rw[upd_ne (bB (aS q))];exact n
  ·rw[upd_ne (Zu q a)];exact q
  ·rw[upd_ne (Zu q a)];exact q
  ·rw[upd_ne (Zu q a),q];simp
 exact I.call un r I.bare A
theorem Inv.turnedL{X:Cx}{k:List (aJ×dF)}{r:St}{H:Hp}{s:aO}{j:List aJ}{m:bW}{tk:Nat}(I:Inv X k r H s)(t:∀b∈j,W5 X k H b)
  (kk:∀c o,c∉j->s.heap.get? c=aA o->m.get? c=aA o):Inv X k r H { s with heap:=m,toks:=tk }:=by
 have l:∀c∈j,(c∈X.ex\/X.s₀.heap.objs.size<=c)/\c≠X.env.locals/\(∀x d,X.env.cells.lookup x=aA d->d≠c)/\∀p∈X.pn++k,p.1≠c:=λc e=>by have f:=t c e;exact⟨f.2.2.2.1,f.2.1,f.2.2.2.2.1,f.2.2.2.2.2⟩
 have h:∀c i,H c=aA i->c∉j:=λc i q e=>by rw[(t c e).1] at q;cases q
 have g:=λc i q=>(I.hok c i q).stay (λd v u w=>kk d v (by
   rcases u with z | z
   ·rw[z];exact h c i q
   ·exact h d _ z) w) (λ_ z=>z) (λ_ _ z=>z) λ_ _ z=>z
 have un:Un (M9 X.stack) j H H s.heap m:=
  ⟨λc o q _ _ a=>kk c o a q,λc o q _ _ a=>⟨o.slots,kk c o a q⟩,λc o q n _=>n,λc o q a=>⟨o,kk c o a q⟩,λc y q=>q,λc o y q=>q,λc A q=>⟨#[],by rw[q];simp⟩⟩
 exact I.call un g I.bare l
theorem SeqB.ne_rec{b:Bool}{h:bW}{a c:aJ}{i:Array aG}{o:dF}{vs:Array aG}(p:SeqB b h a i)(e:h.get? c=aA o)(d:o.data = .fields vs):a≠c:=λz=>by
 subst z
 cases b with
 | true=>obtain⟨j,f,_,m,g⟩:=(p);rw[e] at f;cases f;rw[d] at g;cases g
 | false=>obtain⟨j,f,_,m,g⟩:=(p);rw[e] at f;cases f;rw[d] at g;cases g
theorem IterB.rec{b:Bool}{h:bW}{c a:aJ}{i:Nat}(x:IterB b h c a i):∃o,h.get? c=aA o/\∃vs,o.data = .fields vs:=by
 cases b with
 | true=>obtain⟨o,e,_,d⟩:=(x);exact⟨o,e,_,d⟩
 | false=>obtain⟨o,e,_,d⟩:=(x);exact⟨o,e,_,d⟩
structure Bi(a1 a2 TO TI:aJ):Prop where
 a:a1≠TO
 b:a2≠TO
 c:a1≠TI
 d:a2≠TI
noncomputable def Itz(b1 b2:Bool)(K:aD)(a1 a2:aJ):It:=
  ⟨λi H=>∃xs ys x y,S8 b1 K H a1 xs/\S8 b2 K H a2 ys/\xs[i]?=aA x/\ys[i]?=aA y,
   λi H v H'=>∃p x y,H p=none/\v = .ref p/\H'=upd H p (.tup [x,y])/\(∀xs,S8 b1 K H a1 xs->xs[i]?=aA x)/\∀ys,S8 b2 K H a2 ys->ys[i]?=aA y,
   λi H=>∃xs ys,S8 b1 K H a1 xs/\S8 b2 K H a2 ys/\(i=xs.length\/(i<xs.length/\i=ys.length))⟩
theorem Hv{P:bN}{w:cC}{K:aD}{elts:List av}{k:Nat}{pos:eu}(b1 b2:Bool)(a1 a2 z TI TO G F:aJ)(d:[z,TI,TO,G,F].Nodup) :
  OE P w K (.Tuple elts k pos) (Itz b1 b2 K a1 a2) [z,TI,TO,G,F] z
   (λi h=>i7 h z TI TO .none/\fD h TI (.ref G) (.ref F)/\(∃u v,fD h TO u v/\Bi a1 a2 TO TI)/\IterB b1 h G a1 i/\IterB b2 h F a2 i) where
 mem:=by simp
 obj:=λi h st c Y=>by
  obtain⟨t,b,⟨u,v,g,_⟩,U,O⟩:=st;simp only[a9,cy,or_false] at Y;rcases Y with rfl | rfl | rfl | rfl | rfl
  ·exact⟨_,t,λv q=>by cases q⟩
  ·exact⟨_,b,λv q=>by cases q⟩
  ·exact⟨_,g,λv q=>by cases q⟩
  ·exact U.has
  ·exact O.has
 keep:=λi h h' st kk=>by obtain⟨t,b,⟨u,v,g,f⟩,U,O⟩:=st;exact⟨kk z (by simp) _ t,kk TI (by simp) _ b,⟨u,v,kk TO (by simp) _ g,f⟩,U.at λo q=>kk G (by simp) o q,O.at λo q=>kk F (by simp) o q⟩
 item:=by
  intro X hP hw hK Y i kj s σ H E I hf st hg;subst hP hw hK;obtain⟨xs,ys,x,y,M,S,hx,hy⟩:=hg;obtain⟨n,rv1,R,hz1⟩:=I.seqB M;obtain⟨j,rv2,p2,hz2⟩:=I.seqB S;obtain⟨u,hu,ru⟩:=rv1.get hx;obtain⟨v,hv,rv⟩:=rv2.get hy;obtain⟨t,b,⟨q1,q2,g,f⟩,U,O⟩:=st;obtain⟨o1,e1,vs1,d1⟩:=U.rec;obtain⟨o2,e2,vs2,d2⟩:=O.rec;have A1z:=R.ne_rec t rfl;have Z:=p2.ne_rec t rfl;have A11:=R.ne_rec e1 d1;have A12:=R.ne_rec e2 d2;have A21:=p2.ne_rec e1 d1;have A22:=p2.ne_rec e2 d2;simp only[bK,a9,cy,not_or,dC,and_true,not_false_eq_true] at d;obtain⟨⟨l,r,B,C⟩,⟨N,W,T⟩,⟨L,J⟩,p⟩:=d;obtain⟨f1,f2,f3,f4⟩:=f;have D:P6 z TI TO G F [G,a1] [F,a2]:=⟨aw l,aw r,aw B,aw C,N,W,T,L,J,p,by simp[B,aw A1z],by simp[L,aw f1],by simp[aw p,aw A12],by simp[C,aw Z],by simp[J,aw f2],by simp[p,aw A21]⟩;have D1:=Draws.seq (prog:=X.prog) (w:=X.w) (A:=X.A.in1) b1 (I.ok.hd Y) G a1 A11 n.toArray;have D2:=Draws.seq (prog:=X.prog) (w:=X.w) (A:=X.A.in1) b2 (I.ok.hd Y) F a2 A22 j.toArray;have l1:i<n.toArray.size:=by simpa using(aR.mp hu).1
  have l2:i<j.toArray.size:=by simpa using(aR.mp hv).1
  refine Rr D D1 D2 t b g ⟨U,R⟩ ⟨O,p2⟩ l1 l2 λx' y' h' tk hPx hPy c1 c2 c3 c4 c5 c6 hk=>?_
  have ex':x'=u:=by
   have w1:=hPx;have w2:n.toArray[i]?=aA u:=by simpa using hu
   rw[w1] at w2;exact ay w2
  have ey':y'=v:=by
   have w1:=hPy;have w2:j.toArray[i]?=aA v:=by simpa using hv
   rw[w1] at w2;exact ay w2
  subst ex' ey';refine⟨_,rfl,wpAny_letOwnedTupleGo_zip c1 λh3 hz3 m=>?_⟩
  replace m:cS z h' h3:=m
  have kk:∀c o,c∉[z,TI,TO,G,F]->s.heap.get? c=aA o->h3.get? c=aA o:=λc o a q=>
   m.extBut c o (λe=>a (by simp[e])) (hk c o (λe=>a (by simp[e])) (λe=>a (by simp[e])) (λe=>a (by simp[e])) (λe=>a (by simp[e])) q)
  have hTn:=I.hok.fresh (aL _);have hT3:=m.extBut _ _ (fF (aS t)) c5;have I2:=I.newTup (tk:=tk) hf kk hT3 (.cons ru (.cons rv .nil)) (by show 2<=sizeLine;decide);refine⟨.ref s.heap.objs.size,_,I2,rfl,⟨_,x,y,hTn,rfl,rfl,λzs hzs=>by rw[I.seqB_inj hzs M];exact hx,λzs hzs=>by rw[I.seqB_inj hzs S];exact hy⟩,⟨hz3,m.extBut _ _ (aw l) (hk _ _ (aw l) N W T b),⟨_,_,m.extBut _ _ (aw r) c2,f1,f2,f3,f4⟩,c3.1.at λo q=>m.extBut _ o (aw B) q,c4.1.at λo q=>m.extBut _ o (aw C) q⟩,λc a=>?_⟩;rw[upd_ne (bB ?_)]
  ·exact(hf c a).1
  ·simp only[a9,cy,or_false] at a;rcases a with rfl | rfl | rfl | rfl | rfl
   ·exact aS t
   ·exact aS b
   ·exact aS g
   ·exact aS e1
   ·exact aS e2
 done:=by intro X hP hw hK Y i kj s σ H E I hf st hg;subst hP hw hK;obtain⟨xs,ys,M,S,hx⟩:=hg;obtain⟨n,rv1,R,hz1⟩:=I.seqB M;obtain⟨j,rv2,p2,hz2⟩:=I.seqB S;obtain⟨t,b,⟨q1,q2,g,f⟩,U,O⟩:=st;obtain⟨o1,e1,vs1,d1⟩:=U.rec;obtain⟨o2,e2,vs2,d2⟩:=O.rec;have A1z:=R.ne_rec t rfl;have Z:=p2.ne_rec t rfl;have A11:=R.ne_rec e1 d1;have A12:=R.ne_rec e2 d2;have A21:=p2.ne_rec e1 d1;have A22:=p2.ne_rec e2 d2;simp only[bK,a9,cy,not_or,dC,and_true,not_false_eq_true] at d;obtain⟨⟨l,r,B,C⟩,⟨N,W,T⟩,⟨L,J⟩,p⟩:=d;obtain⟨f1,f2,f3,f4⟩:=f;have D:P6 z TI TO G F [G,a1] [F,a2]:=⟨aw l,aw r,aw B,aw C,N,W,T,L,J,p,by simp[B,aw A1z],by simp[L,aw f1],by simp[aw p,aw A12],by simp[C,aw Z],by simp[J,aw f2],by simp[p,aw A21]⟩;have D1:=Draws.seq (prog:=X.prog) (w:=X.w) (A:=X.A.in1) b1 (I.ok.hd Y) G a1 A11 n.toArray;have D2:=Draws.seq (prog:=X.prog) (w:=X.w) (A:=X.A.in1) b2 (I.ok.hd Y) F a2 A22 j.toArray;have n1:=rv1.length;have n2:=rv2.length;refine Qf D D1 D2 t b g ⟨U,R⟩ ⟨O,p2⟩ (by simp only[aP];omega) λh' tk hk=>⟨rfl,?_⟩;exact I.turnedL hf λc o a q=>hk c o (λe=>a (by simp[e])) (λe=>a (by simp[e])) (λe=>a (by simp[e])) (λe=>a (by simp[e])) q
 self:=λA i s Q E st hQ=>wpAny_pyIter_zip st.1 hQ
section
variable {X:Cx}
noncomputable def Zbw(b1 b2:Bool)(K:aD)(ta:TA):TI:=λσ H R=>ta σ H λvs H1=>∃a1 a2,vs=[.ref a1,.ref a2]/\(∃xs,S8 b1 K H1 a1 xs)/\(∃ys,S8 b2 K H1 a2 ys)/\R (Itz b1 b2 K a1 a2) H1
theorem Bj{m:List av}{k:Nat}{o:eu}(C A:Bool){a b:av}{y:TA}{p pos:eu}(hg:Gl X "zip")(U:X.mg "zip" = none)(M:PA X [a,b] y)
  (O:aX [a,b] X.env=[(aB,eval a X.env),(aB,eval b X.env)]:=by rfl) (g:aX [b] X.env=[(aB,eval b X.env)]:=by rfl) :
  PI X (.Tuple m k o) (.Call (.Name "zip" p) [a,b] [] pos) (Zbw C A X.K y):=by
 intro Q s S H R I h;refine Call_ (UL I hg U boot_zip (cX (YJ (M pos Q s S H _ I h) λus s1 ⟨vs,Z,f,r1,N⟩=>?_) (by rw[O,g]) (by rw[g];rfl)));obtain⟨w,x,e,⟨xs,u⟩,⟨ys,v⟩,q⟩:=N;subst e
 cases r1 with
 | cons r rr=>
  cases rr with
  | cons r' rr=>
   cases rr;cases r;cases r';obtain⟨D,T,z,_⟩:=f.seqB u;obtain⟨B,P,p2,_⟩:=f.seqB v;refine OL z p2 λh' c1 c2 c3 c4 c5 c6 J=>?_;refine wpAny_pyIter_zip c1 ?_;have W:=f.kept (t':=s1.toks) J;have G:=let⟨_,e⟩:=z.has;aS e;have E:=let⟨_,e⟩:=p2.has;aS e;generalize L:s1.heap.objs.size=n at *;have ne:∀(a:aJ)(j:Nat),a<n->a≠n+j:=λa j h=>bB (aa h (dz _ _));have Y:([n+4,n+2,n+3,n,n+1]:List aJ).Nodup:=by have d:∀(i j:Nat),i≠j->(n+i:Nat)≠n+j:=λi j h e=>h (jP e);have t:∀(i:Nat),i≠0->(n+i:Nat)≠n:=λi h e=>h (jP (e.trans (Nat.add_zero n).symm));simp only[bK,a9,cy,not_or,dC,and_true,not_false_eq_true];exact⟨⟨d 4 2 (by decide),d 4 3 (by decide),t 4 (by decide),d 4 1 (by decide)⟩,⟨d 2 3 (by decide),t 2 (by decide),d 2 1 (by decide)⟩,⟨t 3 (by decide),d 3 1 (by decide)⟩,(t 1 (by decide)).symm⟩
   refine⟨n+4,[n+4,n+2,n+3,n,n+1],_,_,Z,rfl,W,Hv C A w x (n+4) (n+2) (n+3) n (n+1) Y,⟨c1,c2,⟨_,_,c3,ne w 3 G,ne x 3 E,ne w 2 G,ne x 2 E⟩,c4,c5⟩,λc F=>?_,q⟩
   have l:s1.heap.objs.size<=c:=by
    rw[L];simp only[a9,cy,or_false] at F;rcases F with rfl | rfl | rfl | rfl | rfl
    ·exact dz _ _
    ·exact dz _ _
    ·exact dz _ _
    ·exact aL _
    ·exact dz _ _
   exact f.fpOk l (f.hok.fresh l)
end
theorem Walks.seqB{prog:bN}{w:cC}{A:cA}(b:Bool)(e:A.handled=none)(I c:aJ)(d:c≠I)(a:Array aG) :
  Walks prog w A I [I,c] [I] a.size (λi v=>a[i]?=aA v) (λi h=>IterB b h I c i/\SeqB b h c a):=by
 cases b with
 | true=>exact Walks.list e I c d a
 | false=>exact Walks.tuple e I c d a
section
variable {X:Cx}
theorem Y9(G:X.calm=aC):Xx X (.builtin "sum") (λz H Q=>∃(b:Bool) (p:aJ) (a:List Int),z=[.ref p]/\S8 b X.K H p (a.map V.int)/\Q (.int a.sum) H):=by
 intro M s N H z P Q I r h;obtain⟨b,p,a,rfl,C,q⟩:=h;obtain⟨u,rfl,F⟩:=Ta r;cases F;obtain⟨m,n,d,L⟩:=I.seqB C;have B:=let⟨_,e⟩:=d.has;aS e;refine call_sum_walkG (Yc d ?_);refine⟨_,_,_,_,_,_,λi=>a.getD i 0,rfl,Walks.seqB (A:=X.A.in1) b (I.ok.hd G) s.heap.objs.size p (bB B) m.toArray,⟨IterB.new (a0 _ rfl),d.at λo e=>aF _ e⟩,λc g=>?_,λi v j=>?_,λO tk t' w=>?_⟩
 ·show c<(s.heap.push _).objs.size;rw[bt];rcases a9.mp g with rfl | g
  ·exact gM _
  ·rw[ag.mp g];exact jl B
 ·have j:=j;have j:m[i]?=aA v:=by simpa using j
  have l:=n.length;rw[aN] at l;have J:i<a.length:=by rw[l];exact(aR.mp j).1
  obtain⟨u,y,D⟩:=n.get (i:=i) (x:=.int a[i]) (by simp);rw[j] at y;cases y;obtain⟨t,rfl⟩:=D;refine⟨t,?_⟩;show jJ a[i] t=jJ (a.getD i 0) t;rw[aH,aI J];rfl
 ·have e:preSum (λi=>a.getD i 0) m.toArray.size=a.sum:=by
   have l:=n.length;rw[aN] at l;rw[aP,<-l]
   have gen:∀k,k<=a.length->preSum (λi=>a.getD i 0) k=(a.take k).sum:=by
    intro k
    induction k with
    | zero=>intro _;simp[preSum]
    | succ k ih=>
     intro w;rw[preSum,ih (by omega),List.take_add_one,aH,aI (by omega),kH];simp
   rw[gen _ (aL _),eA]
  rw[e];refine⟨.int a.sum,H,I.kept (λc o f=>w c o ?_ (aF _ f)),⟨_,rfl⟩,q⟩;intro E;rw[ag.mp E] at f;exact absurd (aS f) (bz _)
theorem Sa(E:X.calm=aC):Xx X (.builtin "all") (λn H Q=>∃(b:Bool) (p:aJ) (bs:List Bool),n=[.ref p]/\S8 b X.K H p (bs.map V.bl)/\Q (.bl (bs.all id)) H):=by
 intro N s O H n R Q I r h;obtain⟨b,p,bs,rfl,w,q⟩:=h;obtain⟨u,rfl,D⟩:=Ta r;cases D;obtain⟨j,m,a,L⟩:=I.seqB w;have F:=let⟨_,e⟩:=a.has;aS e;have k:=m.length;rw[aN] at k;refine call_all_walk (Yc a ?_);refine⟨_,_,_,_,_,_,λi=>bs.getD i aC,rfl,Walks.seqB (A:=X.A.in1) b (I.ok.hd E) s.heap.objs.size p (bB F) j.toArray,⟨IterB.new (a0 _ rfl),a.at λo e=>aF _ e⟩,λi v M G J g B=>?_,λP tk t=>?_⟩
 ·have g:=g;have g:j[i]?=aA v:=by simpa using g
  have d:i<bs.length:=by rw[k];exact(aR.mp g).1
  obtain⟨u,l,y⟩:=m.get (i:=i) (x:=.bl bs[i]) (by simp);rw[g] at l;cases l;cases y;refine c9 ?_;have e:bs.getD i aC=bs[i]:=by rw[aH,aI d];rfl
  rw[<-e];exact B
 ·have e:(aE j.toArray.size).all (λi=>bs.getD i aC)=bs.all id:=by
   rw[aP,<-k,i8,ar,ar];constructor
   ·intro h x z;obtain⟨i,d,rfl⟩:=dc.mp z;have:=h i (aQ.mpr d);rw[aH,aI d] at this;exact this
   ·intro h i d;have d:=aQ.mp d;rw[aH,aI d];exact h _ (cz d)
  rw[e];refine⟨.bl (bs.all id),H,I.kept (λc o f=>t c o ?_ (aF _ f)),rfl,q⟩;intro C;rw[ag.mp C] at f;exact absurd (aS f) (bz _)
theorem P7(E:X.calm=aC):Xx X (.builtin "any") (λn H Q=>∃(b:Bool) (p:aJ) (bs:List Bool),n=[.ref p]/\S8 b X.K H p (bs.map V.bl)/\Q (.bl (bs.any id)) H):=by
 intro N s O H n R Q I r h;obtain⟨b,p,bs,rfl,w,q⟩:=h;obtain⟨u,rfl,D⟩:=Ta r;cases D;obtain⟨j,m,a,L⟩:=I.seqB w;have F:p<s.heap.objs.size:=let⟨_,e⟩:=a.has;aS e;have k:=m.length;rw[aN] at k;refine call_any_walk (Yc a ?_);refine⟨_,_,_,_,_,_,λi=>bs.getD i aC,rfl,Walks.seqB (A:=X.A.in1) b (I.ok.hd E) s.heap.objs.size p (bB F) j.toArray,⟨IterB.new (a0 _ rfl),a.at λo e=>aF _ e⟩,λi v M G J g B=>?_,λP tk t=>?_⟩
 ·have g:j.toArray[i]?=aA v:=g;have g:j[i]?=aA v:=by simpa using g
  have d:i<bs.length:=by rw[k];exact(aR.mp g).1
  obtain⟨u,l,y⟩:=m.get (i:=i) (x:=.bl bs[i]) (by rw[aW,aI d];rfl);rw[g] at l;cases l;cases y;refine c9 ?_;have e:bs.getD i aC=bs[i]:=by rw[aH,aI d];rfl
  rw[<-e];exact B
 ·have e:(aE j.toArray.size).any (λi=>bs.getD i aC)=bs.any id:=by
   rw[aP,<-k,i8,eH,eH];constructor
   ·rintro⟨i,d,h⟩;have d:=aQ.mp d;rw[aH,aI d] at h;exact⟨_,cz d,h⟩
   ·rintro⟨x,z,h⟩;obtain⟨i,d,rfl⟩:=dc.mp z;refine⟨i,aQ.mpr d,?_⟩;rw[aH,aI d];exact h
  rw[e];refine⟨.bl (bs.any id),H,I.kept (λc o f=>t c o ?_ (aF _ f)),rfl,q⟩;intro C;rw[ag.mp C] at f;exact absurd (aS f) (bz _)
theorem XA:Xx X (.builtin "isinstance") (λa H Q=>∃x T t b,a=[x,.ty T]/\TyOf X.K H x t/\cG X.K t (.type T)=aA b/\Q (.bl b) H):=by intro g s i H a j Q I r h;obtain⟨x,T,t,b,rfl,f,c,q⟩:=h;obtain⟨u,v,rfl,d,e⟩:=DX r;cases e;exact JU I d f c λtk=>⟨.bl b,H,I.tok tk,rfl,q⟩
theorem N5{K:aD}:cG K (.type "int") (.type "int")=aA aC:=rfl
theorem OM{K:aD}:cG K (.type "int") (.type "bool")=aA aB:=rfl
theorem N6{K:aD}:cG K (.type "tuple") (.type "tuple")=aA aC:=rfl
theorem Pw{K:aD}:cG K (.type "list") (.type "list")=aA aC:=rfl
theorem N7{K:aD}:cG K (.type "str") (.type "str")=aA aC:=rfl
noncomputable def KQ:V->List V->Hp->VK->Prop:=λx vs H Q=>∃l xs k y,x = .ref l/\vs=[.int k,y]/\H l=aA (.lst xs)/\0<=k/\k<2^63/\xs.length<sizeLine/\Q .non (upd H l (.lst (xs.take k.toNat++y::xs.drop k.toNat)))
theorem P8:MtM X "list.insert" KQ:=by
 intro B s D H x vs v G Q I m i h;obtain⟨l,A,k,y,rfl,rfl,f,E,g,u,q⟩:=h;cases m;obtain⟨C,d,rfl,o,p⟩:=i.two;obtain⟨t,rfl⟩:=o;obtain⟨z,a,n,r,w,e⟩:=I.lstM f;have b:¬(!Builtin.List.listFitsIndex k)=aC:=by rw[fitsIndex_both (by omega) g];exact bO
 refine fR F.slot_list_insert ⟨_,e,rfl⟩ F.entry_list_insert (F.args_list_insert_3 _ _ _) (AutoListH.list_insert_list_int_val_1 l a.toArray n k t d b (by rw[aP];omega)) ⟨e,?_⟩;refine⟨.non,_,I.lset f e ?_ ((r.take k.toNat).append (.cons p (r.drop k.toNat))) ?_,rfl,q⟩
 ·show(have j:=if k<0 then(k+((a.toArray.size:Nat):Int)).toNat else min k.toNat a.toArray.size;(a.toArray.extract 0 j).push d++a.toArray.extract j)=_;rw[l4 (by omega)];by_cases c:k.toNat<=a.length
  ·rw[dH (by rw[aP];exact c)];simp;rw[ba (by simp)]
  ·rw[iK (by rw[aP];omega)];rw[ba (by omega),fu (by omega)];simp
 ·rw[bA,b9,bP,cL];omega
end
noncomputable def TK(H H':Hp):Prop:=∀b xs,H b=aA (.tup xs)->H' b=aA (.tup xs)
theorem Same.tk{H a:Hp}(s:Same H a):TK H a:=λb c h=>s b _ h
theorem Same.new{H:Hp}{p:aJ}(h:H p=none)(o:HO):Same H (upd H p o):=λb u q=>by rw[upd_ne (Zu q h)];exact q
structure Def(K:aD)(mg:ao->Option aG)(x:ao)(st:b7):Prop where
 ex:∃f fd,mg x=aA (.ref f)/\Fun K x x st f fd
theorem def_mk{K:aD}{h:bW}{g:ao->Option aG}{x:ao}{st:b7}{f:aJ}{j:aG}{m i:Option aJ}{e:Array (Option aG)}{kV d n b ct:aG}(X:K.In h)(G:h.Ns cE g)
  (a:gA K cE x=aA (aA (.ref f))) (l:K.lookup f=aA ⟨j,m,.func (cg x x (Xv st) (Yr st) (Zf st) .none kV d n i b ct),e⟩)
  (c:cY K b x=aC) (k:fZ K (.ref f)=aC):Def K g x st:=⟨f,_,PySem.W.mg_of X G a,Bg l c k⟩
structure Xe(P:bN)(w:cC)(K:aD)(mg:ao->Option aG)(base:bW)(x:ao)(ps:List ao)(sp:Sp)(k:Nat):Prop where
 ex:∃f fd,mg x=aA (.ref f)/\fZ K (.ref f)=aC/\Binds K fd ps []/\T6 P w K mg base La k f fd ps sp
section
variable {P:bN} {w:cC} {K:aD} {mg:ao->Option aG} {base:bW}
theorem Def.cal{x:ao}{st:b7}{N d:List ao}{k:Nat}{sp:Sp}(D:Def K mg x st)(S:Zl N d (Zf st))
  (g:∀(kV doc pm:aG)(an:Option aJ)(b ct:aG)(us:List aG),us.length=d.length->iI (cg x x (Xv st) (Yr st) (Zf st) .none kV doc pm an b ct) ⟨us,[]⟩=pure (d.zip us))
  (len:∀vs H Q E,sp vs H Q E->vs.length=d.length)
  (c:∀(f:aJ)(b:aG)(A:cA)(a:List jt)(s:aO)(H:Hp)(vs:List V)(Q:VK)(E:XK),Room k (A.deeper (gL x (Zf st) s.heap.objs.size f b))->sp vs H Q E->
   ∃t,PSs (R9 La P w K mg base N x (Zf st) f b A a s H E).nox (Yr st) t/\t { nx:=λ_ e=>Q .non e,rt:=Q } (start N vs) H):Xe P w K mg base x d sp (k+1):=by
 obtain⟨f,l,i,F⟩:=D.ex;exact⟨f,l,i,F.kp,F.binds g,F.ok S len λb A a s H vs Q E j h=>c f b A a s H vs Q E j h⟩
end
section
variable {X:Cx} {x:ao} {ps:List ao} {sp:Sp} {k:Nat} {e:av} {es:List av} {t:TA} {p pos:eu}
theorem Lq(C:Xe X.prog X.w X.K X.mg X.base x ps sp k)(i:Room k X.A)(m:Gl X x)(l:PA X (e::es) t)
  (g:(x==("__debug__" : ao))=aB:=by decide) (j:aX (e::es) X.env=(aB,eval e X.env)::aX es X.env:=by rfl) (h:(fA pos (aX es X.env)).any (·.1)=aB:=by rfl) :
  PE X (.Call (.Name x p) (e::es) [] pos) (Hn sp [] E0 t):=by
 obtain⟨f,n,a,b,c,d⟩:=C.ex;exact F5 d i m a b c .nil AK l g j h
end
noncomputable def VU(N:List ao)(around scope:dM)(own fr:List ao)(ix:List Nat):Bool:=
 (match scope.kind with | .function=>aC | _=>aB)&&scope.names.all (λy=>y.2 != .cell)&&scope.names.all (λy=>y.2 != .local || scope.names.lookup y.1==aA .local)&&
 scope.names.all (λy=>y.2 != .free || (around.names.lookup y.1==aA .cell || around.names.lookup y.1==aA .free))&&(fr.map aA==ix.map (λi=>N[i]?))&&
 fr.all (λx=>scope.names.contains (x,bM))&&fr.all (λx=>scope.names.lookup x != aA .local)
theorem P9{N:List ao}{a b:dM}{own fr:List ao}{ix:List Nat}(h:VU N a b own fr ix=aC):CompScope N a b own fr ix:=by
 unfold VU at h;simp only[bT] at h;obtain⟨⟨⟨⟨⟨⟨f,m⟩,k⟩,i⟩,j⟩,l⟩,g⟩:=h;refine⟨?_,λy c=>?_,λy c e=>?_,λy c e=>?_,by simpa using j,λx d=>?_,λx d=>?_⟩
 ·split at f
  ·assumption
  ·cases f
 ·simpa using ar.mp m y c
 ·have:=ar.mp k y c;rw[e] at this;simpa using this
 ·have:=ar.mp i y c;rw[e] at this;simpa using this
 ·simpa using ar.mp l x d
 ·simpa using ar.mp g x d
section
variable {X:Cx} {tg ku iter:av} {kr:List av} {scope:dM} {pos:eu} {wi:TI} {g:TG} {tt:TT} {te:TE}
theorem N8(own fr:List ao)(ix:List Nat)(a:X.calm=aC)(d:PI X tg iter wi)(S:VU X.N X.env.scope scope own fr ix=aC)
  (f:∀cl C s H ex,PG (ZG X (own++fr) scope cl C s H ex) tg g) (e:∀cl C s H ex,Lp (ZG X (own++fr) scope cl C s H ex) kr tt) (c:∀cl C s H ex,PE (ZG X (own++fr) scope cl C s H ex) ku te)
  (b:∀x,bY iter X.env x=pure x:=by intro _;rfl):PE X (.ListComp ku [⟨tg,iter,kr,0⟩] scope pos) (Qc own.length ix wi g tt te):=
 Ef a d (P9 S) f e c b
theorem Hw(own fr:List ao)(ix:List Nat){i:Nat}{y:ao}{e a:eu}(j:X.N.Nodup)(f:X.N[i]?=aA y)(c:X.env.scope.names.lookup y=aA .local)(b:X.calm=aC)(l:PI X tg iter wi)(S:VU X.N X.env.scope scope own fr ix=aC)
  (n:∀cl C s H ex,PG (ZG X (own++fr) scope cl C s H ex) tg g) (m:∀cl C s H ex,Lp (ZG X (own++fr) scope cl C s H ex) kr tt) (k:∀cl C s H ex,PE (ZG X (own++fr) scope cl C s H ex) ku te)
  (d:g9 (.ListComp ku [⟨tg,iter,kr,0⟩] scope pos) (aA (.Name y e)) a.line X.env=pure aC:=by rfl)
  (h:∀x,bY iter X.env x=pure x:=by intro _;rfl):PS X (.Assign [.Name y e] (.ListComp ku [⟨tg,iter,kr,0⟩] scope pos) a) (Lf (Qc own.length ix wi g tt te) (U9 i)):=
 Eg j f c b l (P9 S) n m k d h
end
structure X4(mg:ao->Option aG):Prop where
 «len» : mg "len" = none
 «sum» : mg "sum" = none
 «range» : mg "range" = none
 «enumerate» : mg "enumerate" = none
 «zip» : mg "zip" = none
 «tuple» : mg "tuple" = none
 «list» : mg "list" = none
 «all» : mg "all" = none
 «any» : mg "any" = none
 «isinstance» : mg "isinstance" = none
 «int» : mg "int" = none
 «bool» : mg "bool" = none
 «str» : mg "str" = none
 «min» : mg "min" = none
 «max» : mg "max" = none
 «sorted» : mg "sorted" = none
 «abs» : mg "abs" = none
 «ValueError» : mg "ValueError" = none
 «reversed» : mg "reversed" = none
 «set» : mg "set" = none
abbrev Zbx(g:TG)(tb:TS)(D:Y0)(σ:St)(J:It)(H:Hp):Prop:=
 ∃W:Nat->Nat->St->Hp->Prop,(∃m,W 0 m σ H)/\∀i m σ H,W i m σ H->
   (J.stop i H/\D.nx σ H)\/(J.go i H/\∃N:St->Hp->Prop,(∀σ' H',N σ' H'->∃m',m'<m/\W (i+1) m' σ' H')/\∀x H',J.yld i H x H'->g x σ H' λσ2 H2=>tb { D with nx:=N,ct:=N,bk:=D.nx } σ2 H2)
noncomputable def Zp(l:List Int)(i:Nat):Int:=l.getD i 0
theorem Sd(l:List Int):(aE l.length).map (Zp l)=l:=by
 apply cj;intro i;rw[aW];by_cases h:i<l.length
 ·rw[aI (by simpa using h)];simp[Zp,aI h]
 ·rw[bV (by simpa using h),bV (by omega)];rfl
theorem Yp{f:Nat->Int}{n i:Nat}(h:i<n):Zp ((aE n).map f) i=f i:=by unfold Zp;rw[aH,aW,bJ h];rfl
noncomputable def ZL(w:List (List Int))(i:Nat):List Int:=w.getD i []
theorem N9{w:List (List Int)}{i:Nat}(h:i<w.length):w[i]?=aA (ZL w i):=by unfold ZL;rw[aH,aI h];rfl
noncomputable def ent(w:List (List Int))(i j:Nat):Int:=Zp (ZL w i) j
structure ZP(w:List (List Int)):Prop where
 pos:1<=w.length
 few:w.length<=7
 sq:∀i,i<w.length->(ZL w i).length=w.length
 lo:∀i j,i<w.length->j<w.length->0<=ent w i j
 hi:∀i j,i<w.length->j<w.length->ent w i j<=9
 sym:∀i j,i<w.length->j<w.length->ent w i j=ent w j i
 dia:∀i,i<w.length->ent w i i=0
noncomputable def Bk(K:aD):List V->Hp->VK->Prop:=λxs H Q=>∃p ys,xs=[.ref p]/\((SqL K H p ys/\∀l,H l=none->Q (.ref l) (upd H l (.tup ys)))\/(SqT K H p ys/\Q (.ref p) H))
noncomputable def Ej(K:aD):List V->Hp->VK->Prop:=λxs H Q=>∃p ys,xs=[.ref p]/\(SqL K H p ys\/SqT K H p ys)/\∀l,H l=none->Q (.ref l) (upd H l (.lst ys))
theorem Same.off{H a:Hp}{p:aJ}(s:Same H a)(n:a p=none):H p=none:=s.free n
abbrev Tie:=Nat×Nat×Int
noncomputable def Se(M:List (List Int))(a b:Nat)(t:Int):List (List Int):=M.set a ((ZL M a).set b t)
structure MatOk(n:Nat)(M:List (List Int)):Prop where
 len:M.length=n
 row:∀i,i<n->(ZL M i).length=n
 lo:∀i j,i<n->j<n->0<=ent M i j
 hi:∀i j,i<n->j<n->ent M i j<=9
 sym:∀i j,i<n->j<n->ent M i j=ent M j i
 dia:∀i,i<n->ent M i i=0
theorem Oa{M:List (List Int)}{a i:Nat}{r:List Int}(b:a<M.length):ZL (M.set a r) i=if a=i then r else ZL M i:=by
 unfold ZL;by_cases h:a=i
 ·subst h;simp[b]
 ·simp[h]
theorem nth_set{l:List Int}{b j:Nat}{t:Int}(a:b<l.length):Zp (l.set b t) j=if b=j then t else Zp l j:=by
 unfold Zp;by_cases h:b=j
 ·subst h;simp[a]
 ·simp[h]
theorem Ma{n:Nat}{M:List (List Int)}{a b i j:Nat}{t:Int}(f:M.length=n)(c:∀i,i<n->(ZL M i).length=n)(e:a<n)(d:b<n):ent (Se M a b t) i j=if a=i/\b=j then t else ent M i j:=by
 show Zp (ZL (M.set a ((ZL M a).set b t)) i) j=_;rw[Oa (by omega)];by_cases h:a=i
 ·subst h;rw[kz rfl,nth_set (by rw[c a e];exact d)];by_cases q:b=j
  ·rw[kz q,kz ⟨rfl,q⟩]
  ·rw[l4 q,l4 (λz=>q z.2)];rfl
 ·rw[l4 h,l4 (λz=>h z.1)];rfl
theorem W8{n:Nat}{M:List (List Int)}{a b:Nat}{t:Int}(d:M.length=n)(c:∀i,i<n->(ZL M i).length=n)(e:a<n):(Se M a b t).length=n/\∀i,i<n->(ZL (Se M a b t) i).length=n:=by
 refine⟨by unfold Se;rw[cK];exact d,λi f=>?_⟩;show(ZL (M.set a ((ZL M a).set b t)) i).length=n;rw[Oa (by omega)];split
 ·rw[cK];exact c a e
 ·exact c i f
theorem MatOk.zero(n:Nat):MatOk n (aV n (aV n 0)):=by
 have r:∀i,i<n->ZL (aV n (aV n (0:Int))) i=aV n 0:=λi a=>by unfold ZL;rw[aH,b0,kz a];rfl
 have z:∀i j,i<n->j<n->ent (aV n (aV n (0:Int))) i j=0:=λi j a b=>by show Zp (ZL _ i) j=0;rw[r i a];unfold Zp;rw[aH,b0,kz b];rfl
 exact⟨by simp,λi a=>by rw[r i a];simp,λi j a b=>by rw[z i j a b];omega,λi j a b=>by rw[z i j a b];omega,λi j a b=>by rw[z i j a b,z j i b a],λi a=>z i i a a⟩
theorem MatOk.web{n:Nat}{M:List (List Int)}(h:MatOk n M)(b:1<=n)(a:n<=7):ZP M:=by have e:=h.len;subst e;exact⟨b,a,h.row,h.lo,h.hi,h.sym,h.dia⟩
theorem Z6(f:Nat->Int)(n:Nat):((aE (n+1)).map f).sum=((aE n).map f).sum+f n:=by rw[fP];simp
theorem Yk{f g:Nat->Int}{n:Nat}(h:∀i,i<n->f i=g i):((aE n).map f).sum=((aE n).map g).sum:=by congr 1;apply ak;intro i a;exact h i (aQ.mp a)
theorem KR(f g:Nat->Int)(n:Nat):((aE n).map λi=>f i+g i).sum=((aE n).map f).sum+((aE n).map g).sum:=by
 induction n with
 | zero=>simp
 | succ n ih=>rw[Z6,Z6,Z6,ih];omega
theorem KS(f g:Nat->Int)(n:Nat):((aE n).map λi=>f i-g i).sum=((aE n).map f).sum-((aE n).map g).sum:=by
 induction n with
 | zero=>simp
 | succ n ih=>rw[Z6,Z6,Z6,ih];omega
theorem JZ(c:Int)(n:Nat):((aE n).map λ_=>c).sum=n*c:=by
 induction n with
 | zero=>simp
 | succ n ih=>rw[Z6,ih];rw[show((n+1:Nat):Int)=(n:Int)+1 by omega,jB];omega
theorem ON(l:List Int):((aE l.length).map (Zp l)).sum=l.sum:=by rw[Sd]
theorem Hx(e:Nat->Nat->Int)(n:Nat)(d:∀i j,i<n->j<n->e i j=e j i)(c:∀i,i<n->e i i=0) :
  ((aE n).map λi=>((aE n).map λj=>e i j).sum).sum=2*((aE n).map λa=>((aE (n-(a+1))).map λj=>e a (a+1+j)).sum).sum:=by
 induction n with
 | zero=>simp
 | succ n f=>
  have f:=f (λi j b l=>d i j (by omega) (by omega)) λi b=>c i (by omega);rw[Z6,Z6,Z6];have h:((aE n).map λi=>((aE (n+1)).map λj=>e i j).sum).sum=((aE n).map λi=>((aE n).map λj=>e i j).sum).sum+((aE n).map λi=>e i n).sum:=by rw[<-KR];apply Yk;intro i _;rw[Z6]
  have k:((aE n).map λa=>((aE (n+1-(a+1))).map λj=>e a (a+1+j)).sum).sum=((aE n).map λa=>((aE (n-(a+1))).map λj=>e a (a+1+j)).sum).sum+((aE n).map λi=>e i n).sum:=by rw[<-KR];apply Yk;intro i b;rw[show n+1-(i+1)=(n-(i+1))+1 by omega,Z6,show i+1+(n-(i+1))=n by omega]
  have g:((aE n).map λj=>e n j).sum=((aE n).map λi=>e i n).sum:=by apply Yk;intro i b;exact d n i (by omega) (by omega)
  rw[h,k,g,c n (by omega)];simp;omega
structure NamesOk(i:Nat)(l:List Int):Prop where
 len:l.length=i
 nd:l.Nodup
 lo:∀x∈l,0<=x
 hi:∀x∈l,x<i
theorem NamesOk.nil:NamesOk 0 []:=⟨rfl,dC,λ_ h=>by simp at h,λ_ h=>by simp at h⟩
theorem NamesOk.ins{i:Nat}{l:List Int}(h:NamesOk i l)(k:Nat):NamesOk (i+1) (l.take k++(i:Int)::l.drop k):=by
 have b:(l.take k++(i:Int)::l.drop k).Perm ((i:Int)::l):=by have:=List.perm_middle (a:=(i:Int)) (l₁:=l.take k) (l₂:=l.drop k);rw[List.take_append_drop] at this;exact this
 refine⟨by rw[b.length_eq,b9,h.len],?_,λx c=>?_,λx c=>?_⟩
 ·rw[b.nodup_iff,bK];exact⟨λd=>by have:=h.hi _ d;omega,h.nd⟩
 ·rcases a9.mp (b.mem_iff.mp c) with e | e
  ·omega
  ·exact h.lo x e
 ·rcases a9.mp (b.mem_iff.mp c) with e | e
  ·omega
  ·have:=h.hi x e;omega
theorem NamesOk.at{i:Nat}{l:List Int}(h:NamesOk i l){x:Nat}(a:x<i):0<=Zp l x/\Zp l x<i:=by
 have e:Zp l x=l[x]'(by rw[h.len];exact a):=by unfold Zp;rw[aH,aI (by rw[h.len];exact a)];rfl
 rw[e];exact⟨h.lo _ (cz _),h.hi _ (cz _)⟩
theorem NamesOk.ne{i:Nat}{l:List Int}(h:NamesOk i l){x y:Nat}(a:x<i)(b:y<i)(n:x≠y):Zp l x≠Zp l y:=by
 have d:Zp l x=l[x]'(by rw[h.len];exact a):=by unfold Zp;rw[aH,aI (by rw[h.len];exact a)];rfl
 have c:Zp l y=l[y]'(by rw[h.len];exact b):=by unfold Zp;rw[aH,aI (by rw[h.len];exact b)];rfl
 rw[d,c];intro e;exact n ((ju h.nd).mp e)
theorem lt_size{n:Nat}(h:n<=10000):n<sizeLine:=aq h (by decide)
end L2
namespace VL
open PySem PySem.Spec PyProof.Rows L2
variable {K:aD}
noncomputable def NsO(od:dF)(f:ao)(u:aG):Prop:=∀(hp:bW)(dx:aJ),hp.get? dx=aA od->hp.Ns1 dx (λn=>if n=f then aA u else none)
noncomputable def OO(n:ao):ao:=if n = "NoWeb" then "place" else if n = "Apart" then "houses" else if n = "TooMany" then "most" else "total"
structure Lam where
 qual:ao
 params:Arguments
 body:av
 scope:dM
 free:ao
inductive PV where
 | non | bl (b:Bool) | int (i:Int) | str (x:ao) | ty (n:String) | exc (n:ao) | exf (n:ao) (l:PV) | clo (L:Lam) (l:PV)
 | tup (l:List PV) | lst (l:List PV) | cst (l:List PV)
 | dK (ks:List Pn) (vs:List PV) | dT (ks:List (List Pn)) (vs:List PV)
instance:Inhabited PV:=⟨.non⟩
mutual
/-- nothing in it can be changed -/
def Z9:PV->Bool
 | .tup l=>ZJ l
 | .cst l=>ZJ l
 | .lst _=>aB
 | .dK _ _=>aB
 | .dT _ _=>aB
 | .non=>aC
 | .bl _=>aC
 | .int _=>aC
 | .str _=>aC
 | .ty _=>aC
 | .exc _=>aC
 | .exf _ _=>aC
 | .clo _ l=>Z9 l
def ZJ:List PV->Bool
 | []=>aC
 | x::r=>Z9 x&&ZJ r
end
theorem Xp:∀l:List PV,ZJ l=l.all Z9
 | []=>rfl
 | x::r=>by rw[hW,<-Xp r];rfl
noncomputable def KL(K:aD)(a:aJ)(xs:List V):Prop:=
 ∃(o:dF) (ky:Array aG) (n:Nat),K.lookup a=aA o/\o.cls = .type "list"/\o.dict=none/\o.data = .seq ky n/\ky.size<=sizeLine/\Vals xs ky.toList
noncomputable def CsK(K:aD)(H:Hp)(p:aJ)(xs:List V):Prop:=(∃o,H p=aA (.frz o (.lst xs)))\/KL K p xs
theorem CsK.sq{K:aD}{H:Hp}{p:aJ}{a:List V}(h:CsK K H p a):SqL K H p a:=by
 rcases h with h | h
 ·exact .inl (.inr h)
 ·exact .inr h
noncomputable def CloAt(H:Hp)(L:Lam)(v:V)(u:aG):Prop:=∃f fo c oc e eo pm ct,v = .ref f/\H f=aA (.frz fo (.own 0))/\fo.data = .func (PySem.W.kla_fn "<lambda>" L.qual L.params L.body L.scope [(L.free,e)] pm (.ref c) ct)/\H c=aA (.frz oc (.own 0))/\Hf oc L.qual/\H e=aA (.frz eo (.own 1))/\eo.data = .cell (aA u)
mutual
/-- v is the tree l in the heap H;fp: the addresses of ky lists and dicts -/
def Is(K:aD)(H:Hp):PV->V->List aJ->Prop
 | .non,v,fp=>v = .non/\fp=[]
 | .bl b,v,fp=>v = .bl b/\fp=[]
 | .int i,v,fp=>v = .int i/\fp=[]
 | .str x,v,fp=>v = .str x/\fp=[]
 | .ty n,v,fp=>v = .ty n/\fp=[]
 | .exc n,v,fp=>(∃e o x C,v = .ref e/\H e=aA (.frz o (.own x))/\o.cls = .ref C/\gA K cE n=aA (aA (.ref C))/\o.dict=none/\∃vs,o.data = .fields vs)/\fp=[]
 | .exf n l,v,fp=>(∃e o x C dx od u z,v = .ref e/\H e=aA (.frz o (.own x))/\o.cls = .ref C/\gA K cE n=aA (aA (.ref C))/\o.dict=aA dx/\(∃vs,o.data = .fields vs)/\H dx=aA (.frz od (.own dx))/\NsO od (OO n) u/\RelV z u/\Is K H l z [])/\fp=[]
 | .clo L l,v,fp=>∃u x,CloAt H L v u/\RelV x u/\Is K H l x fp
 | .tup l,v,fp=>∃p xs,v = .ref p/\H p=aA (.tup xs)/\Iss K H l xs fp
 | .lst l,v,fp=>∃p xs fq,v = .ref p/\H p=aA (.lst xs)/\Iss K H l xs fq/\fp=p::fq
 | .cst l,v,fp=>∃p xs,v = .ref p/\CsK K H p xs/\Iss K H l xs fp
 | .dK ks l,v,fp=>∃p ko fq,v = .ref p/\Rd H p (.dK ko)/\ko.map (·.1)=ks/\Iss K H l (ko.map (·.2)) fq/\fp=p::fq
 | .dT ks l,v,fp=>∃p ko fq,v = .ref p/\Rd H p (.dT ko)/\ko.map (·.1)=ks/\Iss K H l (ko.map (·.2)) fq/\fp=p::fq
def Iss(K:aD)(H:Hp):List PV->List V->List aJ->Prop
 | [],xs,fp=>xs=[]/\fp=[]
 | l::ls,xs,fp=>∃x r f1 f2,xs=x::r/\Is K H l x f1/\Iss K H ls r f2/\fp=f1++f2
end
noncomputable def RdK(H H':Hp)(p:aJ):Prop:=(∀xs,H p=aA (.lst xs)->H' p=aA (.lst xs))/\(∀ko,Rd H p (.dK ko)->Rd H' p (.dK ko))/\∀ko,Rd H p (.dT ko)->Rd H' p (.dT ko)
theorem RdK.of{H a:Hp}{p:aJ}(h:∀o,H p=aA o->a p=aA o):RdK H a p:=by
 have r:∀u,Rd H p u->Rd a p u:=λu q=>by
  rcases q with q | ⟨o,q⟩
  ·exact .inl (h _ q)
  ·exact .inr ⟨o,h _ q⟩
 exact⟨λ_=>h _,λ_=>r _,λ_=>r _⟩
structure Ek(H H':Hp):Prop where
 tup:TK H H'
 frz:∀b o xs,H b=aA (.frz o (.lst xs))->H' b=aA (.frz o (.lst xs))
 exc:∀b o x,H b=aA (.frz o (.own x))->H' b=aA (.frz o (.own x))
theorem Same.tk2{H a:Hp}(s:Same H a):Ek H a:=⟨s.tk,λb o c h=>s b _ h,λb o x h=>s b _ h⟩
theorem CsK.tr{K:aD}{H b:Hp}(t:Ek H b){p:aJ}{a:List V}(h:CsK K H p a):CsK K b p a:=by
 rcases h with⟨o,h⟩ | h
 ·exact .inl ⟨o,t.frz p o a h⟩
 ·exact .inr h
theorem CloAt.tr{H a:Hp}(t:Ek H a){L:Lam}{v:V}{u:aG}(h:CloAt H L v u):CloAt a L v u:=by obtain⟨f,fo,c,b,e,d,n,ct,i,o,l,j,k,m,g⟩:=h;exact⟨f,fo,c,b,e,d,n,ct,i,t.exc f fo 0 o,l,t.exc c b 0 j,k,t.exc e d 1 m,g⟩
mutual
theorem Is.tr{H s:Hp}(f:Ek H s):∀(l:PV)(v:V)(fp:List aJ),(∀p∈fp,RdK H s p)->Is K H l v fp->Is K s l v fp
 | .non,_,_,_,h=>by simpa only[Is] using h
 | .bl _,_,_,_,h=>by simpa only[Is] using h
 | .int _,_,_,_,h=>by simpa only[Is] using h
 | .str _,_,_,_,h=>by simpa only[Is] using h
 | .ty _,_,_,_,h=>by simpa only[Is] using h
 | .exc _,_,_,_,h=>by simp only[Is] at h ⊢;obtain⟨⟨e,o,x,C,a,b,c⟩,d⟩:=h;exact⟨⟨e,o,x,C,a,f.exc e o x b,c⟩,d⟩
 | .exf _ l,_,_,_,h=>by simp only[Is] at h ⊢;obtain⟨⟨e,o,x,C,t,y,u,z,a,b,c1,c2,c3,c4,c5,B,A,E⟩,d⟩:=h;exact⟨⟨e,o,x,C,t,y,u,z,a,f.exc e o x b,c1,c2,c3,c4,f.exc t y t c5,B,A,Is.tr f l z [] (λp w=>by simp at w) E⟩,d⟩
 | .clo L l,v,fp,hm,h=>by simp only[Is] at h ⊢;obtain⟨u,x,D,j,g⟩:=h;exact⟨u,x,D.tr f,j,Is.tr f l x fp hm g⟩
 | .tup l,v,fp,hm,h=>by simp only[Is] at h ⊢;obtain⟨p,i,e,w,g⟩:=h;exact⟨p,i,e,f.tup p i w,Iss.tr f l i fp hm g⟩
 | .lst l,v,fp,hm,h=>by simp only[Is] at h ⊢;obtain⟨p,i,k,e,j,g,rfl⟩:=h;exact⟨p,i,k,e,(hm p aZ).1 _ j,Iss.tr f l i k (λq m=>hm q (aT _ m)) g,rfl⟩
 | .cst l,v,fp,hm,h=>by simp only[Is] at h ⊢;obtain⟨p,i,e,j,g⟩:=h;exact⟨p,i,e,j.tr f,Iss.tr f l i fp hm g⟩
 | .dK ks l,v,fp,hm,h=>by simp only[Is] at h ⊢;obtain⟨p,r,k,e,j,n,g,rfl⟩:=h;exact⟨p,r,k,e,(hm p aZ).2.1 _ j,n,Iss.tr f l _ k (λq m=>hm q (aT _ m)) g,rfl⟩
 | .dT ks l,v,fp,hm,h=>by simp only[Is] at h ⊢;obtain⟨p,r,k,e,j,n,g,rfl⟩:=h;exact⟨p,r,k,e,(hm p aZ).2.2 _ j,n,Iss.tr f l _ k (λq m=>hm q (aT _ m)) g,rfl⟩
theorem Iss.tr{H a:Hp}(c:Ek H a):∀(l:List PV)(xs:List V)(fp:List aJ),(∀p∈fp,RdK H a p)->Iss K H l xs fp->Iss K a l xs fp
 | [],_,_,_,h=>by simpa only[Iss] using h
 | l::ls,xs,fp,hm,h=>by simp only[Iss] at h ⊢;obtain⟨x,r,f1,f2,e,d,f,rfl⟩:=h;exact⟨x,r,f1,f2,e,Is.tr c l x f1 (λq b=>hm q (bX _ b)) d,Iss.tr c ls r f2 (λq b=>hm q (af _ b)) f,rfl⟩
end
theorem Is.mono{H b:Hp}(s:Same H b){l:PV}{v:V}{a:List aJ}(h:Is K H l v a):Is K b l v a:=Is.tr (Same.tk2 s) l v a (λp _=>RdK.of λo q=>s p o q) h
theorem Iss.mono{H b:Hp}(s:Same H b){l:List PV}{v:List V}{a:List aJ}(h:Iss K H l v a):Iss K b l v a:=Iss.tr (Same.tk2 s) l v a (λp _=>RdK.of λo q=>s p o q) h
mutual
theorem Is.pure{H:Hp}:∀(l:PV)(v:V)(fp:List aJ),Z9 l=aC->Is K H l v fp->fp=[]
 | .non,_,_,_,h=>by simp only[Is] at h;exact h.2
 | .bl _,_,_,_,h=>by simp only[Is] at h;exact h.2
 | .int _,_,_,_,h=>by simp only[Is] at h;exact h.2
 | .str _,_,_,_,h=>by simp only[Is] at h;exact h.2
 | .ty _,_,_,_,h=>by simp only[Is] at h;exact h.2
 | .exc _,_,_,_,h=>by simp only[Is] at h;exact h.2
 | .exf _ _,_,_,_,h=>by simp only[Is] at h;exact h.2
 | .clo L l,v,fp,hp,h=>by simp only[Is] at h;obtain⟨u,x,d,c,a⟩:=h;exact Is.pure l x fp (by simpa only[Z9] using hp) a
 | .tup l,v,fp,hp,h=>by simp only[Is] at h;obtain⟨p,b,e,_,a⟩:=h;exact Iss.pure l b fp (by simpa only[Z9] using hp) a
 | .lst l,v,fp,hp,h=>by simp[Z9] at hp
 | .cst l,v,fp,hp,h=>by simp only[Is] at h;obtain⟨p,b,e,_,a⟩:=h;exact Iss.pure l b fp (by simpa only[Z9] using hp) a
 | .dK ks l,v,fp,hp,h=>by simp[Z9] at hp
 | .dT ks l,v,fp,hp,h=>by simp[Z9] at hp
theorem Iss.pure{H:Hp}:∀(l:List PV)(xs:List V)(fp:List aJ),ZJ l=aC->Iss K H l xs fp->fp=[]
 | [],_,_,_,h=>by simp only[Iss] at h;exact h.2
 | l::ls,xs,fp,hp,h=>by simp only[Iss] at h;simp only[ZJ,bT] at hp;obtain⟨x,r,f1,f2,e,a,b,rfl⟩:=h;rw[Is.pure l x f1 hp.1 a,Iss.pure ls r f2 hp.2 b];rfl
end
section
variable {H H':Hp}
theorem Iss.len:∀{l:List PV}{xs:List V}{fp:List aJ},Iss K H l xs fp->xs.length=l.length
 | [],xs,fp,h=>by simp only[Iss] at h;rw[h.1];rfl
 | l::ls,xs,fp,h=>by simp only[Iss] at h;obtain⟨x,r,f1,f2,rfl,_,a,_⟩:=h;rw[b9,b9,a.len]
theorem Iss.get:∀{l:List PV}{xs:List V}{fp:List aJ}{i:Nat}{a:PV},Iss K H l xs fp->l[i]?=aA a->∃x f1,xs[i]?=aA x/\Is K H a x f1/\∀p∈f1,p∈fp
 | [],xs,fp,i,a,h,e=>by simp at e
 | l::ls,xs,fp,0,a,h,e=>by simp only[Iss] at h;obtain⟨x,r,f1,f2,rfl,c,_,rfl⟩:=h;simp at e;subst e;exact⟨x,f1,rfl,c,λp b=>bX _ b⟩
 | l::ls,xs,fp,i+1,a,h,e=>by simp only[Iss] at h;obtain⟨x,r,f1,f2,rfl,_,d,rfl⟩:=h;obtain⟨y,g,k,f,j⟩:=d.get (i:=i) (a:=a) (by simpa using e);exact⟨y,g,by simpa using k,f,λp b=>af _ (j p b)⟩
theorem Iss.get'{l:List PV}{b:List V}{f:List aJ}{i:Nat}{x:V}(h:Iss K H l b f)(e:b[i]?=aA x):∃a f1,l[i]?=aA a/\Is K H a x f1/\∀p∈f1,p∈f:=by
 have d:i<l.length:=by rw[<-h.len];exact(aR.mp e).1
 obtain⟨y,f1,c,j,g⟩:=h.get (aI d);rw[e] at c;cases c;exact⟨_,f1,aI d,j,g⟩
theorem Iss.nil:Iss K H [] [] []:=by simp[Iss]
theorem Iss.cons{l:PV}{ls:List PV}{x:V}{a:List V}{f1 f2:List aJ}(b:Is K H l x f1)(c:Iss K H ls a f2):Iss K H (l::ls) (x::a) (f1++f2):=by exact⟨x,a,f1,f2,rfl,b,c,rfl⟩
theorem Iss.inv{l:PV}{ls:List PV}{a:List V}{b:List aJ}(h:Iss K H (l::ls) a b):∃x r f1 f2,a=x::r/\Is K H l x f1/\Iss K H ls r f2/\b=f1++f2:=by simpa only[Iss] using h
theorem Iss.append:∀{l m:List PV}{xs ys:List V}{f1 f2:List aJ},Iss K H l xs f1->Iss K H m ys f2->Iss K H (l++m) (xs++ys) (f1++f2)
 | [],m,xs,ys,f1,f2,h,h'=>by simp only[Iss] at h;rw[h.1,h.2];exact h'
 | l::ls,m,xs,ys,f1,f2,h,h'=>by obtain⟨x,r,d,c,rfl,a,b,rfl⟩:=h.inv;rw[fj];exact Iss.cons a (b.append h')
theorem Iss.one{l:PV}{x:V}{f:List aJ}(h:Is K H l x f):Iss K H [l] [x] f:=by
 have:=Iss.cons h (Iss.nil)
 rwa [dG] at this
theorem Iss.take:∀{l:List PV}{xs:List V}{fp:List aJ}(n:Nat),Iss K H l xs fp->∃f1,Iss K H (l.take n) (xs.take n) f1/\∀p∈f1,p∈fp
 | l,xs,fp,0,h=>⟨[],by rw[jC,jC];exact Iss.nil,λp c=>by simp at c⟩
 | [],xs,fp,n+1,h=>by simp only[Iss] at h;rw[h.1];exact⟨[],by rw[kZ,kZ];exact Iss.nil,λp c=>by simp at c⟩
 | l::ls,xs,fp,n+1,h=>by
  obtain⟨x,r,f1,f2,rfl,d,f,rfl⟩:=h.inv;obtain⟨e,a,b⟩:=f.take n;refine⟨f1++e,Iss.cons d a,λp c=>?_⟩;rcases b6.mp c with h | h
  ·exact bX _ h
  ·exact af _ (b p h)
theorem Iss.drop:∀{l:List PV}{xs:List V}{fp:List aJ}(n:Nat),Iss K H l xs fp->∃f1,Iss K H (l.drop n) (xs.drop n) f1/\∀p∈f1,p∈fp
 | l,xs,fp,0,h=>⟨fp,h,λp c=>c⟩
 | [],xs,fp,n+1,h=>by simp only[Iss] at h;rw[h.1];exact⟨[],by rw[k4,k4];exact Iss.nil,λp c=>by simp at c⟩
 | l::ls,xs,fp,n+1,h=>by obtain⟨x,r,f1,f2,rfl,f,e,rfl⟩:=h.inv;obtain⟨d,a,b⟩:=e.drop n;exact⟨d,a,λp c=>af _ (b p c)⟩
theorem Iss.setP:∀{l:List PV}{xs:List V}{a:PV}{x:V}(i:Nat),ZJ l=aC->Z9 a=aC->Iss K H l xs []->Is K H a x []->Iss K H (l.set i a) (xs.set i x) []
 | [],xs,a,x,i,_,_,h,_=>by simp only[Iss] at h;rw[h.1];simp only[List.set_nil];exact Iss.nil
 | l::ls,xs,a,x,0,hp,_,h,ha=>by simp only[ZJ,bT] at hp;obtain⟨y,r,f1,f2,rfl,_,b,e⟩:=h.inv;have c:=Iss.pure _ _ _ hp.2 b;subst c;exact Iss.cons (f1:=[]) ha b
 | l::ls,xs,a,x,i+1,hp,hq,h,ha=>by simp only[ZJ,bT] at hp;obtain⟨y,r,f1,f2,rfl,d,b,e⟩:=h.inv;have f:=Is.pure _ _ _ hp.1 d;have c:=Iss.pure _ _ _ hp.2 b;subst f c;exact Iss.cons (f1:=[]) d (Iss.setP i hp.2 hq b ha)
theorem Is.int_inv{i:Int}{v:V}{a:List aJ}(h:Is K H (.int i) v a):v = .int i/\a=[]:=by simpa only[Is] using h
theorem Is.int(i:Int):Is K H (.int i) (.int i) []:=by simp[Is]
theorem Is.bl(i:Bool):Is K H (.bl i) (.bl i) []:=by simp[Is]
theorem Is.non:Is K H .non .non []:=by simp[Is]
theorem Is.str(x:ao):Is K H (.str x) (.str x) []:=by simp[Is]
theorem Is.ty(n:String):Is K H (.ty n) (.ty n) []:=by simp[Is]
theorem Is.bl_inv{i:Bool}{v:V}{a:List aJ}(h:Is K H (.bl i) v a):v = .bl i/\a=[]:=by simpa only[Is] using h
theorem Is.str_inv{i:ao}{v:V}{a:List aJ}(h:Is K H (.str i) v a):v = .str i/\a=[]:=by simpa only[Is] using h
theorem Is.non_inv{v:V}{a:List aJ}(h:Is K H .non v a):v = .non/\a=[]:=by simpa only[Is] using h
theorem Is.ty_inv{n:String}{v:V}{a:List aJ}(h:Is K H (.ty n) v a):v = .ty n/\a=[]:=by simpa only[Is] using h
theorem Is.tup_inv{l:List PV}{v:V}{a:List aJ}(h:Is K H (.tup l) v a):∃p xs,v = .ref p/\H p=aA (.tup xs)/\Iss K H l xs a:=by simpa only[Is] using h
theorem Is.tup{l:List PV}{p:aJ}{a:List V}{b:List aJ}(h:H p=aA (.tup a))(c:Iss K H l a b):Is K H (.tup l) (.ref p) b:=by simp only[Is];exact⟨p,a,rfl,h,c⟩
theorem Is.lst_inv{l:List PV}{v:V}{a:List aJ}(h:Is K H (.lst l) v a):∃p xs fq,v = .ref p/\H p=aA (.lst xs)/\Iss K H l xs fq/\a=p::fq:=by simpa only[Is] using h
theorem Is.lst{l:List PV}{p:aJ}{a:List V}{b:List aJ}(h:H p=aA (.lst a))(c:Iss K H l a b):Is K H (.lst l) (.ref p) (p::b):=by simp only[Is];exact⟨p,a,b,rfl,h,c,rfl⟩
theorem Is.cst_inv{l:List PV}{v:V}{a:List aJ}(h:Is K H (.cst l) v a):∃p xs,v = .ref p/\CsK K H p xs/\Iss K H l xs a:=by simpa only[Is] using h
theorem Is.cst{l:List PV}{p:aJ}{a:List V}{b:List aJ}(h:CsK K H p a)(c:Iss K H l a b):Is K H (.cst l) (.ref p) b:=by simp only[Is];exact⟨p,a,rfl,h,c⟩
theorem Is.dT_inv{a:List (List Pn)}{l:List PV}{v:V}{b:List aJ}(h:Is K H (.dT a l) v b):∃p ko fq,v = .ref p/\Rd H p (.dT ko)/\ko.map (·.1)=a/\Iss K H l (ko.map (·.2)) fq/\b=p::fq:=by simpa only[Is] using h
theorem Is.dK_inv{a:List Pn}{l:List PV}{v:V}{b:List aJ}(h:Is K H (.dK a l) v b):∃p ko fq,v = .ref p/\Rd H p (.dK ko)/\ko.map (·.1)=a/\Iss K H l (ko.map (·.2)) fq/\b=p::fq:=by simpa only[Is] using h
end
abbrev iL(l:List Int):List PV:=l.map PV.int
theorem ZV(l:List Int):ZJ (iL l)=aC:=by rw[Xp,ar];intro x a;obtain⟨i,_,rfl⟩:=bb.mp a;rfl
theorem Iss.iL{H:Hp}:∀{l:List Int}{xs:List V}{fp:List aJ},Iss K H (VL.iL l) xs fp->xs=l.map V.int/\fp=[]
 | [],xs,fp,h=>by simpa only[VL.iL,List.map_nil,Iss] using h
 | i::l,xs,fp,h=>by obtain⟨x,r,f1,f2,rfl,a,b,rfl⟩:=Iss.inv (show Iss K H (PV.int i::VL.iL l) xs fp from h);obtain⟨rfl,rfl⟩:=a.int_inv;obtain⟨rfl,rfl⟩:=b.iL;exact⟨rfl,rfl⟩
theorem Iss.ofInts{H:Hp}:∀(l:List Int),Iss K H (VL.iL l) (l.map V.int) []
 | []=>Iss.nil
 | i::l=>Iss.cons (f1:=[]) (Is.int i) (Iss.ofInts l)
end VL
namespace VL
open PySem PySem.Spec PyProof.Rows L2
variable {K:aD}
abbrev S9:=L2.St
abbrev ZF:=List (Option PV)
abbrev XE:=ZF->Option PV
structure EnvIs(K:aD)(Rm:aJ->Prop)(H:Hp)(s:ZF)(σ:S9):Prop where
 is:∀(i:Nat) l,s[i]?=aA (aA l)->∃v fp,σ[i]?=aA (aA v)/\Is K H l v fp/\∀p∈fp,¬Rm p
theorem EnvIs.mono{g:aJ->Prop}{H f:Hp}{s:ZF}{d:S9}(h:EnvIs K g H s d)(e:Same H f):EnvIs K g f s d:=⟨λi l q=>by
 obtain⟨v,j,a,b,c⟩:=h.is i l q;exact⟨v,j,a,b.mono e,c⟩⟩
theorem EnvIs.free{e:aJ->Prop}{H:Hp}{s:ZF}{d:S9}(h:EnvIs K e H s d):EnvIs K (λ_=>False) H s d:=⟨λi l q=>by
 obtain⟨v,f,a,b,c⟩:=h.is i l q;exact⟨v,f,a,b,λ_ _ z=>z⟩⟩
theorem Same.mut{H a:Hp}(e:Same H a){p:aJ}(h:Uz (H p)):Uz (a p):=by
 cases q:H p with
 | none=>rw[q] at h;exact h.elim
 | some o=>rw[e p o q,<-q];exact h
theorem Xf{H:Hp}{p:aJ}(h:Uz (H p)):H p≠none:=λz=>by rw[z] at h;exact h
noncomputable def tF(K:aD)(f:XE):TE:=λσ H Q=>∃(Rm:aJ->Prop) (s:ZF) (l:PV),(∀p,Rm p->Uz (H p))/\EnvIs K Rm H s σ/\f s=aA l/\∀v H' fp,Same H H'->Is K H' l v fp->(∀p∈fp,¬Rm p)->Q v H'
noncomputable def tM(K:aD)(f:XE):TE:=λσ H Q=>∃(s:ZF) (l:PV),EnvIs K (λ_=>False) H s σ/\f s=aA l/\∀v H' fp,Same H H'->Is K H' l v fp->fp.Nodup->(∀p∈fp,H p=none/\Uz (H' p))->Q v H'
noncomputable def VE(X:Cx)(e:av)(f:XE):Prop:=PE X e (tF X.K f)
noncomputable def VM(X:Cx)(e:av)(f:XE):Prop:=PE X e (tM X.K f)
section
variable {X:Cx} {e:av} {f g:XE} {t t':TE}
theorem PE.imp(h:PE X e t)(i:∀a H Q,t' a H Q->t a H Q):PE X e t':=λb s a H Q I q=>h b s a H Q I (i a H Q q)
theorem VM.ve(h:VM X e f):VE X e f:=PE.imp h λj H Q ⟨m,s,l,b,env,e,k⟩=>
 ⟨s,l,env.free,e,λv c g a i _ n=>k v c g a i λp d z=>Xf (b p z) (n p d).1⟩
noncomputable def eP(f:XE):XE:=λs=>(f s).bind λl=>if Z9 l=aC then aA l else none
theorem El{s:ZF}{l:PV}(h:eP f s=aA l):f s=aA l/\Z9 l=aC:=by
 unfold eP at h
 cases q:f s with
 | none=>rw[q] at h;cases h
 | some a=>
  rw[q] at h;simp only[aY] at h;split at h
  ·cases h;exact⟨rfl,by assumption⟩
  ·cases h
theorem VE.pure(h:VE X e f):VM X e (eP f):=PE.imp h λm H Q ⟨s,l,env,e,k⟩=>by
 obtain⟨d,b⟩:=El e;refine⟨λ_=>False,s,l,λ_ z=>z.elim,env,d,λv c j a i n=>?_⟩;have:=Is.pure l v j b i;subst this;exact k v c [] a i dC λp g=>by simp at g
end
noncomputable def Za(i:Nat):XE:=λs=>(s[i]?).join
noncomputable def eC(l:PV):XE:=λ_=>aA l
theorem Ob{i:Nat}{s:ZF}{l:PV}(h:Za i s=aA l):s[i]?=aA (aA l):=by
 unfold Za at h
 cases q:s[i]? with
 | none=>rw[q] at h;cases h
 | some o=>rw[q] at h;cases o with
  | none=>cases h
  | some a=>cases h;rfl
section
variable {X:Cx} {pos:eu}
theorem AS{e:av}{i:Nat}(h:PE X e (Po i)):VE X e (Za i):=PE.imp h λf H Q ⟨j,s,l,g,env,e,k⟩=>by obtain⟨v,d,a,b,c⟩:=env.is i l (Ob e);exact⟨v,a,k v H d (Same.refl H) b c⟩
theorem Em{e:av}{v:V}{l:PV}(h:PE X e (tC v))(b:∀H,Is X.K H l v []):VE X e (eC l):=PE.imp h λc H Q ⟨f,s,l',d,env,e,k⟩=>by
 cases e;exact k v H [] (Same.refl H) (b H) λp a=>by simp at a
theorem Zh{i j}:VE X (.Constant (.int i) j pos) (eC (.int i)):=Em CB λ_=>Is.int i
theorem KU{i j}:VE X (.Constant (.bool i) j pos) (eC (.bl i)):=Em Aj λ_=>Is.bl i
theorem Lr{j}:VE X (.Constant .none j pos) (eC .non):=Em CC λ_=>Is.non
end
noncomputable def RB(K:aD)(r:R2)(g:PV->PV->Option PV):Prop:=∀(H:Hp)(x y:V)(a b l:PV)(fa fb:List aJ),Is K H a x fa->Is K H b y fb->g a b=aA l->∀Q:VK,
 (∀v H' fp,Same H H'->Is K H' l v fp->(∀p∈fp,p∈fa\/p∈fb\/H p=none)->Q v H')->r x y H Q
noncomputable def Zj(g:PV->PV->Option PV)(a b:XE):XE:=λs=>(a s).bind λx=>(b s).bind λy=>g x y
theorem Qg{g:PV->PV->Option PV}{a b:XE}{s:ZF}{l:PV}(h:Zj g a b s=aA l):∃x y,a s=aA x/\b s=aA y/\g x y=aA l:=by
 unfold Zj at h
 cases q:a s with
 | none=>rw[q] at h;cases h
 | some x=>cases q2:b s with
  | none=>rw[q,q2] at h;cases h
  | some y=>rw[q,q2] at h;exact⟨x,y,rfl,rfl,h⟩
section
variable {X:Cx} {a b:av} {fa fb:XE} {pos:eu}
theorem KW{r:R2}{g:PV->PV->Option PV}(C:RB K r g):∀b H Q,tF K (Zj g fa fb) b H Q->B8 r (tF K fa) (tF K fb) b H Q:=λb H Q ⟨i,s,l,a,env,e,k⟩=>by
 obtain⟨d,f,j,o,e⟩:=Qg e;refine⟨i,s,d,a,env,j,λx F f1 s1 D t=>⟨i,s,f,λp c=>Same.mut s1 (a p c),env.mono s1,o,λy q f2 s2 m B=>?_⟩⟩;refine C q x y d f l f1 f2 (D.mono s2) m e Q λv w E u A n=>k v w E (s1.trans (s2.trans u)) A λp c z=>?_;rcases n p c with h | h | h
 ·exact t p h z
 ·exact B p h z
 ·exact Xf (Same.mut (s1.trans s2) (a p z)) h
theorem Wo{op:Operator}{r:R2}{g:PV->PV->Option PV}(c:U7 X (dB op) r)(d:RB X.K r g)(f:VE X a fa)(e:VE X b fb):VE X (.BinOp a op b pos) (Zj g fa fb):=
 PE.imp (Hk c f e) (KW d)
theorem Ls{op:kC}{r:R2}{g:PV->PV->Option PV}(c:U7 X (eU op) r)(d:RB X.K r g)(h:VE X a fa)(f:VE X b fb)(e:cP op b=aB):VE X (.Compare a [op] [b] pos) (Zj g fa fb):=
 PE.imp (FZ c h f e) (KW d)
theorem AU{r:R2}{g:PV->PV->Option PV}(c:IxR X r)(d:RB X.K r g)(h:VE X a fa)(f:VE X b fb)(e:OH b):VE X (.Subscript a b pos) (Zj g fa fb):=
 PE.imp (Hr c h f e) (KW d)
end
noncomputable def gI(g:Int->Int->Int):PV->PV->Option PV
 | .int i,.int j=>aA (.int (g i j))
 | _,_=>none
noncomputable def gB(g:Int->Int->Bool):PV->PV->Option PV
 | .int i,.int j=>aA (.bl (g i j))
 | _,_=>none
noncomputable def J0(C:Int->Int->Prop)[∀i j,Decidable (C i j)](g:Int->Int->Int):PV->PV->Option PV
 | .int i,.int j=>if C i j then aA (.int (g i j)) else none
 | _,_=>none
theorem En{g:Int->Int->Int}{a b l:PV}(h:gI g a b=aA l):∃i j,a = .int i/\b = .int j/\l = .int (g i j):=by
 unfold gI at h;split at h
 ·cases h;exact⟨_,_,rfl,rfl,rfl⟩
 ·cases h
theorem Eo{g:Int->Int->Bool}{a b l:PV}(h:gB g a b=aA l):∃i j,a = .int i/\b = .int j/\l = .bl (g i j):=by
 unfold gB at h;split at h
 ·cases h;exact⟨_,_,rfl,rfl,rfl⟩
 ·cases h
theorem Hy{C:Int->Int->Prop}[∀i j,Decidable (C i j)]{g:Int->Int->Int}{a b l:PV}(h:J0 C g a b=aA l):∃i j,a = .int i/\b = .int j/\C i j/\l = .int (g i j):=by
 unfold J0 at h;split at h
 ·split at h
  ·cases h;exact⟨_,_,rfl,rfl,by assumption,rfl⟩
  ·cases h
 ·cases h
theorem AV(g:Int->Int->Int):RB K (DU λi j=>.int (g i j)) (gI g):=λH x y a b l h fb d c e Q k=>by obtain⟨i,j,rfl,rfl,rfl⟩:=En e;exact⟨i,j,d.int_inv.1,c.int_inv.1,k _ H [] (Same.refl H) (Is.int _) λp f=>by simp at f⟩
theorem Bm(g:Int->Int->Bool):RB K (DU λi j=>.bl (g i j)) (gB g):=λH x y a b l h fb d c e Q k=>by obtain⟨i,j,rfl,rfl,rfl⟩:=Eo e;exact⟨i,j,d.int_inv.1,c.int_inv.1,k _ H [] (Same.refl H) (Is.bl _) λp f=>by simp at f⟩
theorem Ra(C:Int->Int->Prop)[∀i j,Decidable (C i j)](g:Int->Int->Int):RB K (rI C λi j=>.int (g i j)) (J0 C g):=λH x y a b l m fb d f e Q k=>by obtain⟨i,j,rfl,rfl,c,rfl⟩:=Hy e;exact⟨i,j,d.int_inv.1,f.int_inv.1,c,k _ H [] (Same.refl H) (Is.int _) λp h=>by simp at h⟩
instance (i j:Int):Decidable (CMul i j):=by unfold CMul;infer_instance
instance (i j:Int):Decidable (Li i j):=by unfold Li;infer_instance
instance (i j:Int):Decidable (DV i j):=by unfold DV;infer_instance
instance (i j:Int):Decidable (JR i j):=by unfold JR;infer_instance
abbrev Yj:=gI (· + ·)
abbrev VH:=gI (· - ·)
abbrev Qh:=J0 CMul (· * ·)
abbrev Lu:=J0 Li (· / ·)
abbrev Wn:=J0 (λ_ j=>0<j) (· % ·)
abbrev Ep:=J0 JR (λi j=>i^j.toNat)
abbrev Lb:=gB (λi j=>decide (i<j))
abbrev Lc:=gB (λi j=>decide (j<i))
section
variable {X:Cx} {a b:av} {fa fb:XE} {pos:eu}
theorem Yg(c:VE X a fa)(d:VE X b fb):VE X (.BinOp a .Add b pos) (Zj Yj fa fb):=Wo CZ (AV _) c d
theorem WB(c:VE X a fa)(d:VE X b fb):VE X (.BinOp a .Sub b pos) (Zj VH fa fb):=Wo C0 (AV _) c d
theorem W9(c:VE X a fa)(d:VE X b fb):VE X (.BinOp a .Mult b pos) (Zj Qh fa fb):=Wo C1 (Ra _ _) c d
theorem OP(c:VE X a fa)(d:VE X b fb):VE X (.BinOp a .FloorDiv b pos) (Zj Lu fa fb):=Wo FX (Ra _ _) c d
theorem Xg(c:VE X a fa)(d:VE X b fb):VE X (.BinOp a .Mod b pos) (Zj Wn fa fb):=Wo C2 (Ra _ _) c d
theorem Bn(c:VE X a fa)(d:VE X b fb):VE X (.BinOp a .Pow b pos) (Zj Ep fa fb):=Wo C3 (Ra _ _) c d
theorem AW(c:VE X a fa)(d:VE X b fb):VE X (.Compare a [.Lt] [b] pos) (Zj Lb fa fb):=Ls DW (Bm _) c d (UM _)
end
noncomputable def ZQ:PV->PV->Option PV
 | .lst l,.int i=>T4 l i
 | .cst l,.int i=>T4 l i
 | .tup l,.int i=>T4 l i
 | .str z,.int i=>if z.length<=sizeLine then(T4 z.cps.toList i).map λc=>.str ⟨#[c]⟩ else none
 | _,_=>none
theorem Lv{l:List PV}{c:List V}{H:Hp}{b:List aJ}{i:Int}{a:PV}(h:Iss K H l c b)(e:T4 l i=aA a):∃x f1,T4 c i=aA x/\Is K H a x f1/\∀p∈f1,p∈b:=by
 unfold T4 at e ⊢;rw[h.len]
 cases q:Pp l.length i with
 | none=>rw[q] at e;cases e
 | some j=>rw[q] at e;exact h.get e
theorem AX:RB K (rIx K) ZQ:=λH x y a b l r fb n o e Q k=>by
 unfold ZQ at e;split at e
 ·obtain⟨p,h,s,rfl,d,m,rfl⟩:=n.lst_inv;obtain⟨z,f1,g,j,i⟩:=Lv m e;exact .inl ⟨p,h,_,z,rfl,o.int_inv.1,SqL.of d,g,k z H f1 (Same.refl H) j λq f=>.inl (aT _ (i q f))⟩
 ·obtain⟨p,h,rfl,d,m⟩:=n.cst_inv;obtain⟨z,f1,g,j,i⟩:=Lv m e;exact .inl ⟨p,h,_,z,rfl,o.int_inv.1,d.sq,g,k z H f1 (Same.refl H) j λq f=>.inl (i q f)⟩
 ·obtain⟨p,h,rfl,d,m⟩:=n.tup_inv;obtain⟨z,f1,g,j,i⟩:=Lv m e;exact .inr (.inl ⟨p,h,_,z,rfl,o.int_inv.1,SqT.of d,g,k z H f1 (Same.refl H) j λq f=>.inl (i q f)⟩)
 ·split at e
  ·cases q:T4 _ _ with
   | none=>rw[q] at e;cases e
   | some c=>
    rw[q] at e;cases e;exact .inr (.inr ⟨_,_,c,n.str_inv.1,o.int_inv.1,by assumption,q,k _ H [] (Same.refl H) (Is.str _) λp d=>by simp at d⟩)
  ·cases e
 ·cases e
section
variable {X:Cx} {a b:av} {fa fb:XE} {pos:eu}
theorem Zk(c:VE X a fa)(e:VE X b fb)(d:OH b:=by exact λ_ _=>rfl):VE X (.Subscript a b pos) (Zj ZQ fa fb):=AU C9 AX c e d
end
abbrev XT:=ZF->Option Bool
noncomputable def Mc(K:aD)(f:XT):TT:=λσ H Q=>∃(Rm:aJ->Prop) (s:ZF) (c:Bool),(∀p,Rm p->Uz (H p))/\EnvIs K Rm H s σ/\f s=aA c/\∀H',Same H H'->Q c H'
noncomputable def VT(X:Cx)(e:av)(f:XT):Prop:=PT X e (Mc X.K f)
noncomputable def VW(X:Cx)(e:av)(f:XT):Prop:=PW X e (Mc X.K f)
section
variable {X:Cx} {e:av} {f:XT}
theorem PT.imp{t t':TT}(h:PT X e t)(i:∀a H Q,t' a H Q->t a H Q):PT X e t':=λb s a H Q I q=>h b s a H Q I (i a H Q q)
theorem PW.imp{t t':TT}(h:PW X e t)(i:∀b H Q,t' b H Q->t b H Q):PW X e t':=λa c s b H Q I q=>h a c s b H Q I (i b H Q q)
theorem VW.vt(h:VW X e f):VT X e f:=PW.pt h
end
noncomputable def xB(f:XE):XT:=λs=>match f s with | some (.bl c)=>aA c | _=>none
theorem Td{f:XE}{s:ZF}{c:Bool}(h:xB f s=aA c):f s=aA (.bl c):=by
 unfold xB at h;split at h
 ·cases h;assumption
 ·cases h
section
variable {X:Cx} {a b c:av} {Ym:List av} {fa fb:XE} {ga gb:XT} {pos:eu}
theorem Sf(h:VE X a fa)(g:∀whole,kQ a X.env whole=(do let v <-whole;standAt a.pos;holding [v] (truthy v)):=by intro _;rfl):VT X a (xB fa):=
 PT.imp (CH h g) λl H Q ⟨j,s,c,d,env,e,k⟩=>⟨j,s,.bl c,d,env,Td e,λv f m b i n=>⟨c,i.bl_inv.1,k f b⟩⟩
theorem Hz:∀a H Q,Mc K (xB fa) a H Q->KI (tF K fa) a H Q:=λa H Q ⟨g,s,c,b,env,e,k⟩=>⟨g,s,.bl c,b,env,Td e,λv d h f i n=>⟨c,i.bl_inv.1,k d f⟩⟩
theorem Lw{t t':TE}(i:∀a H Q,t' a H Q->t a H Q):∀a H Q,KI t' a H Q->KI t a H Q:=λa H Q h=>i a H _ h
theorem Sg{op:kC}{r:R2}{g:PV->PV->Option PV}(d:U7 X (eU op) r)(e:RB X.K r g)(j:VE X a fa)(i:VE X b fb)(f:cP op b=aB):VT X (.Compare a [op] [b] pos) (xB (Zj g fa fb)):=
 PT.imp (F0 d j i f) λc H Q h=>Lw (KW e) c H Q (Hz c H Q h)
theorem Md(c:VE X a fa)(d:VE X b fb):VT X (.Compare a [.Lt] [b] pos) (xB (Zj Lb fa fb)):=Sg DW (Bm _) c d (UM _)
theorem KY(c:VE X a fa)(d:VE X b fb):VT X (.Compare a [.Gt] [b] pos) (xB (Zj Lc fa fb)):=Sg AD (Bm _) c d (UM _)
noncomputable def Qi(a b:XT):XT:=λs=>(a s).bind λc=>if c=aC then b s else aA aB
noncomputable def HA(a b:XT):XT:=λs=>(a s).bind λc=>if c=aC then aA aC else b s
noncomputable def Lx(a:XT):XT:=λs=>(a s).map not
theorem Er:∀a H Q,Mc K (Qi ga gb) a H Q->Am (Mc K ga) (Mc K gb) a H Q:=λa H Q ⟨f,s,c,b,env,e,k⟩=>by
 unfold Qi at e
 cases q:ga s with
 | none=>rw[q] at e;cases e
 | some d=>
  rw[q] at e;refine⟨f,s,d,b,env,q,λg s1=>?_⟩
  cases d with
  | true=>
   exact⟨f,s,c,λp i=>Same.mut s1 (b p i),env.mono s1,e,λh s2=>k h (s1.trans s2)⟩
  | false=>
   cases e;exact k g s1
theorem Bp:∀a H Q,Mc K (HA ga gb) a H Q->tOr (Mc K ga) (Mc K gb) a H Q:=λa H Q ⟨f,s,c,b,env,e,k⟩=>by
 unfold HA at e
 cases q:ga s with
 | none=>rw[q] at e;cases e
 | some d=>
  rw[q] at e;refine⟨f,s,d,b,env,q,λg s1=>?_⟩
  cases d with
  | true=>
   cases e;exact k g s1
  | false=>
   exact⟨f,s,c,λp i=>Same.mut s1 (b p i),env.mono s1,e,λh s2=>k h (s1.trans s2)⟩
theorem OQ(b:VT X a ga):VW X (.BoolOp .And [a] pos) ga:=FU b
theorem OR(b:VT X a ga):VW X (.BoolOp .Or [a] pos) ga:=CI b
theorem Ly(c:VT X a ga)(d:VW X (.BoolOp .And (b::Ym) pos) gb):VW X (.BoolOp .And (a::b::Ym) pos) (Qi ga gb):=PW.imp (CJ c d) Er
theorem Me(c:VT X a ga)(d:VW X (.BoolOp .Or (b::Ym) pos) gb):VW X (.BoolOp .Or (a::b::Ym) pos) (HA ga gb):=PW.imp (An c d) Bp
theorem Lz(f:VT X a ga):VT X (.UnaryOp .Not a pos) (Lx ga):=PT.imp (CK f) λh H Q ⟨g,s,c,b,env,e,k⟩=>by
 unfold Lx at e
 cases q:ga s with
 | none=>rw[q] at e;cases e
 | some d=>rw[q] at e;cases e;exact⟨g,s,d,b,env,q,k⟩
end
section
variable {X:Cx} {a b c:av} {Ym:List av} {fa fb:XE} {gc:XT} {pos:eu}
noncomputable def Rt(a b:XE):XE:=λs=>(xB a s).bind λc=>if c=aC then b s else aA (.bl aB)
noncomputable def eOr(a b:XE):XE:=λs=>(xB a s).bind λc=>if c=aC then aA (.bl aC) else b s
noncomputable def Es(a:XE):XE:=λs=>(xB a s).map λc=>.bl !c
noncomputable def HB(c:XT)(a b:XE):XE:=λs=>(c s).bind λk=>if k=aC then a s else b s
theorem OS{op}(h:VE X a fa):VE X (.BoolOp op [a] pos) fa:=CM h
theorem Sh(j:VE X a fa)(n:VE X (.BoolOp .And (b::Ym) pos) fb):VE X (.BoolOp .And (a::b::Ym) pos) (Rt fa fb):=PE.imp (CN j n) λw H Q ⟨h,s,l,g,env,e,k⟩=>by
 unfold Rt at e
 cases q:xB fa s with
 | none=>rw[q] at e;cases e
 | some d=>
  rw[q] at e;refine⟨h,s,.bl d,g,env,Td q,λv t x s1 u _=>⟨d,u.bl_inv.1,?_⟩⟩
  cases d with
  | true=>
   exact⟨h,s,l,λp f=>Same.mut s1 (g p f),env.mono s1,e,λi o c s2 m r=>k i o c (s1.trans s2) m r⟩
  | false=>
   cases e;exact k _ t [] s1 (Is.bl aB) λp f=>by simp at f
theorem Bq(b:VE X a fa):VE X (.UnaryOp .Not a pos) (Es fa):=PE.imp (CO b) λj H Q ⟨h,s,l,c,env,e,k⟩=>by
 unfold Es at e
 cases q:xB fa s with
 | none=>rw[q] at e;cases e
 | some d=>
  rw[q] at e;cases e;exact⟨h,s,.bl d,c,env,Td q,λv f m s1 i _=>⟨d,i.bl_inv.1,k _ f [] s1 (Is.bl _) λp g=>by simp at g⟩⟩
theorem KZ(u:VT X c gc)(r:VE X a fa)(t:VE X b fb):VE X (.IfExp c a b pos) (HB gc fa fb):=PE.imp (Hh u r t) λv H Q ⟨o,s,l,i,env,e,k⟩=>by
 unfold HB at e
 cases q:gc s with
 | none=>rw[q] at e;cases e
 | some d=>
  rw[q] at e;refine⟨o,s,d,i,env,q,λw s1=>?_⟩
  cases d with
  | true=>
   exact⟨o,s,l,λp n=>Same.mut s1 (i p n),env.mono s1,e,λg j f s2 h m=>k g j f (s1.trans s2) h m⟩
  | false=>
   exact⟨o,s,l,λp n=>Same.mut s1 (i p n),env.mono s1,e,λg j f s2 h m=>k g j f (s1.trans s2) h m⟩
end
section
variable {X:Cx} {a b c:av} {fa fb fc:XE} {pos:eu}
noncomputable def Et(neg:Bool):PV->Option PV
 | .non=>aA (.bl !neg)
 | _=>aA (.bl neg)
noncomputable def LA:PV->Bool
 | .non=>aC
 | _=>aB
theorem Qj{H:Hp}{l:PV}{v:V}{g:List aJ}(i:Is K H l v g):decide (v=V.non)=LA l:=by
 cases l with
 | non=>rw[i.non_inv.1];rfl
 | bl b=>rw[i.bl_inv.1];rfl
 | int j=>rw[i.int_inv.1];rfl
 | str y=>rw[i.str_inv.1];rfl
 | ty n=>rw[i.ty_inv.1];rfl
 | exc C=>obtain⟨⟨e,o,x,C,rfl,_⟩,_⟩:=i;rfl
 | exf C l=>obtain⟨⟨e,o,x,C,q,k,u,z,rfl,_⟩,_⟩:=i;rfl
 | clo C l=>obtain⟨u,x,⟨f,fo,c,h,e,r,m,ct,rfl,_⟩,_⟩:=i;rfl
 | lst l=>obtain⟨p,a,d,rfl,_⟩:=i.lst_inv;rfl
 | cst l=>obtain⟨p,a,rfl,_⟩:=i.cst_inv;rfl
 | tup l=>obtain⟨p,a,rfl,_⟩:=i.tup_inv;rfl
 | dK ks l=>obtain⟨p,a,d,rfl,_⟩:=i.dK_inv;rfl
 | dT ks l=>obtain⟨p,a,d,rfl,_⟩:=i.dT_inv;rfl
noncomputable def Qk(neg:Bool)(a:XE):XE:=λs=>(a s).bind (Et neg)
theorem Eu:∀a H Q,tF K (Qk aB fa) a H Q->Al (tF K fa) a H Q:=λa H Q ⟨g,s,l,c,env,e,k⟩=>by
 unfold Qk at e
 cases q:fa s with
 | none=>rw[q] at e;cases e
 | some m=>
  rw[q] at e;simp only[aY] at e;refine⟨g,s,m,c,env,q,λv b h s1 d _=>?_⟩;show Q _ b;rw[Qj d];have:l = .bl (LA m):=by cases m<;>cases e<;>rfl
  subst this;exact k _ b [] s1 (Is.bl _) λp f=>by simp at f
theorem HC:∀a H Q,tF K (Qk aC fa) a H Q->DQ (tF K fa) a H Q:=λa H Q ⟨g,s,l,c,env,e,k⟩=>by
 unfold Qk at e
 cases q:fa s with
 | none=>rw[q] at e;cases e
 | some m=>
  rw[q] at e;refine⟨g,s,m,c,env,q,λv b h s1 d _=>?_⟩;show Q _ b;rw[Qj d];have:l = .bl (!LA m):=by cases m<;>cases e<;>rfl
  subst this;exact k _ b [] s1 (Is.bl _) λp f=>by simp at f
theorem Br{j pos'}(b:VE X a fa):VE X (.Compare a [.Is] [.Constant .none j pos'] pos) (Qk aB fa):=PE.imp (CF (CD b)) Eu
theorem AY:∀a H Q,Mc K (xB fa) a H Q->tB (tF K fa) a H Q:=λa H Q ⟨g,s,c,b,env,e,k⟩=>⟨g,s,.bl c,b,env,Td e,λv d h f i n=>⟨c,i.bl_inv.1,k d f⟩⟩
theorem Ew{t t':TE}(i:∀a H Q,t' a H Q->t a H Q):∀a H Q,tB t' a H Q->tB t a H Q:=λa H Q h=>i a H _ h
theorem K1{j pos'}(c:VE X a fa):VT X (.Compare a [.IsNot] [.Constant .none j pos'] pos) (xB (Qk aC fa)):=PT.imp (CG (FT c)) λb H Q h=>Ew HC b H Q (AY b H Q h)
noncomputable def UA:PV->Option PV
 | .int i=>aA (.int (-i))
 | _=>none
noncomputable def OT(g:PV->Option PV)(a:XE):XE:=λs=>(a s).bind g
theorem WC(b:VE X a fa):VE X (.UnaryOp .USub a pos) (OT UA fa):=PE.imp (Az C4 b) λi H Q ⟨g,s,l,c,env,e,k⟩=>by
 unfold OT at e
 cases q:fa s with
 | none=>rw[q] at e;cases e
 | some m=>
  rw[q] at e;simp only[aY] at e;unfold UA at e;split at e
  ·cases e;exact⟨g,s,_,c,env,q,λv d j s1 h _=>⟨_,h.int_inv.1,k _ d [] s1 (Is.int _) λp f=>by simp at f⟩⟩
  ·cases e
end
end VL
namespace VL
open PySem PySem.Spec PyProof.Rows L2
variable {K:aD}
noncomputable def Ql:List XE->ZF->Option (List PV)
 | [],_=>aA []
 | f::fs,s=>(f s).bind λx=>(Ql fs s).map (x::·)
theorem Qm{f:XE}{fs:List XE}{s:ZF}{ls:List PV}(h:Ql (f::fs) s=aA ls):∃x r,f s=aA x/\Ql fs s=aA r/\ls=x::r:=by
 unfold Ql at h
 cases q:f s with
 | none=>rw[q] at h;cases h
 | some x=>cases q2:Ql fs s with
  | none=>rw[q,q2] at h;cases h
  | some r=>rw[q,q2] at h;cases h;exact⟨x,r,rfl,rfl,rfl⟩
theorem Va:∀{fs:List XE}{s:ZF}{ls:List PV},Ql fs s=aA ls->ls.length=fs.length
 | [],_,_,h=>by cases h;rfl
 | f::fs,s,ls,h=>by obtain⟨x,r,_,a,rfl⟩:=Qm h;rw[b9,b9,Va a]
noncomputable def tFA(K:aD)(fs:List XE):TA:=λσ H Q=>∃(Rm:aJ->Prop) (s:ZF) (ls:List PV),(∀p,Rm p->Uz (H p))/\EnvIs K Rm H s σ/\Ql fs s=aA ls/\∀vs H' fp,Same H H'->Iss K H' ls vs fp->(∀p∈fp,¬Rm p)->Q vs H'
noncomputable def tMA(K:aD)(fs:List XE):TA:=λσ H Q=>∃(s:ZF) (ls:List PV),EnvIs K (λ_=>False) H s σ/\Ql fs s=aA ls/\∀vs H' fp,Same H H'->Iss K H' ls vs fp->fp.Nodup->(∀p∈fp,H p=none/\Uz (H' p))->Q vs H'
noncomputable def VA(X:Cx)(es:List av)(fs:List XE):Prop:=PA X es (tFA X.K fs)
noncomputable def AZ(X:Cx)(es:List av)(fs:List XE):Prop:=PA X es (tMA X.K fs)
section
variable {X:Cx} {e:av} {es:List av} {f:XE} {fs:List XE} {pos:eu} {k:Nat}
theorem PA.imp{t t':TA}(h:PA X es t)(i:∀a H Q,t' a H Q->t a H Q):PA X es t':=λpos b s a H Q I q=>h pos b s a H Q I (i a H Q q)
theorem Bt:VA X [] []:=PA.imp UN λb H Q ⟨d,s,ls,c,env,e,k⟩=>by
 cases e;exact k [] H [] (Same.refl H) Iss.nil λp a=>by simp at a
theorem Te(g:VE X e f)(t:VA X es fs)(l:aX (e::es) X.env=(aB,eval e X.env)::aX es X.env:=by rfl):VA X (e::es) (f::fs):=PA.imp (Y3 g t l) λw H Q ⟨c,s,ls,b,env,e,k⟩=>by
 obtain⟨o,j,d,q,rfl⟩:=Qm e;refine⟨c,s,o,b,env,d,λx y f1 s1 u n=>⟨c,s,j,λp a=>Same.mut s1 (b p a),env.mono s1,q,λv m f2 s2 i r=>?_⟩⟩;refine k _ m (f1++f2) (s1.trans s2) (Iss.cons (u.mono s2) i) λp a=>?_;rcases b6.mp a with h | h
 ·exact n p h
 ·exact r p h
theorem Rz:AZ X [] []:=PA.imp UN λb H Q ⟨s,ls,env,e,k⟩=>by
 cases e;exact k [] H [] (Same.refl H) Iss.nil dC λp a=>by simp at a
theorem Tf(c:VM X e f)(v:AZ X es fs)(m:aX (e::es) X.env=(aB,eval e X.env)::aX es X.env:=by rfl):AZ X (e::es) (f::fs):=PA.imp (Y3 c v m) λB H Q ⟨s,ls,env,e,k⟩=>by
 obtain⟨r,l,i,u,rfl⟩:=Qm e;refine⟨s,r,env,i,λx C f1 s1 y n d=>⟨s,l,env.mono s1,u,λA q f2 s2 j t g=>?_⟩⟩;refine k _ q (f1++f2) (s1.trans s2) (Iss.cons (y.mono s2) j) ?_ λp w=>?_
 ·refine eh.mpr ⟨n,t,λa c b o z=>?_⟩;subst z;exact Xf (d a c).2 (g a o).1
 ·rcases b6.mp w with h | h
  ·exact⟨(d p h).1,Same.mut s2 (d p h).2⟩
  ·exact⟨Same.off s1 (g p h).1,(g p h).2⟩
noncomputable def OU(fs:List XE):XE:=λs=>(Ql fs s).map .tup
noncomputable def UO(fs:List XE):XE:=λs=>(Ql fs s).map .lst
theorem map_some{d c:Type}{o:Option d}{g:d->c}{b:c}(h:o.map g=aA b):∃a,o=aA a/\b=g a:=by
 cases o with
 | none=>cases h
 | some a=>cases h;exact⟨a,rfl,rfl⟩
theorem OV(h:VA X es fs)(j:fs.length<=1000:=by decide):VE X (.Tuple es k pos) (OU fs):=PE.imp (Lk h) λm H Q ⟨g,s,l,d,env,e,q⟩=>by
 obtain⟨ls,a,rfl⟩:=map_some e;refine⟨g,s,ls,d,env,a,λvs n i s1 c f=>⟨?_,λp b=>?_⟩⟩
 ·rw[c.len,Va a];exact cQ (lt_size (by omega))
 ·exact q _ _ i (s1.trans (Same.new b _)) (Is.tup Zt (c.mono (Same.new b _))) f
theorem Bw(h:AZ X es fs)(m:fs.length<=1000:=by decide):VM X (.Tuple es k pos) (OU fs):=PE.imp (Lk h) λn H Q ⟨s,l,env,e,q⟩=>by
 obtain⟨ls,f,rfl⟩:=map_some e;refine⟨s,ls,env,f,λvs o j s1 g i d=>⟨?_,λp b=>?_⟩⟩
 ·rw[g.len,Va f];exact cQ (lt_size (by omega))
 ·exact q _ _ j (s1.trans (Same.new b _)) (Is.tup Zt (g.mono (Same.new b _))) i λa c=>⟨(d a c).1,Same.mut (Same.new b _) (d a c).2⟩
theorem Qn(h:VA X es fs)(m:fs.length<=1000:=by decide):VE X (.List es pos) (UO fs):=PE.imp (Hm h) λn H Q ⟨j,s,l,d,env,e,q⟩=>by
 obtain⟨ls,f,rfl⟩:=map_some e;refine⟨j,s,ls,d,env,f,λvs o k s1 g i=>⟨?_,λp c=>?_⟩⟩
 ·rw[g.len,Va f];exact cQ (lt_size (by omega))
 ·refine q _ _ (p::k) (s1.trans (Same.new c _)) (Is.lst Zt (g.mono (Same.new c _))) λa b z=>?_;rcases a9.mp b with rfl | b
  ·exact Xf (Same.mut s1 (d a z)) c
  ·exact i a b z
theorem LB(h:AZ X es fs)(k:fs.length<=1000:=by decide):VM X (.List es pos) (UO fs):=PE.imp (Hm h) λm H Q ⟨s,l,env,e,q⟩=>by
 obtain⟨ls,f,rfl⟩:=map_some e;refine⟨s,ls,env,f,λvs n j s1 g i d=>⟨?_,λp b=>?_⟩⟩
 ·rw[g.len,Va f];exact cQ (lt_size (by omega))
 ·refine q _ _ (p::j) (s1.trans (Same.new b _)) (Is.lst Zt (g.mono (Same.new b _))) (bK.mpr ⟨λz=>Xf (d p z).2 b,i⟩) λa c=>?_;rcases a9.mp c with rfl | c
  ·exact⟨Same.off s1 b,by rw[Zt];exact cw⟩
  ·exact⟨(d a c).1,Same.mut (Same.new b _) (d a c).2⟩
end
noncomputable def Y8(K:aD)(D:List PV->Option PV)(n:Nat):Sp:=λvs H Q _=>vs.length=n/\∃ls fp l,Iss K H ls vs fp/\D ls=aA l/\∀v H' fq,Same H H'->Is K H' l v fq->fq.Nodup->(∀p∈fq,H p=none/\Uz (H' p))->Q v H'
noncomputable def Zc(D:List PV->Option PV)(fs:List XE):XE:=λs=>(Ql fs s).bind D
theorem Ze{d c:Type}{o:Option d}{g:d->Option c}{b:c}(h:o.bind g=aA b):∃a,o=aA a/\g a=aA b:=by
 cases o with
 | none=>cases h
 | some a=>exact⟨a,rfl,h⟩
section
variable {X:Cx} {x:ao} {ps:List ao} {k:Nat} {e:av} {es:List av} {fs:List XE} {p pos:eu}
theorem K2{D:List PV->Option PV}{n:Nat}(C:Xe X.prog X.w X.K X.mg X.base x ps (Y8 X.K D n) k)(u:Room k X.A)(B:Gl X x)(b:VA X (e::es) fs)(i:fs.length=n:=by rfl)
  (d:(x==("__debug__" : ao))=aB:=by decide) (w:aX (e::es) X.env=(aB,eval e X.env)::aX es X.env:=by rfl) (c:(fA pos (aX es X.env)).any (·.1)=aB:=by rfl) :
  VM X (.Call (.Name x p) (e::es) [] pos) (Zc D fs):=PE.imp (Lq C u B b d w c) λF H Q ⟨s,l,env,e,q⟩=>by
 obtain⟨ls,f,m⟩:=Ze e;refine⟨λ_=>False,s,ls,λ_ z=>z.elim,env,f,λvs y A s1 h E=>?_⟩;show Y8 X.K D n (vs++[]) y Q E0;rw[dG];exact⟨by rw[h.len,Va f,i],ls,A,l,h,m,λv o t s2 j r g=>q v o t (s1.trans s2) j r λa b=>⟨Same.off s1 (g a b).1,(g a b).2⟩⟩
end
noncomputable def RC(K:aD)(r:List V->Hp->VK->Prop)(g:List PV->Option PV):Prop:=∀(H:Hp)(vs:List V)(ls:List PV)(l:PV)(fp:List aJ),Iss K H ls vs fp->g ls=aA l->∀Q:VK,
 (∀v H' fq,Same H H'->Is K H' l v fq->(∀p∈fq,p∈fp\/H p=none)->Q v H')->r vs H Q
noncomputable def RCM(K:aD)(r:List V->Hp->VK->Prop)(g:List PV->Option PV):Prop:=∀(H:Hp)(vs:List V)(ls:List PV)(l:PV)(fp:List aJ),Iss K H ls vs fp->g ls=aA l->∀Q:VK,
 (∀v H' fq,Same H H'->Is K H' l v fq->fq.Nodup->(∀p∈fq,H p=none/\Uz (H' p))->Q v H')->r vs H Q
theorem DY{r:List V->Hp->VK->Prop}{g:List PV->Option PV}{fs:List XE}(o:RC K r g):∀a H Q,tF K (Zc g fs) a H Q->tCB r (tFA K fs) a H Q:=λa H Q ⟨u,s,l,b,env,e,k⟩=>by
 obtain⟨ls,m,d⟩:=Ze e;refine⟨u,s,ls,b,env,m,λvs q x s1 w i=>o q vs ls l x w d Q λv f j s2 c n=>k v f j (s1.trans s2) c λp t z=>?_⟩;rcases n p t with h | h
 ·exact i p h z
 ·exact Xf (Same.mut s1 (b p z)) h
theorem A1{r:List V->Hp->VK->Prop}{g:List PV->Option PV}{fs:List XE}(n:RCM K r g):∀a H Q,tM K (Zc g fs) a H Q->tCB r (tFA K fs) a H Q:=λa H Q ⟨s,l,env,e,k⟩=>by obtain⟨ls,m,f⟩:=Ze e;exact⟨λ_=>False,s,ls,λ_ z=>z.elim,env,m,λvs o t s1 q u=>n o vs ls l t q f Q λv h j s2 d i b=>k v h j (s1.trans s2) d i λp c=>⟨Same.off s1 (b p c).1,(b p c).2⟩⟩
section
variable {X:Cx} {x:ao} {k:Nat} {e:av} {es:List av} {fs:List XE} {p pos:eu} {id T:String} {r:List V->Hp->VK->Prop} {g:List PV->Option PV}
theorem Mf(h:Xx X (.builtin id) r)(c:RC X.K r g)(l:Gl X x)(f:X.mg x=none)(k:dA x=aA (.builtin id))(j:VA X (e::es) fs)(d:x≠"__name__":=by decide)(a:(x==("__debug__" : ao))=aB:=by decide)
  (i:aX (e::es) X.env=(aB,eval e X.env)::aX es X.env:=by rfl) (b:(fA pos (aX es X.env)).any (·.1)=aB:=by rfl):VE X (.Call (.Name x p) (e::es) [] pos) (Zc g fs):=
 PE.imp (Ho h l f k j d a i b) (DY c)
theorem ZC(h:Xx X (.type T) r)(c:RC X.K r g)(l:Gl X x)(f:X.mg x=none)(k:dA x=aA (.type T))(j:VA X (e::es) fs)(d:x≠"__name__":=by decide)(a:(x==("__debug__" : ao))=aB:=by decide)
  (i:aX (e::es) X.env=(aB,eval e X.env)::aX es X.env:=by rfl) (b:(fA pos (aX es X.env)).any (·.1)=aB:=by rfl):VE X (.Call (.Name x p) (e::es) [] pos) (Zc g fs):=
 PE.imp (PZ h l f k j d a i b) (DY c)
theorem Uq(h:Xx X (.type T) r)(c:RCM X.K r g)(l:Gl X x)(f:X.mg x=none)(k:dA x=aA (.type T))(j:VA X (e::es) fs)(d:x≠"__name__":=by decide)(a:(x==("__debug__" : ao))=aB:=by decide)
  (i:aX (e::es) X.env=(aB,eval e X.env)::aX es X.env:=by rfl) (b:(fA pos (aX es X.env)).any (·.1)=aB:=by rfl):VM X (.Call (.Name x p) (e::es) [] pos) (Zc g fs):=
 PE.imp (PZ h l f k j d a i b) (A1 c)
end
theorem Iss.one_inv{H:Hp}{l:PV}{vs:List V}{c:List aJ}(h:Iss K H [l] vs c):∃v,vs=[v]/\Is K H l v c:=by obtain⟨x,r,f1,f2,rfl,a,b,rfl⟩:=h.inv;rw[b.1,b.2,dG];exact⟨x,rfl,a⟩
theorem Iss.two_inv{H:Hp}{l m:PV}{vs:List V}{d:List aJ}(h:Iss K H [l,m] vs d):∃v w f1 f2,vs=[v,w]/\Is K H l v f1/\Is K H m w f2/\d=f1++f2:=by obtain⟨x,r,f1,f2,rfl,a,b,rfl⟩:=h.inv;obtain⟨y,rfl,c⟩:=b.one_inv;exact⟨x,y,f1,f2,rfl,a,c,rfl⟩
noncomputable def UP:PV->Option (List PV)
 | .lst l=>aA l
 | .cst l=>aA l
 | .tup l=>aA l
 | _=>none
theorem X5{H:Hp}{l:PV}{v:V}{g:List aJ}{m:List PV}(h:Is K H l v g)(e:UP l=aA m):∃p a f,v = .ref p/\(SqL K H p a\/SqT K H p a)/\Iss K H m a f/\∀q∈f,q∈g:=by
 cases l with
 | lst l=>
  cases e;obtain⟨p,a,f,rfl,c,d,rfl⟩:=h.lst_inv;exact⟨p,a,f,rfl,.inl (SqL.of c),d,λq b=>aT _ b⟩
 | cst l=>
  cases e;obtain⟨p,a,rfl,c,d⟩:=h.cst_inv;exact⟨p,a,g,rfl,.inl c.sq,d,λq b=>b⟩
 | tup l=>
  cases e;obtain⟨p,a,rfl,c,d⟩:=h.tup_inv;exact⟨p,a,g,rfl,.inr (SqT.of c),d,λq b=>b⟩
 | _=>cases e
noncomputable def Y1:List PV->Option PV
 | [.str z]=>if z.length<=sizeLine then aA (.int z.length) else none
 | [l]=>(UP l).map λm=>.int m.length
 | _=>none
theorem Bx:RC K (λb H Q=>∃x n,b=[x]/\AE K x H n/\Q (.int n) H) Y1:=λH vs ls l g h e Q k=>by
 unfold Y1 at e;split at e
 ·split at e
  ·cases e;obtain⟨v,rfl,i⟩:=h.one_inv;exact⟨v,_,rfl,by rw[i.str_inv.1];exact⟨by assumption,rfl⟩,k _ H [] (Same.refl H) (Is.int _) λp a=>by simp at a⟩
  ·cases e
 ·obtain⟨m,c,rfl⟩:=map_some e;obtain⟨v,rfl,i⟩:=h.one_inv;obtain⟨p,b,f,rfl,a,d,_⟩:=X5 i c;refine⟨_,b.length,rfl,?_,?_⟩
  ·rcases a with a | a
   ·exact .inl ⟨b,a,rfl⟩
   ·exact .inr ⟨b,a,rfl⟩
  ·rw[d.len];exact k _ H [] (Same.refl H) (Is.int _) λp a=>by simp at a
 ·cases e
noncomputable def ZT:List PV->Option PV
 | [l]=>(UP l).map .tup
 | _=>none
theorem ZH:RC K (Bk K) ZT:=λH vs ls l n h e Q k=>by
 unfold ZT at e;split at e
 ·obtain⟨m,g,rfl⟩:=map_some e;obtain⟨v,rfl,i⟩:=h.one_inv;rename_i l0
  cases l0 with
  | tup l=>
   cases g;obtain⟨p,d,rfl,f,j⟩:=id i.tup_inv;exact⟨p,d,rfl,.inr ⟨SqT.of f,k _ H n (Same.refl H) i λa c=>.inl c⟩⟩
  | lst l=>
   cases g;obtain⟨p,d,o,rfl,f,j,rfl⟩:=i.lst_inv;exact⟨p,d,rfl,.inl ⟨SqL.of f,λq b=>k _ _ o (Same.new b _) (Is.tup Zt (j.mono (Same.new b _))) λa c=>.inl (aT _ c)⟩⟩
  | cst l=>
   cases g;obtain⟨p,d,rfl,f,j⟩:=i.cst_inv;exact⟨p,d,rfl,.inl ⟨f.sq,λq b=>k _ _ n (Same.new b _) (Is.tup Zt (j.mono (Same.new b _))) λa c=>.inl c⟩⟩
  | _=>cases g
 ·cases e
noncomputable def Vb:List PV->Option PV
 | [l]=>(UP l).bind λm=>if ZJ m=aC then aA (.lst m) else none
 | _=>none
theorem Tg:RCM K (Ej K) Vb:=λH vs ls l s h e Q k=>by
 unfold Vb at e;split at e
 ·obtain⟨m,j,c⟩:=Ze e;split at c
  ·cases c;obtain⟨v,rfl,i⟩:=h.one_inv;obtain⟨p,g,r,rfl,n,d,o⟩:=X5 i j;have:=Iss.pure _ _ _ (by assumption) d;subst this;refine⟨p,g,rfl,n,λq b=>k _ _ [q] (Same.new b _) (Is.lst Zt (d.mono (Same.new b _))) (by simp) λa f=>?_⟩;rw[ag.mp f];exact⟨b,by rw[Zt];exact cw⟩
  ·cases c
 ·cases e
noncomputable def XD:List PV->Option (List Int)
 | []=>aA []
 | .int i::r=>(XD r).map (i::·)
 | _=>none
theorem Xa:∀l:List Int,XD (iL l)=aA l
 | []=>rfl
 | i::r=>by show(XD (iL r)).map (i::·)=_;rw[Xa r];rfl
theorem XB:∀{m:List PV}{l:List Int},XD m=aA l->m=iL l
 | [],l,h=>by cases h;rfl
 | .int i::r,l,h=>by obtain⟨a,e,rfl⟩:=map_some (show(XD r).map (i::·)=aA l from h);rw[XB e];rfl
 | .non::_,_,h=>by cases h
 | .bl _::_,_,h=>by cases h
 | .str _::_,_,h=>by cases h
 | .ty _::_,_,h=>by cases h
 | .exc _::_,_,h=>by cases h
 | .exf _ _::_,_,h=>by cases h
 | .clo _ _::_,_,h=>by cases h
 | .tup _::_,_,h=>by cases h
 | .lst _::_,_,h=>by cases h
 | .cst _::_,_,h=>by cases h
 | .dK _ _::_,_,h=>by cases h
 | .dT _ _::_,_,h=>by cases h
abbrev bL(l:List Bool):List PV:=l.map PV.bl
noncomputable def Vc:List PV->Option (List Bool)
 | []=>aA []
 | .bl i::r=>(Vc r).map (i::·)
 | _=>none
theorem WD:∀l:List Bool,Vc (bL l)=aA l
 | []=>rfl
 | i::r=>by show(Vc (bL r)).map (i::·)=_;rw[WD r];rfl
theorem Vd:∀{m:List PV}{l:List Bool},Vc m=aA l->m=bL l
 | [],l,h=>by cases h;rfl
 | .bl i::r,l,h=>by obtain⟨a,e,rfl⟩:=map_some (show(Vc r).map (i::·)=aA l from h);rw[Vd e];rfl
 | .non::_,_,h=>by cases h
 | .int _::_,_,h=>by cases h
 | .str _::_,_,h=>by cases h
 | .ty _::_,_,h=>by cases h
 | .exc _::_,_,h=>by cases h
 | .exf _ _::_,_,h=>by cases h
 | .clo _ _::_,_,h=>by cases h
 | .tup _::_,_,h=>by cases h
 | .lst _::_,_,h=>by cases h
 | .cst _::_,_,h=>by cases h
 | .dK _ _::_,_,h=>by cases h
 | .dT _ _::_,_,h=>by cases h
theorem Iss.bL{H:Hp}:∀{l:List Bool}{xs:List V}{fp:List aJ},Iss K H (VL.bL l) xs fp->xs=l.map V.bl/\fp=[]
 | [],xs,fp,h=>by simpa only[VL.bL,List.map_nil,Iss] using h
 | i::l,xs,fp,h=>by obtain⟨x,r,f1,f2,rfl,a,b,rfl⟩:=Iss.inv (show Iss K H (PV.bl i::VL.bL l) xs fp from h);obtain⟨rfl,rfl⟩:=a.bl_inv;obtain⟨rfl,rfl⟩:=b.bL;exact⟨rfl,rfl⟩
theorem Qo{H:Hp}{p:aJ}{a:List V}(h:SqL K H p a\/SqT K H p a):∃b,S8 b K H p a:=by
 rcases h with h | h
 ·exact⟨aC,h⟩
 ·exact⟨aB,h⟩
noncomputable def UB:List PV->Option PV
 | [l]=>(UP l).bind λm=>(XD m).map λns=>.int ns.sum
 | _=>none
noncomputable def Px:List PV->Option PV
 | [l]=>(UP l).bind λm=>(Vc m).map λbs=>.bl (bs.all id)
 | _=>none
noncomputable def LC:List PV->Option PV
 | [l]=>(UP l).bind λm=>(Vc m).map λbs=>.bl (bs.any id)
 | _=>none
theorem VV:RC K (λd H Q=>∃(b:Bool) (p:aJ) (a:List Int),d=[.ref p]/\S8 b K H p (a.map V.int)/\Q (.int a.sum) H) UB:=λH vs ls l t h e Q k=>by
 unfold UB at e;split at e
 ·obtain⟨m,o,j⟩:=Ze e;obtain⟨a,g,rfl⟩:=map_some j;obtain⟨v,rfl,i⟩:=h.one_inv;obtain⟨p,d,s,rfl,c,q,r⟩:=X5 i o;have f:=XB g;subst f;obtain⟨rfl,rfl⟩:=q.iL;obtain⟨b,n⟩:=Qo c;exact⟨b,p,a,rfl,n,k _ H [] (Same.refl H) (Is.int _) λp c=>by simp at c⟩
 ·cases e
theorem LD:RC K (λc H Q=>∃(b:Bool) (p:aJ) (bs:List Bool),c=[.ref p]/\S8 b K H p (bs.map V.bl)/\Q (.bl (bs.all id)) H) Px:=λH vs ls l t h e Q k=>by
 unfold Px at e;split at e
 ·obtain⟨m,n,g⟩:=Ze e;obtain⟨o,f,rfl⟩:=map_some g;obtain⟨v,rfl,i⟩:=h.one_inv;obtain⟨p,c,s,rfl,a,q,r⟩:=X5 i n;have d:=Vd f;subst d;obtain⟨rfl,rfl⟩:=q.bL;obtain⟨b,j⟩:=Qo a;exact⟨b,p,o,rfl,j,k _ H [] (Same.refl H) (Is.bl _) λp a=>by simp at a⟩
 ·cases e
theorem HD:RC K (λc H Q=>∃(b:Bool) (p:aJ) (bs:List Bool),c=[.ref p]/\S8 b K H p (bs.map V.bl)/\Q (.bl (bs.any id)) H) LC:=λH vs ls l t h e Q k=>by
 unfold LC at e;split at e
 ·obtain⟨m,n,g⟩:=Ze e;obtain⟨o,f,rfl⟩:=map_some g;obtain⟨v,rfl,i⟩:=h.one_inv;obtain⟨p,c,s,rfl,a,q,r⟩:=X5 (K:=K) i n;have d:=Vd f;subst d;obtain⟨rfl,rfl⟩:=q.bL;obtain⟨b,j⟩:=Qo a;exact⟨b,p,o,rfl,j,k _ H [] (Same.refl H) (Is.bl _) λp a=>by simp at a⟩
 ·cases e
noncomputable def Mg:List PV->Option PV
 | [.int i,.int j]=>aA (.int (if j<i then j else i))
 | _=>none
noncomputable def A3:List PV->Option PV
 | [.int i,.int j]=>aA (.int (if j>i then j else i))
 | _=>none
noncomputable def LF:List PV->Option PV
 | [.int i]=>aA (.int (if i<0 then -i else i))
 | _=>none
noncomputable def DZ:List PV->Option PV
 | [.int i]=>aA (.int i)
 | [.bl c]=>aA (.int (if c then 1 else 0))
 | _=>none
theorem Ex:RC K (λd H Q=>∃i j,d=[.int i,.int j]/\Q (.int (if j<i then j else i)) H) Mg:=λH vs ls l f h e Q k=>by
 unfold Mg at e;split at e
 ·cases e;obtain⟨v,w,f1,f2,rfl,a,b,rfl⟩:=h.two_inv;exact⟨_,_,by rw[a.int_inv.1,b.int_inv.1],k _ H [] (Same.refl H) (Is.int _) λp c=>by simp at c⟩
 ·cases e
theorem HE:RC K (λc H Q=>∃i,c=[.int i]/\Q (.int (if i<0 then -i else i)) H) LF:=λH vs ls l d h e Q k=>by
 unfold LF at e;split at e
 ·cases e;obtain⟨v,rfl,a⟩:=h.one_inv;exact⟨_,by rw[a.int_inv.1],k _ H [] (Same.refl H) (Is.int _) λp b=>by simp at b⟩
 ·cases e
section
variable {X:Cx} {e:av} {es:List av} {fs:List XE} {p pos:eu}
noncomputable def tyP:PV->Option String
 | .int _=>aA "int"
 | .bl _=>aA "bool"
 | .tup _=>aA "tuple"
 | .lst _=>aA "list"
 | .str _=>aA "str"
 | _=>none
noncomputable def VD:List PV->Option PV
 | [a,.ty t]=>(tyP a).bind λu=>if t=u then aA (.bl aC) else if u = "int"/\t = "bool" then aA (.bl aB) else none
 | _=>none
theorem Py:cG K (.type "bool") (.type "bool")=aA aC:=rfl
theorem By{H:Hp}{a:PV}{u:String}{v:V}{f:List aJ}(e:tyP a=aA u)(h:Is K H a v f):TyOf K H v (.type u)/\cG K (.type u) (.type u)=aA aC:=by
 cases a<;>first
  | exact nomatch (show none=aA u from e)
  | cases e
 ·obtain⟨rfl,_⟩:=h.bl_inv;exact⟨TyOf.bl _,Py⟩
 ·obtain⟨rfl,_⟩:=h.int_inv;exact⟨TyOf.int _,N5⟩
 ·obtain⟨rfl,_⟩:=h.str_inv;exact⟨TyOf.str _,N7⟩
 ·obtain⟨q,c,rfl,b,_⟩:=h.tup_inv;exact⟨TyOf.tup b,N6⟩
 ·obtain⟨q,c,d,rfl,b,_⟩:=h.lst_inv;exact⟨TyOf.lst b,Pw⟩
theorem Th:RC K (λi H Q=>∃x T t b,i=[x,.ty T]/\TyOf K H x t/\cG K t (.type T)=aA b/\Q (.bl b) H) VD:=λH vs ls l n h e Q k=>by
 have d:∀b:Bool,l = .bl b->Q (.bl b) H:=λb z=>by subst z;exact k _ H [] (Same.refl H) (Is.bl _) λp m=>by simp at m
 unfold VD at e;split at e
 ·obtain⟨u,j,c⟩:=Ze e;obtain⟨v,w,f1,f2,rfl,a,b,rfl⟩:=h.two_inv;obtain⟨f,g⟩:=By j a;split at c
  ·rename_i z;subst z;cases c;exact⟨_,_,_,_,by rw[b.ty_inv.1],f,g,d _ rfl⟩
  ·split at c
   ·rename_i z;obtain⟨rfl,rfl⟩:=z;cases c;exact⟨_,_,_,_,by rw[b.ty_inv.1],f,OM,d _ rfl⟩
   ·cases c
 ·cases e
theorem Mh{x:ao}{n:String}(e:Gl X x)(c:X.mg x=none)(d:dA x=aA (.type n))(b:x≠"__name__":=by decide)(a:(x==("__debug__" : ao))=aB:=by decide):VE X (.Name x pos) (eC (.ty n)):=
 Em (FR e c d (v:=.ty n) rfl b a) λ_=>Is.ty n
end
end VL
namespace VL
open PySem PySem.Spec PyProof.Rows L2
variable {K:aD}
open Classical in
instance:DecidableEq PV:=λa b=>propDecidable (a=b)
noncomputable def UC:Nat->PV->PV->Bool
 | _+1,.non,.non=>aC
 | _+1,.bl _,.bl _=>aC
 | _+1,.int _,.int _=>aC
 | _+1,.str _,.str _=>aC
 | n+1,.tup l,.tup m=>(l.zip m).all λz=>UC n z.1 z.2
 | n+1,.lst l,.lst m=>(l.zip m).all λz=>UC n z.1 z.2
 | _,_,_=>aB
theorem Ti{d c:Type}{p:d×c->Bool}{a:d}{b:c}{l:List d}{m:List c}(h:((a::l).zip (b::m)).all p=aC):p (a,b)=aC/\(l.zip m).all p=aC:=by rw[j3,hW,bT] at h;exact h
theorem Iss.inj'{n:Nat}{H:Hp}(c:∀a b v fa fb,UC n a b=aC->Is K H a v fa->Is K H b v fb->a=b):∀{l m:List PV}{xs:List V}{fa fb:List aJ},(l.zip m).all (λz=>UC n z.1 z.2)=aC->Iss K H l xs fa->Iss K H m xs fb->l=m
 | [],m,xs,fa,fb,_,h,h'=>by
  simp only[Iss] at h;rw[h.1] at h';have:=h'.len
  cases m with
  | nil=>rfl
  | cons _ _=>simp at this
 | a::l,m,xs,fa,fb,hc,h,h'=>by
  obtain⟨x,r,f1,f2,rfl,d,i,rfl⟩:=h.inv
  cases m with
  | nil=>have:=h'.len;simp at this
  | cons b m=>
   obtain⟨p,o,j,k,e,g,f,rfl⟩:=h'.inv;cases e;obtain⟨c1,c2⟩:=Ti hc;rw[c a b x f1 j c1 d g,Iss.inj' c c2 i f]
theorem Is.inj'{H:Hp}:∀(n:Nat)(a b:PV)(v:V)(fa fb:List aJ),UC n a b=aC->Is K H a v fa->Is K H b v fb->a=b
 | 0,a,b,v,fa,fb,hc,_,_=>nomatch (show aB=aC from hc)
 | n+1,a,b,v,fa,fb,hc,ha,hb=>by
  cases a<;>cases b<;>first
   | exact nomatch (show aB=aC from hc)
   | skip
  ·rfl
  ·rw[ha.bl_inv.1] at hb;have:=hb.bl_inv.1;cases this;rfl
  ·rw[ha.int_inv.1] at hb;have:=hb.int_inv.1;cases this;rfl
  ·rw[ha.str_inv.1] at hb;have:=hb.str_inv.1;cases this;rfl
  ·obtain⟨p,k,rfl,f,g⟩:=ha.tup_inv;obtain⟨j,h,e,c,d⟩:=hb.tup_inv;cases e;rw[f] at c;cases c;rw[Iss.inj' (Is.inj' n) hc g d]
  ·obtain⟨p,k,l,rfl,f,g,_⟩:=ha.lst_inv;obtain⟨j,h,i,e,c,d,_⟩:=hb.lst_inv;cases e;rw[f] at c;cases c;rw[Iss.inj' (Is.inj' n) hc g d]
section
variable {X:Cx} {kj:List (aJ×dF)} {σ:S9} {H:Hp} {s:aO} {A:cA}
theorem LG{n:Nat}(i:∀a b x y fa fb u w,UC n a b=aC->Is K H a x fa->Is K H b y fb->RelV x u->RelV y w->∃r,iW A s u w r/\(r=aC↔a=b)) :
  ∀{l m:List PV}{xs ys:List V}{fa fb:List aJ}{us ws:List aG},(l.zip m).all (λz=>UC n z.1 z.2)=aC->Iss K H l xs fa->Iss K H m ys fb->Vals xs us->Vals ys ws->
  ∃e:Nat->Bool,(∀j (c:j<us.length) (d:j<ws.length),iW A s us[j] ws[j] (e j))/\((aE (min us.length ws.length)).all e=aC↔l.take (min us.length ws.length)=m.take (min us.length ws.length))
 | [],m,xs,ys,fa,fb,us,ws,_,h,_,r,_=>by simp only[Iss] at h;obtain⟨rfl,_⟩:=h;cases r;exact⟨λ_=>aC,λj c=>by simp at c,by simp⟩
 | a::l,[],xs,ys,fa,fb,us,ws,_,_,h,_,r=>by simp only[Iss] at h;obtain⟨rfl,_⟩:=h;cases r;exact⟨λ_=>aC,λj c d=>by simp at d,by simp⟩
 | a::l,b::m,xs,ys,fa,fb,us,ws,hc,h,h',r,r'=>by
  obtain⟨x,E,f1,f2,rfl,c,d,rfl⟩:=h.inv;obtain⟨y,G,B,F,rfl,p,o,rfl⟩:=h'.inv;obtain⟨c1,c2⟩:=Ti hc
  cases r with
  | cons q v=>cases r' with
   | cons q' v'=>
    obtain⟨t,D,g⟩:=i a b x y f1 B _ _ c1 c p q q';obtain⟨e,C,f⟩:=LG i c2 d o v v';refine⟨λj=>match j with | 0=>t | k+1=>e k,λj c d=>?_,?_⟩
    ·cases j with
     | zero=>exact D
     | succ k=>exact C k (by simpa using c) (by simpa using d)
    ·simp only[b9,Nat.succ_min_succ,List.range_succ_eq_map,hW,jm,bT,List.take_succ_cons,List.cons.injEq];exact and_congr g f
theorem Iss.same'{l m:List PV}{f e:List V}{j fb:List aJ}{d c:List aG}(h:Iss K H l f j)(i:Iss K H m e fb)(r:Vals f d)(g:Vals e c) :
  (l.take (min d.length c.length)=m.take (min d.length c.length)/\d.length=c.length)↔l=m:=by
 have n:=h.len;have p:=i.len;have o:=r.length;have k:=g.length;constructor
 ·rintro⟨a,b⟩;rw[ba (by omega),ba (by omega)] at a;exact a
 ·intro a;subst a;exact⟨rfl,by omega⟩
noncomputable def D3(A:cA)(s:aO)(u w:aG)(r:Bool):Prop:=SeqAt.RcAt A s u w r/\SeqAt.RcNeAt A s u w !r
theorem Qp(I:Inv X kj σ H s):∀(n:Nat)(A:cA)(a b:PV)(x y:V)(o fb:List aJ)(u w:aG),A.units+2*n+2<fY->UC n a b=aC->Is K H a x o->Is K H b y fb->RelV x u->RelV y w->
  (∃r,iW A s u w r/\(r=aC↔a=b))/\∃r,D3 A s u w r/\(r=aC↔a=b)
 | 0,A,a,b,x,y,o,fb,u,w,hu,hc,_,_,_,_=>nomatch (show aB=aC from hc)
 | n+1,A,a,b,x,y,o,fb,u,w,hu,hc,ha,hb,ru,ZE=>by
  cases a<;>cases b<;>first
   | exact nomatch (show aB=aC from hc)
   | skip
  ·rw[ha.non_inv.1] at ru;rw[hb.non_inv.1] at ZE;cases ru;cases ZE;exact⟨⟨aC,i9 _,by simp⟩,aC,⟨SeqAt.RcAt.none_none,SeqAt.RcNeAt.none_none⟩,by simp⟩
  ·rw[ha.bl_inv.1] at ru;rw[hb.bl_inv.1] at ZE;cases ru;cases ZE;exact⟨⟨_,iW.bool_bool _ _,by simp⟩,_,⟨SeqAt.RcAt.bool_bool _ _,SeqAt.RcNeAt.bool_bool _ _⟩,by simp⟩
  ·rw[ha.int_inv.1] at ru;rw[hb.int_inv.1] at ZE;obtain⟨t,rfl⟩:=ru;obtain⟨t',rfl⟩:=ZE;exact⟨⟨_,iW.int_int _ _ _ _,by simp⟩,_,⟨SeqAt.RcAt.int_int _ _ _ _,SeqAt.RcNeAt.int_int _ _ _ _⟩,by simp⟩
  ·rw[ha.str_inv.1] at ru;rw[hb.str_inv.1] at ZE;obtain⟨t,rfl⟩:=ru;obtain⟨t',rfl⟩:=ZE;exact⟨⟨_,iW.str_str _ _ _ _,by simp⟩,_,⟨SeqAt.RcAt.str_str _ _ _ _,SeqAt.RcNeAt.str_str _ _ _ _⟩,by simp⟩
  ·rename_i O N;obtain⟨p,Y,rfl,Q,G⟩:=id ha.tup_inv;obtain⟨B,Z,rfl,m,i⟩:=id hb.tup_inv;cases ru;cases ZE;obtain⟨D,E,q,_⟩:=I.tuple (SqT.of Q);obtain⟨C,h,v,_⟩:=I.tuple (SqT.of m);obtain⟨f,F,k⟩:=LG (A:=A.in1) (λa b x y o fb u w c J L P R=>(Qp I n A.in1 a b x y o fb u w (by show A.units+1+2*n+2<fY;omega) c J L P R).1) hc G i E h;have T:=SeqAt.RcAt.tuples (A:=A) (e:=f) (show s.heap.IsTuple p D.toArray from q) (show s.heap.IsTuple B C.toArray from v) (by omega) (λj l z=>F j (by simpa using l) (by simpa using z));have rn:=SeqAt.RcNeAt.tuples (A:=A) (e:=f) (show s.heap.IsTuple p D.toArray from q) (show s.heap.IsTuple B C.toArray from v) (by omega) (λj l z=>F j (by simpa using l) (by simpa using z));have g:(((aE (min D.toArray.size C.toArray.size)).all f&&D.toArray.size==C.toArray.size)=aC)↔PV.tup O=PV.tup N:=by simp only[aP,bT,beq_iff_eq,PV.tup.injEq];rw[k];exact Iss.same' G i E h
   refine⟨?_,_,⟨T,rn⟩,g⟩;by_cases e:p=B
   ·subst e;exact⟨aC,i9 _,by simp[Is.inj' (n+1) _ _ _ _ _ hc ha hb]⟩
   ·exact⟨_,j4 e T,g⟩
  ·rename_i O N;obtain⟨p,Y,fq,rfl,Q,G,_⟩:=id ha.lst_inv;obtain⟨B,Z,W,rfl,m,i,_⟩:=id hb.lst_inv;cases ru;cases ZE;obtain⟨D,E,q,_⟩:=I.list (SqL.of Q);obtain⟨C,h,v,_⟩:=I.list (SqL.of m);obtain⟨f,F,k⟩:=LG (A:=A.in1) (λa b x y o fb u w c J L P R=>(Qp I n A.in1 a b x y o fb u w (by show A.units+1+2*n+2<fY;omega) c J L P R).1) hc G i E h
   have M:∃r,D3 A s (.ref p) (.ref B) r/\(r=aC↔PV.lst O=PV.lst N):=by
    have g:=Iss.same' G i E h;by_cases d:D.length=C.length
    ·refine⟨_,⟨SeqAt.RcAt.lists (e:=f) q.isList v.isList (by simpa using d) (by omega) (λj l z=>F j (by simpa using l) (by simpa using z)),SeqAt.RcNeAt.lists (e:=f) q.isList v.isList (by simpa using d) (by omega) (λj l z=>F j (by simpa using l) (by simpa using z))⟩,?_⟩;rw[d,Nat.min_self] at k g;simp only[aP,PV.lst.injEq];rw[d,k,<-g];simp
    ·refine⟨aB,⟨SeqAt.RcAt.lists_lengths q.isList v.isList (by simpa using d) (by omega),SeqAt.RcNeAt.lists_lengths q.isList v.isList (by simpa using d) (by omega)⟩,?_⟩;rw[PV.lst.injEq,<-g];simp[d]
   obtain⟨r,U,S⟩:=M;refine⟨?_,r,U,S⟩;by_cases e:p=B
   ·subst e;exact⟨aC,i9 _,by simp[Is.inj' (n+1) _ _ _ _ _ hc ha hb]⟩
   ·exact⟨r,j4 e U.1,S⟩
end
noncomputable def Bz(K:aD)(neg:Bool):R2:=λx y H Q=>∃a b fa fb,Is K H a x fa/\Is K H b y fb/\UC 8 a b=aC/\∀r:Bool,(r=aC↔a=b)->Q (.bl (if neg then !r else r)) H
section
variable {X:Cx}
theorem HF(l:X.A.units+64<fY):U7 X (eU .Eq) (Bz X.K aB):=by intro m s n H x y v u Q I i g h;obtain⟨a,b,f,fb,d,e,k,q⟩:=h;obtain⟨_,r,j,c⟩:=Qp I 8 X.A a b x y f fb v u (by omega) k d e i g;exact j.1 X.prog X.w X.xe _ ⟨.bl r,H,I,rfl,q r c⟩
theorem HG(l:X.A.units+64<fY):U7 X (eU .NotEq) (Bz X.K aC):=by intro m s n H x y v u Q I i g h;obtain⟨a,b,f,fb,d,e,k,q⟩:=h;obtain⟨_,r,j,c⟩:=Qp I 8 X.A a b x y f fb v u (by omega) k d e i g;exact j.2 X.prog X.w X.xe _ ⟨.bl !r,H,I,rfl,q r c⟩
end
noncomputable def WR(neg:Bool):PV->PV->Option PV:=λa b=>if UC 8 a b=aC then aA (.bl (if neg then !decide (a=b) else decide (a=b))) else none
theorem OW(neg:Bool):RB K (Bz K neg) (WR neg):=λH x y a b l g fb d f e Q k=>by
 unfold WR at e;split at e
 ·cases e;refine⟨a,b,g,fb,d,f,by assumption,λr c=>?_⟩
  have:r=decide (a=b):=by
   cases r with
   | true=>exact(decide_eq_true (c.mp rfl)).symm
   | false=>exact(decide_eq_false λz=>bO (c.mpr z)).symm
  subst this;exact k _ H [] (Same.refl H) (Is.bl _) λp h=>by simp at h
 ·cases e
noncomputable def BA(K:aD)(neg:Bool):R2:=λx y H Q=>∃a b m fa fb,Is K H a x fa/\Is K H b y fb/\UP b=aA m/\(m.all λz=>UC 8 z a)=aC/\∀r:Bool,(r=aC↔a∈m)->Q (.bl (if neg then !r else r)) H
section
variable {X:Cx} {kj:List (aJ×dF)} {σ:S9} {H:Hp} {s:aO}
theorem RA{a:PV}{x:V}{B:List aJ}{u:aG}{A:cA}(I:Inv X kj σ H s)(Y:A.units+18<fY)(F:Is K H a x B)(S:RelV x u):∀{m:List PV}{i:List V}{fb:List aJ}{k:List aG},(m.all λz=>UC 8 z a)=aC->Iss K H m i fb->Vals i k->
  ∃e:aG->Bool,(∀y∈k,iW A s y u (e y))/\(k.any e=aC↔a∈m):=λ{m i fb k} T h r=>by
 -- c one's answer
 have c:∀y∈k,∃t:Bool,iW A s y u t/\(t=aC↔∃b,b∈m/\b=a/\∃z f,Is K H b z f/\RelV z y):=λy d=>by obtain⟨j,p,e⟩:=dc.mp d;have Z:=r.length;have l:i[j]?=aA i[j]:=aI (by omega);obtain⟨b,f,o,q,_⟩:=h.get' l;obtain⟨w,v,ZE⟩:=r.get l;rw[aI p] at v;cases v;rw[e] at ZE;have n:=cH o;have D:=ar.mp T b n;obtain⟨⟨t,U,E⟩,_⟩:=Qp I 8 A b a i[j] x f B y u (by omega) D q F ZE S;refine⟨t,U,E.trans ⟨λz=>⟨b,n,z,i[j],f,q,ZE⟩,λ⟨O,Q,J,z,W,P,M⟩=>?_⟩⟩;have L:=M.inj ZE;subst L;subst J;exact Is.inj' 8 b O _ _ _ D q P
 classical
 refine⟨λy=>if d:y∈k then(c y d).choose else aB,λy d=>?_,?_⟩
 ·simp only[dif_pos d];exact(c y d).choose_spec.1
 ·rw[eH];constructor
  ·rintro⟨y,d,e⟩;rw[dif_pos d] at e;obtain⟨b,o,rfl,_⟩:=(c y d).choose_spec.2.mp e;exact o
  ·intro C;obtain⟨j,p,e⟩:=dc.mp C;obtain⟨z,f,N,G,_⟩:=h.get (aI p);obtain⟨y,d,R⟩:=r.get N;have g:=cH d;refine⟨y,g,?_⟩;rw[dif_pos g];exact(c y g).choose_spec.2.mpr ⟨a,C,rfl,z,f,e▸G,R⟩
end
section
variable {X:Cx}
theorem BB(C:X.A.units+64<fY):U7 X (eU .In) (BA X.K aB):=by
 intro F s G H x y v u Q I l B h;obtain⟨a,b,m,D,fb,k,r,z,n,q⟩:=h;obtain⟨p,E,J,rfl,c,o,_⟩:=X5 r z;cases B;rcases c with c | c
 ·obtain⟨d,i,t,_⟩:=I.list c;obtain⟨e,j,f⟩:=RA (A:=X.A.in1) I (by show X.A.units+1+18<fY;omega) k l n o i;refine SeqAt.in_listAt e t.isList (λw g=>j w (by simpa using g)) ⟨.bl _,H,I,rfl,?_⟩;rw[show d.toArray.any e=d.any e by simp];exact q _ f
 ·obtain⟨d,i,t,_⟩:=I.tuple c;obtain⟨e,j,f⟩:=RA (A:=X.A.in1) I (by show X.A.units+1+18<fY;omega) k l n o i;refine SeqAt.in_tupleAt e t (λw g=>j w (by simpa using g)) ⟨.bl _,H,I,rfl,?_⟩;rw[show d.toArray.any e=d.any e by simp];exact q _ f
theorem J1(C:X.A.units+64<fY):U7 X (eU .NotIn) (BA X.K aC):=by
 intro F s G H x y v u Q I l B h;obtain⟨a,b,m,D,fb,k,r,z,n,q⟩:=h;obtain⟨p,E,J,rfl,c,o,_⟩:=X5 r z;cases B;rcases c with c | c
 ·obtain⟨d,i,t,_⟩:=I.list c;obtain⟨e,j,f⟩:=RA (A:=X.A.in1) I (by show X.A.units+1+18<fY;omega) k l n o i;refine SeqAt.notIn_listAt e t.isList (λw g=>j w (by simpa using g)) ⟨.bl _,H,I,rfl,?_⟩;rw[show d.toArray.any e=d.any e by simp];exact q _ f
 ·obtain⟨d,i,t,_⟩:=I.tuple c;obtain⟨e,j,f⟩:=RA (A:=X.A.in1) I (by show X.A.units+1+18<fY;omega) k l n o i;refine SeqAt.notIn_tupleAt e t (λw g=>j w (by simpa using g)) ⟨.bl _,H,I,rfl,?_⟩;rw[show d.toArray.any e=d.any e by simp];exact q _ f
end
noncomputable def J2(neg:Bool):PV->PV->Option PV:=λa b=>(UP b).bind λm=>if(m.all λz=>UC 8 z a)=aC then aA (.bl (if neg then !decide (a∈m) else decide (a∈m))) else none
theorem HH(neg:Bool):RB K (BA K neg) (J2 neg):=λH x y a b l g fb d f e Q k=>by
 obtain⟨m,h,e⟩:=Ze e;split at e
 ·cases e;refine⟨a,b,m,g,fb,d,f,h,by assumption,λr c=>?_⟩
  have:r=decide (a∈m):=by
   cases r with
   | true=>exact(decide_eq_true (c.mp rfl)).symm
   | false=>exact(decide_eq_false λz=>bO (c.mpr z)).symm
  subst this;exact k _ H [] (Same.refl H) (Is.bl _) λp i=>by simp at i
 ·cases e
end VL
namespace VL
open PySem PySem.Spec PyProof.Rows L2
variable {K:aD}
mutual
theorem Is.dom{H:Hp}:∀(l:PV)(v:V)(fp:List aJ),Is K H l v fp->∀p∈fp,H p≠none
 | .non,_,_,h=>by simp only[Is] at h;rw[h.2];simp
 | .bl _,_,_,h=>by simp only[Is] at h;rw[h.2];simp
 | .int _,_,_,h=>by simp only[Is] at h;rw[h.2];simp
 | .str _,_,_,h=>by simp only[Is] at h;rw[h.2];simp
 | .ty _,_,_,h=>by simp only[Is] at h;rw[h.2];simp
 | .exc _,_,_,h=>by simp only[Is] at h;rw[h.2];simp
 | .exf _ _,_,_,h=>by simp only[Is] at h;rw[h.2];simp
 | .clo L l,v,fp,h=>by simp only[Is] at h;obtain⟨u,x,_,_,b⟩:=h;exact Is.dom l x fp b
 | .tup l,v,fp,h=>by obtain⟨p,f,_,_,b⟩:=h.tup_inv;exact Iss.dom l f fp b
 | .lst l,v,fp,h=>by
  obtain⟨p,f,c,_,d,b,rfl⟩:=h.lst_inv;intro q a;rcases a9.mp a with rfl | a
  ·rw[d];simp
  ·exact Iss.dom l f c b q a
 | .cst l,v,fp,h=>by obtain⟨p,f,_,_,b⟩:=h.cst_inv;exact Iss.dom l f fp b
 | .dK ks l,v,fp,h=>by
  obtain⟨p,g,c,_,d,_,b,rfl⟩:=h.dK_inv;intro q a;rcases a9.mp a with rfl | a
  ·rcases d with e | ⟨o,e⟩<;>rw[e]<;>simp
  ·exact Iss.dom l _ c b q a
 | .dT ks l,v,fp,h=>by
  obtain⟨p,g,c,_,d,_,b,rfl⟩:=h.dT_inv;intro q a;rcases a9.mp a with rfl | a
  ·rcases d with e | ⟨o,e⟩<;>rw[e]<;>simp
  ·exact Iss.dom l _ c b q a
theorem Iss.dom{H:Hp}:∀(l:List PV)(xs:List V)(fp:List aJ),Iss K H l xs fp->∀p∈fp,H p≠none
 | [],_,_,h=>by simp only[Iss] at h;rw[h.2];simp
 | l::ls,xs,fp,h=>by
  obtain⟨x,r,f1,f2,_,b,c,rfl⟩:=h.inv;intro q a;rcases b6.mp a with a | a
  ·exact Is.dom l x f1 b q a
  ·exact Iss.dom ls r f2 c q a
end
noncomputable def Ab(Rm:aJ->Prop)(H H':Hp):Prop:=∀b o,H b=aA o->¬Rm b->H' b=aA o
theorem Same.ab{c:aJ->Prop}{H a:Hp}(s:Same H a):Ab c H a:=λb o h _=>s b o h
theorem Ab.tk{e:aJ->Prop}{H d:Hp}(a:Ab e H d)(c:∀p,e p->Uz (H p)):Ek H d:=⟨λb f h=>a b _ h λz=>by
 have:=c b z
 rw[h] at this;exact this,λb o f h=>a b _ h λz=>by
 have:=c b z
 rw[h] at this;exact this,λb o x h=>a b _ h λz=>by
 have:=c b z;rw[h] at this;exact this⟩
theorem Is.ab{c:aJ->Prop}{H d:Hp}(a:Ab c H d)(e:∀p,c p->Uz (H p)){l:PV}{v:V}{b:List aJ}(n:∀p∈b,¬c p)(h:Is K H l v b):Is K d l v b:=
 Is.tr (a.tk e) l v b (λp f=>RdK.of λo q=>a p o q (n p f)) h
structure JIs(K:aD)(Rm:aJ->Prop)(H1:Hp)(J:It)(ls:List PV):Prop where
 stop:∀H',Ab Rm H1 H'->J.stop ls.length H'
 go:∀H' (i:Nat) l,Ab Rm H1 H'->ls[i]?=aA l->J.go i H'
 yld:∀H' (i:Nat) l x H'',Ab Rm H1 H'->ls[i]?=aA l->J.yld i H' x H''->Same H' H''/\∃fp,Is K H'' l x fp/\∀p∈fp,H1 p≠none/\¬Rm p
abbrev XL:=ZF->Option (List PV)
noncomputable def iF(K:aD)(f:XL):TI:=λσ H R=>∃(Rm:aJ->Prop) (s:ZF) (ls:List PV),(∀p,Rm p->Uz (H p))/\EnvIs K Rm H s σ/\f s=aA ls/\∀J H1,Same H H1->JIs K Rm H1 J ls->R J H1
noncomputable def VI(X:Cx)(tg e:av)(f:XL):Prop:=PI X tg e (iF X.K f)
section
variable {X:Cx} {tg e:av} {es:List av}
theorem PI.imp{t t':TI}(h:PI X tg e t)(i:∀a H R,t' a H R->t a H R):PI X tg e t':=λb s a H R I q=>h b s a H R I (i a H R q)
noncomputable def B9:PV->Option (List PV)
 | .lst m=>aA m
 | .cst m=>aA m
 | _=>none
noncomputable def Ve(f:XE):XL:=λs=>(f s).bind B9
noncomputable def Vf(f:XE):XL:=λs=>match f s with | some (.tup m)=>aA m | _=>none
theorem HI{a:PV}{m:List PV}(h:B9 a=aA m):a = .lst m\/a = .cst m:=by
 unfold B9 at h;split at h
 ·cases h;exact .inl rfl
 ·cases h;exact .inr rfl
 ·cases h
theorem J3{f:XE}{s:ZF}{m:List PV}(h:Vf f s=aA m):f s=aA (.tup m):=by
 unfold Vf at h;split at h
 ·cases h;assumption
 ·cases h
theorem Xh{f:XE}(h:VE X e f):VI X tg e (Ve f):=PI.imp (FW h) λL H R ⟨C,s,ls,A,env,e,k⟩=>by
 obtain⟨l,I,F⟩:=Ze e;refine⟨C,s,l,A,env,I,λv o E s1 D B=>?_⟩;have q:=λp d=>Same.mut s1 (A p d)
 have j:∀a b t,v = .ref a->SqL X.K o a b->(∀g,Ab C o g->SqL X.K g a b)->Iss X.K o ls b t->(∀p∈t,p∈E)->∃a,v = .ref a/\(∃b,SqL X.K o a b)/\R (Itl X.K a) o:=by
  rintro a b t rfl m c n sub;refine⟨a,rfl,⟨b,m⟩,k _ o s1 ⟨λg ab=>⟨b,c g ab,by rw[n.len];exact aL _⟩,λg i l ab z=>?_,λg i l x G ab z y=>?_⟩⟩
  ·obtain⟨x,f1,w,_,_⟩:=n.get z;exact⟨b,x,c g ab,w⟩
  ·obtain⟨rfl,y⟩:=y;obtain⟨J,f1,w,ix,u⟩:=n.get z;have:=y b (c _ ab);rw[w] at this;cases this;have r:=λp d=>B p (sub p (u p d));exact⟨Same.refl _,f1,ix.ab ab q r,λp d=>⟨Is.dom _ _ _ ix p d,r p d⟩⟩
 rcases HI F with rfl | rfl
 ·obtain⟨a,b,t,rfl,m,n,rfl⟩:=D.lst_inv;exact j a b t rfl (SqL.of m) (λg ab=>SqL.of (ab a _ m (B a aZ))) n λp d=>aT _ d
 ·obtain⟨a,b,rfl,m,n⟩:=D.cst_inv;exact j a b E rfl m.sq (λg ab=>(m.tr (ab.tk q)).sq) n λp d=>d
theorem Vg{f:XE}(h:VE X e f):VI X tg e (Vf f):=PI.imp (CU h) λD H R ⟨w,s,ls,t,env,e,k⟩=>by
 refine⟨w,s,.tup ls,t,env,J3 e,λv u E s1 B z=>?_⟩;obtain⟨a,d,rfl,r,q⟩:=B.tup_inv;have j:=λp g=>Same.mut s1 (t p g);have b:∀c,Ab w u c->SqT X.K c a d:=λc ab=>SqT.of ((ab.tk j).tup a d r);refine⟨a,rfl,⟨d,SqT.of r⟩,k _ u s1 ⟨λc ab=>⟨d,b c ab,by rw[q.len];exact aL _⟩,λc i l ab o=>?_,λc i l x A ab o y=>?_⟩⟩
 ·obtain⟨x,f1,n,_,_⟩:=q.get o;exact⟨d,x,b c ab,n⟩
 ·obtain⟨rfl,y⟩:=y;obtain⟨C,f1,n,ix,sub⟩:=q.get o;have:=y d (b _ ab);rw[n] at this;cases this;have m:=λp g=>z p (sub p g);exact⟨Same.refl _,f1,ix.ab ab j m,λp g=>⟨Is.dom _ _ _ ix p g,m p g⟩⟩
noncomputable def Si(n:Nat):List PV:=(aE n).map λ(i:Nat)=>PV.int (i:Int)
noncomputable def UQ(lo:Int)(n:Nat):List PV:=(aE n).map λ(i:Nat)=>PV.int (lo+(i:Int))
noncomputable def Ya(fs:List XE):XL:=λs=>match Ql fs s with | some [.int j]=>if -1000000<=j/\j<=1000000 then aA (Si j.toNat) else none | _=>none
noncomputable def VY(fs:List XE):XL:=λs=>match Ql fs s with | some [.int i,.int j]=>if -1000000<=i/\i<=1000000/\-1000000<=j/\j<=1000000 then aA (UQ i (j-i).toNat) else none | _=>none
theorem K3{g:aJ->Prop}{e:Hp}(lo:Int)(n:Nat):JIs K g e (Av lo n) (UQ lo n):=by
 refine⟨λc _=>by unfold UQ;rw[aN,bj];exact aL n,λc i l _ a=>?_,λc i l x d _ a y=>?_⟩
 ·have:=(aR.mp a).1;unfold UQ at this;rw[aN,bj] at this;exact this
 ·obtain⟨rfl,rfl⟩:=y;have b:=(aR.mp a).1;unfold UQ at b a;rw[aN,bj] at b;rw[aW,bJ b] at a;cases a;exact⟨Same.refl _,[],Is.int _,λp f=>by simp at f⟩
theorem Ey(n:Nat):Si n=UQ 0 n:=by apply ak;intro i _;rw[jn]
theorem J4{a:av}{fs:List XE}{p pos:eu}(n:Gl X "range")(f:X.mg "range" = none)(b:VA X [a] fs)(d:aX [a] X.env=[(aB,eval a X.env)]:=by rfl):VI X tg (.Call (.Name "range" p) [a] [] pos) (Ya fs):=
 PI.imp (JO n f b d) λq H R ⟨l,s,ls,c,env,e,k⟩=>by
 unfold Ya at e;split at e
 ·split at e
  ·cases e;rename_i j g o;refine⟨l,s,_,c,env,g,λvs h r s1 m _=>?_⟩;obtain⟨v,rfl,i⟩:=m.one_inv;refine⟨j,by rw[i.int_inv.1],by omega,by omega,k _ h s1 ?_⟩;rw[Ey];exact K3 _ _
  ·cases e
 ·cases e
theorem J5{a b:av}{fs:List XE}{p pos:eu}(t:Gl X "range")(l:X.mg "range" = none)(d:VA X [a,b] fs)(g:aX [a,b] X.env=[(aB,eval a X.env),(aB,eval b X.env)]:=by rfl)(c:aX [b] X.env=[(aB,eval b X.env)]:=by rfl):VI X tg (.Call (.Name "range" p) [a,b] [] pos) (VY fs):=
 PI.imp (JP t l d g c) λx H R ⟨q,s,ls,f,env,e,k⟩=>by
 unfold VY at e;split at e
 ·split at e
  ·cases e;rename_i i j n u;refine⟨q,s,_,f,env,n,λvs o y s1 r _=>?_⟩;obtain⟨v,w,f1,f2,rfl,h,m,_⟩:=r.two_inv;exact⟨i,j,by rw[h.int_inv.1,m.int_inv.1],⟨by omega,by omega,by omega,by omega⟩,k _ o s1 (K3 _ _)⟩
  ·cases e
 ·cases e
noncomputable def Wq(m:List PV):List PV:=m.zipIdx.map λz=>.tup [.int (z.2:Nat),z.1]
noncomputable def WU(m n:List PV):List PV:=(m.zip n).map λz=>.tup [z.1,z.2]
theorem Oc{m:List PV}{i:Nat}{l:PV}(h:(Wq m)[i]?=aA l):∃a,m[i]?=aA a/\l = .tup [.int (i:Nat),a]:=by
 unfold Wq at h;rw[aW,List.getElem?_zipIdx] at h
 cases q:m[i]? with
 | none=>rw[q] at h;cases h
 | some a=>rw[q] at h;cases h;exact⟨a,rfl,by simp⟩
theorem Od(m:List PV):(Wq m).length=m.length:=by unfold Wq;rw[aN,List.length_zipIdx]
theorem Mi{m n:List PV}{i:Nat}{l:PV}(h:(WU m n)[i]?=aA l):∃a b,m[i]?=aA a/\n[i]?=aA b/\l = .tup [a,b]:=by
 unfold WU at h;rw[aW] at h
 cases q:(m.zip n)[i]? with
 | none=>rw[q] at h;cases h
 | some z=>
  rw[q] at h;cases h;obtain⟨c,d⟩:=gu.mp q;exact⟨z.1,z.2,c,d,rfl⟩
theorem Mj(m n:List PV):(WU m n).length=min m.length n.length:=by unfold WU;rw[aN,List.length_zip]
noncomputable def seqB:Bool->PV->Option (List PV)
 | true,.lst l=>aA l
 | true,.cst l=>aA l
 | false,.tup l=>aA l
 | _,_=>none
theorem OX{H:Hp}{b:Bool}{l:PV}{v:V}{j:List aJ}{m:List PV}(h:Is K H l v j)(e:seqB b l=aA m):∃p a k,v = .ref p/\Iss K H m a k/\(∀q∈k,q∈j)/\∀(c:aJ->Prop) f,Ab c H f->(∀p,c p->Uz (H p))->(∀p∈j,¬c p)->S8 b K f p a:=by
 cases b with
 | true=>cases l with
  | lst l=>
   cases e;obtain⟨p,a,k,rfl,g,i,rfl⟩:=h.lst_inv;exact⟨p,a,k,rfl,i,λq d=>aT _ d,λc f ab _ n=>SqL.of (ab p _ g (n p aZ))⟩
  | cst l=>
   cases e;obtain⟨p,a,rfl,g,i⟩:=h.cst_inv;exact⟨p,a,j,rfl,i,λq d=>d,λc f ab o _=>(g.tr (ab.tk o)).sq⟩
  | _=>cases e
 | false=>cases l with
  | tup l=>
   cases e;obtain⟨p,a,rfl,g,i⟩:=h.tup_inv;exact⟨p,a,j,rfl,i,λq d=>d,λc f ab o _=>SqT.of ((ab.tk o).tup p a g)⟩
  | _=>cases e
noncomputable def Xn(b:Bool)(fs:List XE):XL:=λs=>match Ql fs s with | some [l]=>(seqB b l).map Wq | _=>none
noncomputable def UD(b1 b2:Bool)(fs:List XE):XL:=λs=>match Ql fs s with | some [l,r]=>(seqB b1 l).bind λm=>(seqB b2 r).map λn=>WU m n | _=>none
theorem Vh{n:List av}{k:Nat}{o:eu}(b:Bool){a:av}{fs:List XE}{p pos:eu}(S:Gl X "enumerate")(N:X.mg "enumerate" = none)(I:VA X [a] fs)(J:aX [a] X.env=[(aB,eval a X.env)]:=by rfl) :
  VI X (.Tuple n k o) (.Call (.Name "enumerate" p) [a] [] pos) (Xn b fs):=PI.imp (Eh b S N I J) λU H R ⟨G,s,ls,E,env,e,k⟩=>by
 unfold Xn at e;split at e
 ·rename_i l P;obtain⟨m,O,rfl⟩:=map_some e;refine⟨G,s,_,E,env,P,λvs B Y s1 Q F=>?_⟩;obtain⟨v,rfl,i⟩:=Q.one_inv;have g:=λp f=>Same.mut s1 (E p f);obtain⟨a,r,W,rfl,C,sub,h⟩:=OX i O;have t:=λd ab=>h G d ab g F;refine⟨a,rfl,⟨r,t B (Same.ab (Same.refl B))⟩,k _ B s1 ⟨λd ab=>⟨r,t d ab,by rw[Od,C.len]⟩,λd i l ab w=>?_,λd i l x M ab w y=>?_⟩⟩
  ·obtain⟨c,A,rfl⟩:=Oc w;obtain⟨x,f1,u,_,_⟩:=C.get A;exact⟨r,x,t d ab,u⟩
  ·obtain⟨c,A,rfl⟩:=Oc w;obtain⟨T,f1,u,ix,L⟩:=C.get A;obtain⟨q,z,D,rfl,rfl,y⟩:=y;have:=y r (t _ ab);rw[u] at this;cases this;have j:=λp f=>F p (sub p (L p f));refine⟨Same.new D _,f1,Is.tup Zt ?_,λp f=>⟨Is.dom _ _ _ ix p f,j p f⟩⟩;exact Iss.cons (Is.int _) (Iss.one ((ix.ab ab g j).mono (Same.new D _)))
 ·cases e
theorem WE{A:List av}{k:Nat}{G:eu}(b1 b2:Bool){a b:av}{fs:List XE}{p pos:eu}(hg:Gl X "zip")(hm:X.mg "zip" = none)(ha:VA X [a,b] fs)
  (hs:aX [a,b] X.env=[(aB,eval a X.env),(aB,eval b X.env)]:=by rfl) (T:aX [b] X.env=[(aB,eval b X.env)]:=by rfl) :
  VI X (.Tuple A k G) (.Call (.Name "zip" p) [a,b] [] pos) (UD b1 b2 fs):=PI.imp (Bj b1 b2 hg hm ha hs T) λσ H R ⟨Q,s,ls,hd,env,e,k⟩=>by
 unfold UD at e;split at e
 ·rename_i l r he;obtain⟨m,e1,e⟩:=Ze e;obtain⟨n,e2,rfl⟩:=map_some e;refine⟨Q,s,_,hd,env,he,λvs D fp s1 i1 n1=>?_⟩;obtain⟨v,w,g1,g2,rfl,iv,iw,rfl⟩:=i1.two_inv;have j:=λp f=>Same.mut s1 (hd p f);have E:=λp f=>n1 p (bX _ f);have C:=λp f=>n1 p (af _ f);obtain⟨a1,J,fq,rfl,U,sub,F⟩:=OX iv e1;obtain⟨a2,L,fr,rfl,P,I,o⟩:=OX iw e2;have M:=λg ab=>F Q g ab j E;have h:=λg ab=>o Q g ab j C;refine⟨a1,a2,rfl,⟨J,M D (Same.ab (Same.refl D))⟩,⟨L,h D (Same.ab (Same.refl D))⟩,k _ D s1 ⟨λg ab=>⟨J,L,M g ab,h g ab,?_⟩,λg i l ab O=>?_,λg i l x H'' ab O y=>?_⟩⟩
  ·rw[Mj,U.len,P.len];omega
  ·obtain⟨c,d,Y,t,rfl⟩:=Mi O;obtain⟨x,f1,S,_,_⟩:=U.get Y;obtain⟨y,f2,W,_,_⟩:=P.get t;exact⟨J,L,x,y,M g ab,h g ab,S,W⟩
  ·obtain⟨c,d,Y,t,rfl⟩:=Mi O;obtain⟨x',f1,S,ix,sb⟩:=U.get Y;obtain⟨y',f2,W,iy,Z⟩:=P.get t;obtain⟨q,z,z',N,rfl,rfl,y1,y2⟩:=y;have:=y1 J (M _ ab);rw[S] at this;cases this;have:=y2 L (h _ ab);rw[W] at this;cases this;have u:=λp f=>E p (sub p (sb p f));have B:=λp f=>C p (I p (Z p f));refine⟨Same.new N _,f1++f2,Is.tup Zt ?_,λp f=>?_⟩
   ·exact Iss.cons ((ix.ab ab j u).mono (Same.new N _)) (Iss.one ((iy.ab ab j B).mono (Same.new N _)))
   ·rcases b6.mp f with f | f
    ·exact⟨Is.dom _ _ _ ix p f,u p f⟩
    ·exact⟨Is.dom _ _ _ iy p f,B p f⟩
 ·cases e
end
inductive Tgt where
 | one (i:Nat) | many (is:List Nat)
noncomputable def Tgt.slots:Tgt->List Nat
 | .one i=>[i]
 | .many is=>is
noncomputable def setAll:List Nat->List PV->ZF->ZF
 | i::is,l::ls,s=>setAll is ls (s.set i (aA l))
 | _,_,s=>s
noncomputable def YM:List Nat->List V->S9->S9
 | i::is,l::ls,s=>YM is ls (s.set i (aA l))
 | _,_,s=>s
noncomputable def Xb:Tgt->PV->ZF->Option ZF
 | .one i,l,s=>aA (s.set i (aA l))
 | .many is,.tup ls,s=>if ls.length=is.length then aA (setAll is ls s) else none
 | _,_,_=>none
noncomputable def LH:List Nat->DS
 | []=>As
 | i::is=>DT (U9 i) (LH is)
noncomputable def gT(K:aD):Tgt->TG
 | .one i=>U9 i
 | .many is=>Au K is.length (LH is)
theorem Qq:∀{is:List Nat}{vs:List V}{σ:S9}{H:Hp}{Q:S9->Hp->Prop},vs.length=is.length->Q (YM is vs σ) H->LH is vs σ H Q
 | [],[],_,_,_,_,q=>⟨rfl,q⟩
 | [],_::_,_,_,_,h,_=>by simp at h
 | _::_,[],_,_,_,h,_=>by simp at h
 | i::is,v::vs,σ,H,Q,h,q=>⟨v,vs,rfl,Qq (is:=is) (vs:=vs) (by simpa using h) q⟩
theorem LI{T:Tgt}{l:PV}{v:V}{c:List aJ}{s d:ZF}{H:Hp}(h:Is K H l v c)(e:Xb T l s=aA d) :
  ∃ls vs fs,d=setAll T.slots ls s/\Iss K H ls vs fs/\ls.length=T.slots.length/\(∀p∈fs,p∈c)/\∀b (Q:S9->Hp->Prop),Q (YM T.slots vs b) H->gT K T v b H Q:=by
 cases T with
 | one i=>
  cases e;exact⟨[l],[v],c,rfl,Iss.one h,rfl,λp a=>a,λb Q q=>q⟩
 | many is=>
  cases l with
  | tup ls=>
   have e:(if ls.length=is.length then aA (VL.setAll is ls s) else none)=aA d:=e;split at e
   ·cases e;obtain⟨p,g,rfl,a,f⟩:=h.tup_inv;exact⟨ls,g,c,rfl,f,by assumption,λp a=>a,λb Q q=>⟨p,g,rfl,SqT.of a,by rw[f.len];assumption,Qq (by rw[f.len];assumption) q⟩⟩
   ·cases e
  | _=>cases e
theorem Vi:∀{is:List Nat}{vs:List V}{σ:S9}{n:Nat},(∀i∈is,i<n)->(YM is vs σ).drop n=σ.drop n
 | [],_,_,_,_=>rfl
 | _::_,[],_,_,_=>rfl
 | i::is,v::vs,σ,n,h=>by show(YM is vs (σ.set i (aA v))).drop n=_;rw[Vi (λj a=>h j (aT _ a))];have:=h i aZ;rw[List.drop_set,kz this]
theorem EnvIs.set{d:aJ->Prop}{H:Hp}{s:ZF}{b:S9}{i:Nat}{l:PV}{v:V}{g:List aJ}(h:EnvIs K d H s b)(r:s.length=b.length)(q:Is K H l v g)(n:∀p∈g,¬d p):EnvIs K d H (s.set i (aA l)) (b.set i (aA v)):=⟨λj a e=>by
 rw[au] at e;by_cases c:i=j
 ·subst c;rw[kz rfl] at e;split at e
  ·cases e;exact⟨v,g,by rw[au,kz rfl,kz (by omega)],q,n⟩
  ·cases e
 ·rw[l4 c] at e;obtain⟨w,f,k,o,m⟩:=h.is j a e;exact⟨w,f,by rw[au,l4 c];exact k,o,m⟩⟩
theorem EnvIs.setAll{a:aJ->Prop}{H:Hp}:∀{is:List Nat}{ls:List PV}{vs:List V}{fs:List aJ}{s:ZF}{σ:S9},EnvIs K a H s σ->s.length=σ.length->Iss K H ls vs fs->(∀p∈fs,¬a p)->EnvIs K a H (VL.setAll is ls s) (YM is vs σ)
 | [],_,_,_,_,_,h,_,_,_=>by unfold VL.setAll YM;exact h
 | i::is,[],vs,fs,s,σ,h,_,hi,_=>by simp only[Iss] at hi;rw[hi.1];exact h
 | i::is,l::ls,vs,fs,s,σ,h,hl,hi,n=>by obtain⟨x,r,f1,f2,rfl,c,d,rfl⟩:=hi.inv;show EnvIs K a H (VL.setAll is ls (s.set i (aA l))) (YM is r (σ.set i (aA x)));exact EnvIs.setAll (h.set hl c λp b=>n p (bX _ b)) (by rw[cK,cK];exact hl) d λp b=>n p (af _ b)
noncomputable def ZI(n:Nat)(ix:List Nat)(s:ZF):ZF:=aV n none++ix.map (λi=>(s[i]?).join)
noncomputable def Wr(T:Tgt)(ft:XT)(fe:XE)(s0:ZF):List PV->Option (List PV)
 | []=>aA []
 | l::r=>(Xb T l s0).bind λs1=>(ft s1).bind λc=>if c=aC then(fe s1).bind λy=>(Wr T ft fe s0 r).map (y::·) else Wr T ft fe s0 r
noncomputable def Zq(n:Nat)(ix:List Nat)(fi:XL)(T:Tgt)(ft:XT)(fe:XE):XE:=λs=>(fi s).bind λls=>if ls.length<=10000 then(Wr T ft fe (ZI n ix s) ls).map .lst else none
noncomputable def Zy:XT:=λ_=>aA aC
theorem J6{d:Type}{o:Option (Option d)}{a:d}(h:o.join=aA a):o=aA (aA a):=by
 cases o with
 | none=>cases h
 | some b=>cases b with
  | none=>cases h
  | some c=>cases h;rfl
theorem EnvIs.comp{g:aJ->Prop}{H:Hp}{s:ZF}{f:S9}{n:Nat}{ix:List Nat}(h:EnvIs K g H s f):EnvIs K g H (ZI n ix s) (ZY n ix f):=⟨λi l e=>by
 unfold ZI at e;unfold ZY;by_cases d:i<n
 ·rw[ah (by simpa using d),b0,kz d] at e;cases e
 ·rw[bI (by simpa using d),cu,aW] at e;rw[bI (by simpa using d),cu,aW]
  cases q:ix[i-n]? with
  | none=>rw[q] at e;cases e
  | some j=>
   rw[q] at e;have e:=J6 (ay e);obtain⟨v,k,a,b,c⟩:=h.is j l e;exact⟨v,k,by show aA ((f[j]?).join)=_;rw[a];rfl,b,c⟩⟩
theorem Mk(n:Nat)(ix:List Nat)(s:ZF)(a:S9):(ZI n ix s).length=(ZY n ix a).length:=by unfold ZI ZY;simp
theorem Qr{T:Tgt}{e:XT}{d:XE}{b:ZF}{l:PV}{r f:List PV}(h:Wr T e d b (l::r)=aA f):∃s1 c,Xb T l b=aA s1/\e s1=aA c/\((c=aC/\∃y a,d s1=aA y/\Wr T e d b r=aA a/\f=y::a)\/(c=aB/\Wr T e d b r=aA f)):=by
 obtain⟨s1,i,h⟩:=Ze h;obtain⟨c,j,h⟩:=Ze h;refine⟨s1,c,i,j,?_⟩
 cases c with
 | true=>
  obtain⟨y,k,h⟩:=Ze h;obtain⟨a,g,rfl⟩:=map_some h;exact .inl ⟨rfl,y,a,k,g,rfl⟩
 | false=>
  exact .inr ⟨rfl,h⟩
theorem Qs{b:Type}{l:List b}{i:Nat}{a:b}{r:List b}(h:l.drop i=a::r):l[i]?=aA a/\l.drop (i+1)=r:=by
 constructor
 ·have:=congrArg (λz=>z[0]?) h;simpa [dQ] using this
 ·rw[<-List.drop_drop,h];rfl
section
variable {n:Nat} {ix:List Nat} {fi:XL} {T:Tgt} {ft:XT} {fe:XE}
theorem Ez(hT:∀i∈T.slots,i<n):∀D H Q,tF K (Zq n ix fi T ft fe) D H Q->Qc n ix (iF K fi) (gT K T) (Mc K ft) (tF K fe) D H Q:=λD H Q ⟨t,s,L,U,env,e,k⟩=>by
 obtain⟨ls,e1,e⟩:=Ze e;split at e
 case isFalse=>cases e
 rename_i hlen;obtain⟨ys,e2,rfl⟩:=map_some e;refine⟨t,s,ls,U,env,e1,λJ X s1 g=>?_⟩;have R:=λp b=>Same.mut s1 (U p b)
 refine⟨λi m vs o=>m=ls.length-i/\i<=ls.length/\Same X o/\∃j Ym w,ys=j++Ym/\j.length<=i/\Wr T ft fe (ZI n ix s) (ls.drop i)=aA Ym/\Iss K o j vs w/\∀p∈w,¬t p,
  ⟨ls.length,by simp,cO _,Same.refl X,[],ys,[],rfl,aL _,e2,Iss.nil,λp b=>by simp at b⟩,?_⟩
 rintro i m vs o ⟨rfl,hi,d,j,Ym,w,rfl,B,N,M,nv⟩;refine⟨by rw[M.len];exact cQ (lt_size (by omega)),?_⟩
 cases q:ls.drop i with
 | nil=>
  have hil:i=ls.length:=by have:=congrArg gR q;simp at this;omega
  subst hil;rw[q] at N;cases N;refine .inl ⟨g.stop o (Same.ab d),λp b=>k _ _ (p::w) (s1.trans (d.trans (Same.new b _))) ?_ λa ha z=>?_⟩
  ·rw[dG];exact Is.lst Zt (M.mono (Same.new b _))
  ·rcases a9.mp ha with rfl | ha
   ·exact Xf (Same.mut (s1.trans d) (U a z)) b
   ·exact nv a ha z
 | cons l r=>
  obtain⟨O,hr⟩:=Qs q;have F:=(aR.mp O).1;rw[q] at N;obtain⟨sb,c,eb,et,P⟩:=Qr N
  refine .inr ⟨g.go o i l (Same.ab d) O,λC W=>Same X W/\∃dn' rest' fp',j++Ym=dn'++rest'/\dn'.length<=i+1/\Wr T ft fe (ZI n ix s) (ls.drop (i+1))=aA rest'/\Iss K W dn' C fp'/\∀p∈fp',¬t p,
   λC W h'=>⟨ls.length-(i+1),by omega,rfl,F,h'.1,h'.2⟩,λx H2 y=>?_⟩
  obtain⟨s2,fx,Y,nx⟩:=g.yld o i l x H2 (Same.ab d) O y;have G:=λp b=>Same.mut (d.trans s2) (R p b);obtain⟨bl,bv,bf,rfl,bi,_,I,A⟩:=LI Y eb;have E:EnvIs K t H2 (ZI n ix s) (ZY n ix D):=(env.mono (s1.trans (d.trans s2))).comp;have f:=E.setAll (is:=T.slots) (Mk n ix s D) bi λp b=>(nx p (I p b)).2;refine A _ _ ⟨Vi hT,t,_,c,G,f,et,λH3 u=>?_⟩;have Z:=λp b=>Same.mut u (G p b);rcases P with⟨rfl,y',zs,ey,S,rfl⟩ | ⟨rfl,S⟩
  ·refine AM ?_;refine⟨t,_,y',Z,f.mono u,ey,λv H4 f4 s4 i4 n4=>?_⟩;refine⟨d.trans (s2.trans (u.trans s4)),j++[y'],zs,w++f4,by rw[fj];rfl,by rw[bA];simp;exact B,by rw[hr];exact S,(M.mono (s2.trans (u.trans s4))).append (Iss.one i4),λp b=>?_⟩;rcases b6.mp b with h | h
   ·exact nv p h
   ·exact n4 p h
  ·refine AL ?_;exact⟨d.trans (s2.trans u),j,Ym,w,rfl,gC B,by rw[hr];exact S,M.mono (s2.trans u),nv⟩
theorem OY(hT:∀i∈T.slots,i<n):∀F H Q,tM K (Zq n ix fi T ft fe) F H Q->Qc n ix (iF K fi) (gT K T) (Mc K ft) (tM K fe) F H Q:=λF H Q ⟨s,L,env,e,k⟩=>by
 obtain⟨ls,e1,e⟩:=Ze e;split at e
 case isFalse=>cases e
 rename_i hlen;obtain⟨ys,e2,rfl⟩:=map_some e;have hd:∀(H:Hp) p,(λ_=>False:aJ->Prop) p->Uz (H p):=λ_ _ z=>z.elim;refine⟨λ_=>False,s,ls,hd H,env,e1,λJ I s1 u=>?_⟩
 refine⟨λi m vs t=>m=ls.length-i/\i<=ls.length/\Same I t/\∃w Ym A,ys=w++Ym/\w.length<=i/\Wr T ft fe (ZI n ix s) (ls.drop i)=aA Ym/\Iss K t w vs A/\A.Nodup/\∀p∈A,I p=none/\Uz (t p),
  ⟨ls.length,by simp,cO _,Same.refl I,[],ys,[],rfl,aL _,e2,Iss.nil,dC,λp d=>by simp at d⟩,?_⟩
 rintro i m vs t ⟨rfl,hi,f,w,Ym,A,rfl,D,R,P,X,o⟩;refine⟨by rw[P.len];exact cQ (lt_size (by omega)),?_⟩
 cases q:ls.drop i with
 | nil=>
  have hil:i=ls.length:=by have:=congrArg gR q;simp at this;omega
  subst hil;rw[q] at R;cases R;refine .inl ⟨u.stop t (Same.ab f),λp d=>k _ _ (p::A) (s1.trans (f.trans (Same.new d _))) ?_ (bK.mpr ⟨λz=>Xf (o p z).2 d,X⟩) λa B=>?_⟩
  ·rw[dG];exact Is.lst Zt (P.mono (Same.new d _))
  ·rcases a9.mp B with rfl | B
   ·exact⟨Same.off (s1.trans f) d,by rw[Zt];exact cw⟩
   ·exact⟨Same.off s1 (o a B).1,Same.mut (Same.new d _) (o a B).2⟩
 | cons l r=>
  obtain⟨S,hr⟩:=Qs q;have M:=(aR.mp S).1;rw[q] at R;obtain⟨sb,c,eb,et,U⟩:=Qr R
  refine .inr ⟨u.go t i l (Same.ab f) S,λE O=>Same I O/\∃dn' rest' fp',w++Ym=dn'++rest'/\dn'.length<=i+1/\Wr T ft fe (ZI n ix s) (ls.drop (i+1))=aA rest'/\Iss K O dn' E fp'/\fp'.Nodup/\∀p∈fp',I p=none/\Uz (O p),
   λE O h'=>⟨ls.length-(i+1),by omega,rfl,M,h'.1,h'.2⟩,λx H2 y=>?_⟩
  obtain⟨s2,fx,ix',nx⟩:=u.yld t i l x H2 (Same.ab f) S y;obtain⟨bl,bv,bf,rfl,bi,_,N,C⟩:=LI ix' eb;have G:EnvIs K (λ_=>False) H2 (ZI n ix s) (ZY n ix F):=(env.mono (s1.trans (f.trans s2))).comp;have j:=G.setAll (is:=T.slots) (Mk n ix s F) bi λp d=>(nx p (N p d)).2;refine C _ _ ⟨Vi hT,λ_=>False,_,c,hd H2,j,et,λH3 g=>?_⟩;rcases U with⟨rfl,y',zs,ey,Z,rfl⟩ | ⟨rfl,Z⟩
  ·refine AM ?_;refine⟨_,y',j.mono g,ey,λv H4 f4 Y i4 d4 W=>?_⟩;refine⟨f.trans (s2.trans (g.trans Y)),w++[y'],zs,A++f4,by rw[fj];rfl,by rw[bA];simp;exact D,by rw[hr];exact Z,(P.mono (s2.trans (g.trans Y))).append (Iss.one i4),eh.mpr ⟨X,d4,λa B b hb z=>?_⟩,λp d=>?_⟩
   ·subst z;exact Xf (Same.mut (s2.trans g) (o a B).2) (W a hb).1
   ·rcases b6.mp d with h | h
    ·exact⟨(o p h).1,Same.mut (s2.trans (g.trans Y)) (o p h).2⟩
    ·exact⟨Same.off (f.trans (s2.trans g)) (W p h).1,(W p h).2⟩
  ·refine AL ?_;exact⟨f.trans (s2.trans g),w,Ym,A,rfl,gC D,by rw[hr];exact Z,P.mono (s2.trans g),X,λp d=>⟨(o p d).1,Same.mut (s2.trans g) (o p d).2⟩⟩
end
noncomputable def Aa(X:Cx)(kr:List av)(f:XT):Prop:=Lp X kr (Mc X.K f)
section
variable {X:Cx} {tg ku iter c:av} {kr:List av} {scope:dM} {pos:eu} {fi:XL} {T:Tgt} {ft:XT} {fe:XE}
theorem ZW:Aa X [] Zy:=λa s b H Q I ⟨g,f,c,d,env,e,k⟩=>by cases e;exact Ed a s b H Q I (k H (Same.refl H))
theorem OZ(h:VT X c ft):Aa X [c] ft:=Ee h
theorem YN(own fr:List ao)(ix:List Nat)(b:X.calm=aC)(f:VI X tg iter fi)(S:VU X.N X.env.scope scope own fr ix=aC)
  (h:∀cl C s H a,PG (ZG X (own++fr) scope cl C s H a) tg (gT X.K T)) (g:∀cl C s H a,Aa (ZG X (own++fr) scope cl C s H a) kr ft) (d:∀cl C s H a,VE (ZG X (own++fr) scope cl C s H a) ku fe)
  (e:∀i∈T.slots,i<own.length:=by decide) (c:∀x,bY iter X.env x=pure x:=by intro _;rfl):VE X (.ListComp ku [⟨tg,iter,kr,0⟩] scope pos) (Zq own.length ix fi T ft fe):=
 PE.imp (N8 own fr ix b f S h (λcl C s H a=>(show Lp (ZG X (own++fr) scope cl C s H a) kr (Mc X.K ft) from g cl C s H a)) (λcl C s H a=>(show PE (ZG X (own++fr) scope cl C s H a) ku (tF X.K fe) from d cl C s H a)) c) (Ez e)
theorem Ws(own fr:List ao)(ix:List Nat)(b:X.calm=aC)(f:VI X tg iter fi)(S:VU X.N X.env.scope scope own fr ix=aC)
  (h:∀cl C s H a,PG (ZG X (own++fr) scope cl C s H a) tg (gT X.K T)) (g:∀cl C s H a,Aa (ZG X (own++fr) scope cl C s H a) kr ft) (d:∀cl C s H a,VM (ZG X (own++fr) scope cl C s H a) ku fe)
  (e:∀i∈T.slots,i<own.length:=by decide) (c:∀x,bY iter X.env x=pure x:=by intro _;rfl):VM X (.ListComp ku [⟨tg,iter,kr,0⟩] scope pos) (Zq own.length ix fi T ft fe):=
 PE.imp (N8 own fr ix b f S h (λcl C s H a=>(show Lp (ZG X (own++fr) scope cl C s H a) kr (Mc X.K ft) from g cl C s H a)) (λcl C s H a=>(show PE (ZG X (own++fr) scope cl C s H a) ku (tM X.K fe) from d cl C s H a)) c) (OY e)
end
noncomputable def WG(xs:List PV)(lo hi:Option Int):List PV:=(xs.drop (HT.sIx xs.length 0 lo)).take (HT.sIx xs.length xs.length hi-HT.sIx xs.length 0 lo)
theorem Iss.cut{H:Hp}{l:List PV}{g:List V}{f:List aJ}(lo e:Option Int)(h:Iss K H l g f):∃f1,Iss K H (WG l lo e) (JW g lo e) f1/\∀p∈f1,p∈f:=by unfold WG JW;rw[h.len];obtain⟨f1,a,b⟩:=h.drop (HT.sIx l.length 0 lo);obtain⟨f2,c,d⟩:=a.take (HT.sIx l.length l.length e-HT.sIx l.length 0 lo);exact⟨f2,c,λp i=>b p (d p i)⟩
abbrev XO:=ZF->Option (Option Int)
noncomputable def tFO(K:aD)(f:XO):TO:=λσ H Q=>∃(Rm:aJ->Prop) (s:ZF) (i:Option Int),(∀p,Rm p->Uz (H p))/\EnvIs K Rm H s σ/\f s=aA i/\∀H',Same H H'->Q i H'
noncomputable def VO(X:Cx)(e:Option av)(f:XO):Prop:=PO X e (tFO X.K f)
noncomputable def Ml:XO:=λ_=>aA none
noncomputable def U8(f:XE):XO:=λs=>match f s with | some (.int i)=>aA (aA i) | _=>none
noncomputable def Tj(x:PV)(lo hi:Option Int):Option PV:=match x with | .lst l=>aA (.lst (WG l lo hi)) | .cst l=>aA (.lst (WG l lo hi)) | _=>none
noncomputable def Sj(x:PV)(lo hi:Option Int):Option PV:=match x with | .tup l=>if HT.sIx l.length 0 lo=0/\HT.sIx l.length l.length hi=l.length then none else aA (.tup (WG l lo hi)) | _=>none
noncomputable def Qt(g:PV->Option Int->Option Int->Option PV)(a:XE)(lo hi:XO):XE:=λs=>(a s).bind λx=>(lo s).bind λl=>(hi s).bind λu=>g x l u
section
variable {X:Cx} {e:av} {lo hi:Option av} {p2 pos:eu} {fa:XE} {fl fh:XO}
theorem X6:VO X none Ml:=λa s b H Q I ⟨f,d,i,c,env,e,k⟩=>by cases e;exact F8 a s b H Q I (k H (Same.refl H))
theorem Xi{e:av}(h:VE X e fa):VO X (aA e) (U8 fa):=λf s g H Q I ⟨m,d,i,b,env,e,k⟩=>by
 unfold U8 at e;split at e
 ·cases e;rename_i j l;exact F9 h f s g H Q I ⟨m,d,.int j,b,env,l,λv c o a i n=>⟨j,i.int_inv.1,k c a⟩⟩
 ·cases e
theorem Wc(w:VE X e fa)(A:VO X lo fl)(C:VO X m fh):VE X (.Subscript e (.Slice lo m none p2) pos) (Qt Tj fa fl fh):=PE.imp (N3 Eb w A C) λF H Q ⟨o,s,l,j,env,e,k⟩=>by
 obtain⟨x,B,e⟩:=Ze e;obtain⟨a,y,e⟩:=Ze e;obtain⟨b,D,e⟩:=Ze e;refine⟨o,s,x,j,env,B,λv L J s1 u t=>⟨o,s,a,λp h=>Same.mut s1 (j p h),env.mono s1,y,λE s2=>⟨o,s,b,λp h=>Same.mut (s1.trans s2) (j p h),env.mono (s1.trans s2),D,λI i=>?_⟩⟩⟩
 cases x with
 | lst l=>
  cases e;obtain⟨p,n,G,rfl,h,m,rfl⟩:=(u.mono (s2.trans i)).lst_inv;obtain⟨f1,c,d⟩:=m.cut a b;refine⟨p,n,rfl,SqL.of h,λq f=>k _ _ (q::f1) (s1.trans (s2.trans (i.trans (Same.new f _)))) (Is.lst Zt (c.mono (Same.new f _))) λr g z=>?_⟩;rcases a9.mp g with rfl | g
  ·exact Xf (Same.mut (s1.trans (s2.trans i)) (j r z)) f
  ·exact t r (aT _ (d r g)) z
 | cst l=>
  cases e;obtain⟨p,n,rfl,h,m⟩:=(u.mono (s2.trans i)).cst_inv;obtain⟨f1,c,d⟩:=m.cut a b;refine⟨p,n,rfl,h.sq,λq f=>k _ _ (q::f1) (s1.trans (s2.trans (i.trans (Same.new f _)))) (Is.lst Zt (c.mono (Same.new f _))) λr g z=>?_⟩;rcases a9.mp g with rfl | g
  ·exact Xf (Same.mut (s1.trans (s2.trans i)) (j r z)) f
  ·exact t r (d r g) z
 | _=>cases e
theorem Ur(o:VE X e fa)(u:VO X lo fl)(A:VO X g fh):VE X (.Subscript e (.Slice lo g none p2) pos) (Qt Sj fa fl fh):=PE.imp (N3 C6 o u A) λF H Q ⟨j,s,l,h,env,e,k⟩=>by
 obtain⟨x,z,e⟩:=Ze e;obtain⟨a,t,e⟩:=Ze e;obtain⟨b,D,e⟩:=Ze e;refine⟨j,s,x,h,env,z,λv J I s1 C w=>⟨j,s,a,λp f=>Same.mut s1 (h p f),env.mono s1,t,λE s2=>⟨j,s,b,λp f=>Same.mut (s1.trans s2) (h p f),env.mono (s1.trans s2),D,λG n=>?_⟩⟩⟩
 cases x with
 | tup l=>
  unfold Sj at e;simp only at e;split at e
  ·cases e
  ·rename_i i;cases e;obtain⟨p,y,rfl,f,g⟩:=(C.mono (s2.trans n)).tup_inv;obtain⟨f1,c,d⟩:=g.cut a b;refine⟨p,y,rfl,SqT.of f,by rw[g.len];exact i,λq m=>k _ _ f1 (s1.trans (s2.trans (n.trans (Same.new m _)))) (Is.tup Zt (c.mono (Same.new m _))) λr B=>w r (d r B)⟩
 | _=>cases e
end
end VL
namespace VL
open PySem PySem.Spec PyProof.Rows L2
variable {K:aD}
structure Rel(K:aD)(O:List Nat)(H0:Hp)(fps:Nat->List aJ)(s:ZF)(σ:S9)(H:Hp):Prop where
 same:Same H0 H
 len:s.length=σ.length
 is:∀(i:Nat) l,s[i]?=aA (aA l)->∃v,σ[i]?=aA (aA v)/\Is K H l v (fps i)
 emp:∀(i:Nat),(∀l,s[i]?≠aA (aA l))->fps i=[]
 nd:∀i∈O,(fps i).Nodup
 own:∀i∈O,∀p∈fps i,H0 p=none/\Uz (H p)
 dis:∀i∈O,∀j,j≠i->∀p∈fps i,p∉fps j
noncomputable def Ow(O:List Nat)(fps:Nat->List aJ)(p:aJ):Prop:=∃i∈O,p∈fps i
noncomputable def YW(O:List Nat)(s:ZF):ZF:=O.foldl (λs i=>s.set i none) s
theorem Qu:∀{O:List Nat}{s:ZF}{i:Nat}{l:PV},(YW O s)[i]?=aA (aA l)->i∉O/\s[i]?=aA (aA l)
 | [],s,i,l,h=>⟨by simp,h⟩
 | o::O,s,i,l,h=>by
  obtain⟨b,a⟩:=Qu (O:=O) (s:=s.set o none) h;rw[au] at a;by_cases e:o=i
  ·rw[kz e] at a;split at a<;>cases a
  ·rw[l4 e] at a;exact⟨by simp only[a9,not_or];exact⟨λz=>e z.symm,b⟩,a⟩
section
variable {O:List Nat} {H0 H H':Hp} {fps:Nat->List aJ} {s:ZF} {σ:S9}
theorem Rel.at(r:Rel K O H0 fps s σ H)(i:Nat){p:aJ}(c:p∈fps i):∃l v,s[i]?=aA (aA l)/\σ[i]?=aA (aA v)/\Is K H l v (fps i):=by
 cases q:s[i]? with
 | none=>rw[r.emp i (λl z=>by rw[q] at z;cases z)] at c;simp at c
 | some o=>cases o with
  | none=>rw[r.emp i (λl z=>by rw[q] at z;cases z)] at c;simp at c
  | some l=>
   obtain⟨v,a,b⟩:=r.is i l q;exact⟨l,v,rfl,a,b⟩
theorem Rel.dom(r:Rel K O H0 fps s σ H)(i:Nat):∀p∈fps i,H p≠none:=λp a=>by obtain⟨l,v,_,_,b⟩:=r.at i a;exact Is.dom _ _ _ b p a
theorem Rel.env(r:Rel K O H0 fps s σ H):EnvIs K (λ_=>False) H s σ:=⟨λi l e=>by
 obtain⟨v,a,b⟩:=r.is i l e;exact⟨v,_,a,b,λ_ _ z=>z⟩⟩
theorem Rel.envO(r:Rel K O H0 fps s σ H):EnvIs K (Ow O fps) H (YW O s) σ:=⟨λi l e=>by
 obtain⟨n,e⟩:=Qu e;obtain⟨v,a,b⟩:=r.is i l e;exact⟨v,_,a,b,λp f ⟨j,d,c⟩=>r.dis j d i (λz=>n (z▸d)) p c f⟩⟩
theorem Rel.owMut(r:Rel K O H0 fps s σ H):∀p,Ow O fps p->Uz (H p):=λp ⟨i,b,a⟩=>(r.own i b p a).2
theorem Rel.grow(r:Rel K O H0 fps s σ H)(e:Same H H'):Rel K O H0 fps s σ H':=
 ⟨r.same.trans e,r.len,λi l q=>by obtain⟨v,a,b⟩:=r.is i l q;exact⟨v,a,b.mono e⟩,r.emp,r.nd,λi d p c=>⟨(r.own i d p c).1,Same.mut e (r.own i d p c).2⟩,r.dis⟩
theorem Rel.less{F:Hp}(r:Rel K O F fps s σ H)(e:Same H0 F):Rel K O H0 fps s σ H:=
 ⟨e.trans r.same,r.len,r.is,r.emp,r.nd,λi b p a=>⟨Same.off e (r.own i b p a).1,(r.own i b p a).2⟩,r.dis⟩
open Classical in
noncomputable def VJ(H:Hp)(Rm:aJ->Prop):Hp:=λb=>if Rm b then none else H b
theorem Oe{a:aJ->Prop}:Same (VJ H a) H:=λb o h=>by
 unfold VJ at h;split at h
 ·cases h
 ·exact h
theorem Rel.frame(r:Rel K O H0 fps s σ H):Rel K O (VJ H (Ow O fps)) fps s σ H:=
 ⟨Oe,r.len,r.is,r.emp,r.nd,λi b p a=>⟨by unfold VJ;rw[kz ⟨i,b,a⟩],(r.own i b p a).2⟩,r.dis⟩
theorem Rel.under(r:Rel K O H0 fps s σ H):Same H0 (VJ H (Ow O fps)):=λb o h=>by unfold VJ;rw[l4 (λ⟨i,c,a⟩=>by rw[(r.own i c b a).1] at h;cases h)];exact r.same b o h
open Classical in
noncomputable def Tn(fps:Nat->List aJ)(n:Nat)(i:Nat)(fp:List aJ):Nat->List aJ:=λj=>if j=i/\i<n then fp else fps j
theorem ZU{n i j:Nat}{a:List aJ}(h:j≠i):Tn fps n i a j=fps j:=by unfold Tn;rw[l4 (λz=>h z.1)]
theorem O0{n i:Nat}{a:List aJ}(h:i<n):Tn fps n i a i=a:=by unfold Tn;rw[kz ⟨rfl,h⟩]
theorem Rel.set(r:Rel K O H0 fps s σ H){i:Nat}{l:PV}{v:V}{f:List aJ}(y:Is K H l v f)(o:i∈O->f.Nodup/\∀p∈f,H0 p=none/\Uz (H p))
  (q:∀j,j≠i->(j∈O\/i∈O)->∀p∈f,p∉fps j):Rel K O H0 (Tn fps s.length i f) (s.set i (aA l)) (σ.set i (aA v)) H:=by
 by_cases c:i<s.length
 ·have g:Tn fps s.length i f i=f:=O0 c;refine⟨r.same,by rw[cK,cK];exact r.len,λj a e=>?_,λj h=>?_,λj b=>?_,λj b p d=>?_,λj b k n p d=>?_⟩
  ·rw[au] at e;by_cases b:i=j
   ·subst b;rw[kz rfl,kz c] at e;cases e;rw[g];exact⟨v,by rw[au,kz rfl,kz (by rw[<-r.len];exact c)],y⟩
   ·rw[l4 b] at e;obtain⟨w,t,x⟩:=r.is j a e;rw[ZU (aw b)];exact⟨w,by rw[au,l4 b];exact t,x⟩
  ·by_cases b:i=j
   ·subst b;exact absurd (by rw[au,kz rfl,kz c]) (h l)
   ·rw[ZU (aw b)];exact r.emp j λa z=>h a (by rw[au,l4 b];exact z)
  ·by_cases e:j=i
   ·subst e;rw[g];exact(o b).1
   ·rw[ZU e];exact r.nd j b
  ·by_cases e:j=i
   ·subst e;rw[g] at d;exact(o b).2 p d
   ·rw[ZU e] at d;exact r.own j b p d
  ·by_cases e:j=i
   ·subst e;rw[g] at d;rw[ZU n];exact q k n (.inr b) p d
   ·rw[ZU e] at d;by_cases m:k=i
    ·subst m;rw[g];exact λz=>q j e (.inl b) p z d
    ·rw[ZU m];exact r.dis j b k n p d
 ·have g:s.set i (aA l)=s:=iA (by omega);have m:σ.set i (aA v)=σ:=iA (by rw[<-r.len];omega);have u:Tn fps s.length i f=fps:=by funext j;unfold Tn;rw[l4 (λz=>c z.2)]
  rw[g,m,u];exact r
theorem Rel.mutate(r:Rel K O H0 fps s σ H){i:Nat}(t:i∈O){p:aJ}(m:p∈fps i){o:HO}{l':PV}{v:V}{fp':List aJ}(E:σ[i]?=aA (aA v))(f:i<s.length)
  (I:Is K (upd H p o) l' v fp') (L:fp'.Nodup) (G:∀q∈fp',H0 q=none/\Uz (upd H p o q)) (A:∀j,j≠i->∀q∈fp',q∉fps j) (B:Uz (aA o)):Rel K O H0 (Tn fps s.length i fp') (s.set i (aA l')) σ (upd H p o):=by
 have g:=(r.own i t p m).2;have M:=(r.own i t p m).1;have l:Tn fps s.length i fp' i=fp':=O0 f
 have tk:Ek H (upd H p o):=⟨λb F h=>by
  rw[upd_ne (λz=>by rw[z] at h;rw[h] at g;exact g)];exact h,λb o F h=>by
  rw[upd_ne (λz=>by rw[z] at h;rw[h] at g;exact g)];exact h,λb o x h=>by
  rw[upd_ne (λz=>by rw[z] at h;rw[h] at g;exact g)];exact h⟩
 refine⟨λb u h=>by rw[upd_ne (Zu h M)];exact r.same b u h,by rw[cK];exact r.len,λj a e=>?_,λj h=>?_,λj c=>?_,λj c q d=>?_,λj c k n q d=>?_⟩
 ·rw[au] at e;by_cases c:i=j
  ·subst c;rw[kz rfl,kz f] at e;cases e;rw[l];exact⟨v,E,I⟩
  ·rw[l4 c] at e;obtain⟨w,C,J⟩:=r.is j a e;rw[ZU (aw c)];refine⟨w,C,Is.tr tk _ _ _ (λq d=>RdK.of λu D=>?_) J⟩;have ne:q≠p:=λz=>r.dis i t j (aw c) p m (z▸d);rw[upd_ne ne];exact D
 ·by_cases c:i=j
  ·subst c;exact absurd (by rw[au,kz rfl,kz f]) (h l')
  ·rw[ZU (aw c)];exact r.emp j λa z=>h a (by rw[au,l4 c];exact z)
 ·by_cases e:j=i
  ·subst e;rw[l];exact L
  ·rw[ZU e];exact r.nd j c
 ·by_cases e:j=i
  ·subst e;rw[l] at d;exact G q d
  ·rw[ZU e] at d;refine⟨(r.own j c q d).1,?_⟩;have ne:q≠p:=λz=>r.dis j c i (aw e) q d (z▸m);rw[upd_ne ne];exact(r.own j c q d).2
 ·by_cases e:j=i
  ·subst e;rw[l] at d;rw[ZU n];exact A k n q d
  ·rw[ZU e] at d;by_cases y:k=i
   ·subst y;rw[l];exact λz=>A j e q z d
   ·rw[ZU y];exact r.dis j c k n q d
end
noncomputable def Kep(a b:List aJ):Prop:=a=b\/a=[]
theorem Kep.refl(a:List aJ):Kep a a:=.inl rfl
theorem Kep.trans{a b c:List aJ}(h:Kep a b)(k:Kep b c):Kep a c:=by
 rcases h with rfl | h
 ·exact k
 ·exact .inr h
inductive LJ where
 | nx (s:ZF) | rt (l:PV) | bk (s:ZF) | ct (s:ZF)
abbrev XS:=ZF->Option LJ
noncomputable def OutOk(K:aD)(O W:List Nat)(H0:Hp)(fps:Nat->List aJ)(σ:S9)(D:Y0):LJ->Prop
 | .nx s'=>∀kq σ' H',Rel K O H0 kq s' σ' H'->(∀j,j∉W->σ'[j]?=σ[j]?/\Kep (kq j) (fps j))->D.nx σ' H'
 | .bk s'=>∀kq σ' H',Rel K O H0 kq s' σ' H'->(∀j,j∉W->σ'[j]?=σ[j]?/\Kep (kq j) (fps j))->D.bk σ' H'
 | .ct s'=>∀kq σ' H',Rel K O H0 kq s' σ' H'->(∀j,j∉W->σ'[j]?=σ[j]?/\Kep (kq j) (fps j))->D.ct σ' H'
 | .rt l=>∀v fp H',Same H0 H'->Is K H' l v fp->fp.Nodup->(∀p∈fp,H0 p=none/\Uz (H' p))->D.rt v H'
noncomputable def Ac(K:aD)(O W:List Nat)(f:XS):TS:=λD σ H=>∃H0 fps s out,Rel K O H0 fps s σ H/\f s=aA out/\OutOk K O W H0 fps σ D out
noncomputable def VS(X:Cx)(O W:List Nat)(st:b7)(f:XS):Prop:=PS X st (Ac X.K O W f)
noncomputable def Ha(X:Cx)(O W:List Nat)(st:List b7)(f:XS):Prop:=PSs X st (Ac X.K O W f)
theorem OutOk.same{O W m:List Nat}{o:Hp}{fps c:Nat->List aJ}{n i:S9}{D:Y0}{d:LJ}(h:OutOk K O m o fps n D d)(k:∀j,j∉m->i[j]?=n[j]?/\Kep (c j) (fps j))(e:∀j,j∉m->j∉W):OutOk K O W o c i D d:=by
 cases d with
 | nx s'=>exact λf b g r q=>h f b g r λj a=>⟨(q j (e j a)).1.trans (k j a).1,(q j (e j a)).2.trans (k j a).2⟩
 | bk s'=>exact λf b g r q=>h f b g r λj a=>⟨(q j (e j a)).1.trans (k j a).1,(q j (e j a)).2.trans (k j a).2⟩
 | ct s'=>exact λf b g r q=>h f b g r λj a=>⟨(q j (e j a)).1.trans (k j a).1,(q j (e j a)).2.trans (k j a).2⟩
 | rt l=>exact h
theorem OutOk.less{O W:List Nat}{j F:Hp}{fps:Nat->List aJ}{g:S9}{D:Y0}{c:LJ}(h:OutOk K O W j fps g D c)(e:Same j F):OutOk K O W F fps g D c:=by
 cases c with
 | nx s'=>exact λf a b r q=>h f a b (r.less e) q
 | bk s'=>exact λf a b r q=>h f a b (r.less e) q
 | ct s'=>exact λf a b r q=>h f a b (r.less e) q
 | rt l=>exact λv o b m i d n=>h v o b (e.trans m) i d λp k=>⟨Same.off e (n p k).1,(n p k).2⟩
noncomputable def YE:XS:=λs=>aA (.nx s)
noncomputable def Zn(f g:XS):XS:=λs=>(f s).bind λo=>match o with | .nx s'=>g s' | r=>aA r
noncomputable def RD(c:XT)(f g:XS):XS:=λs=>(c s).bind λk=>if k=aC then f s else g s
noncomputable def ZO(f:XE):XS:=λs=>(f s).map .rt
noncomputable def Zs(i:Nat)(f:XE):XS:=λs=>(f s).map λl=>.nx (s.set i (aA l))
section
variable {X:Cx} {O W W1 W2:List Nat} {st:b7} {Ym:List b7} {f g:XS} {pos:eu}
theorem PS.imp{t t':TS}(h:PS X st t)(i:∀D a H,t' D a H->t D a H):PS X st t':=λb s a H D I q=>h b s a H D I (i D a H q)
theorem PSs.imp{t t':TS}(h:PSs X Ym t)(i:∀D a H,t' D a H->t D a H):PSs X Ym t':=λb s a H D I q=>h b s a H D I (i D a H q)
theorem HJ:∀D a H,Ac K O W YE D a H->DR D a H:=λD a H ⟨c,fps,s,b,r,e,k⟩=>by cases e;exact k fps a H r λj _=>⟨rfl,Kep.refl _⟩
theorem Y4:Ha X O [] [] YE:=PSs.imp FV HJ
theorem Zi(h:VS X O W st f):Ha X O W [st] f:=KG h
theorem Zd(u:VS X O W1 st f)(y:Ha X O W2 Ym g):Ha X O (W1++W2) (st::Ym) (Zn f g):=PSs.imp (NZ u y) λD B H ⟨t,fps,s,p,r,e,k⟩=>by
 obtain⟨q,x,e⟩:=Ze e;have a:∀j,j∉W1++W2->j∉W1:=λj b z=>b (bX _ z);have h:∀j,j∉W1++W2->j∉W2:=λj b z=>b (af _ z);refine⟨t,fps,s,q,r,x,?_⟩
 cases q with
 | nx s1=>
  intro d w C A v;exact⟨t,d,s1,p,A,e,k.same (λj b=>v j (a j b)) h⟩
 | bk s1=>cases e;exact λi c n m o=>k i c n m λj b=>o j (a j b)
 | ct s1=>cases e;exact λi c n m o=>k i c n m λj b=>o j (a j b)
 | rt l=>cases e;exact k
theorem VF{c:av}{a b:List b7}{m:XT}(t:VT X c m)(o:Ha X O W1 a f)(p:Ha X O W2 b g):VS X O (W1++W2) (.If c a b pos) (RD m f g):=PS.imp (Aq t o p) λD u H ⟨n,fps,s,i,r,e,k⟩=>by
 obtain⟨c,q,e⟩:=Ze e;have d:∀j,j∉W1++W2->j∉W1:=λj l z=>l (bX _ z);have h:∀j,j∉W1++W2->j∉W2:=λj l z=>l (af _ z);refine⟨λ_=>False,s,c,λ_ z=>z.elim,r.env,q,λv s1=>?_⟩
 cases c with
 | true=>
  exact⟨n,fps,s,i,r.grow s1,e,k.same (λj _=>⟨rfl,Kep.refl _⟩) d⟩
 | false=>
  exact⟨n,fps,s,i,r.grow s1,e,k.same (λj _=>⟨rfl,Kep.refl _⟩) h⟩
theorem Zw{e:av}{a:XE}(h:VM X e a):VS X O [] (.Return (aA e) pos) (ZO a):=PS.imp (Ld h) λD o H ⟨q,fps,s,m,r,e,k⟩=>by obtain⟨l,g,rfl⟩:=map_some e;exact⟨s,l,r.env,g,λv f j c i d n=>k v j f (r.same.trans c) i d λp b=>⟨Same.off r.same (n p b).1,(n p b).2⟩⟩
theorem RE{e:av}{i:Nat}(d:PE X e (Po i))(c:i∈O:=by decide):VS X O [] (.Return (aA e) pos) (ZO (Za i)):=PS.imp (Ld d) λD h H ⟨j,fps,s,g,r,e,k⟩=>by obtain⟨l,f,rfl⟩:=map_some e;obtain⟨v,a,b⟩:=r.is i l (Ob f);exact⟨v,a,k v _ H r.same b (r.nd i c) (r.own i c)⟩
theorem K4{t:TE}{i:Nat}{c:XE}(o:∀a H Q,tM K c a H Q->t a H Q):∀D a H,Ac K O [i] (Zs i c) D a H->Lf t (U9 i) D a H:=λD a H ⟨u,fps,s,q,r,e,k⟩=>by
 obtain⟨l,h,rfl⟩:=map_some e;refine o a H _ ⟨s,l,r.env,h,λv g w f is d n=>?_⟩;refine k _ _ g ((r.grow f).set is (λ_=>⟨d,λp b=>⟨Same.off r.same (n p b).1,(n p b).2⟩⟩) λj _ _ p b z=>r.dom j p z (n p b).1) λj m=>?_;have:j≠i:=by simpa using m
 exact⟨by rw[au,l4 (aw this)],.inl (ZU this)⟩
theorem BC{i:Nat}{x:ao}{e:av}{b:XE}{a:eu}(j:X.N.Nodup)(k:X.N[i]?=aA x)(c:FP X.env.scope x)(f:VM X e b)(d:g9 e (aA (.Name x a)) pos.line X.env=pure aB:=by rfl)(g:X.fn x=aC\/X.env.scope.names.lookup x=aA .local:=by first | exact .inl rfl | exact .inr rfl | assumption) :
  VS X O [i] (.Assign [.Name x a] e pos) (Zs i b):=PS.imp (CS j k c f d g) (K4 λ_ _ _ h=>h)
end
noncomputable def VN(T:Tgt)(fb:XS):List PV->ZF->Option LJ
 | [],s=>aA (.nx s)
 | l::r,s=>(Xb T l s).bind λs1=>(fb s1).bind λo=>match o with | .nx s2=>VN T fb r s2 | .ct s2=>VN T fb r s2 | .bk s2=>aA (.nx s2) | .rt v=>aA (.rt v)
noncomputable def Xq(O:List Nat)(fi:XL)(T:Tgt)(fb:XS):XS:=λs=>(fi (YW O s)).bind λls=>VN T fb ls s
theorem Rel.setAll{O:List Nat}{m H:Hp}:∀{is:List Nat}{ls:List PV}{vs:List V}{fs:List aJ}{fps:Nat->List aJ}{s:ZF}{σ:S9},Rel K O m fps s σ H->Iss K H ls vs fs->ls.length=is.length->(∀i∈is,i∉O)->(∀i∈O,∀p∈fps i,p∉fs)->
  ∃h,Rel K O m h (VL.setAll is ls s) (YM is vs σ) H/\∀j,j∉is->(YM is vs σ)[j]?=σ[j]?/\Kep (h j) (fps j)
 | [],ls,vs,fs,fps,s,σ,r,_,_,_,_=>⟨fps,by unfold VL.setAll YM;exact r,λj _=>⟨by unfold YM;rfl,Kep.refl _⟩⟩
 | i::is,[],vs,fs,fps,s,σ,r,_,hl,_,_=>by simp at hl
 | i::is,l::ls,vs,fs,fps,s,σ,r,hi,hl,hO,hd=>by
  obtain⟨x,v,f1,f2,rfl,n,q,rfl⟩:=hi.inv;have g:=hO i aZ
  have t:=r.set (i:=i) n (λz=>absurd z g) λj f c p k z=>by
   rcases c with c | c
   ·exact hd j c p z (bX _ k)
   ·exact absurd c g
  obtain⟨h,u,o⟩:=Rel.setAll (is:=is) t q (by simpa using hl) (λj f=>hO j (aT _ f)) λj f p k z=>by have d:j≠i:=λe=>g (by rw[<-e];exact f);rw[ZU d] at k;exact hd j f p k (af _ z)
  refine⟨h,u,λj f=>?_⟩;have d:j≠i:=λe=>f (e▸aZ);obtain⟨a,b⟩:=o j (λz=>f (aT _ z));exact⟨a.trans (by rw[au,l4 (aw d)]),b.trans (.inl (ZU d))⟩
section
variable {O W:List Nat} {T:Tgt} {fb:XS}
theorem HK{G:Hp}{fps:Nat->List aJ}{s:ZF}{I:S9}{D:Y0}{J:It}{ls:List PV}{u:LJ}(r:Rel K O (VJ G (Ow O fps)) fps s I G)(C:JIs K (Ow O fps) G J ls)(e:VN T fb ls s=aA u)(hT:∀i∈T.slots,i∉O)
  (k:OutOk K O (T.slots++W) (VJ G (Ow O fps)) fps I D u):Zbx (gT K T) (Ac K O W fb) D I J G:=by
 have w:∀j,j∉T.slots++W->j∉T.slots:=λj a z=>a (bX _ z);have d:∀j,j∉T.slots++W->j∉W:=λj a z=>a (af _ z)
 refine⟨λi m t H=>m=ls.length-i/\i<=ls.length/\∃R Y,Rel K O (VJ G (Ow O fps)) R Y t H/\VN T fb (ls.drop i) Y=aA u/\∀j,j∉T.slots++W->t[j]?=I[j]?/\Kep (R j) (fps j),
  ⟨ls.length,by simp,cO _,fps,s,r,e,λj _=>⟨rfl,Kep.refl _⟩⟩,?_⟩
 rintro i m t H ⟨rfl,hi,R,Y,S,g,Z⟩;have ab:=λb o h n=>S.same b o (by unfold VJ;rw[l4 n];exact h)
 cases q:ls.drop i with
 | nil=>
  have hil:i=ls.length:=by have:=congrArg gR q;simp at this;omega
  subst hil;rw[q] at g;cases g;exact .inl ⟨C.stop H ab,k R t H S Z⟩
 | cons l rr=>
  obtain⟨X,hr⟩:=Qs q;have Q:=(aR.mp X).1;rw[q] at g;obtain⟨sb,eb,g⟩:=Ze g;obtain⟨o,eo,g⟩:=Ze g
  refine .inr ⟨C.go H i l ab X,λF U=>∃fps2 s2,Rel K O (VJ G (Ow O fps)) fps2 s2 F U/\VN T fb (ls.drop (i+1)) s2=aA u/\∀j,j∉T.slots++W->F[j]?=I[j]?/\Kep (fps2 j) (fps j),
   λF U h2=>⟨ls.length-(i+1),by omega,rfl,Q,h2⟩,λx U y=>?_⟩
  obtain⟨s2,fx,ix,nx⟩:=C.yld H i l x U ab X y;obtain⟨bl,bv,bf,rfl,bi,M,L,N⟩:=LI ix eb;obtain⟨B,r3,q3⟩:=Rel.setAll (S.grow s2) bi M hT λj a p hp z=>by obtain⟨n1,n2⟩:=nx p (L p z);have:=(S.own j a p hp).1;unfold VJ at this;rw[l4 n2] at this;exact n1 this
  refine N _ _ ⟨_,B,_,o,r3,eo,?_⟩;have c:∀j,j∉T.slots++W->(YM T.slots bv t)[j]?=I[j]?/\Kep (B j) (fps j):=λj a=>⟨(q3 j (w j a)).1.trans (Z j a).1,(q3 j (w j a)).2.trans (Z j a).2⟩
  cases o with
  | nx s4=>exact λf E H4 P A=>⟨f,s4,P,by rw[hr];exact g,λj a=>⟨(A j (d j a)).1.trans (c j a).1,(A j (d j a)).2.trans (c j a).2⟩⟩
  | ct s4=>exact λf E H4 P A=>⟨f,s4,P,by rw[hr];exact g,λj a=>⟨(A j (d j a)).1.trans (c j a).1,(A j (d j a)).2.trans (c j a).2⟩⟩
  | bk s4=>
   cases g;exact λf E H4 P A=>k f E H4 P λj a=>⟨(A j (d j a)).1.trans (c j a).1,(A j (d j a)).2.trans (c j a).2⟩
  | rt v=>
   cases g;exact k
end
section
variable {X:Cx} {O W:List Nat} {tg iter:av} {body:List b7} {fi:XL} {T:Tgt} {fb:XS} {pos:eu}
theorem BD(h:jK (model X.prog X.w) X.A X.env X.xe)(g:X.calm=aC)(j:VI X tg iter fi)(d:PG X tg (gT X.K T))(c:Ha X O W body fb)(l:∀i∈T.slots,i∉O:=by decide)
  (b:∀x,bY iter X.env x=pure x:=by intro _;rfl):VS X O (T.slots++W) (.For tg iter body [] pos) (Xq O fi T fb):=PS.imp (CV h g j d c b) λD n H ⟨p,fps,s,m,r,e,k⟩=>by
 obtain⟨ls,f,e⟩:=Ze e;refine⟨Ow O fps,YW O s,ls,r.owMut,r.envO,f,λJ o s1 a=>?_⟩;exact HK (r.grow s1).frame a e l (k.less (r.grow s1).under)
end
noncomputable def Yt(c:XT)(fb:XS):Nat->ZF->Option LJ
 | 0,_=>none
 | n+1,s=>(c s).bind λk=>if k=aC then(fb s).bind λo=>match o with | .nx s2=>Yt c fb n s2 | .ct s2=>Yt c fb n s2 | .bk s2=>aA (.nx s2) | .rt v=>aA (.rt v) else aA (.nx s)
theorem VZ{c:XT}{fb:XS}:∀{n:Nat}{s:ZF}{o:LJ},Yt c fb n s=aA o->Yt c fb (n+1) s=aA o
 | 0,_,_,h=>by cases h
 | n+1,s,o,h=>by
  unfold Yt at h ⊢;obtain⟨k,b,h⟩:=Ze h;rw[b]
  cases k with
  | false=>exact h
  | true=>
   rw[kz rfl] at h;obtain⟨a,d,h⟩:=Ze h;simp only[aY,if_true,d]
   cases a with
   | nx s2=>exact VZ h
   | ct s2=>exact VZ h
   | bk s2=>exact h
   | rt v=>exact h
theorem Of{c:XT}{fb:XS}{n m:Nat}{s:ZF}{o:LJ}(h:Yt c fb n s=aA o)(a:n<=m):Yt c fb m s=aA o:=by
 induction m with
 | zero=>
  have:n=0:=by omega
  subst this;exact h
 | succ m ih=>
  by_cases e:n=m+1
  ·subst e;exact h
  ·exact VZ (ih (by omega))
open Classical in
noncomputable def Xr(c:XT)(fb:XS):XS:=λs=>if h:∃n,(Yt c fb n s).isSome=aC then Yt c fb h.choose s else none
theorem Og{c:XT}{fb:XS}{n:Nat}{s:ZF}{o:LJ}(h:Yt c fb n s=aA o):Xr c fb s=aA o:=by
 have b:∃n,(Yt c fb n s).isSome=aC:=⟨n,by rw[h];rfl⟩;unfold Xr;rw[dif_pos b];obtain⟨d,e⟩:=bc.mp b.choose_spec;rw[e];rcases Nat.le_total n b.choose with a | a
 ·rw[Of h a] at e;exact e.symm
 ·rw[Of e a] at h;exact h
section
variable {X:Cx} {O W:List Nat} {c:av} {body:List b7} {fc:XT} {fb:XS} {pos:eu}
theorem V0(N:jK (model X.prog X.w) X.A X.env X.xe)(L:VT X c fc)(G:Ha X O W body fb):VS X O W (.While c body [] pos) (Xr fc fb):=PS.imp (Hi N L G) λD E H ⟨B,fps,s,w,r,e,k⟩=>by
 unfold Xr at e;split at e
 case isFalse=>cases e
 rename_i F;generalize F.choose=n at e;refine⟨λm g C=>∃q t,Rel X.K O B q t g C/\Yt fc fb m t=aA w/\∀j,j∉W->g[j]?=E[j]?/\Kep (q j) (fps j),⟨n,fps,s,r,e,λj _=>⟨rfl,Kep.refl _⟩⟩,?_⟩;rintro m g C ⟨q,t,y,f,l⟩
 cases m with
 | zero=>cases f
 | succ m=>
  obtain⟨b,I,f⟩:=Ze f;refine⟨λ_=>False,t,b,λ_ z=>z.elim,y.env,I,λx s2=>?_⟩
  cases b with
  | false=>
   cases f;exact k q g x (y.grow s2) l
  | true=>
   obtain⟨o,M,f⟩:=Ze f;refine⟨λp x=>∃fps2 s2,Rel X.K O B fps2 s2 p x/\Yt fc fb m s2=aA w/\∀j,j∉W->p[j]?=E[j]?/\Kep (fps2 j) (fps j),λp x J=>⟨m,gM m,J⟩,B,q,t,o,y.grow s2,M,?_⟩
   cases o with
   | nx s4=>exact λa i A u h=>⟨a,s4,u,f,λj d=>⟨(h j d).1.trans (l j d).1,(h j d).2.trans (l j d).2⟩⟩
   | ct s4=>exact λa i A u h=>⟨a,s4,u,f,λj d=>⟨(h j d).1.trans (l j d).1,(h j d).2.trans (l j d).2⟩⟩
   | bk s4=>
    cases f;exact λa i A u h=>k a i A u λj d=>⟨(h j d).1.trans (l j d).1,(h j d).2.trans (l j d).2⟩
   | rt v=>cases f;exact k
end
end VL
namespace VL
open PySem PySem.Spec PyProof.Rows L2
variable {K:aD}
section
variable {O:List Nat} {H0 H H':Hp} {fps:Nat->List aJ} {s:ZF} {σ:S9}
theorem Rel.lst_at(r:Rel K O H0 fps s σ H){i:Nat}(j:i∈O){m:List PV}(e:s[i]?=aA (aA (.lst m))):∃p d c,σ[i]?=aA (aA (.ref p))/\H p=aA (.lst d)/\Iss K H m d c/\fps i=p::c:=by obtain⟨v,a,b⟩:=r.is i _ e;obtain⟨p,d,c,rfl,h,f,g⟩:=b.lst_inv;exact⟨p,d,c,a,h,f,g⟩
theorem Sk{b:Type}{l:List b}{i:Nat}{a:b}(h:l[i]?=aA a):i<l.length:=(aR.mp h).1
theorem TK.upd'{p:aJ}{o:HO}(a:Uz (H p)):Ek H (L2.upd H p o):=⟨λb c h=>by
 rw[upd_ne (λz=>by rw[z] at h;rw[h] at a;exact a)];exact h,λb o c h=>by
 rw[upd_ne (λz=>by rw[z] at h;rw[h] at a;exact a)];exact h,λb o x h=>by
 rw[upd_ne (λz=>by rw[z] at h;rw[h] at a;exact a)];exact h⟩
theorem RdK.upd_ne{p q:aJ}{o:HO}(ne:q≠p):RdK H (L2.upd H p o) q:=RdK.of λu a=>by rw[L2.upd_ne ne];exact a
theorem Rel.relist(r:Rel K O H0 fps s σ H){i:Nat}(c:i∈O){m l:List PV}(e:s[i]?=aA (aA (.lst m))){p:aJ}{k b:List aJ}{d:List V}(g:fps i=p::k)(w:σ[i]?=aA (aA (.ref p)))
  (x:Iss K H l d b) (o:(p::b).Nodup) (u:∀q∈b,q∈k\/((H0 q=none/\Uz (H q))/\∀j,q∉fps j)):Rel K O H0 (Tn fps s.length i (p::b)) (s.set i (aA (.lst l))) σ (L2.upd H p (.lst d)):=by
 have f:p∈fps i:=by rw[g];exact aZ
 have v:=(r.own i c p f).2;have t:=(bK.mp o).1;refine r.mutate c f w (Sk e) (Is.lst Zt (Iss.tr (TK.upd' v) _ _ _ (λq a=>RdK.upd_ne λz=>t (z▸a)) x)) o (λq a=>?_) (λj n q a z=>?_) cw
 ·rcases a9.mp a with rfl | a
  ·exact⟨(r.own i c q f).1,by rw[Zt];exact cw⟩
  ·have ne:q≠p:=λz=>t (z▸a);rw[L2.upd_ne ne];rcases u q a with h | h
   ·exact r.own i c q (by rw[g];exact aT _ h)
   ·exact h.1
 ·rcases a9.mp a with rfl | a
  ·exact r.dis i c j n q f z
  ·rcases u q a with h | h
   ·exact r.dis i c j n q (by rw[g];exact aT _ h) z
   ·exact h.2 j z
end
noncomputable def K5(s:ZF)(i:Nat):Option (List PV):=match s[i]? with | some (aA (.lst m))=>aA m | _=>none
noncomputable def Hb:PV->Option Int
 | .int k=>aA k
 | _=>none
noncomputable def asL:PV->Option (List PV)
 | .lst k=>aA k
 | _=>none
theorem To{s:ZF}{i:Nat}{m:List PV}(h:K5 s i=aA m):s[i]?=aA (aA (.lst m)):=by
 unfold K5 at h;split at h
 ·cases h;assumption
 ·cases h
theorem Tp{a:PV}{k:Int}(h:Hb a=aA k):a = .int k:=by
 unfold Hb at h;split at h
 ·cases h;rfl
 ·cases h
theorem HL{a:PV}{k:List PV}(h:asL a=aA k):a = .lst k:=by
 unfold asL at h;split at h
 ·cases h;rfl
 ·cases h
noncomputable def gd(c:Bool):Option Unit:=if c=aC then aA () else none
theorem RF{c:Bool}{u:Unit}(h:gd c=aA u):c=aC:=by
 unfold gd at h;split at h
 ·assumption
 ·cases h
noncomputable def Wt(i:Nat)(f:XE):XS:=λs=>(f s).bind λl=>(K5 s i).bind λm=>(gd (decide (m.length<=10000))).bind λ_=>aA (.nx (s.set i (aA (.lst (m++[l])))))
noncomputable def Vj(i:Nat)(fk:XE)(f:XE):XS:=λs=>(fk s).bind λk=>(f s).bind λl=>(Hb k).bind λk=>(K5 s i).bind λm=>(gd (ZJ m&&Z9 l&&decide (0<=k/\k<=1000000/\m.length<=10000))).bind λ_=>aA (.nx (s.set i (aA (.lst (m.take k.toNat++l::m.drop k.toNat)))))
noncomputable def XG(i:Nat)(fk:XE)(f:XE):XS:=λs=>(f s).bind λl=>(fk s).bind λk=>(Hb k).bind λk=>(K5 s i).bind λm=>(gd (ZJ m&&Z9 l)).bind λ_=>(Pp m.length k).map λj=>.nx (s.set i (aA (.lst (m.set j l))))
section
variable {X:Cx} {O:List Nat} {i:Nat} {st:b7} {f fk:XE}
theorem tyL{H:Hp}{p:aJ}{a:List V}(h:H p=aA (.lst a)):tyV K "list" (.ref p) H:=.inl ⟨rfl,_,SqL.of h⟩
theorem K6{s:ZF}{a:S9}{fps:Nat->List aJ}{c:List aJ}:∀j,j∉[i]->a[j]?=a[j]?/\Kep (Tn fps s.length i c j) (fps j):=λj b=>⟨rfl,.inl (ZU (by simpa using b))⟩
theorem Oh(h:PS X st (KH (tBM X.K "list" KP (Po i) (R8 (tM X.K f) F2))))(o:i∈O:=by decide):VS X O [i] st (Wt i f):=PS.imp h λD P H ⟨R,fps,s,L,r,e,k⟩=>by
 obtain⟨l,G,e⟩:=Ze e;obtain⟨m,c,e⟩:=Ze e;obtain⟨_,I,e⟩:=Ze e;have c:=To c;have v:=of_decide_eq_true (RF I);cases e;obtain⟨p,E,Q,t,x,u,g⟩:=r.lst_at o c;refine⟨.ref p,t,tyL x,s,l,r.env,G,λy M N s2 B F n=>?_⟩;refine⟨p,E,y,rfl,rfl,s2 _ _ x,by rw[u.len];exact lt_size (by omega),?_⟩;have J:=r.grow s2;have fr:=λq d j z=>r.dom j q z (n q d).1;refine k _ _ _ (J.relist o c g t ((u.mono s2).append (Iss.one B)) ?_ λq d=>?_) K6
 ·have w:=r.nd i o;rw[g] at w;exact eh.mpr ⟨w,F,λa A b C z=>fr b C i (by rw[g,<-z];exact A)⟩
 ·rcases b6.mp d with h | h
  ·exact .inl h
  ·exact .inr ⟨⟨Same.off r.same (n q h).1,(n q h).2⟩,fr q h⟩
theorem Iss.pureEq{H:Hp}{l:List PV}{a:List V}{b:List aJ}(h:Iss K H l a b)(c:ZJ l=aC):Iss K H l a []:=by have:=Iss.pure _ _ _ c h;subst this;exact h
theorem LK{l:List PV}(n:Nat)(h:ZJ l=aC):ZJ (l.take n)=aC:=by rw[Xp,ar] at *;exact λx a=>h x (gU a)
theorem LL{l:List PV}(n:Nat)(h:ZJ l=aC):ZJ (l.drop n)=aC:=by rw[Xp,ar] at *;exact λx a=>h x (List.mem_of_mem_drop a)
theorem Oi(h:PS X st (KH (tBM X.K "list" KQ (Po i) (R8 (tF X.K fk) (R8 (tF X.K f) F2)))))(u:i∈O:=by decide):VS X O [i] st (Vj i fk f):=PS.imp h λD S H ⟨Z,fps,s,P,r,e,k⟩=>by obtain⟨kk,B,e⟩:=Ze e;obtain⟨l,J,e⟩:=Ze e;obtain⟨d,M,e⟩:=Ze e;obtain⟨m,c,e⟩:=Ze e;obtain⟨_,L,e⟩:=Ze e;rw[Tp M] at B;have c:=To c;have x:=RF L;simp only[bT,decide_eq_true_eq] at x;obtain⟨⟨j,E⟩,G,U,w⟩:=x;cases e;obtain⟨p,F,T,t,A,v,I⟩:=r.lst_at u c;refine⟨.ref p,t,tyL A,λ_=>False,s,_,λ_ z=>z.elim,r.env,B,λz Y W s1 N _=>⟨λ_=>False,s,l,λ_ z=>z.elim,r.env.mono s1,J,λy Q R s2 o _=>?_⟩⟩;have a:=s1.trans s2;obtain⟨rfl,_⟩:=N.int_inv;have:=Is.pure _ _ _ E o;subst this;refine⟨p,F,d,y,rfl,rfl,a _ _ A,G,by omega,by rw[v.len];exact lt_size (by omega),?_⟩;have b:=(v.mono a).pureEq j;obtain⟨f1,g,_⟩:=b.take d.toNat;obtain⟨f2,n,_⟩:=b.drop d.toNat;have g:=g.pureEq (LK _ j);have n:=n.pureEq (LL _ j);exact k _ _ _ ((r.grow a).relist u c I t (g.append (Iss.cons o n)) (by simp) λq C=>by simp at C) K6
theorem WV(h:PS X st (Lf (tF X.K f) (CQ (Po i) (tF X.K fk) Hs)))(g:i∈O:=by decide):VS X O [i] st (XG i fk f):=PS.imp h λD P H ⟨T,fps,s,L,r,e,k⟩=>by obtain⟨l,J,e⟩:=Ze e;obtain⟨kk,t,e⟩:=Ze e;obtain⟨B,G,e⟩:=Ze e;obtain⟨m,b,e⟩:=Ze e;obtain⟨_,F,e⟩:=Ze e;rw[Tp G] at t;have b:=To b;have u:=RF F;simp only[bT] at u;obtain⟨o,c⟩:=u;obtain⟨j,x,rfl⟩:=map_some e;obtain⟨p,C,Q,d,I,n,E⟩:=r.lst_at g b;refine⟨λ_=>False,s,l,λ_ z=>z.elim,r.env,J,λy S M s1 v _=>?_⟩;refine⟨.ref p,d,λ_=>False,s,_,λ_ z=>z.elim,r.env.mono s1,t,λz N R s2 A _=>?_⟩;have a:=s1.trans s2;obtain⟨rfl,_⟩:=A.int_inv;have:=Is.pure _ _ _ c v;subst this;refine⟨p,C,B,j,rfl,rfl,a _ _ I,by rw[n.len];exact x,?_⟩;exact k _ _ _ ((r.grow a).relist g b E d (Iss.setP j o c ((n.mono a).pureEq o) (v.mono s2)) (by simp) λq w=>by simp at w) K6
end
theorem Iss.setRow{H:Hp}{o:List V}:∀{m:List PV}{xs:List V}{fq:List aJ}{j:Nat}{n n':List PV}{q:aJ},Iss K H m xs fq->m[j]?=aA (.lst n)->xs[j]?=aA (.ref q)->fq.Nodup->Uz (H q)->ZJ n=aC->Iss K (L2.upd H q (.lst o)) n' o []->
  Iss K (L2.upd H q (.lst o)) (m.set j (.lst n')) xs fq
 | [],_,_,_,_,_,_,_,e,_,_,_,_,_=>by simp at e
 | a::m,xs,fq,0,n,n',q,h,e,ex,nd,mu,pn,h'=>by obtain⟨x,r,f1,f2,rfl,g,d,rfl⟩:=h.inv;simp at e ex;subst e ex;obtain⟨t,v,w,e,B,b,rfl⟩:=g.lst_inv;cases e;have:=Iss.pure _ _ _ pn b;subst this;have f:q∉f2:=(bK.mp nd).1;exact Iss.cons (Is.lst Zt h') (Iss.tr (TK.upd' mu) _ _ _ (λz b=>RdK.upd_ne λe=>f (e▸b)) d)
 | a::m,xs,fq,j+1,n,n',q,h,e,ex,nd,mu,pn,h'=>by obtain⟨x,r,f1,f2,rfl,g,d,rfl⟩:=h.inv;simp at e ex;obtain⟨u,i,k⟩:=eh.mp nd;obtain⟨y,A,l,p,c⟩:=d.get e;rw[ex] at l;cases l;obtain⟨t,v,w,s,_,_,rfl⟩:=p.lst_inv;cases s;have f:q∉f1:=λz=>k q z q (c q aZ) rfl;exact Iss.cons (Is.tr (TK.upd' mu) _ _ _ (λz b=>RdK.upd_ne λe=>f (e▸b)) g) (Iss.setRow d e ex i mu pn h')
noncomputable def Vk(i:Nat)(fa fb:XE)(f:XE):XS:=λs=>(f s).bind λl=>(fa s).bind λa=>(fb s).bind λb=>(Hb a).bind λa=>(Hb b).bind λb=>(K5 s i).bind λm=>(Pp m.length a).bind λj=>(m[j]?).bind λr=>(asL r).bind λn=>
 (gd (ZJ n&&Z9 l)).bind λ_=>(Pp n.length b).map λc=>.nx (s.set i (aA (.lst (m.set j (.lst (n.set c l))))))
end VL
namespace VL
open PySem PySem.Spec PyProof.Rows L2
variable {K:aD}
section
variable {X:Cx} {a b c d:av} {fa fb fc fd:XE} {pos:eu}
theorem HM(d:X.A.units+64<fY)(c:VE X a fa)(e:VE X b fb):VE X (.Compare a [.Eq] [b] pos) (Zj (WR aB) fa fb):=Ls (HF d) (OW aB) c e (UM _)
theorem A4(d:X.A.units+64<fY)(c:VE X a fa)(e:VE X b fb):VE X (.Compare a [.NotEq] [b] pos) (Zj (WR aC) fa fb):=Ls (HG d) (OW aC) c e (UM _)
theorem Qv(d:X.A.units+64<fY)(c:VE X a fa)(e:VE X b fb):VT X (.Compare a [.Eq] [b] pos) (xB (Zj (WR aB) fa fb)):=Sg (HF d) (OW aB) c e (UM _)
theorem Oj(d:X.A.units+64<fY)(c:VE X a fa)(e:VE X b fb):VT X (.Compare a [.NotEq] [b] pos) (xB (Zj (WR aC) fa fb)):=Sg (HG d) (OW aC) c e (UM _)
theorem A5(e:X.A.units+64<fY)(c:VE X a fa)(f:VE X b fb)(d:cP .In b=aB:=by with_unfolding_all rfl):VT X (.Compare a [.In] [b] pos) (xB (Zj (J2 aB) fa fb)):=Sg (BB e) (HH aB) c f d
theorem HN(e:X.A.units+64<fY)(c:VE X a fa)(f:VE X b fb)(d:cP .NotIn b=aB:=by with_unfolding_all rfl):VT X (.Compare a [.NotIn] [b] pos) (xB (Zj (J2 aC) fa fb)):=Sg (J1 e) (HH aC) c f d
noncomputable def blO:PV->Option Bool
 | .bl c=>aA c
 | _=>none
end
section
variable {X:Cx} {a b:av} {fa fb:XE} {pos:eu}
noncomputable def gCat:PV->PV->Option PV
 | .lst m,.lst n=>if m.length+n.length<=10000 then aA (.lst (m++n)) else none
 | _,_=>none
noncomputable def Wu:PV->PV->Option PV
 | .lst m,.lst n=>if m.length+n.length<=10000/\ZJ m=aC/\ZJ n=aC then aA (.lst (m++n)) else none
 | _,_=>none
theorem Us(t:VE X a fa)(w:VE X b fb):VM X (.BinOp a .Add b pos) (Zj Wu fa fb):=PE.imp (Hk Bc t w) λJ H Q ⟨s,l,env,e,k⟩=>by
 obtain⟨h,i,D,v,e⟩:=Qg e;refine⟨λ_=>False,s,h,λ_ z=>z.elim,env,D,λx M f1 s1 G _=>⟨λ_=>False,s,i,λ_ z=>z.elim,env.mono s1,v,λy I f2 s2 u _=>?_⟩⟩
 cases h with
 | lst m=>cases i with
  | lst n=>
   have e:(if m.length+n.length<=10000/\ZJ m=aC/\ZJ n=aC then aA (PV.lst (m++n)) else none)=aA l:=e;split at e
   case isFalse=>cases e
   rename_i g;cases e;obtain⟨p,B,L,rfl,F,j,rfl⟩:=G.lst_inv;obtain⟨A,C,o,rfl,f,c,rfl⟩:=u.lst_inv;refine⟨p,A,B,C,rfl,rfl,s2 _ _ F,f,by rw[j.len,c.len];exact cQ (lt_size g.1),λq d=>?_⟩;refine k _ _ [q] (s1.trans (s2.trans (Same.new d _))) (Is.lst Zt ((((j.mono s2).pureEq g.2.1).append (c.pureEq g.2.2)).mono (Same.new d _))) (by simp) λr E=>?_;rw[ag.mp E];exact⟨Same.off (s1.trans s2) d,by rw[Zt];exact cw⟩
  | _=>cases e
 | _=>cases e
noncomputable def Mm:PV->PV->Option PV
 | .lst m,.int k=>if ZJ m=aC/\-1000000<=k/\k<=1000000/\m.length*k.toNat<=10000 then aA (.lst (aV k.toNat m).flatten) else none
 | _,_=>none
theorem Iss.rep{H:Hp}{m:List PV}{a:List V}(h:Iss K H m a []):∀k:Nat,Iss K H (aV k m).flatten (aV k a).flatten []
 | 0=>Iss.nil
 | k+1=>by rw[dJ,dJ,eY,eY];exact h.append (Iss.rep h k)
theorem HP(i:VE X a fa)(t:VE X b fb):VM X (.BinOp a .Mult b pos) (Zj Mm fa fb):=PE.imp (Hk Be i t) λD H Q ⟨s,l,env,e,k⟩=>by
 obtain⟨f,g,v,o,e⟩:=Qg e;refine⟨λ_=>False,s,f,λ_ z=>z.elim,env,v,λx F f1 s1 B _=>⟨λ_=>False,s,g,λ_ z=>z.elim,env.mono s1,o,λy C f2 s2 j _=>?_⟩⟩
 cases f with
 | lst m=>cases g with
  | int n=>
   have e:(if ZJ m=aC/\-1000000<=n/\n<=1000000/\m.length*n.toNat<=10000 then aA (PV.lst (aV n.toNat m).flatten) else none)=aA l:=e;split at e
   case isFalse=>cases e
   rename_i d;cases e;obtain⟨p,u,E,rfl,A,h,rfl⟩:=B.lst_inv;refine⟨p,n,u,rfl,j.int_inv.1,s2 _ _ A,by omega,by omega,by rw[h.len];exact cQ (lt_size d.2.2.2),λq c=>?_⟩;refine k _ _ [q] (s1.trans (s2.trans (Same.new c _))) (Is.lst Zt ((Iss.rep ((h.mono s2).pureEq d.1) n.toNat).mono (Same.new c _))) (by simp) λr w=>?_;rw[ag.mp w];exact⟨Same.off (s1.trans s2) c,by rw[Zt];exact cw⟩
  | _=>cases e
 | _=>cases e
end
theorem Iss.fps{H:Hp}:∀{ls:List PV}{vs:List V}{fp:List aJ},Iss K H ls vs fp->∃fps:Nat->List aJ,(∀(i:Nat) l,ls[i]?=aA l->∃v,vs[i]?=aA v/\Is K H l v (fps i))/\∀i,ls.length<=i->fps i=[]
 | [],vs,fp,h=>⟨λ_=>[],λi l e=>by simp at e,λ_ _=>rfl⟩
 | a::ls,vs,fp,h=>by
  obtain⟨x,r,f1,f2,rfl,f,g,rfl⟩:=h.inv;obtain⟨fps,d,p2⟩:=g.fps;refine⟨λi=>match i with | 0=>f1 | k+1=>fps k,λi l e=>?_,λi c=>?_⟩
  ·cases i with
   | zero=>simp at e;subst e;exact⟨x,rfl,f⟩
   | succ k=>
    obtain⟨v,a,b⟩:=d k l (by simpa using e);exact⟨v,by simpa using a,b⟩
  ·cases i with
   | zero=>simp at c
   | succ k=>exact p2 k (by simpa using c)
noncomputable def ZM(m:Nat)(ls:List PV):ZF:=ls.map aA++aV (m-ls.length) none
noncomputable def Tq:LJ->Option PV
 | .rt v=>aA v
 | .nx _=>aA .non
 | _=>none
noncomputable def YC(m:Nat)(f:XS):List PV->Option PV:=λls=>(f (ZM m ls)).bind Tq
theorem K7{N:List ao}{n:Nat}{O W:List Nat}{f:XS}{vs:List V}{H:Hp}{Q:VK}{E:XK}(u:∀i∈O,n<=i)(h:Y8 K (YC N.length f) n vs H Q E):Ac K O W f { nx:=λ_ o=>Q .non o,rt:=Q } (L2.start N vs) H:=by
 obtain⟨L,ls,y,l,g,e,q⟩:=h;obtain⟨s,I,t⟩:=Ze e;obtain⟨fps,A,p2⟩:=g.fps;have k:=g.len
 have r:∀i:Nat,ls.length<=i->∀l,(ZM N.length ls)[i]?≠aA (aA l):=λi g l z=>by
  unfold ZM at z;rw[bI (by simpa using g),b0] at z;split at z<;>cases z
 have x:Rel K O H fps (ZM N.length ls) (L2.start N vs) H:=by
  refine⟨Same.refl H,?_,λi a z=>?_,λi w=>?_,λi g=>?_,λi g p m=>?_,λi g j M p m=>?_⟩
  ·unfold ZM L2.start;simp[k]
  ·by_cases c:i<ls.length
   ·unfold ZM at z;rw[ah (by simpa using c),aW] at z
    cases q:ls[i]? with
    | none=>rw[q] at z;cases z
    | some b=>
     rw[q] at z;cases z;obtain⟨v,F,G⟩:=A i a q;refine⟨v,?_,G⟩;unfold L2.start;rw[ah (by simpa [k] using c),aW,F];rfl
   ·exact absurd z (r i (by omega) a)
  ·by_cases c:i<ls.length
   ·exact absurd (by unfold ZM;rw[ah (by simpa using c),aW,aI c];rfl) (w ls[i])
   ·exact p2 i (by omega)
  ·rw[p2 i (by have:=u i g;omega)];exact dC
  ·rw[p2 i (by have:=u i g;omega)] at m;simp at m
  ·rw[p2 i (by have:=u i g;omega)] at m;simp at m
 refine⟨H,fps,ZM N.length ls,s,x,I,?_⟩
 cases s with
 | nx s'=>
  cases t;exact λJ C o D _=>q .non o [] D.same Is.non dC λp m=>by simp at m
 | rt v=>
  cases t;exact λv y o B i d n=>q v o y B i d n
 | bk s'=>cases t
 | ct s'=>cases t
section
variable {P:bN} {w:cC} {mg:ao->Option aG} {base:bW}
theorem O1{x:ao}{st:b7}{N d:List ao}{k n:Nat}{O W:List Nat}(m:Nat)(f:XS)(D:Def K mg x st)(S:Zl N d (Zf st))
  (j:∀(kV doc pm:aG)(an:Option aJ)(b ct:aG)(us:List aG),us.length=d.length->iI (cg x x (Xv st) (Yr st) (Zf st) .none kV doc pm an b ct) ⟨us,[]⟩=pure (d.zip us))
  (g:d.length=n) (o:N.length=m) (l:∀i∈O,n<=i)
  (c:∀(e:aJ)(b:aG)(A:cA)(a:List jt)(s:aO)(H:Hp)(E:XK),Room k (A.deeper (gL x (Zf st) s.heap.objs.size e b))->Ha (R9 La P w K mg base N x (Zf st) e b A a s H E).nox O W (Yr st) f) :
  Xe P w K mg base x d (Y8 K (YC m f) n) (k+1):=by
 subst o;refine D.cal S j (λvs H Q E h=>by rw[g];exact h.1) λe b A a s H vs Q E p h=>⟨_,c e b A a s H E p,K7 l h⟩
end
end VL
namespace VL
open PySem PySem.Spec PyProof.Rows L2
variable {K:aD}
section
variable {X:Cx} {O:List Nat} {tg ku iter:av} {kr:List av} {scope:dM} {pos:eu} {fi:XL} {T:Tgt} {ft:XT} {fe:XE}
theorem Tr(own fr:List ao)(ix:List Nat){i:Nat}{y:ao}{f b:eu}(k:X.N.Nodup)(h:X.N[i]?=aA y)(d:X.env.scope.names.lookup y=aA .local)(c:X.calm=aC)(m:VI X tg iter fi)(S:VU X.N X.env.scope scope own fr ix=aC)
  (o:∀cl C s H a,PG (ZG X (own++fr) scope cl C s H a) tg (gT X.K T)) (g:∀cl C s H a,Aa (ZG X (own++fr) scope cl C s H a) kr ft) (l:∀cl C s H a,VM (ZG X (own++fr) scope cl C s H a) ku fe)
  (n:∀i∈T.slots,i<own.length:=by decide)
  (e:g9 (.ListComp ku [⟨tg,iter,kr,0⟩] scope pos) (aA (.Name y f)) b.line X.env=pure aC:=by rfl)
  (j:∀x,bY iter X.env x=pure x:=by intro _;rfl):VS X O [i] (.Assign [.Name y f] (.ListComp ku [⟨tg,iter,kr,0⟩] scope pos) b) (Zs i (Zq own.length ix fi T ft fe)):=
 PS.imp (Hw own fr ix k h d c m S o (λcl C s H a=>(show Lp (ZG X (own++fr) scope cl C s H a) kr (Mc X.K ft) from g cl C s H a)) (λcl C s H a=>(show PE (ZG X (own++fr) scope cl C s H a) ku (tM X.K fe) from l cl C s H a)) e j) (K4 (OY n))
end
section
variable {P:bN} {w:cC} {mg:ao->Option aG} {base:bW}
theorem BE{x:ao}{st:b7}{N e:List ao}{k n:Nat}{O W:List Nat}{d:aJ}{g:dy}(m:Nat)(f:XS)(F:Fun K x x st d g)(S:Zl N e (Zf st))
  (j:e.length=n) (o:N.length=m) (l:∀i∈O,n<=i)
  (c:∀(d:aJ)(b:aG)(A:cA)(a:List jt)(s:aO)(H:Hp)(E:XK),Room k (A.deeper (gL x (Zf st) s.heap.objs.size d b))->Ha (R9 La P w K mg base N x (Zf st) d b A a s H E).nox O W (Yr st) f) :
  T6 P w K mg base La (k+1) d g e (Y8 K (YC m f) n):=by
 subst o;refine F.ok S (λvs H Q E h=>by rw[j];exact h.1) λb A a s H vs Q E p h=>⟨_,c d b A a s H E p,?_⟩;exact K7 l h
theorem HQ{st:b7}{x:ao}{D:List PV->Option PV}{k:Nat}{d:aJ}(n:Def K mg "law" st)(g:mg "law" = aA (.ref d))
  (m:∀(kV c i:aG)(h:Option aJ)(b ct u:aG),iI (cg "law" "law" (Xv st) (Yr st) (Zf st) .none kV c i h b ct) ⟨[u],[]⟩=pure [(x,u)])
  (H:∀(base:bW)(f:aJ)(a:dy),K.In base->base.Ns cE mg->Fun K "law" "law" st f a->T6 P w K mg base La k f a [x] (Y8 K D 1)) :
  ∃a:dy,(∀(s:aO)(u:aG),je s a ⟨[u],[]⟩ [(x,u)])/\∀base:bW,K.In base->base.Ns cE mg->T6 P w K mg base La k d a [x] (Y8 K D 1):=by
 obtain⟨f,a,o,F⟩:=n.ex;have e:=g.symm.trans o;cases e;refine⟨a,?_,λbase j p=>H base d a j p F⟩;obtain⟨t,v,kV,c,i,h,b,ct,q,rfl,r,l⟩:=F.ex;exact λs u=>.of_eq (m kV c i h b ct u)
end
theorem BF{H:Hp}{a:aJ}{b:List Int}{D:List PV->Option PV}{E:XK}(c:D [.cst (iL b)]=aA (.bl aC))(d:Bf H)(f:SqL K H a (b.map V.int)):Y8 K D 1 [.ref a] H (λv _=>v = .bl aC) E:=by
 have e:CsK K H a (b.map V.int):=by
  rcases f with h | h
  ·rcases h with h | ⟨o,h⟩
   ·rcases d a with z | ⟨o,g,z⟩
    ·rw[h] at z;cases z
    ·rw[h] at z;cases z
   ·exact .inl ⟨o,h⟩
  ·exact .inr h
 exact⟨rfl,[.cst (iL b)],[],.bl aC,Iss.one (Is.cst e (Iss.ofInts b)),c,λv j k _ i _ _=>i.bl_inv.1⟩
end VL
namespace VL
open PySem L2
noncomputable def BG(K:aD):Bool:=K.all λp=>match p.2.data with
 | .fields vs=>(match vs.toList with
  | _::.str n _::_=>!(JK n)
  | _=>aC)
 | _=>aC
theorem noLam{K:aD}(g:BG K=aC):∀(q:ao)(c:aJ),JK q=aC->cY K (.ref c) q=aC->False:=λq c f a=>by
 have a:(match K.lookup c with
   | some ⟨_,_,.fields vs,_⟩=>(match vs.toList with | _::.str n _::_=>n==q | _=>aB)
   | _=>aB)=aC:=a
 split at a
 ·rename_i i j vs k d;split at a
  ·rename_i y n t r b;have h:n=q:=beq_iff_eq.mp a;subst h;have e:=ar.mp g (c,_) (PySem.W.mem_of_lookupK d);simp only[b,f,Bool.not_true] at e;cases e
  ·cases a
 ·cases a
@[simp] theorem eVar_def(i:Nat)(s:ZF):Za i s=(s[i]?).join:=rfl
@[simp] theorem eC_def(l:PV)(s:ZF):eC l s=aA l:=rfl
@[simp] theorem RG(g:PV->PV->Option PV)(a b:XE)(s:ZF):Zj g a b s=(a s).bind λx=>(b s).bind λy=>g x y:=rfl
@[simp] theorem eUn_def(g:PV->Option PV)(a:XE)(s:ZF):OT g a s=(a s).bind g:=rfl
@[simp] theorem O2(f:XE)(s:ZF):eP f s=(f s).bind λl=>if Z9 l=aC then aA l else none:=rfl
@[simp] theorem EA(s:ZF):Ql [] s=aA []:=rfl
@[simp] theorem ZD(f:XE)(fs:List XE)(s:ZF):Ql (f::fs) s=(f s).bind λx=>(Ql fs s).map (x::·):=rfl
@[simp] theorem YO(D:List PV->Option PV)(fs:List XE)(s:ZF):Zc D fs s=(Ql fs s).bind D:=rfl
@[simp] theorem Mo(fs:List XE)(s:ZF):OU fs s=(Ql fs s).map .tup:=rfl
@[simp] theorem HR(fs:List XE)(s:ZF):UO fs s=(Ql fs s).map .lst:=rfl
@[simp] theorem X7(g:PV->Option Int->Option Int->Option PV)(a:XE)(lo hi:XO)(s:ZF):Qt g a lo hi s=(a s).bind λx=>(lo s).bind λl=>(hi s).bind λu=>g x l u:=rfl
@[simp] theorem RH(s:ZF):Ml s=aA none:=rfl
@[simp] theorem gI_ii(g:Int->Int->Int)(i j:Int):gI g (.int i) (.int j)=aA (.int (g i j)):=rfl
@[simp] theorem gB_ii(g:Int->Int->Bool)(i j:Int):gB g (.int i) (.int j)=aA (.bl (g i j)):=rfl
@[simp] theorem BH(C:Int->Int->Prop)[∀i j,Decidable (C i j)](g:Int->Int->Int)(i j:Int):J0 C g (.int i) (.int j)=if C i j then aA (.int (g i j)) else none:=rfl
@[simp] theorem gIx_ti(l:List PV)(i:Int):ZQ (.tup l) (.int i)=T4 l i:=rfl
@[simp] theorem gIx_li(l:List PV)(i:Int):ZQ (.lst l) (.int i)=T4 l i:=rfl
@[simp] theorem gIx_ci(l:List PV)(i:Int):ZQ (.cst l) (.int i)=T4 l i:=rfl
@[simp] theorem O3(f:XE)(s:ZF):xB f s=(f s).bind blO:=by
 unfold xB
 cases f s with
 | none=>rfl
 | some a=>cases a<;>rfl
@[simp] theorem blO_bl(b:Bool):blO (.bl b)=aA b:=rfl
@[simp] theorem xAnd_def(a b:XT)(s:ZF):Qi a b s=(a s).bind λc=>if c=aC then b s else aA aB:=rfl
@[simp] theorem K8(a b:XT)(s:ZF):HA a b s=(a s).bind λc=>if c=aC then aA aC else b s:=rfl
@[simp] theorem HU(a:XT)(s:ZF):Lx a s=(a s).map not:=rfl
@[simp] theorem HW(a b:XE)(s:ZF):Rt a b s=(xB a s).bind λc=>if c=aC then b s else aA (.bl aB):=rfl
@[simp] theorem eOr_def(a b:XE)(s:ZF):eOr a b s=(xB a s).bind λc=>if c=aC then aA (.bl aC) else b s:=rfl
@[simp] theorem eNot_def(a:XE)(s:ZF):Es a s=(xB a s).map λc=>.bl !c:=rfl
@[simp] theorem O4(c:XT)(a b:XE)(s:ZF):HB c a b s=(c s).bind λk=>if k=aC then a s else b s:=rfl
@[simp] theorem HX(neg:Bool)(a:XE)(s:ZF):Qk neg a s=(a s).bind (Et neg):=rfl
@[simp] theorem sNext_def(s:ZF):YE s=aA (.nx s):=rfl
@[simp] theorem Mp(f g:XS)(s:ZF):Zn f g s=(f s).bind λo=>match o with | .nx s'=>g s' | r=>aA r:=rfl
@[simp] theorem Xw(c:XT)(f g:XS)(s:ZF):RD c f g s=(c s).bind λk=>if k=aC then f s else g s:=rfl
@[simp] theorem HY(f:XE)(s:ZF):ZO f s=(f s).map .rt:=rfl
@[simp] theorem Ys(i:Nat)(f:XE)(s:ZF):Zs i f s=(f s).map λl=>.nx (s.set i (aA l)):=rfl
@[simp] theorem retO_rt(v:PV):Tq (.rt v)=aA v:=rfl
@[simp] theorem pureV_int(i:Int):Z9 (.int i)=aC:=rfl
@[simp] theorem pureV_bl(i:Bool):Z9 (.bl i)=aC:=rfl
@[simp] theorem pureV_str(i:ao):Z9 (.str i)=aC:=rfl
@[simp] theorem pureV_non:Z9 .non=aC:=rfl
@[simp] theorem Ut(l:List PV):Z9 (.tup l)=ZJ l:=by rw[Z9]
@[simp] theorem pureL_nil:ZJ []=aC:=rfl
@[simp] theorem pureL_cons(a:PV)(l:List PV):ZJ (a::l)=(Z9 a&&ZJ l):=rfl
theorem J7{b:Type}{l:List b}{f:b->PV}(h:∀a∈l,Z9 (f a)=aC):ZJ (l.map f)=aC:=by rw[Xp,jm,ar];exact h
@[simp] theorem pureL_iL(l:List Int):ZJ (l.map PV.int)=aC:=ZV l
abbrev pP(l:List Int):PV:=.tup (iL l)
abbrev wP(W:List (List Int)):PV:=.tup (W.map pP)
@[simp] theorem V1(W:List (List Int)):ZJ (W.map pP)=aC:=J7 λa _=>by simp
theorem Qw{l:List Int}{k:Nat}(h:k<l.length):(iL l)[k]?=aA (.int (Zp l k)):=by simp[Zp,aI h]
theorem WH{l:List Int}{k:Nat}(h:k<l.length):T4 (iL l) (k:Int)=aA (.int (Zp l k)):=W7 (Qw h)
theorem Ts{W:List (List Int)}{k:Nat}(h:k<W.length):T4 (W.map pP) (k:Int)=aA (pP (ZL W k)):=by refine W7 ?_;rw[aW,N9 h];rfl
@[simp] theorem gSum_t(l:List Int):UB [.tup (l.map PV.int)]=aA (.int l.sum):=by simp[UB,UP,Xa l]
@[simp] theorem Sl(l:List Int):UB [.lst (l.map PV.int)]=aA (.int l.sum):=by simp[UB,UP,Xa l]
@[simp] theorem HZ(l:List Bool):Px [.lst (l.map PV.bl)]=aA (.bl (l.all id)):=by simp[Px,UP,WD l]
@[simp] theorem H9(l:List Bool):LC [.lst (l.map PV.bl)]=aA (.bl (l.any id)):=by simp[LC,UP,WD l]
@[simp] theorem Ga(l:List PV):Y1 [.tup l]=aA (.int l.length):=rfl
@[simp] theorem LM(l:List PV):Y1 [.lst l]=aA (.int l.length):=rfl
@[simp] theorem gLen_c(l:List PV):Y1 [.cst l]=aA (.int l.length):=rfl
@[simp] theorem YF(l:List PV):ZT [.lst l]=aA (.tup l):=rfl
@[simp] theorem gTuple_t(l:List PV):ZT [.tup l]=aA (.tup l):=rfl
@[simp] theorem Mq(l:List PV):Vb [.tup l]=if ZJ l=aC then aA (.lst l) else none:=rfl
@[simp] theorem Tt(l:List PV):Vb [.lst l]=if ZJ l=aC then aA (.lst l) else none:=rfl
@[simp] theorem gMin2_ii(i j:Int):Mg [.int i,.int j]=aA (.int (if j<i then j else i)):=rfl
@[simp] theorem gMax2_ii(i j:Int):A3 [.int i,.int j]=aA (.int (if j>i then j else i)):=rfl
@[simp] theorem gInt1_b(c:Bool):DZ [.bl c]=aA (.int (if c then 1 else 0)):=rfl
@[simp] theorem gInt1_i(c:Int):DZ [.int c]=aA (.int c):=rfl
@[simp] theorem gInst_ii(i:Int):VD [.int i,.ty "int"]=aA (.bl aC):=rfl
@[simp] theorem gInst_ib(i:Int):VD [.int i,.ty "bool"]=aA (.bl aB):=rfl
@[simp] theorem gInst_tt(l:List PV):VD [.tup l,.ty "tuple"]=aA (.bl aC):=rfl
@[simp] theorem gInst_ll(l:List PV):VD [.lst l,.ty "list"]=aA (.bl aC):=rfl
theorem K9(n:Nat)(i j:Int):UC (n+1) (.int i) (.int j)=aC:=rfl
theorem Rc{d c:Type}{f:d->PV}{g:c->PV}{p:PV->PV->Bool}(h:∀a b,p (f a) (g b)=aC):∀(l:List d)(m:List c),((l.map f).zip (m.map g)).all (λz=>p z.1 z.2)=aC
 | [],_=>by simp
 | _::_,[]=>by simp
 | a::l,b::m=>by rw[dk,dk,j3,hW,Rc h l m,h a b];rfl
theorem EB(n:Nat)(l m:List Int):UC (n+2) (pP l) (pP m)=aC:=Rc (λa b=>K9 n a b) l m
theorem BI{l m:List Int}:iL l=iL m↔l=m:=by
 constructor
 ·intro h;exact(List.map_inj_right (λa b e=>PV.int.inj e)).mp h
 ·intro h;rw[h]
theorem BJ{l m:List Int}:pP l=pP m↔l=m:=by rw[PV.tup.injEq];exact BI
@[simp] theorem O5(neg:Bool)(i j:Int):WR neg (.int i) (.int j)=aA (.bl (if neg then !decide (i=j) else decide (i=j))):=by
 unfold WR;rw[kz (K9 7 i j)];congr 2;cases neg<;>simp
@[simp] theorem Gb(neg:Bool)(l m:List Int):WR neg (.tup (l.map PV.int)) (.tup (m.map PV.int))=aA (.bl (if neg then !decide (l=m) else decide (l=m))):=by unfold WR;rw[kz (EB 6 l m)];have:decide ((PV.tup (l.map PV.int)) = .tup (m.map PV.int))=decide (l=m):=decide_eq_decide.mpr BJ;rw[this]
theorem Ol{f:Type}{T:Tgt}{e:XT}{d:XE}{c:ZF}{q g:f->PV}:∀{ls:List f},(∀a∈ls,∃s1,Xb T (q a) c=aA s1/\e s1=aA aC/\d s1=aA (g a))->Wr T e d c (ls.map q)=aA (ls.map g)
 | [],_=>rfl
 | a::r,h=>by obtain⟨s1,j,k,m⟩:=h a aZ;have l:=Ol (ls:=r) λb i=>h b (aT _ i);rw[dk,dk];unfold Wr;rw[j];simp only[aY,k,if_true,m,l,dZ]
theorem Tu{d:Type}{T:Tgt}{j:XT}{f:XE}{e:ZF}{q g:d->PV}{c:d->Bool}:∀{ls:List d},(∀a∈ls,∃s1,Xb T (q a) e=aA s1/\j s1=aA (c a)/\(c a=aC->f s1=aA (g a)))->Wr T j f e (ls.map q)=aA ((ls.filter c).map g)
 | [],_=>rfl
 | a::r,h=>by
  obtain⟨s1,l,m,n⟩:=h a aZ;have i:=Tu (ls:=r) λb k=>h b (aT _ k);rw[dk];unfold Wr;rw[l];simp only[aY,m]
  cases hc:c a with
  | true=>simp[n hc,i,hc]
  | false=>simp[i,hc]
theorem ZR{f:Type}{n:Nat}{ix:List Nat}{e:XL}{T:Tgt}{d:XT}{c:XE}{s:ZF}(ls:List f)(q g:f->PV)(b:e s=aA (ls.map q))(i:ls.length<=10000)
  (h:∀a∈ls,∃s1,Xb T (q a) (ZI n ix s)=aA s1/\d s1=aA aC/\c s1=aA (g a)):Zq n ix e T d c s=aA (.lst (ls.map g)):=by
 unfold Zq;rw[b];simp only[aY,aN,kz i,Ol h,dZ]
theorem Vl{d:Type}{n:Nat}{ix:List Nat}{i:XL}{T:Tgt}{f:XT}{e:XE}{s:ZF}(ls:List d)(q g:d->PV)(c:d->Bool)(b:i s=aA (ls.map q))(j:ls.length<=10000)
  (h:∀a∈ls,∃s1,Xb T (q a) (ZI n ix s)=aA s1/\f s1=aA (c a)/\(c a=aC->e s1=aA (g a))):Zq n ix i T f e s=aA (.lst ((ls.filter c).map g)):=by
 unfold Zq;rw[b];simp only[aY,aN,kz j,Tu h,dZ]
theorem WW{T:Tgt}{fb:XS}:∀{ls:List PV}{s:ZF}(Jv:Nat->ZF->Prop),Jv 0 s->(∀(i:Nat) l st,ls[i]?=aA l->Jv i st->∃s1 s2,Xb T l st=aA s1/\fb s1=aA (.nx s2)/\Jv (i+1) s2)->
  ∃f,VN T fb ls s=aA (.nx f)/\Jv ls.length f
 | [],s,Jv,h0,_=>⟨s,rfl,h0⟩
 | l::r,s,Jv,h0,h=>by obtain⟨s1,s2,a,b,c⟩:=h 0 l s rfl h0;obtain⟨f,d,e⟩:=WW (ls:=r) (s:=s2) (λi=>Jv (i+1)) c λi l' st g j=>h (i+1) l' st (by simpa using g) j;refine⟨f,?_,e⟩;unfold VN;rw[a];simp only[aY,b];exact d
theorem Tv{n i:Nat}{l:PV}(h:(Si n)[i]?=aA l):i<n/\l = .int (i:Int):=by have a:=(aR.mp h).1;unfold Si at a h;rw[aN,bj] at a;rw[aW,bJ a] at h;exact⟨a,(ay h).symm⟩
theorem Gd{lo:Int}{n i:Nat}{l:PV}(h:(UQ lo n)[i]?=aA l):i<n/\l = .int (lo+(i:Int)):=by have a:=(aR.mp h).1;unfold UQ at a h;rw[aN,bj] at a;rw[aW,bJ a] at h;exact⟨a,(ay h).symm⟩
@[simp] theorem Qx(n:Nat):(Si n).length=n:=by unfold Si;simp
@[simp] theorem Ge(lo:Int)(n:Nat):(UQ lo n).length=n:=by unfold UQ;simp
@[simp] theorem bindT_one(i:Nat)(l:PV)(s:ZF):Xb (.one i) l s=aA (s.set i (aA l)):=rfl
theorem J8(i j:Nat)(a b:PV)(s:ZF):Xb (.many [i,j]) (.tup [a,b]) s=aA ((s.set i (aA a)).set j (aA b)):=rfl
theorem Wv(m:List PV):Wq m=(aE m.length).map λ(i:Nat)=>.tup [.int (i:Int),m.getD i .non]:=by
 apply cj;intro i;rw[aW];by_cases h:i<m.length
 ·have:(Wq m)[i]?=aA (.tup [.int (i:Int),m[i]]):=by unfold Wq;simp
  rw[this,bJ h];simp[aI h]
 ·rw[bV (by rw[Od];omega),bV (by simpa using h)];rfl
theorem YG(m n:List PV)(h:n.length=m.length):WU m n=(aE m.length).map λ(i:Nat)=>.tup [m.getD i .non,n.getD i .non]:=by
 apply cj;intro i;rw[aW];by_cases a:i<m.length
 ·have:(WU m n)[i]?=aA (.tup [m[i],n[i]]):=by unfold WU;rw[aW,gu (z:=(m[i],n[i])) |>.mpr ⟨aI a,aI (by omega)⟩];rfl
  rw[this,bJ a];simp[aI a,aI (show i<n.length by omega)]
 ·rw[bV (by rw[Mj];omega),bV (by simpa using a)];rfl
theorem Yu(l:List Int)(i:Nat)(h:i<l.length):(iL l).getD i .non = .int (Zp l i):=by rw[aH,Qw h];rfl
@[simp] theorem EC(f:XE)(s:ZF):Ya [f] s=(f s).bind λa=>(Hb a).bind λj=>if -1000000<=j/\j<=1000000 then aA (Si j.toNat) else none:=by
 unfold Ya
 cases h:f s with
 | none=>simp[h]
 | some a=>cases a<;>simp[h,Hb]
@[simp] theorem ED(f g:XE)(s:ZF):VY [f,g] s=(f s).bind λa=>(g s).bind λb=>(Hb a).bind λi=>(Hb b).bind λj=>if -1000000<=i/\i<=1000000/\-1000000<=j/\j<=1000000 then aA (UQ i (j-i).toNat) else none:=by
 unfold VY
 cases h:f s with
 | none=>simp[h]
 | some a=>cases h2:g s with
  | none=>simp[h,h2]
  | some b=>cases a<;>cases b<;>simp[h,h2,Hb]
@[simp] theorem Tw(i:Int):Hb (.int i)=aA i:=rfl
@[simp] theorem EE(i:List PV):asL (.lst i)=aA i:=rfl
@[simp] theorem xEnum_def(b:Bool)(f:XE)(s:ZF):Xn b [f] s=(f s).bind λl=>(seqB b l).map Wq:=by
 unfold Xn;cases h:f s<;>simp[h]
@[simp] theorem Mr(b1 b2:Bool)(f g:XE)(s:ZF):UD b1 b2 [f,g] s=(f s).bind λl=>(g s).bind λr=>(seqB b1 l).bind λm=>(seqB b2 r).map λn=>WU m n:=by
 unfold UD;cases h:f s<;>cases h2:g s<;>simp[h,h2]
@[simp] theorem seqB_f(l:List PV):seqB aB (.tup l)=aA l:=rfl
@[simp] theorem seqB_t(l:List PV):seqB aC (.lst l)=aA l:=rfl
@[simp] theorem seqB_c(l:List PV):seqB aC (.cst l)=aA l:=rfl
@[simp] theorem xLst_def(f:XE)(s:ZF):Ve f s=(f s).bind B9:=rfl
@[simp] theorem asS_l(l:List PV):B9 (.lst l)=aA l:=rfl
@[simp] theorem asS_c(l:List PV):B9 (.cst l)=aA l:=rfl
theorem V2{f:XE}{s:ZF}{l:List PV}(h:f s=aA (.tup l)):Vf f s=aA l:=by unfold Vf;rw[h]
@[simp] theorem sFor_def(O:List Nat)(fi:XL)(T:Tgt)(fb:XS)(s:ZF):Xq O fi T fb s=(fi (YW O s)).bind λls=>VN T fb ls s:=rfl
@[simp] theorem xTrue_def(s:ZF):Zy s=aA aC:=rfl
theorem Yd{f:XE}{s:ZF}{n:Nat}(h:f s=aA (.int (n:Int)))(a:n<=10000):Ya [f] s=aA (Si n):=by rw[EC,h];simp only[aY,Tw];rw[kz ⟨by omega,by omega⟩,eZ]
theorem Sm{f g:XE}{s:ZF}{i j:Int}(h:f s=aA (.int i))(a:g s=aA (.int j))(b : -10000<=i/\i<=10000)(c : -10000<=j/\j<=10000):VY [f,g] s=aA (UQ i (j-i).toNat):=by rw[ED,h,a];simp only[aY,Tw];rw[kz ⟨by omega,by omega,by omega,by omega⟩]
theorem Gg{i j:Int}(a : -10000<=i)(h:i<=10000):CMul i j:=by
 refine .inl ?_;have e:(2^64:Int)=18446744073709551616:=by decide
 rw[e];omega
theorem RI{c:Bool}(h:c=aC):gd c=aA ():=by unfold gd;rw[kz h]
theorem Qy{i:Nat}{f:XE}{s:ZF}{m:List PV}{l:PV}(h:f s=aA l)(b:K5 s i=aA m)(a:m.length<=10000):Wt i f s=aA (.nx (s.set i (aA (.lst (m++[l]))))):=by unfold Wt;rw[h];simp only[aY,b,RI (decide_eq_true a)]
theorem Qz{i:Nat}{a f:XE}{s:ZF}{m:List PV}{l:PV}{k:Int}(b:a s=aA (.int k))(h:f s=aA l)(e:K5 s i=aA m)(o:ZJ m=aC)(d:Z9 l=aC)(g:0<=k)(n:k<=1000000)(j:m.length<=10000) :
  Vj i a f s=aA (.nx (s.set i (aA (.lst (m.take k.toNat++l::m.drop k.toNat))))):=by
 unfold Vj;rw[b,h];have c:(ZJ m&&Z9 l&&decide (0<=k/\k<=1000000/\m.length<=10000))=aC:=by rw[o,d,decide_eq_true ⟨g,n,j⟩];rfl
 simp only[aY,Tw,e,RI c]
theorem Om{i:Nat}{a f:XE}{s:ZF}{m:List PV}{l:PV}{k:Int}{j:Nat}(h:f s=aA l)(b:a s=aA (.int k))(e:K5 s i=aA m)(g:ZJ m=aC)(d:Z9 l=aC)(n:Pp m.length k=aA j) :
  XG i a f s=aA (.nx (s.set i (aA (.lst (m.set j l))))):=by
 unfold XG;rw[b,h];have c:(ZJ m&&Z9 l)=aC:=by rw[g,d];rfl
 simp only[aY,Tw,e,RI c,n,dZ]
theorem QA{i:Nat}{d fb f:XE}{s:ZF}{m n:List PV}{l:PV}{a b:Int}{j c:Nat}(h:f s=aA l)(k:d s=aA (.int a))(o:fb s=aA (.int b))(q:K5 s i=aA m)(r:Pp m.length a=aA j)(g:m[j]?=aA (.lst n))(u:ZJ n=aC)(e:Z9 l=aC)(t:Pp n.length b=aA c) :
  Vk i d fb f s=aA (.nx (s.set i (aA (.lst (m.set j (.lst (n.set c l))))))):=by
 unfold Vk;rw[h,k,o];have p:(ZJ n&&Z9 l)=aC:=by rw[u,e];rfl
 simp only[aY,Tw,EE,q,r,g,RI p,t,dZ]
theorem Tx{n k:Nat}(h:k<n):Pp n (k:Int)=aA k:=by unfold Pp;rw[kz (by omega),kz (by omega)];rfl
@[simp] theorem CMul_l{i j:Int}(h : -(2^64)<i/\i<2^64):CMul i j:=.inl h
end VL
namespace VL
open PySem PySem.Spec PyProof.Rows L2
variable {K:aD}
noncomputable def D4(K:aD):R2:=λx y H Q=>∃a b xs ys,x = .ref a/\y = .ref b/\SqT K H a xs/\SqT K H b ys/\xs.length+ys.length<=sizeLine/\
 (xs=[]->Q (.ref b) H)/\(ys=[]->Q (.ref a) H)/\∀p,H p=none->Q (.ref p) (upd H p (.tup (xs++ys)))
theorem O6{X:Cx}:U7 X (dB .Add) (D4 X.K):=by
 intro P s R H x y v u Q I r q h;obtain⟨a,b,p,F,rfl,rfl,l,m,z,O,A,D⟩:=h;by_cases f:p=[]
 ·cases r;cases q;obtain⟨B,N,w,_⟩:=I.tuple l;obtain⟨c,S,p2,_⟩:=I.tuple m;obtain⟨⟨E,G,t,J⟩,k,M,n,C⟩:=id w;obtain⟨⟨o,j,data2,e⟩,d,g,L,i⟩:=id p2;subst M C g i
  exact jh ⟨_,k,rfl⟩ ⟨_,d,rfl⟩ iJ jS f9 fS (fM _ _)
   (tuple_addW0 a b B.toArray c.toArray n L G j J e (by simp[N.nil_iff.mpr f])) ⟨k,d,.ref b,H,I,rfl,O f⟩
 ·exact Ea _ _ _ _ _ _ _ _ _ I r q ⟨a,b,p,F,rfl,rfl,l,m,f,z,A,λ_=>D⟩
noncomputable def Oo:PV->PV->Option PV
 | .tup m,.tup n=>if m.length+n.length<=10000 then aA (.tup (m++n)) else none
 | _,_=>none
theorem O7:RB K (D4 K) Oo:=λH x y a b l o fb i j e Q k=>by
 cases a with
 | tup m=>cases b with
  | tup n=>
   have e:(if m.length+n.length<=10000 then aA (PV.tup (m++n)) else none)=aA l:=e;split at e
   case isFalse=>cases e
   rename_i s;cases e;obtain⟨p,u,rfl,w,g⟩:=i.tup_inv;obtain⟨t,v,rfl,f,c⟩:=j.tup_inv;refine⟨p,t,u,v,rfl,rfl,SqT.of w,SqT.of f,by rw[g.len,c.len];exact cQ (lt_size s),λz=>?_,λz=>?_,λq h=>?_⟩
   ·have:=fU.mp (by rw[<-g.len,z];rfl);subst this;exact k _ _ fb (Same.refl _) j λr d=>.inr (.inl d)
   ·have:=fU.mp (by rw[<-c.len,z];rfl);subst this;rw[dG] at k;exact k _ _ o (Same.refl _) i λr d=>.inl d
   ·exact k _ _ (o++fb) (Same.new h _) (Is.tup Zt ((g.append c).mono (Same.new h _))) λr d=>(b6.mp d).elim .inl λz=>.inr (.inl z)
  | _=>cases e
 | _=>cases e
end VL
namespace VL
open PySem
open PySem.Sem (wp)
open PySem.Builtin
theorem Sn:fillsNumberSlot (.type "tuple") "mul" = pure aB:=rfl
theorem O8:seqRepeat? (.type "tuple")=pure (aA (.builtin "tuple.__mul__")):=rfl
theorem QB(a:Int)(t:Tok)(l:aJ)(b:Array aG)(n:Nat)(c:Option aJ)(e:Array (Option aG)) :
  Meets (jM.«int.__rmul__» ⟨[.int a t,.ref l],[]⟩) (λ_ R s=>s.heap.get? l=aA { cls:=.type "tuple",dict:=c,data:=.seq b n,slots:=e }/\R (.ok (.ret aG.notImplemented)) s):=
 .of_wp λprog w A R s h=>by obtain⟨i,g,d,tk,os⟩:=s;obtain⟨f,h⟩:=h;wp_walk;exact⟨_,rfl,h⟩
theorem QC(l:aJ)(a:Array aG)(n:Nat)(j:Option aJ)(k:Array (Option aG))(x:Int)(u:Tok)(q:1<x)(v:x<2^63)(e:a.isEmpty=aB)(i:a.size*x.toNat<=sizeLine)
  (b:Array aG) (o:jZ (λm p=>m++p) #[] (aV x.toNat a)=b) (r:b.size<=sizeLine) :
  Meets (jM.«tuple.__mul__» ⟨[.ref l,.int x u],[]⟩) (λ_ R s=>s.heap.get? l=aA { cls:=.type "tuple",dict:=j,data:=.seq a n,slots:=k }/\R (.ok (.ret (js s.heap.objs.size))) { s with heap:=s.heap.push { cls:=kP "tuple",data:=Data.seq b },toks:=s.toks }):=
 .of_wp λprog w A R s h=>by
  obtain⟨y,g,d,tk,os⟩:=s;obtain⟨t,h⟩:=h;have c:a.size*x.toNat<=2^40:=by rw[ik] at i;omega
  have f:(a.size:Int)*x=((a.size*x.toNat:Nat):Int):=by rw[Int.natCast_mul,Int.toNat_of_nonneg (by omega)]
  wp_walk
  refine fQ (by simp;omega) ?_
  wp_walk
  refine fQ (by simp[e];omega) ?_
  wp_walk
  refine fQ (by simp[e];omega) ?_
  wp_walk
  refine fQ (decide_eq_false (by omega)) ?_
  wp_walk
  refine fQ (decide_eq_false (by rw[f];unfold Tuple.tupleTooMany;simp only[decide_eq_true_eq];omega)) ?_
  wp_walk
  rw[o];exact⟨_,rfl,h⟩
theorem Pz(l:aJ)(a:Array aG)(n:Nat)(b:Option aJ)(c:Array (Option aG))(u:Tok) :
  Meets (jM.«tuple.__mul__» ⟨[.ref l,.int 1 u],[]⟩) (λ_ R s=>s.heap.get? l=aA { cls:=.type "tuple",dict:=b,data:=.seq a n,slots:=c }/\R (.ok (.ret (js l))) s):=
 .of_wp λprog w A R s h=>by
  obtain⟨f,g,d,tk,os⟩:=s;obtain⟨e,h⟩:=h
  wp_walk
  exact⟨_,rfl,h⟩
end VL
namespace VL
open PySem PySem.Spec PyProof.Rows L2
noncomputable def D5(K:aD):R2:=λx y H Q=>∃a k xs,x = .ref a/\y = .int k/\SqT K H a xs/\xs≠[]/\1<=k/\k<2^62/\xs.length*k.toNat<=sizeLine/\
 (k=1->Q (.ref a) H)/\∀p,H p=none->Q (.ref p) (upd H p (.tup (aV k.toNat xs).flatten))
theorem EF{X:Cx}:U7 X (dB .Mult) (D5 X.K):=by
 intro U s W H x y v u Q I M L h;obtain⟨a,k,T,rfl,rfl,B,z,S,Y,f,C,E⟩:=h;cases M;obtain⟨t,rfl⟩:=L;obtain⟨c,l,w,_⟩:=I.tuple B;obtain⟨⟨J,g,p,i⟩,d,P,n,D⟩:=id w;subst P D;have m:=l.length
 refine gq rfl ⟨_,d,rfl⟩ (λG=>iV G k t) Sn F.fills_int_mul F.slot_int_rmul O8 F.slot_int_index.lookup
  (fR F.slot_int_rmul (iV s k t) F.entry_int_rmul (F.args_int_rmul_2 _ _) (QB k t a c.toArray n g i) ⟨d,rfl,⟨_,d,rfl⟩,?_⟩)
 by_cases r:k=1
 ·subst r;exact fR F.slot_tuple_mul ⟨_,d,rfl⟩ F.entry_tuple_mul (F.args_tuple_mul_2 _ _) (Pz a c.toArray n g i t) ⟨d,.ref a,H,I,rfl,C rfl⟩
 ·have j:c.toArray.isEmpty=aB:=by
   cases c with
   | nil=>exact absurd (l.nil_iff.mp rfl) z
   | cons _ _=>rfl
  have O:jZ (λN R=>N++R) #[] (aV k.toNat c.toArray)=(aV k.toNat c).flatten.toArray:=by have:=T8 c k.toNat [];exact this
  have A:(aV k.toNat c).flatten.length<=sizeLine:=by rw[OJ,cT,<-m];exact f
  refine fR F.slot_tuple_mul ⟨_,d,rfl⟩ F.entry_tuple_mul (F.args_tuple_mul_2 _ _) (QC a c.toArray n g i k t (by omega) (by omega) j (by rw[aP,<-m];exact f) _ O (by rw[aP];exact A)) ⟨d,?_⟩;refine⟨.ref s.heap.objs.size,_,I.laid (λb Z q=>aF _ q) (aL _) ?_,rfl,E _ (I.hok.fresh (aL _))⟩;exact⟨⟨by rw[OJ,cT];exact f,λo e=>R5 e⟩,_,l.rep k.toNat,jw _ _⟩
noncomputable def Ms:PV->PV->Option PV
 | .tup m,.int k=>if ZJ m=aC/\m≠[]/\1<=k/\k<=1000000/\m.length*k.toNat<=10000 then aA (.tup (aV k.toNat m).flatten) else none
 | _,_=>none
theorem EG{K:aD}:RB K (D5 K) Ms:=λH x y a b l j fb h i e Q k=>by
 cases a with
 | tup m=>cases b with
  | int n=>
   unfold Ms at e;simp only at e;split at e
   case isFalse=>cases e
   rename_i c;cases e;obtain⟨p,o,rfl,t,f⟩:=h.tup_inv;refine⟨p,n,o,rfl,i.int_inv.1,SqT.of t,λz=>c.2.1 (fU.mp (by rw[<-f.len,z];rfl)),c.2.2.1,by omega,by rw[f.len];exact cQ (lt_size c.2.2.2.2),λz=>?_,λq g=>?_⟩
   ·subst z;have s:(aV (Int.toNat 1) m).flatten=m:=by simp
    rw[s] at k;exact k _ _ j (Same.refl _) h λr d=>.inl d
   ·exact k _ _ [] (Same.new g _) (Is.tup Zt ((Iss.rep (f.pureEq c.1) n.toNat).mono (Same.new g _))) λr d=>by simp at d
  | _=>cases e
 | _=>cases e
end VL
namespace PW
open PySem L2 VL
noncomputable def Oq:XS:=(ZO (eP (Zc UB [Zj ZQ (Za 0) (Za 1)])))
noncomputable def Uu:List PV->Option PV:=YC 2 Oq
noncomputable def Ja:XS:=(ZO (eP (Zc UB [Za 0])))
noncomputable def RJ:List PV->Option PV:=YC 1 Ja
noncomputable def Gh:XS:=(ZO (eP (Zc UB [Zq 2 [1,2] (Xn aB [Zj ZQ (Za 0) (Za 2)]) (.many [0,1]) Zy (Zj Qh (Za 1) (Zj VH (Zj ZQ (Za 2) (Za 0)) (Zj ZQ (Za 2) (Za 3))))])))
noncomputable def QD:List PV->Option PV:=YC 3 Gh
noncomputable def D6:XS:=(ZO (eP (Zc ZT [Zq 2 [0,2] (Xn aB [Za 1]) (.many [0,1]) Zy (Zj Yj (Za 1) (Zc QD [Za 2,Za 3,Za 0]))])))
noncomputable def UH:List PV->Option PV:=YC 3 D6
noncomputable def Gi:XS:=(ZO (eP (Zc ZT [Zq 2 [] (UD aB aB [Za 0,Za 1]) (.many [0,1]) Zy (Zj Yj (Za 0) (Za 1))])))
noncomputable def UR:List PV->Option PV:=YC 2 Gi
noncomputable def Jb:XS:=(ZO (eP (Zc ZT [Zq 2 [] (UD aB aB [Za 0,Za 1]) (.many [0,1]) Zy (Zj VH (Za 0) (Za 1))])))
noncomputable def Uv:List PV->Option PV:=YC 2 Jb
noncomputable def Ot:XS:=(ZO (eP (Rt (Zc VD [Za 0,eC (.ty "int")]) (Es (Zc VD [Za 0,eC (.ty "bool")])))))
noncomputable def Wd:List PV->Option PV:=YC 1 Ot
noncomputable def Ou:XS:=(ZO (eP (Rt (Zc VD [Za 0,eC (.ty "tuple")]) (Rt (Zj (WR aB) (Zc Y1 [Za 0]) (Za 1)) (Zc Px [Zq 1 [] (Vf (Za 0)) (.one 0) Zy (Zc Wd [Za 0])])))))
noncomputable def Ov:List PV->Option PV:=YC 2 Ou
end PW
set_option maxHeartbeats 1000000
namespace VL
open PySem PySem.Spec PyProof.Rows L2
noncomputable def BK(f:XE):XL:=λs=>match Ve f s with
 | some m=>aA m
 | none=>Vf f s
theorem A6{f:XE}{s:ZF}{l:List PV}(q:f s=aA (.lst l)):BK f s=aA l:=by unfold BK Ve;rw[q];rfl
noncomputable def X8:List Int->Int
 | []=>0
 | [x]=>x
 | x::y::r=>if X8 (y::r)<x then X8 (y::r) else x
theorem So:∀{l:List Int},l≠[]->X8 l∈l/\∀x∈l,X8 l<=x
 | [],h=>absurd rfl h
 | [x],_=>by simp[X8]
 | x::y::r,_=>by
  obtain⟨a,b⟩:=So (l:=y::r) (by simp);unfold X8;split
  ·rename_i h;refine⟨aT _ a,λz c=>?_⟩;rcases a9.mp c with rfl | c
   ·omega
   ·exact b z c
  ·rename_i h;refine⟨by simp,λz c=>?_⟩;rcases a9.mp c with rfl | c
   ·omega
   ·have:=b z c;omega
theorem Jc{l:List Int}{m:Int}(h:m∈l)(g:∀x∈l,m<=x):X8 l=m:=by obtain⟨a,b⟩:=So (l:=l) (by intro z;subst z;simp at h);have:=b m h;have:=g _ a;omega
theorem QE(c:Nat->Int):∀k,argBest (λi j=>decide (c i<c j)) k<=k/\∀j,j<=k->c (argBest (λi j=>decide (c i<c j)) k)<=c j
 | 0=>⟨aL _,λj d=>by rw[Nat.le_zero.mp d];exact df _⟩
 | k+1=>by
  obtain⟨a,b⟩:=QE c k;unfold argBest;split
  ·rename_i h;have h:=of_decide_eq_true h;refine⟨aL _,λj d=>?_⟩;by_cases e:j=k+1
   ·subst e;exact df _
   ·have:=b j (by omega);omega
  ·rename_i h;have h:¬_:=λz=>h (decide_eq_true z);refine⟨by omega,λj d=>?_⟩;by_cases e:j=k+1
   ·subst e;omega
   ·exact b j (by omega)
noncomputable def Gj(f:List Int->Int)(K:aD):List V->Hp->VK->Prop:=λxs H Q=>∃(b:Bool) (p:aJ) (ns:List Int),xs=[.ref p]/\ns≠[]/\S8 b K H p (ns.map V.int)/\Q (.int (f ns)) H
section
variable {X:Cx}
theorem J9(R:X.calm=aC):Xx X (.builtin "min") (Gj X8 X.K):=by
 intro W s Y H U us Q I r h;obtain⟨b,p,a,rfl,y,F,q⟩:=h;obtain⟨u,rfl,P⟩:=Ta r;cases P;obtain⟨m,C,d,T⟩:=I.seqB F;have D:=let⟨_,e⟩:=d.has;aS e;have n:=C.length;rw[aN] at n;have w:=dw.mpr y
 have f:∀(i:Nat)(v:aG),m.toArray[i]?=aA v->∃t,v=jJ (a.getD i 0) t:=λi v l=>by
  have l:m[i]?=aA v:=by simpa using l
  have S:i<a.length:=by rw[n];exact(aR.mp l).1
  obtain⟨u,z,G⟩:=C.get (i:=i) (x:=.int a[i]) (by simp);rw[l] at z;cases z;obtain⟨t,rfl⟩:=G;refine⟨t,?_⟩;rw[aH,aI S];rfl
 refine call_min_walk (Yc d ?_);refine⟨_,_,_,_,_,_,λi j=>decide (a.getD i 0<a.getD j 0),rfl,Walks.seqB (A:=X.A.in1) b (I.ok.hd R) s.heap.objs.size p (bB D) m.toArray,⟨IterB.new (a0 _ rfl),d.at λo e=>aF _ e⟩,λc k=>?_,by rw[aP,<-n];exact w,CmpOf.ints_lt (λi=>a.getD i 0) f,λv Z tk l E=>?_⟩
 ·show c<(s.heap.push _).objs.size;rw[bt];rcases a9.mp k with rfl | k
  ·exact gM _
  ·rw[ag.mp k];exact jl D
 ·obtain⟨t,rfl⟩:=f _ _ l;obtain⟨O,B⟩:=QE (λi=>a.getD i 0) (m.toArray.size-1);rw[aP,<-n] at O B
  have e:X8 a=a.getD (argBest (λi j=>decide (a.getD i 0<a.getD j 0)) (m.toArray.size-1)) 0:=by
   rw[aP,<-n];refine Jc ?_ λx J=>?_
   ·rw[aH,aI (by omega)];exact cz _
   ·obtain⟨j,N,L⟩:=fK J;have:=B j (by omega);rw[aH (i:=j),aI N,L] at this;exact this
  refine⟨.int (X8 a),H,I.kept (λc o g=>E c o ?_ (aF _ g)),⟨t,by rw[e]⟩,q⟩;intro M;rw[ag.mp M] at g;exact absurd (aS g) (bz _)
end
noncomputable def Jd(f:List Int->Int):List PV->Option PV
 | [l]=>(UP l).bind λm=>(XD m).bind λns=>if ns=[] then none else aA (.int (f ns))
 | _=>none
abbrev D7:List PV->Option PV:=Jd X8
theorem EH{K:aD}(f:List Int->Int):RC K (Gj f K) (Jd f):=λH vs ls l x h e Q k=>by
 unfold Jd at e;split at e
 ·obtain⟨m,o,j⟩:=Ze e;obtain⟨q,s,c⟩:=Ze j;split at c
  ·cases c
  ·rename_i a;cases c;obtain⟨v,rfl,i⟩:=h.one_inv;obtain⟨p,u,w,rfl,d,r,t⟩:=X5 i o;have g:=XB s;subst g;obtain⟨rfl,rfl⟩:=r.iL;obtain⟨b,n⟩:=Qo d;exact⟨b,p,q,rfl,a,n,k _ H [] (Same.refl H) (Is.int _) λp d=>by simp at d⟩
 ·cases e
theorem EI{K:aD}:RC K (Gj X8 K) D7:=EH X8
theorem EJ(f:List Int->Int){l:List Int}(h:l≠[]):Jd f [pP l]=aA (.int (f l)):=by show(XD (iL l)).bind _=_;rw[Xa];simp only[aY];rw[l4 h]
variable {K:aD}
noncomputable def Ad(K:aD)(D:List PV->Option PV)(n:Nat):Sp:=λvs H Q _=>vs.length=n/\∃v0 vr l0 ls fp0 l',vs=v0::vr/\Is K H l0 v0 fp0/\fp0.Nodup/\(∀p∈fp0,Uz (H p))/\Iss K H ls vr []/\D (l0::ls)=aA l'/\
 ∀H' fq,Same (VJ H (·∈fp0)) H'->Is K H' l' v0 fq->fq.Nodup->(∀p∈fq,VJ H (·∈fp0) p=none/\Uz (H' p))->Q .non H'
noncomputable def BL(K:aD)(O W:List Nat)(H0:Hp)(fps:Nat->List aJ)(σ:S9)(D:Y0):LJ->Prop
 | .nx s'=>∀kq σ' H',Rel K O H0 kq s' σ' H'->σ'[0]?=σ[0]?->D.nx σ' H'
 | _=>True
noncomputable def BM(K:aD)(O W:List Nat)(f:XS):TS:=λD σ H=>∃H0 fps s s',Rel K O H0 fps s σ H/\f s=aA (.nx s')/\BL K O W H0 fps σ D (.nx s')
noncomputable def VS0(X:Cx)(O W:List Nat)(st:b7)(f:XS):Prop:=PS X st (BM X.K O W f)
noncomputable def EK(X:Cx)(O W:List Nat)(st:List b7)(f:XS):Prop:=PSs X st (BM X.K O W f)
section
variable {X:Cx} {O W W1 W2:List Nat} {st:b7} {Ym:List b7} {f g:XS} {pos:eu}
theorem VS.vs0(h:VS X O W st f)(d:0∉W:=by decide):VS0 X O W st f:=PS.imp h λD l H ⟨g,fps,s,i,r,e,k⟩=>⟨g,fps,s,.nx i,r,e,λj a c b q=>k j a c b (q 0 d).1⟩
theorem Gk(h:VS0 X O W st f):EK X O W [st] f:=KG h
theorem Ox(d:VS0 X O W1 st f)(u:EK X O W2 Ym g):EK X O (W1++W2) (st::Ym) (Zn f g):=PSs.imp (NZ d u) λD w H ⟨c,fps,s,o,r,e,k⟩=>by
 obtain⟨q,t,e⟩:=Ze e
 cases q with
 | nx s1=>exact⟨c,fps,s,s1,r,t,λa n x v j=>⟨c,a,s1,o,v,e,λh b m i p=>k h b m i (p.trans j)⟩⟩
 | bk s1=>cases e
 | ct s1=>cases e
 | rt l=>cases e
theorem QG{fe S fb:XE}(h:PS X st (Lf (tF X.K fe) (CQ (B8 (C7 X.K) (Po 0) (tF X.K S)) (tF X.K fb) Hs)))(v:0∈O:=by decide):VS0 X O [0] st (Vk 0 S fb fe):=PS.imp h λD σ H ⟨H0,fps,s,s',r,e,k⟩=>by
 obtain⟨l,e0,e⟩:=Ze e;obtain⟨a,U,e⟩:=Ze e;obtain⟨b,Q,e⟩:=Ze e;obtain⟨ai,ea,e⟩:=Ze e;obtain⟨bi,eb,e⟩:=Ze e;obtain⟨m,G,e⟩:=Ze e;obtain⟨j,ej,e⟩:=Ze e;obtain⟨ZE,P,e⟩:=Ze e;obtain⟨n,er,e⟩:=Ze e;obtain⟨_,eg,e⟩:=Ze e;rw[Tp ea] at U;rw[Tp eb] at Q;rw[HL er] at P;have G:=To G;have hc:=RF eg;simp only[bT] at hc;obtain⟨M,Z⟩:=hc;obtain⟨c,ec,e⟩:=map_some e;cases e;obtain⟨p,xs,fq,R,W,J,x⟩:=r.lst_at v G;refine⟨λ_=>False,s,l,λ_ z=>z.elim,r.env,e0,λy H1 fy s1 Y _=>?_⟩;refine⟨.ref p,R,λ_=>False,s,_,λ_ z=>z.elim,r.env.mono s1,U,λz H2 fz s2 i2 _=>?_⟩;obtain⟨rfl,_⟩:=i2.int_inv;have i:=s1.trans s2;obtain⟨q,f1,g,iq,u⟩:=(J.mono i).get P;obtain⟨f,A,fz',rfl,L,hz,rfl⟩:=id iq.lst_inv;refine⟨p,xs,ai,.ref f,rfl,rfl,SqL.of (i _ _ W),?_,λ_=>False,s,_,λ_ z=>z.elim,r.env.mono i,Q,λw T fw E i3 _=>?_⟩
 ·unfold T4;rw[J.len,ej];exact g
 obtain⟨rfl,_⟩:=i3.int_inv;have d:=i.trans E;have N:=r.grow d;have B:f∈fps 0:=by rw[x];exact aT _ (u f aZ)
 have mu:=(N.own 0 v f B).2;have C:T f=aA (.lst A):=E _ _ L;have:=Is.pure _ _ _ Z Y;subst this;refine⟨f,A,bi,c,rfl,rfl,C,by rw[hz.len];exact ec,?_⟩;have F:=r.nd 0 v;rw[x] at F;have I:f≠p:=λz=>(bK.mp F).1 (z▸u f aZ);have t:Iss X.K (L2.upd T f (.lst (A.set c y))) (n.set c l) (A.set c y) []:=Iss.tr (TK.upd' mu) _ _ _ (λq g=>by simp at g) (Iss.setP c M Z ((hz.mono E).pureEq M) (Y.mono (s2.trans E)));have rows:=Iss.setRow (J.mono d) P g (bK.mp F).2 mu M t;refine k _ _ _ (N.mutate (o:=.lst (A.set c y)) (l':=.lst (m.set j (.lst (n.set c l)))) (fp':=p::fq) v B R (Sk G) (Is.lst (by rw[L2.upd_ne (aw I)];exact d _ _ W) rows) F (λq g=>?_) (λj hj q g z=>r.dis 0 v j hj q (by rw[x];exact g) z) cw) rfl;refine⟨(r.own 0 v q (by rw[x];exact g)).1,?_⟩;by_cases e:q=f
 ·subst e;rw[Zt];exact cw
 ·rw[L2.upd_ne e];exact(N.own 0 v q (by rw[x];exact g)).2
end
noncomputable def A7:LJ->Option PV
 | .nx s=>match s[0]? with | some (aA l)=>aA l | _=>none
 | _=>none
noncomputable def Ae(m:Nat)(f:XS):List PV->Option PV:=λls=>if ZJ (ls.drop 1)=aC then(f (ZM m ls)).bind A7 else none
theorem Gm{N:List ao}{n:Nat}{W:List Nat}{f:XS}{vs:List V}{H:Hp}{Q:VK}{E:XK}(h:Ad K (Ae N.length f) n vs H Q E):BM K [0] W f { nx:=λ_ A=>Q .non A,rt:=Q } (L2.start N vs) H:=by
 obtain⟨hl,y,B,l0,J,g,l',rfl,L,D,F,t,e,q⟩:=h;unfold Ae at e;split at e
 case isFalse=>cases e
 obtain⟨I,X,k⟩:=Ze e;have d:Iss K H (l0::J) (y::B) (g++[]):=Iss.cons L t;have m:=d.len;generalize o:l0::J=ls at *
 have u:∀i:Nat,ls.length<=i->∀l,(ZM N.length ls)[i]?≠aA (aA l):=λi d l z=>by
  unfold ZM at z;rw[bI (by simpa using d),b0] at z;split at z<;>cases z
 have G:Rel K [0] (VJ H (·∈g)) (λi=>if i=0 then g else []) (ZM N.length ls) (L2.start N (y::B)) H:=by
  refine⟨Oe,?_,λi a z=>?_,λi C=>?_,λi d=>?_,λi d p s=>?_,λi d j Y p s=>?_⟩
  ·have Z:B.length+1=ls.length:=m;unfold ZM L2.start;simp;omega
  ·by_cases c:i<ls.length
   ·unfold ZM at z;rw[ah (by simpa using c),aW] at z
    cases q:ls[i]? with
    | none=>rw[q] at z;cases z
    | some b=>
     rw[q] at z;cases z
     cases i with
     | zero=>
      rw[<-o] at q;simp at q;subst q;exact⟨y,by unfold L2.start;simp,by simpa using L⟩
     | succ i=>
      rw[<-o] at q;obtain⟨v,f1,S,T,O⟩:=t.get (i:=i) (a:=a) (by simpa using q);have:f1=[]:=by cases f1 with | nil=>rfl | cons x r=>exact absurd (O x aZ) (by simp)
      subst this;refine⟨v,?_,by simpa using T⟩;unfold L2.start;rw[ah (by rw[aN,m];exact c),aW];simp[S]
   ·exact absurd z (u i (by omega) a)
  ·by_cases c:i<ls.length
   ·exact absurd (by unfold ZM;rw[ah (by simpa using c),aW,aI c];rfl) (C ls[i])
   ·have:i≠0:=by rw[<-o] at c;simp at c;omega
    simp[this]
  ·simp at d;subst d;simpa using D
  ·simp at d;subst d;have s:p∈g:=by simpa using s
   exact⟨by unfold VJ;rw[kz s],F p s⟩
  ·simp at d;subst d;simp[Y]
 cases I with
 | nx s'=>
  have k:(match s'[0]? with | some (aA l)=>aA l | _=>none)=aA l':=k;split at k
  case h_2=>cases k
  rename_i l M;cases k;refine⟨_,_,_,s',G,X,λR P A w U=>?_⟩;obtain⟨v,a,b⟩:=w.is 0 _ M;rw[U] at a;have:v=y:=by unfold L2.start at a;simp at a;exact a.symm
  subst this;exact q A (R 0) w.same b (w.nd 0 (by simp)) λp s=>w.own 0 (by simp) p s
 | rt v=>cases k
 | bk s'=>cases k
 | ct s'=>cases k
section
variable {P:bN} {w:cC} {mg:ao->Option aG} {base:bW}
theorem EL{x:ao}{st:b7}{N d:List ao}{k n:Nat}{W:List Nat}(m:Nat)(f:XS)(D:Def K mg x st)(S:Zl N d (Zf st))
  (i:∀(kV doc pm:aG)(an:Option aJ)(b ct:aG)(us:List aG),us.length=d.length->iI (cg x x (Xv st) (Yr st) (Zf st) .none kV doc pm an b ct) ⟨us,[]⟩=pure (d.zip us))
  (g:d.length=n) (j:N.length=m)
  (c:∀(e:aJ)(b:aG)(A:cA)(a:List jt)(s:aO)(H:Hp)(E:XK),Room k (A.deeper (gL x (Zf st) s.heap.objs.size e b))->EK (R9 La P w K mg base N x (Zf st) e b A a s H E).nox [0] W (Yr st) f) :
  Xe P w K mg base x d (Ad K (Ae m f) n) (k+1):=by
 subst j;refine D.cal S i (λvs H Q E h=>by rw[g];exact h.1) λe b A a s H vs Q E l h=>⟨_,c e b A a s H E l,Gm h⟩
end
noncomputable def Mu(i:Nat)(D:List PV->Option PV)(fs:List XE):XS:=λs=>match s[i]? with
 | some (aA l0)=>(Ql fs s).bind λls=>if ZJ ls=aC then(D (l0::ls)).map λl'=>.nx (s.set i (aA l')) else none
 | _=>none
theorem Gn{X:Cx}{O:List Nat}{i:Nat}{st:b7}{D:List PV->Option PV}{n:Nat}{fs:List XE}(h:PS X st (KH (Hn (Ad X.K D n) [] E0 (R8 (Po i) (tFA X.K fs)))))(U:fs.length+1=n:=by rfl)(t:i∈O:=by decide):VS X O [i] st (Mu i D fs):=PS.imp h λD' σ H ⟨H0,fps,s,out,r,e,k⟩=>by
 unfold Mu at e;split at e
 case h_2=>cases e
 rename_i l0 P;obtain⟨ls,S,e⟩:=Ze e;split at e
 case isFalse=>cases e
 rename_i G;obtain⟨l',C,rfl⟩:=map_some e;obtain⟨E,Q,iv⟩:=r.is i _ P;refine⟨E,Q,λ_=>False,s,ls,λ_ z=>z.elim,r.env,S,λvs A fp s1 M _=>?_⟩;have:=Iss.pure _ _ _ G M;subst this;show Ad X.K D n ((E::vs)++[]) A _ E0;rw[dG];have g:=r.grow s1;refine⟨by rw[b9,M.len,Va S];exact U,E,vs,l0,ls,fps i,l',rfl,iv.mono s1,r.nd i t,λp B=>(g.own i t p B).2,M,C,λJ y W iq L N=>?_⟩;have v:i<s.length:=Sk P;have c:∀b o,b∉fps i->A b=aA o->J b=aA o:=λb o l T=>W b o (by unfold VJ;rw[l4 l];exact T);have tk:Ek A J:=⟨λb R l=>c b _ (λz=>by have:=(g.own i t b z).2;rw[l] at this;exact this) l,λb o R l=>c b _ (λz=>by have:=(g.own i t b z).2;rw[l] at this;exact this) l,λb o R l=>c b _ (λz=>by have:=(g.own i t b z).2;rw[l] at this;exact this) l⟩
 have x:∀p∈y,p∈fps i\/A p=none:=λp B=>by
  have:=(N p B).1;unfold VJ at this;split at this
  ·exact .inl (by assumption)
  ·exact .inr this
 have fr:∀j,j≠i->∀p∈y,p∉fps j:=λj d p B z=>by
  rcases x p B with h | h
  ·exact g.dis i t j d p h z
  ·exact g.dom j p z h
 have m:Tn fps s.length i y i=y:=O0 v;refine k (Tn fps s.length i y) σ J ⟨λb u l=>c b u (λz=>by rw[(g.own i t b z).1] at l;cases l) (g.same b u l),by rw[cK];exact r.len,λj a e=>?_,λj h=>?_,λj d=>?_,λj d q f=>?_,λj d k' F q f=>?_⟩ K6
 ·rw[au] at e;by_cases d:i=j
  ·subst d;rw[kz rfl,kz v] at e;cases e;rw[m];exact⟨E,Q,iq⟩
  ·rw[l4 d] at e;obtain⟨w,Y,h2⟩:=g.is j a e;rw[ZU (aw d)];refine⟨w,Y,Is.tr tk _ _ _ (λq f=>RdK.of λu Z=>?_) h2⟩;exact c q u (λz=>g.dis i t j (aw d) q z f) Z
 ·by_cases d:i=j
  ·subst d;exact absurd (by rw[au,kz rfl,kz v]) (h l')
  ·rw[ZU (aw d)];exact r.emp j λa z=>h a (by rw[au,l4 d];exact z)
 ·by_cases e:j=i
  ·subst e;rw[m];exact L
  ·rw[ZU e];exact r.nd j d
 ·by_cases e:j=i
  ·subst e;rw[m] at f;refine⟨?_,(N q f).2⟩;rcases x q f with h | h
   ·exact(g.own j d q h).1
   ·exact Same.off g.same h
  ·rw[ZU e] at f;refine⟨(r.own j d q f).1,?_⟩;have mu:=(g.own j d q f).2;have I:q∉fps i:=λz=>g.dis j d i (aw e) q f z
   cases hh:A q with
   | none=>exact absurd hh (g.dom j q f)
   | some o=>rw[c q o I hh,<-hh];exact mu
 ·by_cases e:j=i
  ·subst e;rw[m] at f;rw[ZU F];exact fr k' F q f
  ·rw[ZU e] at f;by_cases C:k'=i
   ·subst C;rw[m];exact λz=>fr j e q z f
   ·rw[ZU C];exact r.dis j d k' F q f
end VL
namespace VL
open PySem PySem.Spec PyProof.Rows L2
variable {K:aD}
noncomputable def CMulW(i j:Int):Prop:=i.natAbs.log2<67108863/\j.natAbs.log2<67108863
noncomputable def Tz(i j:Int):Prop:=j≠0/\j.natAbs.log2<9000
instance (i j:Int):Decidable (CMulW i j):=by unfold CMulW;infer_instance
instance (i j:Int):Decidable (Tz i j):=by unfold Tz;infer_instance
theorem Je(i:Int):fL i<=i.natAbs.log2+1:=by
 unfold fL;split
 ·exact cO _
 ·exact aL _
theorem CMulW.ok{i j:Int}(h:CMulW i j):IntMulOk i j:=by
 unfold IntMulOk jM.Int.intTooBig;have a:=Je i;have b:=Je j;have d:=h.1;have c:=h.2
 have:decide (((fL i:Int)+(fL j:Int))>(bitsLine:Int))=aB:=decide_eq_false (by
  have e:(bitsLine:Int)=134217728:=rfl;rw[e];omega)
 rw[this];simp
section
variable {X:Cx} {a b:av} {fa fb:XE} {pos:eu}
theorem EM:U7 X (dB .Mult) (rI CMulW λi j=>.int (i*j)):=CY λ_ _ _ _ _ _ _ a q=>mul_int q a.ok
theorem Gp:U7 X (dB .FloorDiv) (rI Tz λi j=>.int (i.fdiv j)):=CY λ_ _ _ _ _ _ _ a q=>jb a.1 q (.inl (PyProof.noPylong_of_log2 a.2))
abbrev TB:=J0 CMulW (· * ·)
abbrev Jf:=J0 Tz jD
theorem Vm(c:VE X a fa)(d:VE X b fb):VE X (.BinOp a .Mult b pos) (Zj TB fa fb):=Wo EM (Ra _ _) c d
theorem QH(c:VE X a fa)(d:VE X b fb):VE X (.BinOp a .FloorDiv b pos) (Zj Jf fa fb):=Wo Gp (Ra _ _) c d
end
theorem QI:∀{ns:List Int}{n:Int},n∈ns->n.natAbs.log2<=iM (ns.map .int)
 | m::r,n,h=>by
  rw[dk];simp only[iM,PySem.W.WData.weight];rcases a9.mp h with rfl | h
  ·by_cases a:n=0
   ·subst a;have:Nat.log2 (Int.natAbs 0)=0:=by decide +kernel
    omega
   ·rw[l4 (by simpa using a)];omega
  ·have:=QI h;omega
open PySem.W PySem.Calls in
theorem law_walkB{l:PySem.W.OpenLaw}{q:bN}{i:List ao}{XP:(ao->Option aG)->bW->Prop}{R:cC->bW->Prop}{d:DefRec}{KK:Params->aD}{x:ao}{D:List PV->Option PV}(k:Nat)(X:l.most=aA 63)(N:d.params.defaults=[])
  (hr:Room k jj) (B:∀(w:cC)(q:ao)(c:aJ),JK q=aC->cY (KK w.params) (.ref c) q=aC->False) (hD:∀g:List Int,g.length<=63->(∀n∈g,n.natAbs.log2<=1048576)->D [.cst (iL g)]=aA (.bl aC))
  (hY:∀(w:cC)(h:bW),R w h->(KK w.params).In h)
  (F:∀(w:cC)(p:ao->Option aG)(G:aJ)(h:bW),(KK w.params).In h->h.Ns cE p->p d.name=aA (.ref G)->
   ∃O:dy,(∀(s:aO)(u:aG),je s O ⟨[u],[]⟩ [(x,u)])/\∀base:bW,(KK w.params).In base->base.Ns cE p->T6 l.prog w (KK w.params) p base La k G O [x] (Y8 (KK w.params) D 1)) (y:PyProof.Rows.importsNone q=aC:=by decide +kernel) :
  PySem.W.WalkO q i XP R l.row.toRowW d [] (λf vs=>PySem.call f vs):=by
 intro w U P p mb m yy G o pm cd doc dv kv ho hd hcd t L E T S as C v hrd I hlo;obtain rfl:dv = .none:=Dflts.none t N;obtain rfl:kv = .none:=Dflts.noKw t;obtain⟨a,vs,g,rfl,rfl,A,j,b⟩:=Att.script_of X C I
 have Y:∀n∈g,n.natAbs.log2<=1048576:=λn h=>by
  have Q:(WData.list (g.map jy)).layable=aC:=ar.mp v _ (ag.mpr rfl);unfold WData.layable at Q;have M:=of_decide_eq_true (Bool.and_eq_true_iff.mp Q).2;have J:WData.weightAll (g.map jy)<=1048576:=by simpa [WData.weight] using M
  exact aU (QI h) J
 have W:=hY w _ yy;obtain⟨O,hb,hF⟩:=F w p G _ W m.T.g L;refine enter_call (jf (L2.law_call (B w) W m.T.g m.T.b m.T.builtins m.T.nolimit (m.T.seer y) E A j (aU b (by decide)) hr hF hb (λH hO hS=>BF (hD g b Y) hO hS) λH e s' z=>z) λr s' Z=>?_);obtain⟨rfl,M,J,h4⟩:=Z;exact⟨.inl ⟨.bool aC,.bool aC,[],rfl,λ_=>rfl,.bool aC,Att.post_true l _,λ_=>⟨List.Pairwise.nil,λ_ hm=>(nomatch hm)⟩⟩,M,J,h4⟩
end VL
namespace VL
open PySem PySem.Spec PyProof.Rows L2
noncomputable def Gq(i:Nat)(f0:XE):XS:=λs=>(f0 s).bind λl0=>match s[i]? with
 | some (aA l)=>if Z9 l0=aC then aA (.rt (.tup [l0,l])) else none
 | _=>none
theorem Gr{X:Cx}{O:List Nat}{e:av}{i:Nat}{b:XE}{pos:eu}(x:PE X e (AF (R8 (tF X.K b) (R8 (Po i) F2))))(f:i∈O:=by decide):VS X O [] (.Return (aA e) pos) (Gq i b):=PS.imp (Ld x) λD A H ⟨B,fps,s,y,r,e,k⟩=>by
 obtain⟨l0,n,e⟩:=Ze e;split at e
 case h_2=>cases e
 rename_i l h;split at e
 case isFalse=>cases e
 rename_i t;cases e;obtain⟨v,o,u⟩:=r.is i _ h;refine⟨λ_=>False,s,l0,λ_ z=>z.elim,r.env,n,λw c f1 s1 g _=>?_⟩;have:=Is.pure _ _ _ t g;subst this;refine⟨v,o,(by show 2<=sizeLine;decide),λq j=>?_⟩;have a:Same c (upd c q (.tup [w,v])):=Same.new j _;have d:=r.grow s1;refine k _ (fps i) _ (d.same.trans a) (Is.tup Zt ?_) (r.nd i f) λz p=>?_
 ·have m:=Iss.cons (g.mono a) (Iss.one ((u.mono s1).mono a));simpa using m
 ·have:=d.own i f z p;exact⟨this.1,Same.mut a this.2⟩
end VL
namespace PW
open PySem L2 VL
noncomputable def TC:XS:=(Zn (RD (xB (Zj Lb (Za 1) (Zc Y1 [Za 0]))) (ZO (eP (Zj ZQ (Za 0) (Za 1)))) YE)
  (ZO (eP (Zj Wn (Zj Qh (Zj Yj (Zj Yj (Zj Qh (Za 1) (Za 1)) (Zj Qh (eC (.int 3)) (Za 1))) (eC (.int 1))) (eC (.int 5003))) (eC (.int 1999))))))
noncomputable def Z7:List PV->Option PV:=YC 2 TC
noncomputable def QJ:XS:=(Zn (Zs 3 (eP (Zj Lu (Za 0) (eC (.int 2)))))
  (Zn (RD (Qi (xB (Zj (WR aB) (Zj Wn (Za 0) (eC (.int 2))) (eC (.int 1)))) (xB (Zj Lc (Za 0) (Zj Ep (eC (.int 10)) (eC (.int 9)))))) (Zn (Xq [] (Ya [Za 1]) (.one 4) (Zs 3 (eP (Zj Lu (Za 3) (eC (.int 1000))))))
  (ZO (eP (Zj Wn (Za 3) (Za 2))))) YE)
  (Zn (Zs 3 (eP (Zj Yj (Zj Wn (Za 3) (eC (.int 999979))) (Zj Qh (eC (.int 1009)) (Za 1)))))
  (Zn (Zs 3 (eP (Zj Wn (Zj Yj (Zj Qh (Za 3) (Za 3)) (Zj Qh (eC (.int 40503)) (Za 3))) (eC (.int 999983)))))
  (ZO (eP (Zj Wn (Zj Lu (Zj Wn (Zj Yj (Zj Qh (Za 3) (Za 3)) (Zj Qh (eC (.int 7)) (Za 1))) (eC (.int 999961))) (eC (.int 11))) (Za 2))))))))
noncomputable def Zz:List PV->Option PV:=YC 5 QJ
noncomputable def RK:XS:=(Zn (Zs 4 (eP (Zc Mg [eC (.int 9),Zj Yj (Zj ZQ (Zj ZQ (Za 0) (Za 1)) (Za 2)) (Za 3)])))
  (Zn (Vk 0 (Za 1) (Za 2) (Za 4))
  (Vk 0 (Za 2) (Za 1) (Za 4))))
noncomputable def Vn:List PV->Option PV:=Ae 5 RK
noncomputable def O9:XS:=(Zn (Zs 2 (Zc Z7 [Za 0,eC (.int 0)]))
  (Zn (Zs 3 (eP (Zj Yj (eC (.int 1)) (Zc Zz [Za 2,eC (.int 0),Za 1]))))
  (Zn (Zs 4 (Zq 1 [3] (Ya [Za 3]) (.one 0) Zy (Zj Mm (UO [eC (.int 0)]) (Za 1))))
  (Zn (Zs 5 (UO []))
  (Zn (Xq [4,5] (Ya [Za 3]) (.one 6) (Vj 5 (Zc Zz [Zc Z7 [Za 0,Zj Yj (eC (.int 6)) (Za 6)],eC (.int 10),Zj Yj (Za 6) (eC (.int 1))]) (Za 6)))
  (Zn (Xq [4,5] (VY [eC (.int 1),Za 3]) (.one 6) (Zn (Zs 7 (Zc Z7 [Za 0,Za 6]))
  (Mu 4 Vn [Zj ZQ (Za 5) (Za 6),Zj ZQ (Za 5) (Zc Zz [Za 7,eC (.int 1),Za 6]),Zj Yj (eC (.int 1)) (Zc Zz [Za 7,eC (.int 2),eC (.int 3)])])))
  (Zn (RD (xB (Zj Lc (Za 3) (eC (.int 1)))) (Xq [4,5] (Ya [Zc Zz [Za 2,eC (.int 3),eC (.int 6)]]) (.one 6) (Zn (Zs 7 (Zc Z7 [Za 0,Zj Yj (eC (.int 7)) (Za 6)]))
  (Zn (Zs 8 (Zc Zz [Za 7,eC (.int 4),Za 3]))
  (Zn (Zs 9 (eP (Zj Wn (Zj Yj (Zj Yj (Za 8) (eC (.int 1))) (Zc Zz [Za 7,eC (.int 5),Zj VH (Za 3) (eC (.int 1))])) (Za 3))))
  (Mu 4 Vn [Za 8,Za 9,Zj Yj (eC (.int 1)) (Zc Zz [Za 7,eC (.int 6),eC (.int 2)])]))))) YE)
  (ZO (eP (Zc ZT [Zq 1 [] (Ve (Za 4)) (.one 0) Zy (Zc ZT [Za 0])]))))))))))
noncomputable def Na:List PV->Option PV:=YC 10 O9
noncomputable def Ia:XS:=(ZO (eP (Zc UB [Zq 1 [0,1] (BK (Za 2)) (.one 0) Zy (Zj ZQ (Zj ZQ (Za 1) (Za 2)) (Za 0))])))
noncomputable def WX:List PV->Option PV:=YC 3 Ia
noncomputable def Ru:XS:=(Zn (Xq [] (Xn aB [Za 1]) (.many [3,4]) (RD (Qi (xB (Zj (J2 aC) (Za 3) (Za 2))) (xB (Zj Lb (Za 4) (Zc WX [Za 0,Za 3,Za 2])))) (ZO (eP (Za 3))) YE))
  (ZO (eP (eC .non))))
noncomputable def Z2:List PV->Option PV:=YC 5 Ru
noncomputable def EN:XS:=(Zn (Zs 3 (UO [eP (Za 2)]))
  (Zn (Zs 4 (Zc Z2 [Za 0,Za 1,Za 3]))
  (Zn (Xr (xB (Qk aC (Za 4))) (Zn (Wt 3 (eP (Za 4)))
  (Zs 4 (Zc Z2 [Za 0,Za 1,Za 3]))))
  (ZO (Za 3)))))
noncomputable def RL:List PV->Option PV:=YC 5 EN
noncomputable def Ib:XS:=(ZO (Zq 2 [1] (Xn aB [Za 0]) (.many [0,1]) (Qi (xB (Zj (WR aC) (Za 0) (Za 2))) (xB (Zj Lb (Za 1) (eC (.int 0))))) (eP (Za 0))))
noncomputable def YQ:List PV->Option PV:=YC 2 Ib
noncomputable def Ic:XS:=(ZO (eP (Zc ZT [Zq 2 [3,1,2,0] (UD aB aB [Za 0,Za 1]) (.many [0,1]) Zy (Zj Jf (Zj VH (Zj TB (Zj ZQ (Za 3) (Za 4)) (Za 0)) (Zj TB (Zj ZQ (Za 5) (Za 4)) (Za 1))) (Za 2))])))
noncomputable def Sq:List PV->Option PV:=YC 4 Ic
noncomputable def Mv:XS:=(Zn (Zs 1 (Zc Vb [Za 0]))
  (Zn (Zs 2 (eP (eC (.int 1))))
  (Zn (Xq [1] (Ya [Zc Y1 [Za 0]]) (.one 3) (Zn (Zs 4 (eP (Zj ZQ (Za 1) (Za 3))))
  (Zn (Zs 1 (Zq 2 [3,4,2] (Xn aC [Za 1]) (.many [0,1]) Zy (eP (HB (xB (Zj (WR aB) (Za 0) (Za 2))) (Za 1) (Zc Sq [Za 1,Za 3,Za 2,Za 4])))))
  (Zs 2 (eP (Zj ZQ (Za 4) (Za 3)))))))
  (Gq 1 (Za 2)))))
noncomputable def QK:List PV->Option PV:=YC 5 Mv
noncomputable def QL:XS:=(Zn (Zs 2 (Zc QK [Zq 2 [] (UD aB aB [Za 0,Za 1]) (.many [0,1]) Zy (Zj Oo (Za 0) (OU [Za 1]))]))
  (ZO (Zq 1 [2] (Ve (Zj ZQ (Za 2) (eC (.int 1)))) (.one 0) Zy (eP (Zj Jf (Zj ZQ (Za 0) (OT UA (eC (.int 1)))) (Zj ZQ (Za 1) (eC (.int 0))))))))
noncomputable def Wh:List PV->Option PV:=YC 3 QL
noncomputable def Gs:XS:=(ZO (eP (Zc ZT [Zq 1 [1,0] (Ve (Za 2)) (.one 0) Zy (HB (xB (Zj (WR aB) (Za 0) (Za 1))) (Zc Uu [Za 2,Za 1]) (OT UA (Zj ZQ (Zj ZQ (Za 2) (Za 1)) (Za 0))))])))
noncomputable def QM:List PV->Option PV:=YC 3 Gs
noncomputable def Sr:XS:=(Zn (Zs 2 (Zq 1 [1] (Ya [Zc Y1 [Za 0]]) (.one 0) (xB (Zj (WR aC) (Za 0) (Za 1))) (eP (Za 0))))
  (ZO (eP (Zc ZT [Zq 1 [0,2] (Ve (Za 2)) (.one 0) Zy (Zc QM [Za 1,Za 0,Za 2])]))))
noncomputable def YR:List PV->Option PV:=YC 3 Sr
noncomputable def Ie:XS:=(Zn (Zs 3 (eP (Zj Oo (Qt Sj (Za 1) Ml (U8 (Za 2))) (Qt Sj (Za 1) (U8 (Zj Yj (Za 2) (eC (.int 1)))) Ml))))
  (Zn (Zs 4 (Zc Wh [Zc YR [Za 0,Za 2],Za 3]))
  (Zn (Vj 4 (Za 2) (eC (.int 0)))
  (ZO (eP (Zc ZT [Za 4]))))))
noncomputable def We:List PV->Option PV:=YC 5 Ie
noncomputable def Mw:XS:=(ZO (eP (Zc ZT [Zq 1 [1] (Ya [Zc Y1 [Za 0]]) (.one 0) Zy (HB (xB (Zj (J2 aB) (Za 0) (Za 1))) (OT UA (eC (.int 1))) (eC (.int 0)))])))
noncomputable def Xc:List PV->Option PV:=YC 2 Mw
noncomputable def Jg:XS:=(Zn (Zs 1 (eP (Zc D7 [Za 0])))
  (ZO (eP (Zc ZT [Zq 1 [1] (Vf (Za 0)) (.one 0) Zy (Zj VH (Za 0) (Za 1))]))))
noncomputable def Vo:List PV->Option PV:=YC 2 Jg
noncomputable def Gu:XS:=(Zn (Zs 3 (Zc We [Za 0,Za 1,Za 2]))
  (Zn (Zs 4 (Zc UH [Za 0,Za 1,Za 3]))
  (Zn (Zs 5 (Zc YQ [Za 4,Za 2]))
  (Zn (Xr (xB (Zj Lc (Zc Y1 [Za 5]) (eC (.int 0)))) (Zn (Zs 6 (Zc Xc [Za 0,Za 5]))
  (Zn (Zs 3 (Zc UR [Za 3,Za 6]))
  (Zn (Zs 4 (Zc UH [Za 0,Za 4,Za 6]))
  (Zs 5 (Zc YQ [Za 4,Za 2]))))))
  (ZO (OU [Zc Vo [Za 3],eP (Za 4),Zc RL [Za 0,Za 4,Za 2]]))))))
noncomputable def Yh:List PV->Option PV:=YC 7 Gu
noncomputable def EO:XS:=(ZO (eP (Rt (Zc VD [Za 0,eC (.ty "tuple")]) (Rt (Zj (WR aB) (Zc Y1 [Za 0]) (Za 1)) (Zc Px [Zq 1 [] (Vf (Za 0)) (.one 0) Zy (Zc Wd [Za 0])])))))
noncomputable def RM:List PV->Option PV:=YC 2 EO
noncomputable def TF:XS:=(Zn (Zs 3 (Zc Yh [Za 0,Za 1,eC (.int 0)]))
  (Zn (Zs 4 (Zc Yh [Za 0,Za 2,eC (.int 0)]))
  (Zn (RD (xB (Zj (WR aC) (Zj ZQ (Za 3) (eC (.int 1))) (Zj ZQ (Za 4) (eC (.int 1))))) (ZO (eP (eC .non))) YE)
  (ZO (Zc Vo [Zc Uv [Zj ZQ (Za 3) (eC (.int 0)),Zj ZQ (Za 4) (eC (.int 0))]])))))
noncomputable def Ww:List PV->Option PV:=YC 5 TF
end PW
namespace L2
open PySem PySem.Spec PyProof.Rows
abbrev WJ:=aJ->dF->List (List Pn×V)->It
end L2
namespace VL
open PySem PySem.Spec PyProof.Rows L2
variable {K:aD}
instance (x:ao) (n:Int):Decidable (MulOk x n):=by unfold MulOk;infer_instance
end VL
set_option maxHeartbeats 3200000
namespace VX
open PySem PySem.W PySem.Spec PyProof.Rows Builtin Builtin.ObjectAttr
section
variable {prog:bN} {w:cC} {A:cA} {E:aG->aO->Prop} {h:bW} {g:Array GenState} {d:Drawn} {t:Nat} {os:OsState}
variable {nm q:ao} {C N:aJ} {bs bm bmB:List aG} {hdct:Bool} {sn:List ao} {sub:List aG} {ab:Bool} {col:Option Bool} {dd:Option aJ} {k0 k1 k2 k3 k5:Option aG} {B newId initId:String}
abbrev D8(C:aJ)(t:aJ):dF:={ cls:=.ref C,data:=.fields #[.ref t,.none,.none,.none,.bool aB,.none] }
end
end VX
namespace VX
open PySem PySem.Spec PyProof.Rows L2 VL
abbrev XR:=ZF->Option ao
noncomputable def tFX(K:aD)(O:List Nat)(fx:XR)(E:XK):TS:=λ_ σ H=>∃H0 fps s n,Rel K O H0 fps s σ H/\fx s=aA n/\∀C H',gA K cE n=aA (aA (.ref C))->Same H0 H'->E (.ref C) none H'
noncomputable def VX(X:Cx)(O:List Nat)(E:XK)(st:b7)(fx:XR):Prop:=PS X st (tFX X.K O fx E)
noncomputable def ER(K:aD)(C Cb:aJ):Bool:=match K.lookup C with
 | some ⟨_,_,.cls cd,_⟩=>cd.mro.contains (.ref Cb)
 | _=>aB
end VX
namespace VX
open PySem PySem.W PySem.Spec PyProof.Rows L2
noncomputable def A8(K:Frag)(C:aJ)(bmB:List aG)(newId:String)(fI:aJ):Bool:=
 match K.lookup C with
 | some ⟨.type "type",_,.cls cd,sl⟩=>
  match cd.mro,sl.toList with
  | .ref C'::bm,[_,_,_,_,aA (.builtin n),_]=>C'==C&&n==newId&&!cd.hasDel&&tailIn K bmB bm&&nsOkIn K cd.ns&&nsIn K cd.ns "__init__"==aA (aA (.ref fI))
  | _,_=>aB
 | _=>aB
noncomputable def Zb2(C e t:aJ):bW->Prop:=λh=>h.get? e=aA (D8 C t)
noncomputable def A9(C e t dx:aJ):bW->Prop:=λh=>h.get? e=aA { D8 C t with dict:=aA dx }
end VX
namespace VX
open PySem PySem.Spec PyProof.Rows L2
noncomputable def Zaa(H:Hp)(v:V):Prop:=v = .non\/(∃i:Int,v = .int i/\i.natAbs.log2<1920)\/∃(a:aJ) (is:List Int),v = .ref a/\H a=aA (.tup (is.map V.int))/\is.length<=100/\∀i∈is,i.natAbs.log2<1920
end VX
namespace VX
open PySem PySem.W PySem.Spec PyProof.Rows L2 VL
noncomputable def spI(C:aJ)(f:ao):Sp:=λvs H Q _=>vs.length=2/\∃e v t0,vs=[.ref e,v]/\H e=aA (.ext (Zb2 C e t0))/\Zaa H v/\
 ∀t1 dx od u,RelV v u->H dx=none->dx≠e->NsO od f u->Q .non (upd (upd H dx (.frz od (.own dx))) e (.ext (A9 C e t1 dx)))
structure Zb3(P:bN)(w:cC)(K:Frag)(mg:ao->Option aG)(base:bW)(C:aJ)(f:ao)(bmB:List aG)(newId:String):Prop where
 ex:∃fI fd oI,A8 K C bmB newId fI=aC/\K.lookup fI=aA oI/\oI.cls = .type "function"/\Binds K fd ["self",f] []/\T6 P w K mg base La 1 fI fd ["self",f] (spI C f)
end VX
namespace VX
open PySem PySem.Spec PyProof.Rows L2 VL
abbrev XF:=ZF->Option (ao×PV)
structure Zab(K:aD)(C:aJ):Prop where
 ga:fC K (.ref C) "__getattribute__" = aA (aA (.builtin "BaseException.__getattribute__"))
 gr:fC K (.ref C) "__getattr__" = aA none
 cl:fC K (.ref C) "__class__" = aA (aA (.builtin "object.__class__"))
 mr:kY K C (.type "object")=aA aC
 kt:k6 K C "BaseException" = aC
section
variable {X:Cx} {e:av} {f:XE} {cx:ao} {p p2 pos:eu} {tb:ao->Option Bool} {c:aG} {cv:V}
structure Zb4(K:aD)(n:ao)(C:aJ):Prop where
 ns:gA K cE n=aA (aA (.ref C))
 ec:Zab K C
 nf:fC K (.ref C) (OO n)=aA none
 hd:(PySem.W.clsIn K C).any (·.hasDict)=aC
end
noncomputable def nms:List ao:=["NoWeb","Apart","NoText","NoOrder","TooMany","NotSettled","NoTree","NoTotal","NoEnds","NoRow","NoName"]
abbrev veT:List aG:=[.type "ValueError",.type "Exception",.type "BaseException",.type "object"]
structure QF(nm:ao)(P:bN)(w:cC)(K:aD)(mg:ao->Option aG)(base:bW)(C Cb:aJ):Prop where
 no:gA K cE nm=aA (aA (.ref C))
 mgo:mg nm=aA (.ref C)
 cf:Zb3 P w K mg base C (OO nm) veT "ValueError.__new__"
 fl:Zb4 K nm C
 bl:ER K C Cb=aC
 cls:∀cx∈nms,∃D,mg cx=aA (.ref D)/\cG K (.ref C) (.ref D)=aA (decide (cx=nm))
 ve:cG K (.ref C) (.type "ValueError")=aA aC
structure Q2(P:bN)(wo:cC)(K:aD)(mg:ao->Option aG)(base:bW)(Cw Ca Cb:aJ):Prop where
 mgb:mg "PurseError" = aA (.ref Cb)
 kb:k6 K Cb "BaseException" = aC
 w:QF "NoWeb" P wo K mg base Cw Cb
 a:QF "Apart" P wo K mg base Ca Cb
end VX
namespace VL
open PySem PySem.Spec PyProof.Rows L2
theorem Zac{X:Cx}{g e:av}{f:XE}(h:VE X e f):VI X g e (BK f):=by
 intro a s b H R I ⟨d,st,ls,c,env,e,k⟩;unfold BK at e
 cases q:Ve f st with
 | some m=>
  rw[q] at e;cases e;exact Xh h a s b H R I ⟨d,st,_,c,env,q,k⟩
 | none=>
  rw[q] at e;exact Vg h a s b H R I ⟨d,st,ls,c,env,e,k⟩
theorem Inv.freezeL{X:Cx}{j:List (aJ×dF)}{l:S9}{H:Hp}{s:aO}{d:aJ}{f:List V}{o:dF}(I:L2.Inv X j l H s)(g:H d=aA (.lst f))(m:s.heap.get? d=aA o) :
  L2.Inv X j l (upd H d (.frz o (.lst f))) s:=by
 have ne:∀b u,H b=aA u->(∀k,u≠.lst k)->b≠d:=λb u q n z=>by rw[z,g] at q;exact n _ (ay q).symm
 have p:∀b,H b=none->b≠d:=λb q z=>by rw[z,g] at q;cases q
 have un:Un X.fs [] H (upd H d (.frz o (.lst f))) s.heap s.heap:=
  ⟨λb o q _ _ _=>q,λb o q _ _ _=>⟨o.slots,q⟩,λb o q n _=>by rw[upd_ne (p b n)];exact n,λb o q _=>⟨o,q⟩,
   λb f q=>by rw[upd_ne (ne b _ q λ_ z=>nomatch z)];exact q,λb o u q=>by rw[upd_ne (ne b _ q λ_ z=>nomatch z)];exact q,λb r q=>⟨#[],by rw[upd_ne (ne b _ q λ_ z=>nomatch z),q];simp⟩⟩
 have h:HOk X.prog X.w (upd H d (.frz o (.lst f))) s.heap:=λb u q=>by
  have e:∀c y,H c=aA (.own y)->upd H d (.frz o (.lst f)) c=aA (.own y):=λc y z=>by rw[upd_ne (ne c _ z λ_ z=>nomatch z)];exact z
  have a:∀c xs',H c=aA (.tup xs')->upd H d (.frz o (.lst f)) c=aA (.tup xs'):=λc y z=>by rw[upd_ne (ne c _ z λ_ z=>nomatch z)];exact z
  by_cases i:b=d
  ·subst i;rw[Zt] at q;cases q;exact⟨m,(I.hok b _ g).stay (λ_ _ _ z=>z) (λc z=>e c _ z) a λc u z=>by rw[upd_ne (ne c _ z λ_ z=>nomatch z)];exact z⟩
  ·rw[upd_ne i] at q;exact(I.hok b u q).stay (λ_ _ _ z=>z) (λc z=>e c _ z) a λc u z=>by rw[upd_ne (ne c _ z λ_ z=>nomatch z)];exact z
 have:=I.un (t':=s.toks) un h;exact this
noncomputable def PB(f:XE):XE:=λs=>(f s).bind λl=>match l with
 | .lst m=>(XD m).map λns=>.cst (iL ns)
 | _=>none
theorem Ss{X:Cx}{e:av}{f:XE}(h:VM X e f):VE X e (PB f):=by
 intro C s E H Q I ⟨W,st,l,N,env,A,k⟩;obtain⟨m,F,i⟩:=Ze (A)
 cases m with
 | lst ms=>
  obtain⟨j,L,G⟩:=map_some (i);subst G;have x:=XB L;subst x;refine YJ (h C s E H (λv d=>∃p,v = .ref p/\d p=aA (.lst (j.map V.int))/\Same H d/\H p=none) I ⟨st,.lst (iL j),env.free,F,λv O T c is U D=>?_⟩) λu s1 ⟨v,d,g,B,p,y,a,c,t⟩=>?_
  ·obtain⟨p,R,S,rfl,a,J,rfl⟩:=is.lst_inv;obtain⟨rfl,rfl⟩:=J.iL;exact⟨p,rfl,a,c,(D p (by simp)).1⟩
  ·subst y;obtain⟨z,M,n,r,P,e⟩:=g.lstM a;refine⟨.ref p,_,Inv.freezeL g a e,B,k _ _ [] (λb o q=>?_) ?_ (by simp)⟩
   ·rw[upd_ne (λw=>by rw[w,t] at q;cases q)];exact c b o q
   ·unfold Is;exact⟨p,_,rfl,.inl ⟨_,Zt⟩,Iss.ofInts _⟩
 | _=>cases i
end VL
namespace L2
open PySem PySem.Spec PyProof.Rows
abbrev Jh(x:ao):ao->Bool:=λy=>y==x
structure CellF(N:List ao)(around scope:dM)(x:ao)(fr:List ao)(ix:List Nat):Prop where
 kind:scope.kind = .function
 cf:∀n acc,gg n scope.names acc=(x,n)::acc
 pc:∀h,jz h scope.names=h.push { cls:=.type "cell",data:=.cell none }
 cells:∀y∈scope.names,y.2 = .cell->y.1=x
 names:∀y∈scope.names,y.2 = .local->scope.names.lookup y.1=aA .local
 frees:∀y∈scope.names,y.2 = .free->(around.names.lookup y.1=aA .cell\/around.names.lookup y.1=aA .free)
 slots:fr.map aA=ix.map (λi=>N[i]?)
 outs:∀z∈fr,(z,bM)∈scope.names
 apart:∀z∈fr,scope.names.lookup z=aA .free
 ne:∀z∈fr,z≠x
theorem CellF.clos{X:Cx}{b:List (aJ×dF)}{d:St}{H:Hp}{s:aO}{a:dM}{x:ao}{fr:List ao}{ix:List Nat}(S:CellF X.N X.env.scope a x fr ix)(I:Inv X b d H s):∀y∈a.names,y.2 = .free->(X.env.cells.lookup y.1).isSome=aC:=λy g f=>by obtain⟨c,e⟩:=I.ok.has y.1 (S.frees y g f);rw[e];rfl
theorem Ig{M:Model}{A:cA}{E:aG->aO->Prop}{s:aO}{N:List ao}{d b:dM}{a:aJ}{f:ao}{c:jt}{x:ao}{fr:List ao}{ix:List Nat}{cl:List (ao×aJ)}{Q:jt->aO->Prop}(S:CellF N d b x fr ix)
  (i:Q (newEnv b s.heap.objs.size a ((x,s.heap.objs.size+1)::cl) f none .none (aA c) jU) { s with heap:=(s.heap.push { cls:=.type "dict",data:=.dict #[] }).push { cls:=.type "cell",data:=.cell none } }) :
  bG M A (gk b a cl [] f none .none (aA c)) Q E s:=by
 simp only[gk,Option.isSome_some,if_true];refine aM (wpAny_alloc ?_);refine aM (wpAny_layCells _ (λh g cells=>by cases hkc:g==bg<;>simp[hkc]) _ _ _ _ ?_);refine aM (aj (aj ?_));have e:(s.heap.push { cls:=.type "dict",data:=.dict #[] }).objs.size=s.heap.objs.size+1:=bt ..;rw[S.pc];simp only[S.cf,e];exact i
theorem YH{x y:ao}{a c:aJ}{cl:List (ao×aJ)}(h:((x,a)::cl).lookup y=aA c):(y=x/\c=a)\/(y≠x/\cl.lookup y=aA c):=by
 rw[bQ] at h
 cases q:y==x with
 | true=>rw[q] at h;exact .inl ⟨by simpa using q,by simpa using h.symm⟩
 | false=>rw[q] at h;exact .inr ⟨by simpa using q,h⟩
section
variable {X:Cx} {tg ku iter:av} {kr:List av} {scope:dM} {pos:eu} {x:ao} {fr:List ao} {ix:List Nat} {wi:TI} {g:TG} {tt:TT} {te:TE}
abbrev clF(X:Cx)(scope:dM)(x:ao)(C:aJ):List (ao×aJ):=(x,C+1)::Xz X.env.cells scope.names []
theorem LN{kj:List (aJ×dF)}{F:St}{H:Hp}{s2:aO}{M:List aJ}{h₁:bW}{tk:Nat}{C:aJ}(S:CellF X.N X.env.scope scope x fr ix)(a:Inv X kj F H s2)(f2:∀b∈M,W5 X kj H b)(I:∀b∈M,b<s2.heap.objs.size)
  (B:s2.heap.objs.size<=C) (R:h₁.Ns C λ_=>none) (Q:h₁.IsCell (C+1) none) (t:∀b o,s2.heap.get? b=aA o->h₁.get? b=aA o) :
  Inv (NV (Jh x) X (x::fr) scope (clF X scope x C) C s2 H M) [] (ZY 1 ix F) H { s2 with heap:=h₁,toks:=tk }:=by
 have Y:=a.stkSub;have cs:=S.clos a;have sub:∀y c,(Xz X.env.cells scope.names []).lookup y=aA c->X.env.cells.lookup y=aA c:=λy c e=>WS scope.names [] cs (λh=>by simp at h) e;have lt:∀y c,(Xz X.env.cells scope.names []).lookup y=aA c->c<s2.heap.objs.size:=λy c e=>by obtain⟨v,q⟩:=a.cell y c (sub y c e);exact q.lt
 have T:(NV (Jh x) X (x::fr) scope (clF X scope x C) C s2 H M).Ok:=by
  refine⟨a.ok.mod,S.kind,a.ok.glob,a.ok.blt,B,λy z c w f=>?_,λy P=>?_,λy c Z e=>?_,a.ok.hd,a.ok.frames,.inl rfl,λb A=>⟨?_,λy c e=>?_⟩,a.bs,?_,λb o e A=>?_,λb A z=>?_,a.stack,a.stkFree,a.ok.tab.un a.base,λ_ z=>absurd rfl z⟩
  ·rcases YH w with⟨s,d⟩ | ⟨s,d⟩<;>rcases YH f with⟨b1,L⟩ | ⟨b1,L⟩
   ·rw[s,b1]
   ·have h:=lt z c L;rw[d] at h;exact absurd (aa h B) (gO.mpr (jA C))
   ·have h:=lt y c d;rw[L] at h;exact absurd (aa h B) (gO.mpr (jA C))
   ·exact a.ok.inj y z c (sub y c d) (sub z c L)
  ·have P:=P
   have:∃k',(relabel scope X.env).names.lookup y=aA k'/\(k' = .cell\/k' = .free):=by
    rcases P with h | h
    ·exact⟨_,h,.inl rfl⟩
    ·exact⟨_,h,.inr rfl⟩
   obtain⟨k',e,O⟩:=this;obtain⟨k,e0⟩:=X3 e;have W:=YL (env:=X.env) e0;have e:(scope.names.map λ(n,k)=>if(k==bM&&X.env.scope.kind==.function&&X.env.kindOf n==aA .cell) then(n,bg) else(n,k)).lookup y=aA k':=e;rw[W] at e;have m:=cp e0;by_cases D:y=x
   ·subst D;exact⟨C+1,by show((y,C+1)::_:List (ao×aJ)).lookup y=_;simp[bQ]⟩
   cases k with
   | free=>
    obtain⟨c,hc⟩:=bc.mp (WT (cells:=X.env.cells) _ [] m);refine⟨c,?_⟩;show((x,C+1)::_:List (ao×aJ)).lookup y=_;rw[bQ,show(y==x)=aB by simpa using D];exact hc
   | cell=>exact absurd (S.cells _ m rfl) D
   | _=>simp at e;subst e;rcases O with z | z<;>cases z
  ·show s2.heap.objs.size<=c;have Z:(y==x)=aC:=Z;rcases YH e with⟨s,d⟩ | ⟨s,d⟩
   ·rw[d];exact gC B
   ·exact absurd (by simpa using Z) s
  ·exact bB (aa (I b A) B)
  ·rcases YH e with⟨s,d⟩ | ⟨s,d⟩
   ·rw[d];exact fF (aa (I b A) (gC B))
   ·exact(f2 b A).2.2.2.2.1 y c (sub y c d)
  ·exact aU a.ok.bsz a.sz
  ·rcases(f2 b A).2.2.2.1 with z | z
   ·exact a.ok.noex b o e z
   ·exact absurd (aa (aS (a.ok.bs b o e).1) z) (bz _)
  ·rcases a9.mp (Y b z) with e | e
   ·exact(f2 b A).2.1 e
   ·exact(f2 b A).2.2.1 e
 have sl:fr.length=ix.length:=by simpa using congrArg gR S.slots
 refine⟨T,rfl,a.bare,Un.kept t,⟨_,R,λi y v w f g=>?_⟩,λy c e=>?_,a.hok.fresh B,λy c e=>?_,λp hp=>absurd (show p∈([]:List (aJ×dF)) from hp) (by simp),a.hok.kept t,?_⟩
 ·have w:(x::fr)[i]?=aA y:=w;unfold ZY at f
  cases i with
  | zero=>simp at f
  | succ i=>
   have w:fr[i]?=aA y:=by simpa using w
   have f:(ix.map λi=>(F[i]?).join)[i]?=aA (aA v):=by simpa using f
   rw[aW] at f
   cases ej:ix[i]? with
   | none=>rw[ej] at f;cases f
   | some j=>
    rw[ej] at f;have f:(F[j]?).join=aA v:=by simpa using f
    have f:F[j]?=aA (aA v):=by
     cases q:F[j]? with
     | none=>rw[q] at f;cases f
     | some z=>rw[q] at f;exact congrArg aA f
    have hN:X.N[j]?=aA y:=by have q:=congrArg (λl=>l[i]?) S.slots;simp only[aW,w,ej] at q;exact(ay q).symm
    have E:=cH w;have hm:=S.outs y E;have hk:=S.frees _ hm rfl;obtain⟨m,hn,hl⟩:=a.loc;obtain⟨u,r,l⟩:=hl j y v hN f (by rcases hk with k | k;exact .inr (.inl k);exact .inr (.inr k));refine⟨u,r,?_⟩;rcases l with⟨k,_⟩ | ⟨_,c,hc,G⟩
    ·have k:X.env.scope.names.lookup y=aA .local:=k;rcases hk with q | q<;>rw[k] at q<;>cases q
    ·obtain⟨c',J⟩:=bc.mp (WT _ [] hm);have ec:=sub y c' J;rw[hc] at ec;cases ec;refine .inr ⟨?_,c,?_,?_⟩
     ·have g:=g;rcases g with g | g
      ·have W:=YL (env:=X.env) (S.apart y E);have g:(scope.names.map λ(n,k)=>if(k==bM&&X.env.scope.kind==.function&&X.env.kindOf n==aA .cell) then(n,bg) else(n,k)).lookup y=aA .local:=g;rw[W] at g;exfalso;split at g<;>cases g
      ·exact g
     ·show((x,C+1)::_:List (ao×aJ)).lookup y=_;rw[bQ,show(y==x)=aB by simpa using S.ne y E];exact J
     ·obtain⟨o,N,U⟩:=G;exact⟨o,t _ _ N,U⟩
 ·rcases YH e with⟨s,d⟩ | ⟨s,d⟩
  ·rw[d];exact⟨_,Q⟩
  ·obtain⟨v,o,N,U⟩:=a.cell y c (sub y c d);exact⟨v,o,t _ _ N,U⟩
 ·rcases YH e with⟨s,d⟩ | ⟨s,d⟩
  ·rw[d];exact a.hok.fresh (by omega)
  ·exact a.freeC y c (sub y c d)
 ·show(ZY 1 ix F).length=(x::fr).length;unfold ZY;rw[bA,cu,aN,b9,sl];omega
theorem Nc{M:List (aJ×dF)}{O:St}{w:Hp}{s2:aO}{Y:List aJ}{it:aJ}{tn:Nat->bW->Prop}{J:It}{Fin:List V->Hp->Prop}{RR:aG->aJ->ke->aO->Prop}{E:aG->aO->Prop}
  (n:X.calm=aC) (S:CellF X.N X.env.scope scope x fr ix)
  (hg:∀cl C s H ex,PG (NV (Jh x) X (x::fr) scope cl C s H ex) tg g) (ht:∀cl C s H ex,Lp (NV (Jh x) X (x::fr) scope cl C s H ex) kr tt) (he:∀cl C s H ex,PE (NV (Jh x) X (x::fr) scope cl C s H ex) ku te)
  (P:Inv X M O w s2) (T:OE X.prog X.w X.K tg J Y it tn) (t:tn 0 s2.heap) (f2:∀b∈Y,W5 X M w b)
  {W:Nat->Nat->List V->Hp->Prop} {m0:Nat} (w0:W 0 m0 [] w)
  (turn:∀i m ys H,W i m ys H->ys.length<=sizeLine/\
   ((J.stop i H/\Fin ys H)\/
    (J.go i H/\∃N:List V->Hp->Prop,(∀ys' H',N ys' H'->∃m',m'<m/\W (i+1) m' ys' H')/\
     ∀x H',J.yld i H x H'->g x (ZY 1 ix O) H' λl w=>l.drop 1=(ZY 1 ix O).drop 1/\tt l w λb Z=>if b=aC then te l Z λy H4=>N (ys++[y]) H4 else N ys Z)))
  (R:∀(D C:aJ)(oC:dF)(m:ao->Option aG)(s':aO)(H':Hp)(ys:List V),Inv X (M++[(C,oC)]) O (upd H' D (.lst ys)) s'->s'.heap.get? C=aA oC->s'.heap.Ns C m->W5 X M (upd H' D (.lst ys)) C->H' D=none->Fin ys H'->RR (.ref D) C (.ok .next) s') :
  bG (model X.prog X.w) X.A (newList []) (λG B=>bG (model X.prog X.w) X.A (gk scope X.env.globals (Xz X.env.cells scope.names []) [] X.env.qual none .none (aA X.env)) (λf r=>
   iR (model X.prog X.w) X.A (.compStart (.ListComp ku [⟨tg,iter,kr,0⟩] scope pos) 0 (.ref it) G { f with scope:=relabel scope X.env }) (RR G f.locals) r) E B) E s2:=by
 have A:∀b∈Y,b<s2.heap.objs.size:=λb L=>by obtain⟨o,e,_⟩:=T.obj 0 s2.heap t b L;exact aS e
 refine dE (Ig S ?_)
 dsimp only
 generalize p:s2.heap.push { cls:=.type "list",dict:=none,data:=.seq ([]:List aG).toArray }=G2;have Q:G2.objs.size=s2.heap.objs.size+1:=by rw[<-p,bt]
 have a:=(bW.Ns.new G2 (.type "dict")).push { cls:=.type "cell",data:=.cell none };generalize d:(G2.push { cls:=.type "dict",data:=.dict #[] }).push { cls:=.type "cell",data:=.cell none }=h₁ at a ⊢;have ext:∀b o,G2.get? b=aA o->h₁.get? b=aA o:=λb o e=>d▸aF _ (aF _ e);have u:h₁.IsCell (G2.objs.size+1) none:=by refine⟨{ cls:=.type "cell",data:=.cell none },?_,rfl⟩;rw[<-d,show G2.objs.size+1=(G2.push { cls:=.type "dict",data:=.dict #[] }).objs.size from(bt ..).symm];exact a0 _ rfl
 generalize hCC:G2.objs.size=C at a Q u ⊢;generalize k:s2.heap.objs.size=D at Q ⊢;have hDC:D≠C:=by omega
 have j:∀b,b<s2.heap.objs.size->b≠C/\b≠D:=λb L=>by rw[k] at L;exact⟨bB (by omega),bB L⟩
 have I:∀b o,s2.heap.get? b=aA o->h₁.get? b=aA o:=λb o e=>ext b o (p▸aF _ e)
 have F:h₁.get? D=aA { cls:=.type "list",data:=.seq ([]:List aG).toArray 0 }:=by
  have e0:G2.get? D=aA { cls:=.type "list",data:=.seq ([]:List aG).toArray 0 }:=by rw[<-p,<-k];exact a0 _ rfl
  exact ext _ _ e0
 have I0:=λtk=>LN (tk:=tk) S P f2 A (C:=C) (by omega) a u I;refine P5 (s2:=s2) (h₁:=h₁) (fv:=Jh x) (N:=x::fr) (C:=C) (D:=D) (cl:=clF X scope x C) (kk:=1) (ix:=ix) n (hg _ _ _ _ _) (ht _ _ _ _ _) (he _ _ _ _ _) P T t f2 w0 turn R A Q k I F I0 λy c e z=>?_;rcases YH e with⟨a1,U⟩ | ⟨a1,U⟩
 ·have q:C+1=D:=U.symm.trans z;omega
 ·obtain⟨v,q⟩:=P.cell y c (WS scope.names [] (S.clos P) (λh=>by simp at h) U);exact(j c q.lt).2 z
theorem Ih(c:X.calm=aC)(G:PI X tg iter wi)(S:CellF X.N X.env.scope scope x fr ix)
  (M:∀cl C s H ex,PG (NV (Jh x) X (x::fr) scope cl C s H ex) tg g) (L:∀cl C s H ex,Lp (NV (Jh x) X (x::fr) scope cl C s H ex) kr tt) (F:∀cl C s H ex,PE (NV (Jh x) X (x::fr) scope cl C s H ex) ku te)
  (p:∀x,bY iter X.env x=pure x:=by intro _;rfl):PE X (.ListComp ku [⟨tg,iter,kr,0⟩] scope pos) (Qc 1 ix wi g tt te):=by
 intro t s w H Q I h;refine fO rfl p (WA (S.clos I)) S.kind S.names (YJ (G t s w H _ I h) λv s1 k=>YJ k λE s2 B=>?_);obtain⟨R,fp,Z,J,O,e,z,T,d,f2,W,⟨Y,u⟩,turn⟩:=B;subst e;refine Nc c S M L F z T d f2 u turn ?_;intro D C N m P n y l A j a q i;refine⟨m,j,λU f=>⟨.ref D,upd n D (.lst y),?_,rfl,i D q⟩⟩;exact(l.unpinned).turned (λb o r e=>f.extBut b o r e) a.1 a.2.1 a.2.2.2.1 a.2.2.2.2.1 a.2.2.2.2.2
noncomputable def LO(N:List ao)(around scope:dM)(x:ao)(fr:List ao)(ix:List Nat):Bool:=
 (match scope.kind with | .function=>aC | _=>aB)&&(scope.names.filter (λy=>y.2==.cell)==[(x,.cell)])&&scope.names.all (λy=>y.2 != .local || scope.names.lookup y.1==aA .local)&&
 scope.names.all (λy=>y.2 != .free || (around.names.lookup y.1==aA .cell || around.names.lookup y.1==aA .free))&&(fr.map aA==ix.map (λi=>N[i]?))&&
 fr.all (λz=>scope.names.contains (z,bM))&&fr.all (λz=>scope.names.lookup z==aA .free)&&fr.all (λz=>z != x)
theorem D9{x:ao}:∀(names:List (ao×dO))(n:Nat)(a:List (ao×aJ)),(names.filter (λy=>y.2==.cell)=[(x,.cell)]->gg n names a=(x,n)::a)/\(names.filter (λy=>y.2==.cell)=[]->gg n names a=a)
 | [],n,a=>⟨λh=>by simp at h,λ_=>rfl⟩
 | (y,k)::r,n,a=>by
  have b:=λn a=>D9 (x:=x) r n a;unfold gg
  cases q:k==bg with
  | true=>
   rw[kz rfl,gP,show((y,k).2==bg)=aC from q,kz rfl];refine⟨λh=>?_,λh=>by simp at h⟩;injection h with h1 h2;cases h1;exact(b _ _).2 h2
  | false=>
   rw[l4 bO,gP,show((y,k).2==bg)=aB from q,l4 bO];exact b n a
theorem Cc{x:ao}:∀(names:List (ao×dO))(h:bW),(names.filter (λy=>y.2==.cell)=[(x,.cell)]->jz h names=h.push { cls:=.type "cell",data:=.cell none })/\(names.filter (λy=>y.2==.cell)=[]->jz h names=h)
 | [],h=>⟨λh=>by simp at h,λ_=>rfl⟩
 | (y,k)::r,h=>by
  have a:=λh=>Cc (x:=x) r h;unfold jz
  cases q:k==bg with
  | true=>
   rw[kz rfl,gP,show((y,k).2==bg)=aC from q,kz rfl];refine⟨λh=>?_,λh=>by simp at h⟩;injection h with h1 h2;exact(a _).2 h2
  | false=>
   rw[l4 bO,gP,show((y,k).2==bg)=aB from q,l4 bO];exact a h
theorem Ii{N:List ao}{b a:dM}{x:ao}{fr:List ao}{ix:List Nat}(h:LO N b a x fr ix=aC):CellF N b a x fr ix:=by
 unfold LO at h;simp only[bT] at h;obtain⟨⟨⟨⟨⟨⟨⟨i,f⟩,m⟩,k⟩,l⟩,p⟩,j⟩,o⟩:=h;have f:a.names.filter (λy=>y.2==.cell)=[(x,.cell)]:=by simpa using f
 refine⟨?_,λn g=>(D9 _ n g).1 f,λh=>(Cc _ h).1 f,λy c e=>?_,λy c e=>?_,λy c e=>?_,by simpa using l,λz d=>?_,λz d=>?_,λz d=>?_⟩
 ·split at i
  ·assumption
  ·cases i
 ·have:y∈a.names.filter (λy=>y.2==.cell):=gW.mpr ⟨c,by rw[e];rfl⟩;rw[f] at this;rw[ag.mp this]
 ·have:=ar.mp m y c;rw[e] at this;simpa using this
 ·have:=ar.mp k y c;rw[e] at this;simpa using this
 ·simpa using ar.mp p z d
 ·simpa using ar.mp j z d
 ·simpa using ar.mp o z d
end
end L2
namespace VL
open PySem PySem.Spec PyProof.Rows L2
section
variable {X:Cx} {tg ku iter:av} {kr:List av} {scope:dM} {pos:eu} {fi:XL} {T:Tgt} {ft:XT} {fe:XE}
theorem Ij(x:ao)(fr:List ao)(ix:List Nat)(b:X.calm=aC)(c:VI X tg iter fi)(S:LO X.N X.env.scope scope x fr ix=aC)
  (h:∀cl C s H a,PG (NV (Jh x) X (x::fr) scope cl C s H a) tg (gT X.K T)) (g:∀cl C s H a,Aa (NV (Jh x) X (x::fr) scope cl C s H a) kr ft) (e:∀cl C s H a,VM (NV (Jh x) X (x::fr) scope cl C s H a) ku fe)
  (f:∀i∈T.slots,i<1:=by decide) (d:∀x,bY iter X.env x=pure x:=by intro _;rfl):VM X (.ListComp ku [⟨tg,iter,kr,0⟩] scope pos) (Zq 1 ix fi T ft fe):=
 PE.imp (Ih b c (Ii S) h (λcl C s H a=>(show Lp (NV (Jh x) X (x::fr) scope cl C s H a) kr (Mc X.K ft) from g cl C s H a)) (λcl C s H a=>(show PE (NV (Jh x) X (x::fr) scope cl C s H a) ku (tM X.K fe) from e cl C s H a)) d) (OY f)
end
end VL
namespace L2
open PySem PySem.Spec PyProof.Rows
theorem Ik{X:Cx}(G:X.calm=aC):Xx X (.builtin "any") (λn H Q=>∃(b:Bool) (p:aJ) (ns:List Int),n=[.ref p]/\S8 b X.K H p (ns.map V.int)/\Q (.bl (ns.any λz=>z != 0)) H):=by
 intro P s R H n T Q I r h;obtain⟨b,p,bs,rfl,y,q⟩:=h;obtain⟨u,rfl,F⟩:=Ta r;cases F;obtain⟨j,m,a,N⟩:=I.seqB y;have J:p<s.heap.objs.size:=let⟨_,e⟩:=a.has;aS e;have k:=m.length;rw[aN] at k;refine call_any_walk (Yc a ?_);refine⟨_,_,_,_,_,_,λi=>bs.getD i 0 != 0,rfl,Walks.seqB (A:=X.A.in1) b (I.ok.hd G) s.heap.objs.size p (bB J) j.toArray,⟨IterB.new (a0 _ rfl),a.at λo e=>aF _ e⟩,λi v O L M g D=>?_,λS tk w=>?_⟩
 ·have g:j.toArray[i]?=aA v:=g;have g:j[i]?=aA v:=by simpa using g
  have d:i<bs.length:=by rw[k];exact(aR.mp g).1
  obtain⟨u,l,B⟩:=m.get (i:=i) (x:=.int bs[i]) (by rw[aW,aI d];rfl);rw[g] at l;cases l;obtain⟨t,rfl⟩:=B;refine PyProof.Rows.truthy_int ?_;have e:bs.getD i 0=bs[i]:=by rw[aH,aI d];rfl
  rw[<-e];exact D
 ·have e:(aE j.toArray.size).any (λi=>bs.getD i 0 != 0)=bs.any λz=>z != 0:=by
   rw[aP,<-k,i8,eH,eH];constructor
   ·rintro⟨i,d,h⟩;have d:=aQ.mp d;rw[aH,aI d] at h;exact⟨_,cz d,h⟩
   ·rintro⟨x,C,h⟩;obtain⟨i,d,rfl⟩:=dc.mp C;refine⟨i,aQ.mpr d,?_⟩;rw[aH,aI d];exact h
  rw[e];refine⟨.bl (bs.any λz=>z != 0),H,I.kept (λc o f=>w c o ?_ (aF _ f)),rfl,q⟩;intro E;rw[ag.mp E] at f;exact absurd (aS f) (bz _)
end L2
namespace VL
open PySem PySem.Spec PyProof.Rows L2
variable {K:aD}
noncomputable def QN:List PV->Option PV
 | [l]=>(UP l).bind λm=>(XD m).map λns=>.bl (ns.any λz=>z != 0)
 | _=>none
theorem ES:RC K (λd H Q=>∃(b:Bool) (p:aJ) (a:List Int),d=[.ref p]/\S8 b K H p (a.map V.int)/\Q (.bl (a.any λz=>z != 0)) H) QN:=λH vs ls l t h e Q k=>by
 unfold QN at e;split at e
 ·obtain⟨m,o,j⟩:=Ze e;obtain⟨a,g,rfl⟩:=map_some j;obtain⟨v,rfl,i⟩:=h.one_inv;obtain⟨p,d,s,rfl,c,q,r⟩:=X5 (K:=K) i o;have f:=XB g;subst f;obtain⟨rfl,rfl⟩:=q.iL;obtain⟨b,n⟩:=Qo c;exact⟨b,p,a,rfl,n,k _ H [] (Same.refl H) (Is.bl _) λp c=>by simp at c⟩
 ·cases e
abbrev Cd:=J0 (λ_ j=>j≠0) Int.fmod
theorem ET{X:Cx}{a b:av}{c fb:XE}{pos:eu}(e:VE X a c)(d:VE X b fb):VE X (.BinOp a .Mod b pos) (Zj Cd c fb):=Wo FY (Ra _ _) e d
end VL
namespace VL
open PySem PySem.Spec PyProof.Rows L2
section
variable {X:Cx} {a b:av} {fa fb:XE} {pos:eu}
theorem Gv(k:X.prog.given.tree=none)(e:Room 35 X.A)(b:X.stack=X.env::X.outer)(a:X.env.scope.isGenerator=aB)(c:X.env.scope.isCoroutine=aB):U7 X (dB .FloorDiv) (rI (λ_ j=>j≠0) λi j=>.int (i.fdiv j)):=by
 intro l s m H x y v u Q I f d h;obtain⟨i,j,rfl,rfl,g,q⟩:=h;obtain⟨t,rfl⟩:=f;obtain⟨t',rfl⟩:=d;refine jb g ⟨.int (i.fdiv j),H,I.tok _,⟨_,rfl⟩,q⟩ (.inr (kh I.nolimit ?_ ?_))
 ·have:=e.dp;show X.A.depth+100<ip;omega
 ·exact PySem.SeerAt.of (I.ok.mod.seer.keeps I.bk) k (by rw[I.ok.frames,b]) a c I.ok.blt I.ok.glob
abbrev Gw:=J0 (λ_ j=>j≠0) jD
theorem Gx(i:X.prog.given.tree=none)(f:Room 35 X.A)(h:VE X a fa)(g:VE X b fb)(d:X.stack=X.env::X.outer:=by rfl)(c:X.env.scope.isGenerator=aB:=by rfl)(e:X.env.scope.isCoroutine=aB:=by rfl):VE X (.BinOp a .FloorDiv b pos) (Zj Gw fa fb):=Wo (Gv i f d c e) (Ra _ _) h g
end
end VL
namespace PW
open PySem L2 VL
noncomputable def Mx:XS:=(ZO (Zc YR [Za 0,eC (.int 0)]))
noncomputable def V3:List PV->Option PV:=YC 1 Mx
noncomputable def LP:XS:=(ZO (Zq 1 [1] (Ya [Za 0]) (.one 0) Zy (eP (HB (xB (Zj (WR aB) (Za 0) (Za 1))) (eC (.int 1)) (eC (.int 0))))))
noncomputable def Vp:List PV->Option PV:=YC 2 LP
noncomputable def LQ:XS:=(Zn (Zs 1 (eP (Zc Y1 [Za 0])))
  (Zn (Zs 2 (Zq 2 [1] (Xn aB [Za 0]) (.many [0,1]) Zy (eP (PB (Zj Wu (Zc Vb [Za 1]) (Zc Vp [Za 2,Za 0]))))))
  (Zn (Zs 3 (Zq 1 [1] (Ya [Za 1]) (.one 0) Zy (eP (PB (Zj Wu (Zc Vp [Za 1,Za 0]) (Zj Mm (UO [eC (.int 0)]) (Za 1)))))))
  (ZO (Zj Wu (Za 2) (Za 3))))))
noncomputable def US:List PV->Option PV:=YC 4 LQ
noncomputable def Rv:XS:=(ZO (Zq 1 [2,0] (VY [Zj Yj (Za 2) (eC (.int 1)),Za 1]) (.one 0) (xB (Zj (WR aC) (Zj ZQ (Zj ZQ (Za 2) (Za 0)) (Za 1)) (eC (.int 0)))) (eP (Za 0))))
noncomputable def Y5:List PV->Option PV:=YC 3 Rv
noncomputable def BN:XS:=(ZO (Zq 2 [2] (UD aC aC [Za 0,Za 1]) (.many [0,1]) Zy (eP (Zj VH (Za 0) (Zj TB (Za 2) (Za 1))))))
noncomputable def Su:List PV->Option PV:=YC 3 BN
noncomputable def VG:XS:=(Zn (Zs 3 (Zc Vb [Za 0]))
  (Zn (Zs 4 (Zc Y5 [Za 3,Za 1,Za 2]))
  (Zn (Xr (xB (Zj Lc (Zc Y1 [Za 4]) (eC (.int 0)))) (Zn (Zs 5 (eP (Zj ZQ (Za 4) (eC (.int 0)))))
  (Zn (RD (HA (xB (Zj (WR aB) (Zj ZQ (Zj ZQ (Za 3) (Za 2)) (Za 2)) (eC (.int 0)))) (xB (Zj Lb (Zc LF [Zj ZQ (Zj ZQ (Za 3) (Za 5)) (Za 2)]) (Zc LF [Zj ZQ (Zj ZQ (Za 3) (Za 2)) (Za 2)])))) (Zn (Zs 6 (eP (Zj ZQ (Za 3) (Za 2))))
  (Zn (XG 3 (Za 2) (Zj ZQ (Za 3) (Za 5)))
  (XG 3 (Za 5) (Za 6)))) YE)
  (Zn (Xq [3] (Ve (Za 4)) (.one 7) (XG 3 (Za 7) (PB (Zc Su [Zj ZQ (Za 3) (Za 7),Zj ZQ (Za 3) (Za 2),Zj Gw (Zj ZQ (Zj ZQ (Za 3) (Za 7)) (Za 2)) (Zj ZQ (Zj ZQ (Za 3) (Za 2)) (Za 2))]))))
  (Zs 4 (Zc Y5 [Za 3,Za 1,Za 2]))))))
  (ZO (Za 3)))))
noncomputable def ZN:List PV->Option PV:=YC 8 VG
noncomputable def PD:XS:=(ZO (Zq 1 [0] (Ya [Zc Y1 [Za 0]]) (.one 0) Zy (eP (PB (Zq 1 [0] (Ve (Za 1)) (.one 0) Zy (eP (Zj ZQ (Za 0) (Za 1))))))))
noncomputable def Yv:List PV->Option PV:=YC 1 PD
noncomputable def WI:XS:=(Zn (Zs 3 (Zc ZN [Za 0,Za 1,Za 2]))
  (Zn (Xr (xB (Zc QN [Qt Tj (Zj ZQ (Za 3) (Za 2)) (U8 (Zj Yj (Za 2) (eC (.int 1)))) (U8 (Za 1))])) (Zn (Zs 3 (Zc Yv [Zc ZN [Zc Yv [Za 3],Za 1,Za 2]]))
  (Zs 3 (Zc ZN [Za 3,Za 1,Za 2]))))
  (ZO (Za 3))))
noncomputable def Y2:List PV->Option PV:=YC 4 WI
noncomputable def My:XS:=(Zn (Zs 3 (eP (Zj ZQ (Zj ZQ (Za 0) (Za 2)) (Za 2))))
  (Zn (Xq [] (VY [Zj Yj (Za 2) (eC (.int 1)),Za 1]) (.one 4) (RD (xB (Zc LC [Zq 1 [3] (Ve (Qt Tj (Zj ZQ (Za 0) (Za 4)) Ml (U8 (Za 1)))) (.one 0) Zy (Zj (WR aC) (Zj Cd (Za 0) (Za 1)) (eC (.int 0)))])) (ZO (eP (Za 4))) YE))
  (ZO (eP (eC .non)))))
noncomputable def Wx:List PV->Option PV:=YC 5 My
noncomputable def TH:XS:=(Zn (Zs 3 (Zc Y2 [Za 0,Za 1,Za 2]))
  (Zn (Zs 4 (Zc Wx [Za 3,Za 1,Za 2]))
  (Zn (Xr (xB (Qk aC (Za 4))) (Zn (XG 3 (Za 2) (PB (Zc Su [Zj ZQ (Za 3) (Za 2),Zj ZQ (Za 3) (Za 4),eC (.int 1)])))
  (Zn (Zs 3 (Zc Y2 [Za 3,Za 1,Za 2]))
  (Zs 4 (Zc Wx [Za 3,Za 1,Za 2])))))
  (Zn (RD (xB (Zj Lb (Zj ZQ (Zj ZQ (Za 3) (Za 2)) (Za 2)) (eC (.int 0)))) (XG 3 (Za 2) (PB (Zq 1 [] (Ve (Zj ZQ (Za 3) (Za 2))) (.one 0) Zy (eP (OT UA (Za 0)))))) YE)
  (ZO (Za 3))))))
noncomputable def Xj:List PV->Option PV:=YC 5 TH
noncomputable def Il:XS:=(ZO (eP (Zc ZT [Zq 2 [] (UD aB aB [Za 0,Za 1]) (.many [0,1]) Zy (Zj Jf (Za 0) (Za 1))])))
noncomputable def Uw:List PV->Option PV:=YC 2 Il
noncomputable def Rw:XS:=(ZO (eP (Zc UB [Zq 2 [2,1] (Xn aB [Za 0]) (.many [0,1]) Zy (Zj TB (Za 1) (Zj ZQ (Zj ZQ (Za 3) (Za 0)) (Za 2)))])))
noncomputable def XH:List PV->Option PV:=YC 3 Rw
noncomputable def Mz:XS:=(ZO (eP (Zc ZT [Zq 1 [0,1] (Ya [Zc Y1 [Za 0]]) (.one 0) Zy (Zc XH [Za 1,Za 2,Za 0])])))
noncomputable def V4:List PV->Option PV:=YC 2 Mz
noncomputable def Nd:XS:=(ZO (eP (Zc ZT [Zq 1 [1] (Vf (Za 0)) (.one 0) Zy (Zc V4 [Za 0,Za 1])])))
noncomputable def YS:List PV->Option PV:=YC 2 Nd
noncomputable def Ji:XS:=(Zn (Zs 1 (Zc V3 [Za 0]))
  (Zn (Zs 2 (eP (Zc Y1 [Za 1])))
  (Zn (Zs 3 (Zc US [Za 1]))
  (Zn (Xq [] (Ya [Za 2]) (.one 4) (Zs 3 (Zc Xj [Za 3,Za 2,Za 4])))
  (Zn (Zs 5 (eP (Zc ZT [Zq 1 [3] (Ya [Za 2]) (.one 0) Zy (Zj ZQ (Zj ZQ (Za 1) (Za 0)) (Za 0))])))
  (Zn (Zs 6 (eP (Zc ZT [Zq 1 [2] (Ve (Qt Tj (Za 3) Ml (U8 (Za 2)))) (.one 0) Zy (Zc ZT [Qt Tj (Za 0) (U8 (Za 1)) Ml])])))
  (Zn (Zs 7 (eP (Zc ZT [Zq 1 [2] (Ve (Qt Tj (Za 3) (U8 (Za 2)) Ml)) (.one 0) Zy (Zc ZT [Qt Tj (Za 0) Ml (U8 (Za 1))])])))
  (Zn (Zs 8 (eP (Zc ZT [Zq 1 [5] (Vf (Zc YS [Za 1,Za 7])) (.one 0) Zy (Zc Uw [Za 0,Za 1])])))
  (Zn (Zs 9 (eP (Zc ZT [Zq 2 [2] (UD aB aB [Zc YS [Za 6,Za 1],Za 5]) (.many [0,1]) Zy (Zc Uw [Za 0,Zj Ms (OU [Za 1]) (Za 2)])])))
  (ZO (eP (OU [Za 6,Za 8,Za 7,Za 9,Za 5]))))))))))))
noncomputable def TJ:List PV->Option PV:=YC 10 Ji
noncomputable def MA:XS:=(Zn (Zs 3 (UO []))
  (Zn (Xq [3] (Vf (Zj ZQ (Za 0) (eC (.int 1)))) (.one 4) (Wt 3 (eP (Zj Wn (Zc UB [Zq 2 [] (UD aB aC [Za 4,Za 2]) (.many [0,1]) Zy (Zj TB (Za 0) (Za 1))]) (Zj ZQ (Zj ZQ (Za 0) (eC (.int 4))) (OT UA (eC (.int 1))))))))
  (ZO (eP (Zc ZT [Zj Wu (UO [Zj VH (Za 1) (Zc UB [Za 3])]) (Za 3)])))))
noncomputable def XC:List PV->Option PV:=YC 5 MA
noncomputable def Gy:XS:=(ZO (eP (Zc UB [Zq 2 [] (UD aB aB [Za 0,Za 1]) (.many [0,1]) Zy (Zj TB (Za 0) (Za 1))])))
noncomputable def QO:List PV->Option PV:=YC 2 Gy
noncomputable def EU:XS:=(Zn (Zs 2 (eP (Zj ZQ (Za 0) (eC (.int 0)))))
  (ZO (eP (Zc ZT [Zq 2 [1] (UD aB aB [Za 2,Zj ZQ (Za 0) (eC (.int 4))]) (.many [0,1]) Zy (Zj Wn (Zc QO [Za 0,Qt Sj (Za 2) (U8 (eC (.int 1))) Ml]) (Za 1))]))))
noncomputable def Nf:List PV->Option PV:=YC 3 EU
noncomputable def LR:XS:=(ZO (eP (Zj Oo (OU [Zc RJ [Za 1]]) (Zc Nf [Zc TJ [Za 0],Za 1]))))
noncomputable def Vq:List PV->Option PV:=YC 2 LR
noncomputable def LS:XS:=(ZO (eP (Rt (Zc VD [Za 0,eC (.ty "tuple")]) (Rt (Zj (WR aB) (Zc Y1 [Za 0]) (Za 1)) (Zc Px [Zq 1 [1] (Vf (Za 0)) (.one 0) Zy (Zc RM [Za 0,Za 1])])))))
noncomputable def UT:List PV->Option PV:=YC 2 LS
noncomputable def Gz:XS:=(Zn (RD (HA (Lx (xB (Zc VD [Za 0,eC (.ty "tuple")]))) (HA (xB (Zj (WR aC) (Zc Y1 [Za 0]) (eC (.int 5)))) (Lx (xB (Zc RM [Zj ZQ (Za 0) (eC (.int 4)),Za 1]))))) (ZO (eP (eC (.bl aB)))) YE)
  (ZO (eP (Zc Px [Zq 1 [1] (Vf (Qt Sj (Za 0) Ml (U8 (eC (.int 4))))) (.one 0) Zy (Zc UT [Za 0,Za 1])]))))
noncomputable def QP:List PV->Option PV:=YC 2 Gz
noncomputable def Ce:XS:=(Zn (Zs 1 (Zc Na [Za 0,eC (.int 7)]))
  (Zn (Zs 2 (eP (Zj VH (Zc Y1 [Za 1]) (eC (.int 1)))))
  (Zn (Zs 3 (Zc TJ [Za 1]))
  (Zn (RD (HA (Lx (xB (Zc QP [Za 3,Za 2]))) (xB (Zc LC [Zq 1 [] (Vf (Zj ZQ (Za 3) (eC (.int 4)))) (.one 0) Zy (Zj Lb (Za 0) (eC (.int 1)))]))) (ZO (eP (eC (.bl aB)))) YE)
  (Zn (Zs 4 (eP (Zj VH (Zj Wn (Zc Z7 [Za 0,eC (.int 12)]) (eC (.int 2001))) (eC (.int 1000)))))
  (Zn (Zs 5 (Zq 1 [3,0] (Ya [Za 2]) (.one 0) Zy (eP (Zj Wn (Zj Wn (Zj TB (Zc Z7 [Za 2,Zj Yj (eC (.int 13)) (Za 0)]) (eC (.int 30011))) (eC (.int 999983))) (Zj ZQ (Zj ZQ (Za 1) (eC (.int 4))) (Za 0))))))
  (Zn (Zs 6 (Zc XC [Za 3,Za 4,Za 5]))
  (Zn (RD (xB (Zj (WR aC) (Zc Vq [Za 1,Za 6]) (Zc ZT [Zj Wu (UO [Za 4]) (Za 5)]))) (ZO (eP (eC (.bl aB)))) YE)
  (Zn (RD (HA (xB (Zj (WR aB) (Za 2) (eC (.int 0)))) (xB (Zj (WR aB) (Zj ZQ (Zj ZQ (Za 3) (eC (.int 4))) (OT UA (eC (.int 1)))) (eC (.int 1))))) (ZO (eP (eC (.bl aC)))) YE)
  (Zn (Zs 7 (Zc Vb [Za 5]))
  (Zn (Zs 8 (eP (Zj Yj (eC (.int 1)) (Zc Zz [Zc Z7 [Za 0,eC (.int 20)],eC (.int 8),Zj VH (Zj ZQ (Zj ZQ (Za 3) (eC (.int 4))) (OT UA (eC (.int 1)))) (eC (.int 1))]))))
  (Zn (XG 7 (OT UA (eC (.int 1))) (Zj Wn (Zj Yj (Zj ZQ (Za 7) (OT UA (eC (.int 1)))) (Za 8)) (Zj ZQ (Zj ZQ (Za 3) (eC (.int 4))) (OT UA (eC (.int 1))))))
  (Zn (Zs 9 (Zc XC [Za 3,Za 4,Za 7]))
  (ZO (eP (Rt (Zj (WR aB) (Zc Vq [Za 1,Za 9]) (Zc ZT [Zj Wu (UO [Za 4]) (Za 7)])) (Qk aB (Zc Ww [Za 1,Za 6,Za 9]))))))))))))))))))
noncomputable def D_law:List PV->Option PV:=YC 10 Ce
end PW
namespace VL
open PySem PySem.Spec PyProof.Rows L2
theorem Wf{N P:List ao}{h:dM}(a:h.kind = .function:=by rfl)(b:h.isCoroutine=aB:=by rfl)(c:h.isGenerator=aB:=by rfl)(d:N.Nodup:=by decide +kernel)(e:N.take P.length=P:=by rfl)
  (f:∀x∈P,h.names.lookup x=aA .local\/h.names.lookup x=aA .cell:=by decide +kernel) (g:∀y∈h.names,y.2≠.free:=by decide +kernel):Zl N P h:=⟨a,b,c,d,e,f,g⟩
section
variable {X:Cx} {e e1 e2 e3 e4 e5:av} {f f1 f2 f3 f4 f5:XE} {es:List av} {fs:List XE} {x:ao} {p pos pos':eu} {k k' n:Nat} {O W:List Nat}
theorem vo(i:Nat)(c:X.N[i]?=aA x:=by rfl)(d:Vis X.env.scope x:=by first | exact j1 rfl | exact ir (j1 rfl) | exact ir (ir rfl))(b:(x==("__debug__" : ao))=aB:=by decide)
  (a:(x==("__classdict__" : ao))=aB:=by decide):VE X (.Name x pos) (Za i):=AS (pv i c d b a)
theorem Yz(a:VE X e1 f1)(b:aX [e1] X.env=(aB,eval e1 X.env)::aX [] X.env:=by rfl):VA X [e1] [f1]:=Te a Bt b
theorem X1(a:VE X e1 f1)(b:VE X e2 f2)(c:aX [e1,e2] X.env=(aB,eval e1 X.env)::aX [e2] X.env:=by rfl)(d:aX [e2] X.env=(aB,eval e2 X.env)::aX [] X.env:=by rfl):VA X [e1,e2] [f1,f2]:=Te a (Yz b d) c
theorem Vr(a:VE X e1 f1)(b:VE X e2 f2)(c:VE X e3 f3)(d:aX [e1,e2,e3] X.env=(aB,eval e1 X.env)::aX [e2,e3] X.env:=by rfl)(e:aX [e2,e3] X.env=(aB,eval e2 X.env)::aX [e3] X.env:=by rfl)(f:aX [e3] X.env=(aB,eval e3 X.env)::aX [] X.env:=by rfl):VA X [e1,e2,e3] [f1,f2,f3]:=Te a (X1 b c e f) d
theorem va4(a:VE X e1 f1)(b:VE X e2 f2)(c:VE X e3 f3)(d:VE X e4 f4)(e:aX [e1,e2,e3,e4] X.env=(aB,eval e1 X.env)::aX [e2,e3,e4] X.env:=by rfl)(f:aX [e2,e3,e4] X.env=(aB,eval e2 X.env)::aX [e3,e4] X.env:=by rfl)(h:aX [e3,e4] X.env=(aB,eval e3 X.env)::aX [e4] X.env:=by rfl)(g:aX [e4] X.env=(aB,eval e4 X.env)::aX [] X.env:=by rfl):VA X [e1,e2,e3,e4] [f1,f2,f3,f4]:=Te a (Vr b c d f h g) e
theorem Vs{d:List ao}{D:List PV->Option PV}(C:Xe X.prog X.w X.K X.mg X.base x d (Y8 X.K D n) k)(c:Room k' X.A)(i:VA X (e::es) fs)(h:k<=k':=by decide)(j:Gl X x:=by rfl)(f:fs.length=n:=by rfl)
  (a:(x==("__debug__" : ao))=aB:=by decide) (g:aX (e::es) X.env=(aB,eval e X.env)::aX es X.env:=by rfl) (b:(fA pos (aX es X.env)).any (·.1)=aB:=by rfl) :
  VM X (.Call (.Name x p) (e::es) [] pos) (Zc D fs):=K2 C (c.mono h) j i f a g b
theorem WY{d:List ao}{D:List PV->Option PV}(C:Xe X.prog X.w X.K X.mg X.base x d (Y8 X.K D n) k)(c:Room k' X.A)(i:VA X (e::es) fs)(h:k<=k':=by decide)(j:Gl X x:=by rfl)(f:fs.length=n:=by rfl)
  (a:(x==("__debug__" : ao))=aB:=by decide) (g:aX (e::es) X.env=(aB,eval e X.env)::aX es X.env:=by rfl) (b:(fA pos (aX es X.env)).any (·.1)=aB:=by rfl) :
  VE X (.Call (.Name x p) (e::es) [] pos) (Zc D fs):=VM.ve (K2 C (c.mono h) j i f a g b)
theorem vb{id:String}{r:List V->Hp->VK->Prop}{g:List PV->Option PV}(f:Xx X (.builtin id) r)(c:RC X.K r g)(h:X.mg x=none)(j:VA X (e::es) fs)(l:Gl X x:=by rfl)(k:dA x=aA (.builtin id):=by decide +kernel)(d:x≠"__name__":=by decide)(a:(x==("__debug__" : ao))=aB:=by decide)
  (i:aX (e::es) X.env=(aB,eval e X.env)::aX es X.env:=by rfl) (b:(fA pos (aX es X.env)).any (·.1)=aB:=by rfl):VE X (.Call (.Name x p) (e::es) [] pos) (Zc g fs):=Mf f c l h k j d a i b
theorem Jj(c:X.mg "len" = none)(d:VE X e f)(g:Gl X "len":=by rfl)(b:aX [e] X.env=(aB,eval e X.env)::aX [] X.env:=by rfl)(a:(fA pos (aX [] X.env)).any (·.1)=aB:=by rfl):VE X (.Call (.Name "len" p) [e] [] pos) (Zc Y1 [f]):=
 Mf Hl Bx g c (by decide +kernel) (Yz d b) (by decide) (by decide) b a
theorem YY{a:XE}(i:Nat)(g:X.N.Nodup)(d:VM X e a)(h:X.N[i]?=aA x:=by rfl)(b:FP X.env.scope x:=by first | exact j1 rfl | exact ir rfl)(c:g9 e (aA (.Name x pos')) pos.line X.env=pure aB:=by rfl)(f:X.fn x=aC\/X.env.scope.names.lookup x=aA .local:=by first | exact .inl rfl | exact .inr rfl | assumption) :
  VS X O [i] (.Assign [.Name x pos'] e pos) (Zs i a):=BC g h b d c f
theorem GA(i:Nat)(c:X.N.Nodup)(d:X.N[i]?=aA x:=by rfl)(a:FP X.env.scope x:=by first | exact j1 rfl | exact ir rfl)(b:X.fn x=aC\/X.env.scope.names.lookup x=aA .local:=by first | exact .inl rfl | exact .inr rfl | assumption):PG X (.Name x pos) (U9 i):=Ry c d a b
theorem WZ(i:Nat){N:List ao}{a:dM}{cl:List (ao×aJ)}{C:aJ}{s:aO}{H:Hp}{b:List aJ}(e:N.Nodup:=by decide +kernel)(f:N[i]?=aA x:=by rfl)(c:FP (ZG X N a cl C s H b).env.scope x:=by exact j1 rfl)(d:(ZG X N a cl C s H b).env.scope.names.lookup x=aA .local:=by rfl):PG (ZG X N a cl C s H b) (.Name x pos) (U9 i):=Ry e f c (.inr d)
end
section
variable {X:Cx} {tg iter ku e1 e2:av} {fi:XL} {T:Tgt} {ft:XT} {fe f1 f2:XE} {p pos pos':eu} {O W:List Nat} {body:List b7} {fb:XS} {scope:dM}
theorem FL(e:VI X tg iter fi)(g:PG X tg (gT X.K T))(c:Ha X O W body fb)(d:jK (model X.prog X.w) X.A X.env X.xe:=by exact eT)(b:X.calm=aC:=by rfl)(f:∀i∈T.slots,i∉O:=by decide)
  (a:∀x,bY iter X.env x=pure x:=by intro _;rfl):VS X O (T.slots++W) (.For tg iter body [] pos) (Xq O fi T fb):=BD d b e g c f a
theorem Jk(c:X.mg "range" = none)(b:VE X e1 f1)(d:Gl X "range":=by rfl)(a:aX [e1] X.env=[(aB,eval e1 X.env)]:=by rfl):VI X tg (.Call (.Name "range" p) [e1] [] pos) (Ya [f1]):=J4 d c (Yz b (by rw[a];rfl)) a
theorem vr2(c:X.mg "range" = none)(e:VE X e1 f1)(d:VE X e2 f2)(f:Gl X "range":=by rfl)(b:aX [e1,e2] X.env=[(aB,eval e1 X.env),(aB,eval e2 X.env)]:=by rfl)(a:aX [e2] X.env=[(aB,eval e2 X.env)]:=by rfl):VI X tg (.Call (.Name "range" p) [e1,e2] [] pos) (VY [f1,f2]):=J5 f c (X1 e d (by rw[b,a]) (by rw[a];rfl)) b a
theorem MB(o:ao)(fr:List ao)(ix:List Nat)(a:VI X (.Name o pos') iter fi)(e:∀{cl C s H ex},VE (ZG X ([o]++fr) scope cl C s H ex) ku fe)(S:VU X.N X.env.scope scope [o] fr ix=aC:=by kernel_rfl)
  (b:([o]++fr).Nodup:=by decide +kernel) (f:∀cl C s H ex,FP (ZG X ([o]++fr) scope cl C s H ex).env.scope o:=by intro _ _ _ _ _;exact j1 rfl) (g:∀cl C s H ex,(ZG X ([o]++fr) scope cl C s H ex).env.scope.names.lookup o=aA .local:=by intro _ _ _ _ _;rfl) (c:X.calm=aC:=by rfl) (d:∀x,bY iter X.env x=pure x:=by intro _;rfl) :
  VE X (.ListComp ku [⟨.Name o pos',iter,[],0⟩] scope pos) (Zq 1 ix fi (.one 0) Zy fe):=YN [o] fr ix c a S (λ_ _ _ _ _=>Ry (i:=0) b rfl (f _ _ _ _ _) (.inr (g _ _ _ _ _))) (λ_ _ _ _ _=>ZW) (λ_ _ _ _ _=>e) (λi a=>by cases a with | head=>exact Nat.zero_lt_one | tail _ h=>cases h) d
end
section
variable {K:aD} {P:bN} {w:cC} {mg:ao->Option aG} {base:bW} {x a b c d e:ao} {st:b7} {N:List ao} {k m:Nat} {O W:List Nat} {f:XS}
abbrev BdA(x:ao)(st:b7)(us:List aG)(r:List (ao×aG)):Prop:=∀(kV doc pm:aG)(an:Option aJ)(cdv ct:aG),iI (cg x x (Xv st) (Yr st) (Zf st) .none kV doc pm an cdv ct) ⟨us,[]⟩=pure r
abbrev EV(P:bN)(w:cC)(K:aD)(mg:ao->Option aG)(base:bW)(N:List ao)(x:ao)(st:b7)(k:Nat)(O W:List Nat)(f:XS):Prop:=∀{fa:aJ}{cdv:aG}{A:cA}{outer:List jt}{s:aO}{H:Hp}{E:XK},Room k (A.deeper (gL x (Zf st) s.heap.objs.size fa cdv))->Ha (R9 La P w K mg base N x (Zf st) fa cdv A outer s H E).nox O W (Yr st) f
theorem Cf(O:List Nat)(D:Def K mg x st)(S:Zl N [a] (Zf st))(q:EV P w K mg base N x st k O W f)(e:∀t,BdA x st [t] [(a,t)]:=by intro _ _ _ _ _ _ _;rfl)(d:N.length=m:=by rfl)(g:∀i∈O,1<=i:=by decide):Xe P w K mg base x [a] (Y8 K (YC m f) 1) (k+1):=
 O1 m f D S (λ_ _ _ _ _ _ h c=>match h,c with | [t],_=>e t _ _ _ _ _ _) rfl d g λ_ _ _ _ _ _ _ b=>q b
theorem Ng(O:List Nat)(D:Def K mg x st)(S:Zl N [a,b] (Zf st))(q:EV P w K mg base N x st k O W f)(g:∀t u,BdA x st [t,u] [(a,t),(b,u)]:=by intro _ _ _ _ _ _ _ _;rfl)(e:N.length=m:=by rfl)(h:∀i∈O,2<=i:=by decide):Xe P w K mg base x [a,b] (Y8 K (YC m f) 2) (k+1):=
 O1 m f D S (λ_ _ _ _ _ _ j d=>match j,d with | [t,u],_=>g t u _ _ _ _ _ _) rfl e h λ_ _ _ _ _ _ _ c=>q c
theorem NW(O:List Nat)(D:Def K mg x st)(S:Zl N [a,b,c] (Zf st))(q:EV P w K mg base N x st k O W f)(h:∀t u v,BdA x st [t,u,v] [(a,t),(b,u),(c,v)]:=by intro _ _ _ _ _ _ _ _ _;rfl)(g:N.length=m:=by rfl)(j:∀i∈O,3<=i:=by decide):Xe P w K mg base x [a,b,c] (Y8 K (YC m f) 3) (k+1):=
 O1 m f D S (λ_ _ _ _ _ _ l e=>match l,e with | [t,u,v],_=>h t u v _ _ _ _ _ _) rfl g j λ_ _ _ _ _ _ _ d=>q d
theorem dk4(O:List Nat)(D:Def K mg x st)(S:Zl N [a,b,c,d] (Zf st))(q:EV P w K mg base N x st k O W f)(j:∀t u v y,BdA x st [t,u,v,y] [(a,t),(b,u),(c,v),(d,y)]:=by intro _ _ _ _ _ _ _ _ _ _;rfl)(h:N.length=m:=by rfl)(l:∀i∈O,4<=i:=by decide):Xe P w K mg base x [a,b,c,d] (Y8 K (YC m f) 4) (k+1):=
 O1 m f D S (λ_ _ _ _ _ _ n g=>match n,g with | [t,u,v,y],_=>j t u v y _ _ _ _ _ _) rfl h l λ_ _ _ _ _ _ _ e=>q e
end
end VL
namespace PW
open PySem L2 VL
noncomputable def Wg(i:Nat):b7:=gH.main.body.getD i (.Pass ⟨0,0,0,0⟩)
section
variable (P:bN) (w:cC) (K:aD) (mg:ao->Option aG) (base:bW)
abbrev TL:Prop:=Xe P w K mg base "_law_cell" ["_law_script","_law_k"] (Y8 K Z7 2) 1
abbrev TM:Prop:=Xe P w K mg base "_law_part" ["_law_cell_here","_law_turn","_law_many"] (Y8 K Zz 3) 1
abbrev Nh:Prop:=Xe P w K mg base "_law_web" ["_law_script","_law_most"] (Y8 K Na 2) 2
abbrev Sv:Prop:=Xe P w K mg base "ties_at" ["web","house"] (Y8 K Uu 2) 1
abbrev QQ:Prop:=Xe P w K mg base "row_of" ["web","house","others"] (Y8 K QM 3) 2
abbrev YT:Prop:=Xe P w K mg base "square_without" ["web","base"] (Y8 K YR 2) 3
abbrev V5:Prop:=Xe P w K mg base "square_of" ["web"] (Y8 K V3 1) 4
abbrev UU:Prop:=Xe P w K mg base "unit_row" ["many","at"] (Y8 K Vp 2) 1
abbrev UW:Prop:=Xe P w K mg base "block_of" ["square"] (Y8 K US 1) 2
abbrev XI:Prop:=Xe P w K mg base "rows_to_clear" ["rows","many","place"] (Y8 K Y5 3) 1
abbrev Ni:Prop:=Xe P w K mg base "less" ["row","by","often"] (Y8 K Su 3) 1
abbrev XJ:Prop:=Xe P w K mg base "cleared_below" ["block","many","place"] (Y8 K ZN 3) 36
abbrev WK:Prop:=Xe P w K mg base "turned_over" ["block"] (Y8 K Yv 1) 1
abbrev WL:Prop:=Xe P w K mg base "crossed_out" ["block","many","place"] (Y8 K Y2 3) 37
abbrev V6:Prop:=Xe P w K mg base "unfit_row" ["block","many","place"] (Y8 K Wx 3) 1
abbrev Vt:Prop:=Xe P w K mg base "part_found" ["block","many","place"] (Y8 K Xj 3) 38
abbrev Sw:Prop:=Xe P w K mg base "divided" ["line","row"] (Y8 K Uw 2) 1
abbrev XM:Prop:=Xe P w K mg base "row_by_column" ["row","square","column"] (Y8 K XH 3) 1
abbrev V7:Prop:=Xe P w K mg base "row_times" ["row","square"] (Y8 K V4 2) 2
abbrev Vu:Prop:=Xe P w K mg base "multiplied" ["one","other"] (Y8 K YS 2) 3
abbrev RN:Prop:=Xe P w K mg base "parts" ["web"] (Y8 K TJ 1) 39
abbrev V8:Prop:=Xe P w K mg base "_law_reached" ["_law_told_here","_law_whole_here","_law_rests"] (Y8 K XC 3) 1
abbrev QR:Prop:=Xe P w K mg base "by_row" ["line","coins"] (Y8 K QO 2) 1
abbrev Nj:Prop:=Xe P w K mg base "rests" ["told","purse"] (Y8 K Nf 2) 2
abbrev Nk:Prop:=Xe P w K mg base "total" ["purse"] (Y8 K RJ 1) 1
abbrev UX:Prop:=Xe P w K mg base "place_of" ["web","purse"] (Y8 K Vq 2) 40
abbrev Sx:Prop:=Xe P w K mg base "_law_whole" ["_law_number"] (Y8 K Wd 1) 1
abbrev RO:Prop:=Xe P w K mg base "_law_row" ["_law_found","_law_houses"] (Y8 K RM 2) 2
abbrev UY:Prop:=Xe P w K mg base "_law_square" ["_law_found","_law_size"] (Y8 K UT 2) 3
abbrev QS:Prop:=Xe P w K mg base "_law_told" ["_law_found","_law_size"] (Y8 K QP 2) 4
abbrev Sy:Prop:=Xe P w K mg base "reduced" ["row","by","place","divisor"] (Y8 K Sq 4) 1
abbrev QT:Prop:=Xe P w K mg base "evened" ["rows"] (Y8 K QK 1) 2
abbrev Wi:Prop:=Xe P w K mg base "solved_below" ["square","column"] (Y8 K Wh 2) 3
abbrev Sz:Prop:=Xe P w K mg base "nearing" ["web","purse","base"] (Y8 K We 3) 4
abbrev LU:Prop:=Xe P w K mg base "gain" ["web","script","house"] (Y8 K QD 3) 1
abbrev GB:Prop:=Xe P w K mg base "run" ["web","purse","script"] (Y8 K UH 3) 2
abbrev SA:Prop:=Xe P w K mg base "in_debt" ["purse","base"] (Y8 K YQ 2) 1
abbrev V9:Prop:=Xe P w K mg base "borrowing" ["web","houses"] (Y8 K Xc 2) 1
abbrev LV:Prop:=Xe P w K mg base "plus" ["one","other"] (Y8 K UR 2) 1
abbrev RP:Prop:=Xe P w K mg base "least" ["script"] (Y8 K Vo 1) 1
abbrev SD:Prop:=Xe P w K mg base "ties_to" ["web","house","others"] (Y8 K WX 3) 1
abbrev XN:Prop:=Xe P w K mg base "house_to_burn" ["web","purse","fire"] (Y8 K Z2 3) 2
abbrev Nl:Prop:=Xe P w K mg base "burnt" ["web","purse","base"] (Y8 K RL 3) 3
abbrev QU:Prop:=Xe P w K mg base "settle" ["web","purse","base"] (Y8 K Yh 3) 5
abbrev Nm:Prop:=Xe P w K mg base "minus" ["one","other"] (Y8 K Uv 2) 1
abbrev Nn:Prop:=Xe P w K mg base "alike" ["web","one","other"] (Y8 K Ww 3) 6
end
section
variable {P:bN} {w:cC} {K:aD} {mg:ao->Option aG} {base:bW}
abbrev QV:b7:=Wg 47
theorem Im:Zl ["_law_script","_law_k"] ["_law_script","_law_k"] (Zf QV):=Wf
theorem Io(a:Def K mg "_law_cell" QV)(B:X4 mg):TL P w K mg base:=
 Ng [] a Im λb=>
  (Zd (VF (Md (vo 1) (Jj B.len (vo 0))) (Zi (Zw (VE.pure (Zk (vo 0) (vo 1))))) Y4)
  (Zi (Zw (VE.pure (Xg (W9 (Yg (Yg (W9 (vo 1) (vo 1)) (W9 Zh (vo 1))) Zh) Zh) Zh)))))
abbrev QW:b7:=Wg 48
theorem sc_l_part:Zl ["_law_cell_here","_law_turn","_law_many","_law_x","_law_k"] ["_law_cell_here","_law_turn","_law_many"] (Zf QW):=Wf
theorem Ip(a:Def K mg "_law_part" QW)(B:X4 mg):TM P w K mg base:=
 NW [] a sc_l_part λb=>
  (Zd (YY 3 sc_l_part.nd (VE.pure (OP (vo 0) Zh)))
  (Zd (VF (VW.vt (Ly (Qv b.units (Xg (vo 0) Zh) Zh) (OQ (KY (vo 0) (Bn Zh Zh))))) (Zd (FL (Jk B.range (vo 1)) (GA 4 sc_l_part.nd) (Zi (YY 3 sc_l_part.nd (VE.pure (OP (vo 3) Zh)))))
  (Zi (Zw (VE.pure (Xg (vo 3) (vo 2)))))) Y4)
  (Zd (YY 3 sc_l_part.nd (VE.pure (Yg (Xg (vo 3) Zh) (W9 Zh (vo 1)))))
  (Zd (YY 3 sc_l_part.nd (VE.pure (Xg (Yg (W9 (vo 3) (vo 3)) (W9 Zh (vo 3))) Zh)))
  (Zi (Zw (VE.pure (Xg (OP (Xg (Yg (W9 (vo 3) (vo 3)) (W9 Zh (vo 1))) Zh) Zh) (vo 2)))))))))
abbrev Np:b7:=Wg 49
theorem sc_l_tie:Zl ["_law_times_here","_law_one","_law_other","_law_more","_law_many"] ["_law_times_here","_law_one","_law_other","_law_more"] (Zf Np):=Wf
theorem GC(b:Def K mg "_law_tie" Np)(B:X4 mg):Xe P w K mg base "_law_tie" (["_law_times_here","_law_one","_law_other","_law_more"]:List ao) (Ad K Vn 4) 1:=
 EL (k:=0) 5 RK b sc_l_tie (λ_ _ _ _ _ _ e d=>match e,d with | [_,_,_,_],_=>rfl) rfl rfl (λg c A a s H E f=>
  (Ox (VS.vs0 (YY 4 sc_l_tie.nd (VE.pure (vb (JS rfl) Ex B.min (X1 Zh (Yg (Zk (Zk (vo 0) (vo 1)) (vo 2)) (vo 3)))))))
  (Ox (QG (VR (vo 4) (VQ (Hr ix_list (pv 0) (vo 1) (λ_ _=>rfl)) (vo 2) Xy)))
  (Gk (QG (VR (vo 4) (VQ (Hr ix_list (pv 0) (vo 2) (λ_ _=>rfl)) (vo 1) Xy)))))))
abbrev Nq:b7:=Wg 50
theorem sc_l_web:Zl ["_law_script","_law_most","_law_first","_law_houses","_law_times_here","_law_spots","_law_k","_law_cell_here","_law_one","_law_other"] ["_law_script","_law_most"] (Zf Nq):=Wf
theorem GD(e:Def K mg "_law_web" Nq)(B:X4 mg)(b:TL P w K mg base)(a:TM P w K mg base)(c:Xe P w K mg base "_law_tie" (["_law_times_here","_law_one","_law_other","_law_more"]:List ao) (Ad K Vn 4) 1):Nh P w K mg base:=
 Ng [4,5] e sc_l_web λd=>
  (Zd (YY 2 sc_l_web.nd (Vs b d (X1 (vo 0) Zh)))
  (Zd (YY 3 sc_l_web.nd (VE.pure (Yg Zh (WY a d (Vr (vo 2) Zh (vo 1))))))
  (Zd (Tr (["_law_k"]:List ao) (["_law_houses"]:List ao) [3] (i:=4) sc_l_web.nd rfl rfl rfl (Jk B.range (vo 3)) (by kernel_rfl) (λ_ _ _ _ _=>(WZ 0)) (λ_ _ _ _ _=>ZW) (λ_ _ _ _ _=>(HP (Qn (Yz Zh)) (vo 1))))
  (Zd (YY 5 sc_l_web.nd (LB Rz))
  (Zd (FL (Jk B.range (vo 3)) (GA 6 sc_l_web.nd) (Zi (Oi (Up (KO eI iB iC P8 (pv 5) (Y3 (WY a d (Vr (WY b d (X1 (vo 0) (Yg Zh (vo 6)))) Zh (Yg (vo 6) Zh))) (Y3 (vo 6) UN)))))))
  (Zd (FL (vr2 B.range Zh (vo 3)) (GA 6 sc_l_web.nd) (Zd (YY 7 sc_l_web.nd (Vs b d (X1 (vo 0) (vo 6))))
  (Zi (Gn (Up (Lq c (d.mono (by decide)) rfl (Y3 (pv 4) (Vr (Zk (vo 5) (vo 6)) (Zk (vo 5) (WY a d (Vr (vo 7) Zh (vo 6)))) (Yg Zh (WY a d (Vr (vo 7) Zh Zh)))))))))))
  (Zd (VF (KY (vo 3) Zh) (Zi (FL (Jk B.range (WY a d (Vr (vo 2) Zh Zh))) (GA 6 sc_l_web.nd) (Zd (YY 7 sc_l_web.nd (Vs b d (X1 (vo 0) (Yg Zh (vo 6)))))
  (Zd (YY 8 sc_l_web.nd (Vs a d (Vr (vo 7) Zh (vo 3))))
  (Zd (YY 9 sc_l_web.nd (VE.pure (Xg (Yg (Yg (vo 8) Zh) (WY a d (Vr (vo 7) Zh (WB (vo 3) Zh)))) (vo 3))))
  (Zi (Gn (Up (Lq c (d.mono (by decide)) rfl (Y3 (pv 4) (Vr (vo 8) (vo 9) (Yg Zh (WY a d (Vr (vo 7) Zh Zh)))))))))))))) Y4)
  (Zi (Zw (VE.pure (ZC Zm ZH rfl B.tuple (by decide +kernel) (Yz (MB "_law_row_here" [] [] (Xh (vo 4)) (ZC Zm ZH rfl B.tuple (by decide +kernel) (Yz (vo 0))))))))))))))))
abbrev SE:b7:=Wg 1
theorem LW:Zl ["web","house"] ["web","house"] (Zf SE):=Wf
theorem LX(a:Def K mg "ties_at" SE)(B:X4 mg):Sv P w K mg base:=
 Ng [] a LW λb=>
  (Zi (Zw (VE.pure (vb (Y9 rfl) VV B.sum (Yz (Zk (vo 0) (vo 1)))))))
abbrev QX:b7:=Wg 12
theorem Iq:Zl ["web","house","others"] ["web","house","others"] (Zf QX):=Wf
theorem Ir(c:Def K mg "row_of" QX)(B:X4 mg)(a:Sv P w K mg base):QQ P w K mg base:=
 NW [] c Iq λb=>
  (Zi (Zw (VE.pure (ZC Zm ZH rfl B.tuple (by decide +kernel) (Yz (MB "other" ["house","web"] [1,0] (Xh (vo 2)) (KZ (Qv b.units (vo 0) (vo 1)) (WY a b (X1 (vo 2) (vo 1))) (WC (Zk (Zk (vo 2) (vo 1)) (vo 0))))))))))
abbrev Xs:b7:=Wg 11
theorem sc_square_without:Zl ["web","base","others"] ["web","base"] (Zf Xs):=Wf
theorem TN(c:Def K mg "square_without" Xs)(B:X4 mg)(a:QQ P w K mg base):YT P w K mg base:=
 Ng [] c sc_square_without λb=>
  (Zd (YY 2 sc_square_without.nd (Ws (["house"]:List ao) (["base"]:List ao) [1] rfl (Jk B.range (Jj B.len (vo 0))) (by kernel_rfl) (λ_ _ _ _ _=>(WZ 0)) (λ_ _ _ _ _=>(OZ (Oj b.units (vo 0) (vo 1)))) (λ_ _ _ _ _=>(VE.pure (vo 0)))))
  (Zi (Zw (VE.pure (ZC Zm ZH rfl B.tuple (by decide +kernel) (Yz (MB "house" ["web","others"] [0,2] (Xh (vo 2)) (WY a b (Vr (vo 1) (vo 0) (vo 2))))))))))
abbrev Ua:b7:=Wg 10
theorem Nr:Zl ["web"] ["web"] (Zf Ua):=Wf
theorem Nt(b:Def K mg "square_of" Ua)(B:X4 mg)(a:YT P w K mg base):V5 P w K mg base:=
 Cf [] b Nr λc=>
  (Zi (Zw (Vs a c (X1 (vo 0) Zh))))
abbrev UZ:b7:=Wg 19
theorem MC:Zl ["many","at"] ["many","at"] (Zf UZ):=Wf
theorem MD(a:Def K mg "unit_row" UZ)(B:X4 mg):UU P w K mg base:=
 Ng [] a MC λb=>
  (Zi (Zw (Ws (["column"]:List ao) (["at"]:List ao) [1] rfl (Jk B.range (vo 0)) (by kernel_rfl) (λ_ _ _ _ _=>(WZ 0)) (λ_ _ _ _ _=>ZW) (λ_ _ _ _ _=>(VE.pure (KZ (Qv b.units (vo 0) (vo 1)) Zh Zh))))))
abbrev U0:b7:=Wg 18
theorem sc_block_of:Zl ["square","many","upper","lower"] ["square"] (Zf U0):=Wf
theorem ME(c:Def K mg "block_of" U0)(B:X4 mg)(a:UU P w K mg base):UW P w K mg base:=
 Cf [] c sc_block_of λb=>
  (Zd (YY 1 sc_block_of.nd (VE.pure (Jj B.len (vo 0))))
  (Zd (Tr (["at","row"]:List ao) (["many"]:List ao) [1] (i:=2) sc_block_of.nd rfl rfl rfl (Vh aB rfl B.enumerate (Yz (vo 0))) (by kernel_rfl) (λ_ _ _ _ _=>(YD (n:=2) rfl (Zv (WZ 0) (Zv (WZ 1) Yn)))) (λ_ _ _ _ _=>ZW) (λ_ _ _ _ _=>(VE.pure (Ss (Us (VM.ve (Uq X2 Tg rfl B.list (by decide +kernel) (Yz (vo 1)))) (WY a b (X1 (vo 2) (vo 0))))))))
  (Zd (Tr (["at"]:List ao) (["many"]:List ao) [1] (i:=3) sc_block_of.nd rfl rfl rfl (Jk B.range (vo 1)) (by kernel_rfl) (λ_ _ _ _ _=>(WZ 0)) (λ_ _ _ _ _=>ZW) (λ_ _ _ _ _=>(VE.pure (Ss (Us (WY a b (X1 (vo 1) (vo 0))) (VM.ve (HP (Qn (Yz Zh)) (vo 1))))))))
  (Zi (Zw (Us (vo 2) (vo 3)))))))
abbrev XQ:b7:=Wg 24
theorem SF:Zl ["rows","many","place"] ["rows","many","place"] (Zf XQ):=Wf
theorem SG(a:Def K mg "rows_to_clear" XQ)(B:X4 mg):XI P w K mg base:=
 NW [] a SF λb=>
  (Zi (Zw (Ws (["at"]:List ao) (["place","rows"]:List ao) [2,0] rfl (vr2 B.range (Yg (vo 2) Zh) (vo 1)) (by kernel_rfl) (λ_ _ _ _ _=>(WZ 0)) (λ_ _ _ _ _=>(OZ (Oj b.units (Zk (Zk (vo 2) (vo 0)) (vo 1)) Zh))) (λ_ _ _ _ _=>(VE.pure (vo 0))))))
abbrev LY:b7:=Wg 25
theorem EW:Zl ["row","by","often"] ["row","by","often"] (Zf LY):=Wf
theorem EX(a:Def K mg "less" LY)(B:X4 mg):Ni P w K mg base:=
 NW [] a EW λb=>
  (Zi (Zw (Ws (["number","other"]:List ao) (["often"]:List ao) [2] rfl (WE aC aC rfl B.zip (X1 (vo 0) (vo 1))) (by kernel_rfl) (λ_ _ _ _ _=>(YD (n:=2) rfl (Zv (WZ 0) (Zv (WZ 1) Yn)))) (λ_ _ _ _ _=>ZW) (λ_ _ _ _ _=>(VE.pure (WB (vo 0) (Vm (vo 2) (vo 1))))))))
abbrev XU:b7:=Wg 23
theorem sc_cleared_below:Zl ["block","many","place","rows","below","first","kept","at"] ["block","many","place"] (Zf XU):=Wf
theorem SH(d:Def K mg "cleared_below" XU)(B:X4 mg)(T:P.given.tree=none)(a:XI P w K mg base)(b:Ni P w K mg base):XJ P w K mg base:=
 NW [3] d sc_cleared_below λc=>
  (Zd (YY 3 sc_cleared_below.nd (Uq X2 Tg rfl B.list (by decide +kernel) (Yz (vo 0))))
  (Zd (YY 4 sc_cleared_below.nd (Vs a c (Vr (vo 3) (vo 1) (vo 2))))
  (Zd (V0 eT (KY (Jj B.len (vo 4)) Zh) (Zd (YY 5 sc_cleared_below.nd (VE.pure (Zk (vo 4) Zh)))
  (Zd (VF (VW.vt (Me (Qv c.units (Zk (Zk (vo 3) (vo 2)) (vo 2)) Zh) (OR (Md (vb N1 HE B.abs (Yz (Zk (Zk (vo 3) (vo 5)) (vo 2)))) (vb N1 HE B.abs (Yz (Zk (Zk (vo 3) (vo 2)) (vo 2)))))))) (Zd (YY 6 sc_cleared_below.nd (VE.pure (Zk (vo 3) (vo 2))))
  (Zd (WV (VR (Zk (vo 3) (vo 5)) (VQ (pv 3) (vo 2) Xy)))
  (Zi (WV (VR (vo 6) (VQ (pv 3) (vo 5) Xy)))))) Y4)
  (Zd (FL (Xh (vo 4)) (GA 7 sc_cleared_below.nd) (Zi (WV (VR (Ss (Vs b c (Vr (Zk (vo 3) (vo 7)) (Zk (vo 3) (vo 2)) (Gx T (c.mono (by decide)) (Zk (Zk (vo 3) (vo 7)) (vo 2)) (Zk (Zk (vo 3) (vo 2)) (vo 2)))))) (VQ (pv 3) (vo 7) Xy)))))
  (Zi (YY 4 sc_cleared_below.nd (Vs a c (Vr (vo 3) (vo 1) (vo 2)))))))))
  (Zi (RE (pv 3))))))
abbrev WM:b7:=Wg 26
theorem QY:Zl ["block"] ["block"] (Zf WM):=Wf
theorem QZ(a:Def K mg "turned_over" WM)(B:X4 mg):WK P w K mg base:=
 Cf [] a QY λb=>
  (Zi (Zw (Ij "at" (["block"]:List ao) [0] rfl (Jk B.range (Jj B.len (vo 0))) (by kernel_rfl) (λ_ _ _ _ _=>(Ry (i:=0) (show((["at","block"]:List ao)).Nodup by decide +kernel) rfl (ir rfl) (.inl (beq_self_eq_true _)))) (λ_ _ _ _ _=>ZW) (λ_ _ _ _ _=>(VE.pure (Ss (Ws (["row"]:List ao) (["at"]:List ao) [0] rfl (Xh (vo 1)) (by kernel_rfl) (λ_ _ _ _ _=>(WZ 0)) (λ_ _ _ _ _=>ZW) (λ_ _ _ _ _=>(VE.pure (Zk (vo 0) (vo 1)))))))))))
abbrev WN:b7:=Wg 22
theorem sc_crossed_out:Zl ["block","many","place","crossed"] ["block","many","place"] (Zf WN):=Wf
theorem Q0(d:Def K mg "crossed_out" WN)(B:X4 mg)(a:XJ P w K mg base)(b:WK P w K mg base):WL P w K mg base:=
 NW [3] d sc_crossed_out λc=>
  (Zd (YY 3 sc_crossed_out.nd (Vs a c (Vr (vo 0) (vo 1) (vo 2))))
  (Zd (V0 eT (Sf (vb (Ik rfl) ES B.any (Yz (Wc (Zk (vo 3) (vo 2)) (Xi (Yg (vo 2) Zh)) (Xi (vo 1)))))) (Zd (YY 3 sc_crossed_out.nd (Vs b c (Yz (WY a c (Vr (WY b c (Yz (vo 3))) (vo 1) (vo 2))))))
  (Zi (YY 3 sc_crossed_out.nd (Vs a c (Vr (vo 3) (vo 1) (vo 2)))))))
  (Zi (RE (pv 3)))))
abbrev Ub:b7:=Wg 21
theorem sc_unfit_row:Zl ["block","many","place","part","at"] ["block","many","place"] (Zf Ub):=Wf
theorem Nu(a:Def K mg "unfit_row" Ub)(B:X4 mg):V6 P w K mg base:=
 NW [] a sc_unfit_row λb=>
  (Zd (YY 3 sc_unfit_row.nd (VE.pure (Zk (Zk (vo 0) (vo 2)) (vo 2))))
  (Zd (FL (vr2 B.range (Yg (vo 2) Zh) (vo 1)) (GA 4 sc_unfit_row.nd) (Zi (VF (Sf (vb (P7 rfl) HD B.any (Yz (MB "number" ["part"] [3] (Xh (Wc (Zk (vo 0) (vo 4)) X6 (Xi (vo 1)))) (A4 b.units (ET (vo 0) (vo 1)) Zh))))) (Zi (Zw (VE.pure (vo 4)))) Y4)))
  (Zi (Zw (VE.pure Lr)))))
abbrev Vv:b7:=Wg 20
theorem sc_part_found:Zl ["block","many","place","found","unfit"] ["block","many","place"] (Zf Vv):=Wf
theorem PF(e:Def K mg "part_found" Vv)(B:X4 mg)(a:WL P w K mg base)(b:V6 P w K mg base)(c:Ni P w K mg base):Vt P w K mg base:=
 NW [3] e sc_part_found λd=>
  (Zd (YY 3 sc_part_found.nd (Vs a d (Vr (vo 0) (vo 1) (vo 2))))
  (Zd (YY 4 sc_part_found.nd (Vs b d (Vr (vo 3) (vo 1) (vo 2))))
  (Zd (V0 eT (K1 (vo 4)) (Zd (WV (VR (Ss (Vs c d (Vr (Zk (vo 3) (vo 2)) (Zk (vo 3) (vo 4)) Zh))) (VQ (pv 3) (vo 2) Xy)))
  (Zd (YY 3 sc_part_found.nd (Vs a d (Vr (vo 3) (vo 1) (vo 2))))
  (Zi (YY 4 sc_part_found.nd (Vs b d (Vr (vo 3) (vo 1) (vo 2))))))))
  (Zd (VF (Md (Zk (Zk (vo 3) (vo 2)) (vo 2)) Zh) (Zi (WV (VR (Ss (Ws (["number"]:List ao) ([]:List ao) [] rfl (Xh (Zk (vo 3) (vo 2))) (by kernel_rfl) (λ_ _ _ _ _=>(WZ 0)) (λ_ _ _ _ _=>ZW) (λ_ _ _ _ _=>(VE.pure (WC (vo 0)))))) (VQ (pv 3) (vo 2) Xy)))) Y4)
  (Zi (RE (pv 3)))))))
abbrev SI:b7:=Wg 27
theorem LZ:Zl ["line","row"] ["line","row"] (Zf SI):=Wf
theorem L0(a:Def K mg "divided" SI)(B:X4 mg):Sw P w K mg base:=
 Ng [] a LZ λb=>
  (Zi (Zw (VE.pure (ZC Zm ZH rfl B.tuple (by decide +kernel) (Yz (YN (["number","by"]:List ao) ([]:List ao) [] rfl (WE aB aB rfl B.zip (X1 (vo 0) (vo 1))) (by kernel_rfl) (λ_ _ _ _ _=>(YD (n:=2) rfl (Zv (WZ 0) (Zv (WZ 1) Yn)))) (λ_ _ _ _ _=>ZW) (λ_ _ _ _ _=>(QH (vo 0) (vo 1)))))))))
abbrev XW:b7:=Wg 15
theorem SJ:Zl ["row","square","column"] ["row","square","column"] (Zf XW):=Wf
theorem SK(a:Def K mg "row_by_column" XW)(B:X4 mg):XM P w K mg base:=
 NW [] a SJ λb=>
  (Zi (Zw (VE.pure (vb (Y9 rfl) VV B.sum (Yz (YN (["at","number"]:List ao) (["column","square"]:List ao) [2,1] rfl (Vh aB rfl B.enumerate (Yz (vo 0))) (by kernel_rfl) (λ_ _ _ _ _=>(YD (n:=2) rfl (Zv (WZ 0) (Zv (WZ 1) Yn)))) (λ_ _ _ _ _=>ZW) (λ_ _ _ _ _=>(Vm (vo 1) (Zk (Zk (vo 3) (vo 0)) (vo 2))))))))))
abbrev Uc:b7:=Wg 14
theorem Nv:Zl ["row","square"] ["row","square"] (Zf Uc):=Wf
theorem Nw(b:Def K mg "row_times" Uc)(B:X4 mg)(a:XM P w K mg base):V7 P w K mg base:=
 Ng [] b Nv λc=>
  (Zi (Zw (VE.pure (ZC Zm ZH rfl B.tuple (by decide +kernel) (Yz (MB "column" ["row","square"] [0,1] (Jk B.range (Jj B.len (vo 0))) (WY a c (Vr (vo 1) (vo 2) (vo 0)))))))))
abbrev Vw:b7:=Wg 13
theorem PH:Zl ["one","other"] ["one","other"] (Zf Vw):=Wf
theorem PJ(b:Def K mg "multiplied" Vw)(B:X4 mg)(a:V7 P w K mg base):Vu P w K mg base:=
 Ng [] b PH λc=>
  (Zi (Zw (VE.pure (ZC Zm ZH rfl B.tuple (by decide +kernel) (Yz (MB "row" ["other"] [1] (Vg (vo 0)) (WY a c (X1 (vo 0) (vo 1)))))))))
abbrev Nx:b7:=Wg 17
theorem sc_parts:Zl ["web","square","many","block","place","row","left","right","back","forth"] ["web"] (Zf Nx):=Wf
theorem GF(g:Def K mg "parts" Nx)(B:X4 mg)(d:V5 P w K mg base)(e:UW P w K mg base)(c:Vt P w K mg base)(b:Sw P w K mg base)(a:Vu P w K mg base):RN P w K mg base:=
 Cf [] g sc_parts λf=>
  (Zd (YY 1 sc_parts.nd (Vs d f (Yz (vo 0))))
  (Zd (YY 2 sc_parts.nd (VE.pure (Jj B.len (vo 1))))
  (Zd (YY 3 sc_parts.nd (Vs e f (Yz (vo 1))))
  (Zd (FL (Jk B.range (vo 2)) (GA 4 sc_parts.nd) (Zi (YY 3 sc_parts.nd (Vs c f (Vr (vo 3) (vo 2) (vo 4))))))
  (Zd (YY 5 sc_parts.nd (VE.pure (ZC Zm ZH rfl B.tuple (by decide +kernel) (Yz (MB "at" ["block"] [3] (Jk B.range (vo 2)) (Zk (Zk (vo 1) (vo 0)) (vo 0)))))))
  (Zd (YY 6 sc_parts.nd (VE.pure (ZC Zm ZH rfl B.tuple (by decide +kernel) (Yz (MB "line" ["many"] [2] (Xh (Wc (vo 3) X6 (Xi (vo 2)))) (ZC Zm ZH rfl B.tuple (by decide +kernel) (Yz (Wc (vo 0) (Xi (vo 1)) X6))))))))
  (Zd (YY 7 sc_parts.nd (VE.pure (ZC Zm ZH rfl B.tuple (by decide +kernel) (Yz (MB "line" ["many"] [2] (Xh (Wc (vo 3) (Xi (vo 2)) X6)) (ZC Zm ZH rfl B.tuple (by decide +kernel) (Yz (Wc (vo 0) X6 (Xi (vo 1))))))))))
  (Zd (YY 8 sc_parts.nd (VE.pure (ZC Zm ZH rfl B.tuple (by decide +kernel) (Yz (MB "line" ["row"] [5] (Vg (WY a f (X1 (vo 1) (vo 7)))) (WY b f (X1 (vo 0) (vo 1))))))))
  (Zd (YY 9 sc_parts.nd (VE.pure (ZC Zm ZH rfl B.tuple (by decide +kernel) (Yz (YN (["line","by"]:List ao) (["many"]:List ao) [2] rfl (WE aB aB rfl B.zip (X1 (WY a f (X1 (vo 6) (vo 1))) (vo 5))) (by kernel_rfl) (λ_ _ _ _ _=>(YD (n:=2) rfl (Zv (WZ 0) (Zv (WZ 1) Yn)))) (λ_ _ _ _ _=>ZW) (λ_ _ _ _ _=>(WY b f (X1 (vo 0) (Wo EF EG (OV (Yz (vo 1))) (vo 2))))))))))
  (Zi (Zw (VE.pure (OV (Te (vo 6) (va4 (vo 8) (vo 7) (vo 9) (vo 5))))))))))))))))
abbrev Ud:b7:=Wg 58
theorem sc_q_reached:Zl ["_law_told_here","_law_whole_here","_law_rests","_law_coins","_law_row_here"] ["_law_told_here","_law_whole_here","_law_rests"] (Zf Ud):=Wf
theorem Ny(a:Def K mg "_law_reached" Ud)(B:X4 mg):V8 P w K mg base:=
 NW [3] a sc_q_reached λb=>
  (Zd (YY 3 sc_q_reached.nd (LB Rz))
  (Zd (FL (Vg (Zk (vo 0) Zh)) (GA 4 sc_q_reached.nd) (Zi (Oh (Up (KO eI iD iE P0 (pv 3) (Y3 (VE.pure (Xg (vb (Y9 rfl) VV B.sum (Yz (YN (["_law_one","_law_other"]:List ao) ([]:List ao) [] rfl (WE aB aC rfl B.zip (X1 (vo 4) (vo 2))) (by kernel_rfl) (λ_ _ _ _ _=>(YD (n:=2) rfl (Zv (WZ 0) (Zv (WZ 1) Yn)))) (λ_ _ _ _ _=>ZW) (λ_ _ _ _ _=>(Vm (vo 0) (vo 1)))))) (Zk (Zk (vo 0) Zh) (WC Zh)))) UN))))))
  (Zi (Zw (VE.pure (ZC Zm ZH rfl B.tuple (by decide +kernel) (Yz (VM.ve (Us (Qn (Yz (WB (vo 1) (vb (Y9 rfl) VV B.sum (Yz (vo 3)))))) (vo 3))))))))))
abbrev Q1:b7:=Wg 30
theorem Iu:Zl ["line","coins"] ["line","coins"] (Zf Q1):=Wf
theorem Iv(a:Def K mg "by_row" Q1)(B:X4 mg):QR P w K mg base:=
 Ng [] a Iu λb=>
  (Zi (Zw (VE.pure (vb (Y9 rfl) VV B.sum (Yz (YN (["number","each"]:List ao) ([]:List ao) [] rfl (WE aB aB rfl B.zip (X1 (vo 0) (vo 1))) (by kernel_rfl) (λ_ _ _ _ _=>(YD (n:=2) rfl (Zv (WZ 0) (Zv (WZ 1) Yn)))) (λ_ _ _ _ _=>ZW) (λ_ _ _ _ _=>(Vm (vo 0) (vo 1)))))))))
abbrev Nz:b7:=Wg 29
theorem sc_rests:Zl ["told","purse","left"] ["told","purse"] (Zf Nz):=Wf
theorem GG(b:Def K mg "rests" Nz)(B:X4 mg)(a:QR P w K mg base):Nj P w K mg base:=
 Ng [] b sc_rests λc=>
  (Zd (YY 2 sc_rests.nd (VE.pure (Zk (vo 0) Zh)))
  (Zi (Zw (VE.pure (ZC Zm ZH rfl B.tuple (by decide +kernel) (Yz (YN (["line","by"]:List ao) (["purse"]:List ao) [1] rfl (WE aB aB rfl B.zip (X1 (vo 2) (Zk (vo 0) Zh))) (by kernel_rfl) (λ_ _ _ _ _=>(YD (n:=2) rfl (Zv (WZ 0) (Zv (WZ 1) Yn)))) (λ_ _ _ _ _=>ZW) (λ_ _ _ _ _=>(Xg (WY a c (X1 (vo 0) (Ur (vo 2) (Xi Zh) X6))) (vo 1))))))))))
abbrev NA:b7:=Wg 3
theorem GH:Zl ["purse"] ["purse"] (Zf NA):=Wf
theorem GI(a:Def K mg "total" NA)(B:X4 mg):Nk P w K mg base:=
 Cf [] a GH λb=>
  (Zi (Zw (VE.pure (vb (Y9 rfl) VV B.sum (Yz (vo 0))))))
abbrev U1:b7:=Wg 28
theorem MF:Zl ["web","purse"] ["web","purse"] (Zf U1):=Wf
theorem MG(e:Def K mg "place_of" U1)(B:X4 mg)(c:Nk P w K mg base)(b:Nj P w K mg base)(a:RN P w K mg base):UX P w K mg base:=
 Ng [] e MF λd=>
  (Zi (Zw (VE.pure (Wo O6 O7 (OV (Yz (WY c d (Yz (vo 1))))) (WY b d (X1 (WY a d (Yz (vo 0))) (vo 1)))))))
abbrev SM:b7:=Wg 51
theorem L3:Zl ["_law_number"] ["_law_number"] (Zf SM):=Wf
theorem L4(a:Def K mg "_law_whole" SM)(B:X4 mg):Sx P w K mg base:=
 Cf [] a L3 λb=>
  (Zi (Zw (VE.pure (Sh (vb XA Th B.isinstance (X1 (vo 0) (Mh rfl B.int (by decide +kernel)))) (OS (Bq (vb XA Th B.isinstance (X1 (vo 0) (Mh rfl B.bool (by decide +kernel))))))))))
abbrev NB:b7:=Wg 52
theorem GJ:Zl ["_law_found","_law_houses"] ["_law_found","_law_houses"] (Zf NB):=Wf
theorem GK(c:Def K mg "_law_row" NB)(B:X4 mg)(a:Sx P w K mg base):RO P w K mg base:=
 Ng [] c GJ λb=>
  (Zi (Zw (VE.pure (Sh (vb XA Th B.isinstance (X1 (vo 0) (Mh rfl B.tuple (by decide +kernel)))) (Sh (HM b.units (Jj B.len (vo 0)) (vo 1)) (OS (vb (Sa rfl) LD B.all (Yz (MB "_law_one" [] [] (Vg (vo 0)) (WY a b (Yz (vo 0))))))))))))
abbrev U2:b7:=Wg 55
theorem MH:Zl ["_law_found","_law_size"] ["_law_found","_law_size"] (Zf U2):=Wf
theorem MI(c:Def K mg "_law_square" U2)(B:X4 mg)(a:RO P w K mg base):UY P w K mg base:=
 Ng [] c MH λb=>
  (Zi (Zw (VE.pure (Sh (vb XA Th B.isinstance (X1 (vo 0) (Mh rfl B.tuple (by decide +kernel)))) (Sh (HM b.units (Jj B.len (vo 0)) (vo 1)) (OS (vb (Sa rfl) LD B.all (Yz (MB "_law_row_here" ["_law_size"] [1] (Vg (vo 0)) (WY a b (X1 (vo 0) (vo 1))))))))))))
abbrev Q3:b7:=Wg 57
theorem Iw:Zl ["_law_found","_law_size"] ["_law_found","_law_size"] (Zf Q3):=Wf
theorem Iy(d:Def K mg "_law_told" Q3)(B:X4 mg)(b:RO P w K mg base)(a:UY P w K mg base):QS P w K mg base:=
 Ng [] d Iw λc=>
  (Zd (VF (VW.vt (Me (Lz (Sf (vb XA Th B.isinstance (X1 (vo 0) (Mh rfl B.tuple (by decide +kernel)))))) (Me (Oj c.units (Jj B.len (vo 0)) Zh) (OR (Lz (Sf (WY b c (X1 (Zk (vo 0) Zh) (vo 1))))))))) (Zi (Zw (VE.pure KU))) Y4)
  (Zi (Zw (VE.pure (vb (Sa rfl) LD B.all (Yz (MB "_law_square_here" ["_law_size"] [1] (Vg (Ur (vo 0) X6 (Xi Zh))) (WY a c (X1 (vo 0) (vo 1))))))))))
abbrev SN:b7:=Wg 39
theorem L5:Zl ["row","by","place","divisor"] ["row","by","place","divisor"] (Zf SN):=Wf
theorem L6(a:Def K mg "reduced" SN)(B:X4 mg):Sy P w K mg base:=
 dk4 [] a L5 λb=>
  (Zi (Zw (VE.pure (ZC Zm ZH rfl B.tuple (by decide +kernel) (Yz (YN (["number","other"]:List ao) (["divisor","by","place","row"]:List ao) [3,1,2,0] rfl (WE aB aB rfl B.zip (X1 (vo 0) (vo 1))) (by kernel_rfl) (λ_ _ _ _ _=>(YD (n:=2) rfl (Zv (WZ 0) (Zv (WZ 1) Yn)))) (λ_ _ _ _ _=>ZW) (λ_ _ _ _ _=>(QH (WB (Vm (Zk (vo 3) (vo 4)) (vo 0)) (Vm (Zk (vo 5) (vo 4)) (vo 1))) (vo 2)))))))))
abbrev Q4:b7:=Wg 38
theorem sc_evened:Zl ["rows","left","divisor","place","by"] ["rows"] (Zf Q4):=Wf
theorem Iz(c:Def K mg "evened" Q4)(B:X4 mg)(a:Sy P w K mg base):QT P w K mg base:=
 Cf [1] c sc_evened λb=>
  (Zd (YY 1 sc_evened.nd (Uq X2 Tg rfl B.list (by decide +kernel) (Yz (vo 0))))
  (Zd (YY 2 sc_evened.nd (VE.pure Zh))
  (Zd (FL (Jk B.range (Jj B.len (vo 0))) (GA 3 sc_evened.nd) (Zd (YY 4 sc_evened.nd (VE.pure (Zk (vo 1) (vo 3))))
  (Zd (Tr (["at","row"]:List ao) (["place","by","divisor"]:List ao) [3,4,2] (i:=1) sc_evened.nd rfl rfl rfl (Vh aC rfl B.enumerate (Yz (vo 1))) (by kernel_rfl) (λ_ _ _ _ _=>(YD (n:=2) rfl (Zv (WZ 0) (Zv (WZ 1) Yn)))) (λ_ _ _ _ _=>ZW) (λ_ _ _ _ _=>(VE.pure (KZ (Qv b.units (vo 0) (vo 2)) (vo 1) (WY a b (va4 (vo 1) (vo 3) (vo 2) (vo 4)))))))
  (Zi (YY 2 sc_evened.nd (VE.pure (Zk (vo 4) (vo 3))))))))
  (Zi (Gr (Lk (Y3 (vo 2) (Y3 (pv 1) UN))))))))
abbrev Wj:b7:=Wg 37
theorem sc_solved_below:Zl ["square","column","told"] ["square","column"] (Zf Wj):=Wf
theorem Rx(b:Def K mg "solved_below" Wj)(B:X4 mg)(a:QT P w K mg base):Wi P w K mg base:=
 Ng [] b sc_solved_below λc=>
  (Zd (YY 2 sc_solved_below.nd (Vs a c (Yz (YN (["row","number"]:List ao) ([]:List ao) [] rfl (WE aB aB rfl B.zip (X1 (vo 0) (vo 1))) (by kernel_rfl) (λ_ _ _ _ _=>(YD (n:=2) rfl (Zv (WZ 0) (Zv (WZ 1) Yn)))) (λ_ _ _ _ _=>ZW) (λ_ _ _ _ _=>(Wo O6 O7 (vo 0) (OV (Yz (vo 1)))))))))
  (Zi (Zw (Ws (["row"]:List ao) (["told"]:List ao) [2] rfl (Xh (Zk (vo 2) Zh)) (by kernel_rfl) (λ_ _ _ _ _=>(WZ 0)) (λ_ _ _ _ _=>ZW) (λ_ _ _ _ _=>(VE.pure (QH (Zk (vo 0) (WC Zh)) (Zk (vo 1) Zh))))))))
abbrev SO:b7:=Wg 42
theorem sc_nearing:Zl ["web","purse","base","column","script"] ["web","purse","base"] (Zf SO):=Wf
theorem L7(d:Def K mg "nearing" SO)(B:X4 mg)(b:Wi P w K mg base)(a:YT P w K mg base):Sz P w K mg base:=
 NW [4] d sc_nearing λc=>
  (Zd (YY 3 sc_nearing.nd (VE.pure (Wo O6 O7 (Ur (vo 1) X6 (Xi (vo 2))) (Ur (vo 1) (Xi (Yg (vo 2) Zh)) X6))))
  (Zd (YY 4 sc_nearing.nd (Vs b c (X1 (WY a c (X1 (vo 0) (vo 2))) (vo 3))))
  (Zd (Oi (Up (KO eI iB iC P8 (pv 4) (Y3 (vo 2) (Y3 Zh UN)))))
  (Zi (Zw (VE.pure (ZC Zm ZH rfl B.tuple (by decide +kernel) (Yz (vo 4)))))))))
abbrev L8:b7:=Wg 5
theorem EY:Zl ["web","script","house"] ["web","script","house"] (Zf L8):=Wf
theorem EZ(a:Def K mg "gain" L8)(B:X4 mg):LU P w K mg base:=
 NW [] a EY λb=>
  (Zi (Zw (VE.pure (vb (Y9 rfl) VV B.sum (Yz (YN (["other","times"]:List ao) (["script","house"]:List ao) [1,2] rfl (Vh aB rfl B.enumerate (Yz (Zk (vo 0) (vo 2)))) (by kernel_rfl) (λ_ _ _ _ _=>(YD (n:=2) rfl (Zv (WZ 0) (Zv (WZ 1) Yn)))) (λ_ _ _ _ _=>ZW) (λ_ _ _ _ _=>(W9 (vo 1) (WB (Zk (vo 2) (vo 0)) (Zk (vo 2) (vo 3)))))))))))
abbrev GL:b7:=Wg 4
theorem BO:Zl ["web","purse","script"] ["web","purse","script"] (Zf GL):=Wf
theorem BP(b:Def K mg "run" GL)(B:X4 mg)(a:LU P w K mg base):GB P w K mg base:=
 NW [] b BO λc=>
  (Zi (Zw (VE.pure (ZC Zm ZH rfl B.tuple (by decide +kernel) (Yz (YN (["house","coins"]:List ao) (["web","script"]:List ao) [0,2] rfl (Vh aB rfl B.enumerate (Yz (vo 1))) (by kernel_rfl) (λ_ _ _ _ _=>(YD (n:=2) rfl (Zv (WZ 0) (Zv (WZ 1) Yn)))) (λ_ _ _ _ _=>ZW) (λ_ _ _ _ _=>(Yg (vo 1) (WY a c (Vr (vo 2) (vo 3) (vo 0)))))))))))
abbrev SQ:b7:=Wg 35
theorem L9:Zl ["purse","base"] ["purse","base"] (Zf SQ):=Wf
theorem Ka(a:Def K mg "in_debt" SQ)(B:X4 mg):SA P w K mg base:=
 Ng [] a L9 λb=>
  (Zi (Zw (Ws (["house","coins"]:List ao) (["base"]:List ao) [1] rfl (Vh aB rfl B.enumerate (Yz (vo 0))) (by kernel_rfl) (λ_ _ _ _ _=>(YD (n:=2) rfl (Zv (WZ 0) (Zv (WZ 1) Yn)))) (λ_ _ _ _ _=>(OZ (VW.vt (Ly (Oj b.units (vo 0) (vo 2)) (OQ (Md (vo 1) Zh)))))) (λ_ _ _ _ _=>(VE.pure (vo 0))))))
abbrev Ue:b7:=Wg 43
theorem NC:Zl ["web","houses"] ["web","houses"] (Zf Ue):=Wf
theorem ND(a:Def K mg "borrowing" Ue)(B:X4 mg):V9 P w K mg base:=
 Ng [] a NC λb=>
  (Zi (Zw (VE.pure (ZC Zm ZH rfl B.tuple (by decide +kernel) (Yz (MB "house" ["houses"] [1] (Jk B.range (Jj B.len (vo 0))) (KZ (A5 b.units (vo 0) (vo 1)) (WC Zh) Zh)))))))
abbrev Kb:b7:=Wg 7
theorem E4:Zl ["one","other"] ["one","other"] (Zf Kb):=Wf
theorem E5(a:Def K mg "plus" Kb)(B:X4 mg):LV P w K mg base:=
 Ng [] a E4 λb=>
  (Zi (Zw (VE.pure (ZC Zm ZH rfl B.tuple (by decide +kernel) (Yz (YN (["first","second"]:List ao) ([]:List ao) [] rfl (WE aB aB rfl B.zip (X1 (vo 0) (vo 1))) (by kernel_rfl) (λ_ _ _ _ _=>(YD (n:=2) rfl (Zv (WZ 0) (Zv (WZ 1) Yn)))) (λ_ _ _ _ _=>ZW) (λ_ _ _ _ _=>(Yg (vo 0) (vo 1)))))))))
abbrev NF:b7:=Wg 6
theorem sc_least:Zl ["script","lowest"] ["script"] (Zf NF):=Wf
theorem GN(a:Def K mg "least" NF)(B:X4 mg):RP P w K mg base:=
 Cf [] a sc_least λb=>
  (Zd (YY 1 sc_least.nd (VE.pure (vb (J9 rfl) EI B.min (Yz (vo 0)))))
  (Zi (Zw (VE.pure (ZC Zm ZH rfl B.tuple (by decide +kernel) (Yz (MB "often" ["lowest"] [1] (Vg (vo 0)) (WB (vo 0) (vo 1)))))))))
abbrev SR:b7:=Wg 34
theorem Kc:Zl ["web","house","others"] ["web","house","others"] (Zf SR):=Wf
theorem Kd(a:Def K mg "ties_to" SR)(B:X4 mg):SD P w K mg base:=
 NW [] a Kc λb=>
  (Zi (Zw (VE.pure (vb (Y9 rfl) VV B.sum (Yz (MB "other" ["web","house"] [0,1] (Zac (vo 2)) (Zk (Zk (vo 1) (vo 2)) (vo 0))))))))
abbrev XX:b7:=Wg 33
theorem sc_house_to_burn:Zl ["web","purse","fire","house","coins"] ["web","purse","fire"] (Zf XX):=Wf
theorem SS(c:Def K mg "house_to_burn" XX)(B:X4 mg)(a:SD P w K mg base):XN P w K mg base:=
 NW [] c sc_house_to_burn λb=>
  (Zd (FL (Vh aB rfl B.enumerate (Yz (vo 1))) (YD (n:=2) rfl (Zv (GA 3 sc_house_to_burn.nd) (Zv (GA 4 sc_house_to_burn.nd) Yn))) (Zi (VF (VW.vt (Ly (HN b.units (vo 3) (vo 2)) (OQ (Md (vo 4) (WY a b (Vr (vo 0) (vo 3) (vo 2))))))) (Zi (Zw (VE.pure (vo 3)))) Y4)))
  (Zi (Zw (VE.pure Lr))))
abbrev NG:b7:=Wg 32
theorem sc_burnt:Zl ["web","purse","base","fire","house"] ["web","purse","base"] (Zf NG):=Wf
theorem GO(c:Def K mg "burnt" NG)(B:X4 mg)(a:XN P w K mg base):Nl P w K mg base:=
 NW [3] c sc_burnt λb=>
  (Zd (YY 3 sc_burnt.nd (LB (Tf (VE.pure (vo 2)) Rz)))
  (Zd (YY 4 sc_burnt.nd (Vs a b (Vr (vo 0) (vo 1) (vo 3))))
  (Zd (V0 eT (K1 (vo 4)) (Zd (Oh (Up (KO eI iD iE P0 (pv 3) (Y3 (VE.pure (vo 4)) UN))))
  (Zi (YY 4 sc_burnt.nd (Vs a b (Vr (vo 0) (vo 1) (vo 3)))))))
  (Zi (RE (pv 3))))))
abbrev Q5:b7:=Wg 41
theorem sc_settle:Zl ["web","purse","base","script","near","indebted","step"] ["web","purse","base"] (Zf Q5):=Wf
theorem IA(i:Def K mg "settle" Q5)(B:X4 mg)(c:Sz P w K mg base)(d:GB P w K mg base)(a:SA P w K mg base)(b:V9 P w K mg base)(h:LV P w K mg base)(f:Nl P w K mg base)(e:RP P w K mg base):QU P w K mg base:=
 NW [] i sc_settle λg=>
  (Zd (YY 3 sc_settle.nd (Vs c g (Vr (vo 0) (vo 1) (vo 2))))
  (Zd (YY 4 sc_settle.nd (Vs d g (Vr (vo 0) (vo 1) (vo 3))))
  (Zd (YY 5 sc_settle.nd (Vs a g (X1 (vo 4) (vo 2))))
  (Zd (V0 eT (KY (Jj B.len (vo 5)) Zh) (Zd (YY 6 sc_settle.nd (Vs b g (X1 (vo 0) (vo 5))))
  (Zd (YY 3 sc_settle.nd (Vs h g (X1 (vo 3) (vo 6))))
  (Zd (YY 4 sc_settle.nd (Vs d g (Vr (vo 0) (vo 4) (vo 6))))
  (Zi (YY 5 sc_settle.nd (Vs a g (X1 (vo 4) (vo 2)))))))))
  (Zi (Zw (Bw (Tf (Vs e g (Yz (vo 3))) (Tf (VE.pure (vo 4)) (Tf (Vs f g (Vr (vo 0) (vo 4) (vo 2))) Rz))))))))))
abbrev NH:b7:=Wg 8
theorem GP:Zl ["one","other"] ["one","other"] (Zf NH):=Wf
theorem GQ(a:Def K mg "minus" NH)(B:X4 mg):Nm P w K mg base:=
 Ng [] a GP λb=>
  (Zi (Zw (VE.pure (ZC Zm ZH rfl B.tuple (by decide +kernel) (Yz (YN (["first","second"]:List ao) ([]:List ao) [] rfl (WE aB aB rfl B.zip (X1 (vo 0) (vo 1))) (by kernel_rfl) (λ_ _ _ _ _=>(YD (n:=2) rfl (Zv (WZ 0) (Zv (WZ 1) Yn)))) (λ_ _ _ _ _=>ZW) (λ_ _ _ _ _=>(WB (vo 0) (vo 1)))))))))
abbrev NI:b7:=Wg 45
theorem sc_alike:Zl ["web","one","other","from_one","from_other"] ["web","one","other"] (Zf NI):=Wf
theorem GR(e:Def K mg "alike" NI)(B:X4 mg)(a:QU P w K mg base)(b:RP P w K mg base)(c:Nm P w K mg base):Nn P w K mg base:=
 NW [] e sc_alike λd=>
  (Zd (YY 3 sc_alike.nd (Vs a d (Vr (vo 0) (vo 1) Zh)))
  (Zd (YY 4 sc_alike.nd (Vs a d (Vr (vo 0) (vo 2) Zh)))
  (Zd (VF (Oj d.units (Zk (vo 3) Zh) (Zk (vo 4) Zh)) (Zi (Zw (VE.pure Lr))) Y4)
  (Zi (Zw (Vs b d (Yz (WY c d (X1 (Zk (vo 3) Zh) (Zk (vo 4) Zh))))))))))
abbrev GS:b7:=Wg 59
theorem sc_law:Zl ["_law_script","_law_web_here","_law_size","_law_told_here","_law_whole_here","_law_rests","_law_purse","_law_others","_law_more","_law_other"] ["_law_script"] (Zf GS):=Wf
theorem BQ{m:aJ}{n:dy}(p:Fun K "law" "law" GS m n)(B:X4 mg)(g:Nh P w K mg base)(j:RN P w K mg base)(e:QS P w K mg base)(b:TL P w K mg base)(a:V8 P w K mg base)(c:UX P w K mg base)(f:TM P w K mg base)(h:Nn P w K mg base):T6 P w K mg base La 41 m n (["_law_script"]:List ao) (Y8 K D_law 1):=
 BE (O:=[7]) (k:=40) 10 Ce p sc_law rfl rfl (by decide) (λq o A l s H E d=>
  (Zd (YY 1 sc_law.nd (Vs g d (X1 (vo 0) Zh)))
  (Zd (YY 2 sc_law.nd (VE.pure (WB (Jj B.len (vo 1)) Zh)))
  (Zd (YY 3 sc_law.nd (Vs j d (Yz (vo 1))))
  (Zd (VF (VW.vt (Me (Lz (Sf (WY e d (X1 (vo 3) (vo 2))))) (OR (Sf (vb (P7 rfl) HD B.any (Yz (MB "_law_number" [] [] (Vg (Zk (vo 3) Zh)) (AW (vo 0) Zh)))))))) (Zi (Zw (VE.pure KU))) Y4)
  (Zd (YY 4 sc_law.nd (VE.pure (WB (Xg (WY b d (X1 (vo 0) Zh)) Zh) Zh)))
  (Zd (Tr (["_law_k"]:List ao) (["_law_told_here","_law_script"]:List ao) [3,0] (i:=5) sc_law.nd rfl rfl rfl (Jk B.range (vo 2)) (by kernel_rfl) (λ_ _ _ _ _=>(WZ 0)) (λ_ _ _ _ _=>ZW) (λ_ _ _ _ _=>(VE.pure (Xg (Xg (Vm (WY b d (X1 (vo 2) (Yg Zh (vo 0)))) Zh) Zh) (Zk (Zk (vo 1) Zh) (vo 0))))))
  (Zd (YY 6 sc_law.nd (Vs a d (Vr (vo 3) (vo 4) (vo 5))))
  (Zd (VF (Oj d.units (WY c d (X1 (vo 1) (vo 6))) (ZC Zm ZH rfl B.tuple (by decide +kernel) (Yz (VM.ve (Us (Qn (Yz (vo 4))) (vo 5)))))) (Zi (Zw (VE.pure KU))) Y4)
  (Zd (VF (VW.vt (Me (Qv d.units (vo 2) Zh) (OR (Qv d.units (Zk (Zk (vo 3) Zh) (WC Zh)) Zh)))) (Zi (Zw (VE.pure KU))) Y4)
  (Zd (YY 7 sc_law.nd (Uq X2 Tg rfl B.list (by decide +kernel) (Yz (vo 5))))
  (Zd (YY 8 sc_law.nd (VE.pure (Yg Zh (WY f d (Vr (WY b d (X1 (vo 0) Zh)) Zh (WB (Zk (Zk (vo 3) Zh) (WC Zh)) Zh))))))
  (Zd (WV (VR (Xg (Yg (Zk (vo 7) (WC Zh)) (vo 8)) (Zk (Zk (vo 3) Zh) (WC Zh))) (VQ (pv 7) (WC Zh) Xy)))
  (Zd (YY 9 sc_law.nd (Vs a d (Vr (vo 3) (vo 4) (vo 7))))
  (Zi (Zw (VE.pure (Sh (HM d.units (WY c d (X1 (vo 1) (vo 9))) (ZC Zm ZH rfl B.tuple (by decide +kernel) (Yz (VM.ve (Us (Qn (Yz (vo 4))) (vo 7)))))) (OS (Br (WY h d (Vr (vo 1) (vo 6) (vo 9)))))))))))))))))))))))
end
end PW
namespace PW
open L2 VL
theorem Ke{W:List (List Int)}{h:Nat}(a:h<W.length):Uu [wP W,.int (h:Int)]=aA (.int (ZL W h).sum):=by simp[Uu,Oq,YC,ZM,Ts a]
theorem GU(l:List Int):RJ [pP l]=aA (.int l.sum):=by simp[RJ,Ja,YC,ZM]
theorem GV(i:Int):Wd [.int i]=aA (.bl aC):=by simp[Wd,Ot,YC,ZM]
noncomputable def Kf(a b:List Int):List Int:=(aE a.length).map λi=>Zp a i+Zp b i
noncomputable def UE(a b:List Int):List Int:=(aE a.length).map λi=>Zp a i-Zp b i
theorem E6{a b:List Int}(h:b.length=a.length)(f:a.length<=1000):UR [pP a,pP b]=aA (pP (Kf a b)):=by
 have d:WU (iL a) (iL b)=(aE a.length).map λi=>.tup [.int (Zp a i),.int (Zp b i)]:=by rw[YG _ _ (by simpa using h),aN];apply ak;intro i c;have c:=aQ.mp c;rw[Yu a i c,Yu b i (by omega)]
 have e:Zq 2 [] (UD aB aB [Za 0,Za 1]) (.many [0,1]) Zy (Zj Yj (Za 0) (Za 1)) [aA (pP a),aA (pP b)]=aA (.lst (iL (Kf a b))):=by rw[ZR (aE a.length) (λi=>.tup [.int (Zp a i),.int (Zp b i)]) (λi=>.int (Zp a i+Zp b i)) (by simp[d]) (by simp;omega) (λi _=>⟨_,rfl,rfl,by simp[setAll,ZI]⟩)];simp[Kf]
 simp[UR,Gi,YC,ZM,e]
theorem GW{a b:List Int}(h:b.length=a.length)(f:a.length<=1000):Uv [pP a,pP b]=aA (pP (UE a b)):=by
 have d:WU (iL a) (iL b)=(aE a.length).map λi=>.tup [.int (Zp a i),.int (Zp b i)]:=by rw[YG _ _ (by simpa using h),aN];apply ak;intro i c;have c:=aQ.mp c;rw[Yu a i c,Yu b i (by omega)]
 have e:Zq 2 [] (UD aB aB [Za 0,Za 1]) (.many [0,1]) Zy (Zj VH (Za 0) (Za 1)) [aA (pP a),aA (pP b)]=aA (.lst (iL (UE a b))):=by rw[ZR (aE a.length) (λi=>.tup [.int (Zp a i),.int (Zp b i)]) (λi=>.int (Zp a i-Zp b i)) (by simp[d]) (by simp;omega) (λi _=>⟨_,rfl,rfl,by simp[setAll,ZI]⟩)];simp[UE]
 simp[Uv,Jb,YC,ZM,e]
theorem RQ(l:List Int):Wq (iL l)=(aE l.length).map λ(i:Nat)=>.tup [.int (i:Int),.int (Zp l i)]:=by rw[Wv,aN];apply ak;intro i a;rw[Yu l i (aQ.mp a)]
noncomputable def W0(W:List (List Int))(S:List Int)(h:Nat):Int:=((aE W.length).map λi=>ent W h i*(Zp S i-Zp S h)).sum
theorem E7{W:List (List Int)}{S:List Int}{h:Nat}(ok:ZP W)(b:h<W.length)(k:S.length=W.length):QD [wP W,pP S,.int (h:Int)]=aA (.int (W0 W S h)):=by
 have d:=ok.sq h b;have l:=ok.few
 have e:Zq 2 [1,2] (Xn aB [Zj ZQ (Za 0) (Za 2)]) (.many [0,1]) Zy (Zj Qh (Za 1) (Zj VH (Zj ZQ (Za 2) (Za 0)) (Zj ZQ (Za 2) (Za 3)))) [aA (wP W),aA (pP S),aA (.int (h:Int))]=aA (.lst (iL ((aE W.length).map λi=>ent W h i*(Zp S i-Zp S h)))):=by
  rw[ZR (aE W.length) (λi=>.tup [.int (i:Int),.int (ent W h i)]) (λi=>.int (ent W h i*(Zp S i-Zp S h))) (by simp[Ts b,RQ,d];intro a _;rfl) (by simp;omega) (λi c=>?_)]
  ·simp
  ·have c:=aQ.mp c;refine⟨_,rfl,rfl,?_⟩;have g:=ok.lo h i b c;have m:=ok.hi h i b c;have f:∀j,CMul (ent W h i) j:=λj=>Gg (by omega) (by omega);simp[setAll,ZI,WH (show i<S.length by omega),WH (show h<S.length by omega),f]
 simp[QD,Gh,YC,ZM,e,W0,-cM]
noncomputable def Z8(W:List (List Int))(D S:List Int):List Int:=(aE D.length).map λh=>Zp D h+W0 W S h
theorem GX{W:List (List Int)}{D S:List Int}(ok:ZP W)(d:D.length=W.length)(b:S.length=W.length):UH [wP W,pP D,pP S]=aA (pP (Z8 W D S)):=by
 have e:=ok.few
 have c:Zq 2 [0,2] (Xn aB [Za 1]) (.many [0,1]) Zy (Zj Yj (Za 1) (Zc QD [Za 2,Za 3,Za 0])) [aA (wP W),aA (pP D),aA (pP S)]=aA (.lst (iL (Z8 W D S))):=by
  rw[ZR (aE D.length) (λi=>.tup [.int (i:Int),.int (Zp D i)]) (λh=>.int (Zp D h+W0 W S h)) (by simp[RQ]) (by simp;omega) (λi a=>?_)]
  ·simp[Z8]
  ·have a:=aQ.mp a;refine⟨_,rfl,rfl,?_⟩;simp[setAll,ZI,E7 ok (show i<W.length by omega) b]
 simp[UH,D6,YC,ZM,c]
theorem GY{l:List Int}(c:l.length<=1000):Ov [pP l,.int (l.length:Int)]=aA (.bl aC):=by
 have a:Zq 1 [] (Vf (Za 0)) (.one 0) Zy (Zc Wd [Za 0]) [aA (pP l),aA (.int (l.length:Int))]=aA (.lst (bL (l.map λ_=>aC))):=by rw[ZR l PV.int (λ_=>.bl aC) (V2 (by simp)) (by omega) (λi d=>⟨_,rfl,rfl,by simp[ZI,GV]⟩)];simp
 have b:Px [.lst (bL (l.map λ_=>aC))]=aA (.bl aC):=by rw[HZ];simp
 simp[Ov,Ou,YC,ZM,a,b,-cM]
noncomputable def GZ(W:List (List Int))(a b:Nat):List (List Int):=(aE (ent W a b).toNat).map λ(t:Nat)=>[(a:Int),(b:Int),(t:Int)]
noncomputable def Cg(W:List (List Int))(a:Nat):List (List Int):=(aE (W.length-(a+1))).flatMap λj=>GZ W a (a+1+j)
noncomputable def UI(W:List (List Int)):List (List Int):=(aE W.length).flatMap (Cg W)
theorem IB{a:Type}(f:Nat->List a)(i:Nat):(aE (i+1)).flatMap f=(aE i).flatMap f++f i:=by rw[fP];simp
noncomputable def tk(e:Tie):List Pn:=[.inl (e.1:Int),.inl (e.2.1:Int)]
noncomputable def WO(W:List (List Int)):Prop:=∀P:Nat->Prop,(∀a b,a<W.length->b<W.length->0<ent W a b->(P a↔P b))->∀i j,i<W.length->j<W.length->(P i↔P j)
theorem Q6:∀{l m:List Int},l.Nodup->(∀x∈l,x∈m)->l.length<=m.length
 | [],m,_,_=>cO _
 | x::r,m,nd,h=>by have b:x∈m:=h x (by simp);have a:=bK.mp nd;have:=Q6 (l:=r) (m:=m.erase x) a.2 λy c=>(List.mem_erase_of_ne (show y≠x from λz=>a.1 (by rw[<-z];exact c))).mpr (h y (by simp[c]));rw[List.length_erase_of_mem b] at this;have d:=List.length_pos_of_mem b;rw[b9];omega
theorem Zb7{n:Nat}{l:List Int}(c:l.Nodup)(h:∀x∈l,∃k:Nat,k<n/\x=(k:Int))(e:l.length=n){j:Nat}(d:j<n):(j:Int)∈l:=by
 by_cases q:(j:Int)∈l
 ·exact q
 ·have:=Q6 (bK.mpr ⟨q,c⟩) (λx a=>by
   rcases a9.mp a with rfl | a
   ·exact bb.mpr ⟨j,aQ.mpr d,rfl⟩
   ·obtain⟨k,b,rfl⟩:=h x a;exact bb.mpr ⟨k,aQ.mpr b,rfl⟩)
  rw[b9,aN,bj] at this;omega
noncomputable def rL(M:List (List Int)):List PV:=M.map λr=>.lst (iL r)
theorem Kg{M:List (List Int)}{a:Nat}(h:a<M.length):(rL M)[a]?=aA (.lst (iL (ZL M a))):=by unfold rL;rw[aW,N9 h];rfl
theorem G0{M:List (List Int)}{a b:Nat}{t:Int}:(rL M).set a (.lst ((iL (ZL M a)).set b (.int t)))=rL (Se M a b t):=by unfold rL Se;rw[jo];show _=(iN (λr=>PV.lst (iL r)) M).set a (PV.lst (((ZL M a).set b t).map PV.int));rw[jo]
theorem G1(l:List Int)(k:Nat)(x:Int):(iL l).take k++PV.int x::(iL l).drop k=iL (l.take k++x::l.drop k):=by simp
theorem Ci(neg:Bool)(a:Int)(l:List Int):J2 neg (.int a) (.lst (iL l))=aA (.bl (if neg then !decide (a∈l) else decide (a∈l))):=by
 have c:((iL l).all λz=>UC 8 z (.int a))=aC:=by rw[jm,ar];intro x _;rfl
 show(aA (iL l)).bind _=_;simp only[aY,kz c]
 have:decide (PV.int a∈iL l)=decide (a∈l):=decide_eq_decide.mpr (by
  rw[bb];constructor
  ·rintro⟨x,b,e⟩;cases e;exact b
  ·intro h;exact⟨a,h,rfl⟩)
 rw[this]
theorem YB{f g:XS}{s s1:ZF}(a:f s=aA (.nx s1)):Zn f g s=g s1:=by simp only[Mp,a,aY]
theorem G3(a b:List Int):(Kf a b).length=a.length:=by simp[Kf]
theorem W3(a b:List Int):(UE a b).length=a.length:=by simp[UE]
theorem YI(W:List (List Int))(D S:List Int):(Z8 W D S).length=D.length:=by simp[Z8]
theorem MJ{a b:List Int}{i:Nat}(h:i<a.length):Zp (Kf a b) i=Zp a i+Zp b i:=Yp h
theorem Q7{a b:List Int}{i:Nat}(h:i<a.length):Zp (UE a b) i=Zp a i-Zp b i:=Yp h
theorem TQ{W:List (List Int)}{a b:List Int}{i:Nat}(h:i<a.length):Zp (Z8 W a b) i=Zp a i+W0 W b i:=Yp h
theorem X9{a b:List Int}(c:a.length=b.length)(h:∀i,i<a.length->Zp a i=Zp b i):a=b:=by rw[<-Sd a,<-Sd b,c];apply ak;intro i d;exact h i (by rw[c];exact aQ.mp d)
theorem Ux{W:List (List Int)}(ok:ZP W){i:Nat}(a:i<W.length):(ZL W i).sum=((aE W.length).map λj=>ent W i j).sum:=by rw[<-ON (ZL W i),ok.sq i a];rfl
theorem Kh{W:List (List Int)}(ok:ZP W):((UI W).length:Int)=((aE W.length).map λa=>((aE (W.length-(a+1))).map λj=>ent W a (a+1+j)).sum).sum:=by
 have b:∀(f:Nat->List (List Int))(n:Nat),(((aE n).flatMap f).length:Int)=((aE n).map λi=>((f i).length:Int)).sum:=by
  intro f n
  induction n with
  | zero=>rfl
  | succ n ih=>rw[IB,bA,Z6];omega
 unfold UI;rw[b];apply Yk;intro a c;unfold Cg;rw[b];apply Yk;intro j d;have:=ok.lo a (a+1+j) c (by omega);unfold GZ;rw[aN,bj];omega
theorem MK{W:List (List Int)}(ok:ZP W):((aE W.length).map λi=>(ZL W i).sum).sum=2*((UI W).length:Int):=by rw[Kh ok,<-Hx (λi j=>ent W i j) W.length (λi j a b=>ok.sym i j a b) (λi a=>ok.dia i a)];apply Yk;intro i a;exact Ux ok a
theorem W4{n m:Nat}{ix:List Nat}{c:XL}{d:XT}{b:XE}{s:ZF}(g:Nat->Int)(a:c s=aA (Si m))(f:m<=1000)(h:∀i:Nat,i<m->∃s1,Xb (.one 0) (.int (i:Int)) (ZI n ix s)=aA s1/\d s1=aA aC/\b s1=aA (.int (g i))) :
  Zq n ix c (.one 0) d b s=aA (.lst (iL ((aE m).map g))):=by
 rw[ZR (aE m) (λi=>.int (i:Int)) (λi=>.int (g i)) a (by simp;omega) (λi e=>h i (aQ.mp e))];simp
theorem Q8(f g:Nat->Int)(n:Nat):((aE n).map λi=>f i+g i).sum=((aE n).map f).sum+((aE n).map g).sum:=by
 induction n with
 | zero=>rfl
 | succ n ih=>rw[Z6,Z6,Z6,ih];omega
theorem G4(f:Nat->Nat->Int)(n m:Nat):((aE n).map λi=>((aE m).map λj=>f i j).sum).sum=((aE m).map λj=>((aE n).map λi=>f i j).sum).sum:=by
 induction n with
 | zero=>
  have:((aE m).map λj=>((aE 0).map λi=>f i j).sum).sum=0:=by have:=JZ 0 m;simpa using this
  rw[this];rfl
 | succ n ih=>
  rw[Z6,ih,<-Q8];apply Yk;intro j _;rw[Z6]
theorem IC{W:List (List Int)}{S U T:List Int}{h:Nat}(e:∀i,i<W.length->Zp T i=Zp S i+Zp U i)(a:h<W.length):W0 W T h=W0 W S h+W0 W U h:=by unfold W0;rw[<-Q8];apply Yk;intro i b;rw[e i b,e h a,<-fV];congr 1;omega
theorem Jl{W:List (List Int)}{D S U T:List Int}(b:D.length=W.length)(e:∀i,i<W.length->Zp T i=Zp S i+Zp U i):Z8 W (Z8 W D S) U=Z8 W D T:=X9 (by simp[YI]) λi a=>by rw[YI,YI] at a;rw[TQ (by rw[YI];exact a),TQ a,TQ a,IC e (by omega)];omega
theorem G5{W:List (List Int)}(ok:ZP W)(S:List Int):((aE W.length).map λh=>W0 W S h).sum=0:=by
 have b:((aE W.length).map λh=>W0 W S h).sum=((aE W.length).map λi=>((aE W.length).map λj=>ent W i j*Zp S j).sum).sum-((aE W.length).map λi=>((aE W.length).map λj=>ent W i j*Zp S i).sum).sum:=by rw[<-KS];apply Yk;intro i _;rw[<-KS];apply Yk;intro j _;rw[dh]
 have d:((aE W.length).map λi=>((aE W.length).map λj=>ent W i j*Zp S i).sum).sum=((aE W.length).map λi=>((aE W.length).map λj=>ent W i j*Zp S j).sum).sum:=by rw[G4];apply Yk;intro i c;apply Yk;intro j a;rw[ok.sym j i a c]
 rw[b,d];omega
theorem E8{W:List (List Int)}{D S:List Int}(ok:ZP W)(a:D.length=W.length):(Z8 W D S).sum=D.sum:=by unfold Z8;rw[Q8,ON,a,G5 ok,gD]
theorem nth_set{l:List Int}{h i:Nat}{v:Int}(a:i<l.length):Zp (l.set h v) i=if i=h then v else Zp l i:=by
 unfold Zp;rw[aH,aH,au];by_cases e:h=i
 ·subst e;rw[kz rfl,kz rfl,kz a];rfl
 ·rw[l4 e,l4 (aw e)]
theorem Jm{n i:Nat}(c:Int)(a:i<n):Zp (aV n c) i=c:=by unfold Zp;rw[aH,b0,kz a];rfl
theorem Ki(l:List Int)(k:Nat):WG (iL l) none (aA (k:Int))=iL (l.take k):=by
 unfold WG;rw[HT.sIx_none,HT.sIx_nat,aN,gm,iX,<-k7];congr 1;by_cases h:k<=l.length
 ·rw[dH h]
 ·rw[iK (by omega),ba (aL _),ba (by omega)]
theorem Kj(l:List Int)(k:Nat):WG (iL l) (aA (k:Int)) none=iL (l.drop k):=by
 unfold WG;rw[HT.sIx_none,HT.sIx_nat,aN,<-k8];congr 1;by_cases h:k<=l.length
 ·rw[dH h,ba (by simp)]
 ·rw[iK (by omega),fu (aL _),fu (by omega)];simp
theorem NJ{l:List Int}{i:Nat}(h:i<l.length):Zp l i∈l:=by unfold Zp;rw[aH,aI h];exact cz h
theorem NK{l:List Int}{x:Int}(h:x∈l):∃i,i<l.length/\Zp l i=x:=by obtain⟨i,a,e⟩:=fK h;refine⟨i,a,?_⟩;unfold Zp;rw[aH,aI a,e];rfl
theorem ID{l l':List Int}(c:Int)(m:l'.length=l.length)(g:0<l.length)(e:∀i,i<l.length->Zp l' i=Zp l i+c):X8 l'=X8 l+c:=by
 obtain⟨a,b⟩:=So (l:=l) (dw.mp g);obtain⟨i,h,d⟩:=NK a;refine Jc ?_ λx f=>?_
 ·have:=NJ (l:=l') (i:=i) (by omega);rw[e i h,d] at this;exact this
 ·obtain⟨j,o,k⟩:=NK f;have n:=b _ (NJ (l:=l) (i:=j) (by omega));rw[e j (by omega)] at k;omega
noncomputable def Z4(l:List Int):List Int:=(aE l.length).map λi=>Zp l i-X8 l
theorem Yq(l:List Int):(Z4 l).length=l.length:=by simp[Z4]
theorem Vx{l:List Int}{i:Nat}(h:i<l.length):Zp (Z4 l) i=Zp l i-X8 l:=Yp h
theorem Rf{l l':List Int}(c:Int)(a:l'.length=l.length)(d:0<l.length)(e:∀i,i<l.length->Zp l' i=Zp l i+c):Z4 l'=Z4 l:=X9 (by rw[Yq,Yq,a]) λi b=>by rw[Yq] at b;rw[Vx b,Vx (by omega),ID c a d e,e i (by omega)];omega
end PW
namespace PW
noncomputable def sN:Nat->(Nat->Int)->Int
 | 0,_=>0
 | n+1,f=>sN n f+f n
theorem Zg{f g:Nat->Int}:∀{n:Nat},(∀i,i<n->f i=g i)->sN n f=sN n g
 | 0,_=>rfl
 | n+1,h=>by show sN n f+f n=sN n g+g n;rw[Zg λi a=>h i (by omega),h n (by omega)]
theorem Y6{f:Nat->Int}{n:Nat}(h:∀i,i<n->f i=0):sN n f=0:=by
 rw[Zg h];clear h
 induction n with
 | zero=>rfl
 | succ n ih=>show sN n _+0=0;rw[ih];rfl
theorem ZZ(f g:Nat->Int):∀n,sN n (λi=>f i+g i)=sN n f+sN n g
 | 0=>rfl
 | n+1=>by show sN n _+(f n+g n)=(sN n f+f n)+(sN n g+g n);rw[ZZ f g n];omega
theorem ZA(c:Int)(f:Nat->Int):∀n,sN n (λi=>c*f i)=c*sN n f
 | 0=>by show(0:Int)=c*0;simp
 | n+1=>by show sN n _+c*f n=c*(sN n f+f n);rw[ZA c f n,fV]
theorem TR(f:Nat->Nat->Int)(m:Nat):∀n,sN n (λi=>sN m (f i))=sN m (λj=>sN n λi=>f i j)
 | 0=>by show(0:Int)=sN m λ_=>0;rw[Y6 (λ_ _=>rfl)]
 | n+1=>by show sN n (λi=>sN m (f i))+sN m (f n)=sN m (λj=>(sN n λi=>f i j)+f n j);rw[ZZ,TR f m n]
theorem ZX{f:Nat->Int}{k:Nat}:∀{n:Nat},k<n->(∀i,i<n->i≠k->f i=0)->sN n f=f k
 | 0,h,_=>by omega
 | n+1,h,z=>by
  show sN n f+f n=f k;by_cases q:k=n
  ·subst q;rw[Y6 λi a=>z i (by omega) (by omega)];omega
  ·rw[ZX (n:=n) (by omega) λi a=>z i (by omega),z n (by omega) (by omega)];omega
theorem G6{f:Nat->Int}{k:Nat}:∀{n:Nat},k+1<n->(∀i,i<n->i≠k->i≠k+1->f i=0)->sN n f=f k+f (k+1)
 | 0,h,_=>by omega
 | n+1,h,z=>by
  show sN n f+f n=_;by_cases q:k+1=n
  ·subst q;rw[ZX (k:=k) (by omega) λi b a=>z i (by omega) a (by omega)]
  ·rw[G6 (n:=n) (by omega) λi b=>z i (by omega),z n (by omega) (by omega) (by omega)];omega
theorem Y7(f:Nat->Int)(n:Nat):((aE n).map f).sum=sN n f:=by
 induction n with
 | zero=>rfl
 | succ n ih=>rw[fP,cU,kH,ih];simp[sN]
abbrev Mt:=Nat->Nat->Int
noncomputable def VP(i:Nat)(A:Mt):Mt:=λr c=>A (if r<i then r else r+1) (c+1)
noncomputable def sg:Nat->Int
 | 0=>1
 | n+1=>- sg n
noncomputable def Yb:Nat->Mt->Int
 | 0,_=>1
 | n+1,A=>sN (n+1) λi=>sg i*A i 0*Yb n (VP i A)
theorem Yo(n:Nat)(A:Mt):Yb (n+1) A=sN (n+1) λi=>sg i*A i 0*Yb n (VP i A):=rfl
theorem ZS:∀{n:Nat}{A B:Mt},(∀r c,r<n->c<n->A r c=B r c)->Yb n A=Yb n B
 | 0,_,_,_=>rfl
 | n+1,A,B,h=>by rw[Yo,Yo];refine Zg λi a=>?_;rw[h i 0 a (by omega),ZS (n:=n) (A:=VP i A) (B:=VP i B) λr c b d=>?_];unfold VP;exact h _ _ (by split<;>omega) (by omega)
theorem NL:∀{n:Nat}{A B C:Mt}{k:Nat}{x y:Int},k<n->(∀r c,r<n->c<n->r≠k->A r c=C r c/\B r c=C r c)->(∀c,c<n->C k c=x*A k c+y*B k c)->Yb n C=x*Yb n A+y*Yb n B
 | 0,_,_,_,k,_,_,h,_,_=>by omega
 | n+1,A,B,C,k,x,y,hk,h1,h2=>by
  rw[Yo,Yo,Yo,<-ZA,<-ZA,<-ZZ];refine Zg λi j=>?_;by_cases q:i=k
  ·subst q;have g:Yb n (VP i A)=Yb n (VP i C):=ZS λr c d a=>by unfold VP;exact(h1 _ _ (by split<;>omega) (by omega) (by split<;>omega)).1
   have l:Yb n (VP i B)=Yb n (VP i C):=ZS λr c d a=>by unfold VP;exact(h1 _ _ (by split<;>omega) (by omega) (by split<;>omega)).2
   rw[g,l,h2 0 (by omega),fV,jB];simp only[bS,cD]
  ·obtain⟨f,m⟩:=h1 i 0 j (by omega) q
   have e:Yb n (VP i C)=x*Yb n (VP i A)+y*Yb n (VP i B):=NL (k:=if k<i then k else k-1) (by split<;>omega) (λr c d a b=>by
    unfold VP
    exact h1 _ _ (by split<;>omega) (by omega) (by split at b<;>split<;>omega)) (λc a=>by
    have e:(if(if k<i then k else k-1)<i then(if k<i then k else k-1) else(if k<i then k else k-1)+1)=k:=by split<;>(try split)<;>omega
    unfold VP;rw[e];exact h2 (c+1) (by omega))
   rw[f,m,e,fV];simp only[bS,cD]
theorem RS:∀{n:Nat}{A:Mt}{k:Nat},k+1<n->(∀c,c<n->A k c=A (k+1) c)->Yb n A=0
 | 0,_,k,h,_=>by omega
 | n+1,A,k,hk,he=>by
  rw[Yo,G6 hk]
  ·have e:Yb n (VP k A)=Yb n (VP (k+1) A):=ZS λr c g a=>by
    unfold VP;by_cases q:r<k
    ·rw[kz q,kz (by omega)]
    ·rw[l4 q];by_cases d:r=k
     ·subst d;rw[kz (by omega)];exact(he (c+1) (by omega)).symm
     ·rw[l4 (by omega)]
   rw[e,he 0 (by omega)];show sg k*_*_ + - sg k*_*_=0;rw[bH,bH];omega
  ·intro i m j l;rw[RS (n:=n) (A:=VP i A) (k:=if k+1<i then k else k-1) (by split<;>omega) λc a=>?_,bU];have b:(if(if k+1<i then k else k-1)<i then(if k+1<i then k else k-1) else(if k+1<i then k else k-1)+1)=k:=by split<;>(try split)<;>omega
   have f:(if(if k+1<i then k else k-1)+1<i then(if k+1<i then k else k-1)+1 else(if k+1<i then k else k-1)+1+1)=k+1:=by split<;>(try split)<;>omega
   unfold VP;rw[b,f];exact he (c+1) (by omega)
noncomputable def YU(k:Nat)(v:Nat->Int)(A:Mt):Mt:=λr=>if r=k then v else A r
theorem Z1(k:Nat)(v:Nat->Int)(A:Mt):YU k v A k=v:=by unfold YU;rw[kz rfl]
theorem YX{k r:Nat}(v:Nat->Int)(A:Mt)(h:r≠k):YU k v A r=A r:=by unfold YU;rw[l4 h]
theorem Vy{n k:Nat}{A:Mt}{u v:Nat->Int}{x y:Int}(a:k<n):Yb n (YU k (λc=>x*u c+y*v c) A)=x*Yb n (YU k u A)+y*Yb n (YU k v A):=
 NL a (λr c _ _ h=>by rw[YX _ _ h,YX _ _ h,YX _ _ h];exact⟨rfl,rfl⟩) (λc _=>by rw[Z1,Z1,Z1])
noncomputable def swp(k:Nat)(A:Mt):Mt:=YU k (A (k+1)) (YU (k+1) (A k) A)
theorem E9{n k:Nat}{A:Mt}(d:k+1<n):Yb n (swp k A) = - Yb n A:=by
 have two:∀u v:Nat->Int,Yb n (YU k (λc=>1*u c+1*v c) (YU (k+1) (λc=>1*u c+1*v c) A))=0:=λu v=>RS d λc _=>by rw[Z1,YX _ _ (by omega),Z1]
 have same:∀u:Nat->Int,Yb n (YU k u (YU (k+1) u A))=0:=λu=>RS d λc _=>by rw[Z1,YX _ _ (by omega),Z1]
 have a:∀u v:Nat->Int,YU k u (YU (k+1) v A)=YU (k+1) v (YU k u A):=λu v=>by
  funext r;unfold YU;by_cases q:r=k
  ·rw[kz q,l4 (by omega),kz q]
  ·rw[l4 q];by_cases b:r=k+1
   ·rw[kz b,kz b]
   ·rw[l4 b,l4 b,l4 q]
 have h:=two (A k) (A (k+1));rw[Vy (by omega),a,Vy d,a,Vy d,<-a,<-a,<-a,<-a,same,same] at h
 have e:YU k (A k) (YU (k+1) (A (k+1)) A)=A:=by
  funext r;unfold YU;by_cases q:r=k
  ·rw[kz q,q]
  ·rw[l4 q];by_cases b:r=k+1
   ·rw[kz b,b]
   ·rw[l4 b]
 rw[e] at h;unfold swp;omega
theorem Ug:∀(d:Nat){n i:Nat}{A:Mt},i+1+d<n->(∀c,c<n->A i c=A (i+1+d) c)->Yb n A=0
 | 0,n,i,A,h,e=>RS h e
 | d+1,n,i,A,h,e=>by
  have b:Yb n (swp (i+1+d) A)=0:=Ug d (n:=n) (i:=i) (by omega) λc a=>by unfold swp;rw[YX _ _ (by omega),YX _ _ (by omega),Z1];exact e c a
  rw[E9 (by omega)] at b;omega
theorem Uh{n i j:Nat}{A:Mt}(d:i<n)(f:j<n)(b:i≠j)(e:∀c,c<n->A i c=A j c):Yb n A=0:=by
 rcases Nat.lt_or_gt_of_ne b with h | h
 ·exact Ug (j-i-1) (i:=i) (by omega) λc a=>by rw[show i+1+(j-i-1)=j by omega];exact e c a
 ·exact Ug (i-j-1) (i:=j) (by omega) λc a=>by rw[show j+1+(i-j-1)=i by omega];exact(e c a).symm
theorem ML:∀{n:Nat}{A:Mt},(∀c,c<n->A n c=0)->Yb (n+1) A=A n n*Yb n A
 | 0,A,_=>by show 0+1*A 0 0*1=A 0 0*1;omega
 | n+1,A,h=>by
  rw[Yo (n+1)];show sN (n+1) _+sg (n+1)*A (n+1) 0*_=_;rw[h 0 (by omega),bU,bZ,gD,Yo n,<-ZA];refine Zg λi b=>?_;rw[ML (n:=n) (A:=VP i A) λc a=>?_]
  ·have e:VP i A n n=A (n+1) (n+1):=by unfold VP;rw[l4 (by omega)]
   rw[e];simp only[bS,cD]
  ·unfold VP;rw[l4 (by omega)];exact h (c+1) (by omega)
theorem Q9{n j:Nat}{A:Mt}{a:Nat->Int}{v:Nat->Nat->Int}(b:j<n):∀m,Yb n (YU j (λc=>sN m λk=>a k*v k c) A)=sN m λk=>a k*Yb n (YU j (v k) A)
 | 0=>by have:Yb n (YU j (λc=>0*(0:Int)+0*(0:Int)) A)=0*Yb n (YU j (λ_=>0) A)+0*Yb n (YU j (λ_=>0) A):=Vy (u:=λ_=>0) (v:=λ_=>0) b;simp only[bZ,gD] at this;exact this
 | m+1=>by have:=Vy (n:=n) (A:=A) (u:=λc=>sN m λk=>a k*v k c) (v:=v m) (x:=1) (y:=a m) b;simp only[cq] at this;show Yb n (YU j (λc=>(sN m λk=>a k*v k c)+a m*v m c) A)=_;rw[this,Q9 b m];rfl
theorem Dc{n j:Nat}{A:Mt}{a:Nat->Int}(d:j<n):Yb n (YU j (λc=>sN n λk=>a k*A k c) A)=a j*Yb n A:=by
 rw[Q9 d n,ZX d]
 ·have:YU j (A j) A=A:=by funext r;unfold YU;split<;>simp_all
  rw[this]
 ·intro i e b;rw[Uh e d b λc _=>by rw[YX _ _ b,Z1],bU]
noncomputable def NM(n:Nat)(A:Mt)(i j:Nat):Int:=Yb n (YU j (λc=>if c=i then 1 else 0) A)
theorem Jn{n:Nat}{A:Mt}{j:Nat}(d:j<n)(v:Nat->Int):sN n (λi=>v i*NM n A i j)=Yb n (YU j v A):=by
 unfold NM;rw[<-Q9 d n];refine ZS λr c e b=>?_;unfold YU;split
 ·show sN n (λk=>v k*if c=k then 1 else 0)=v c;rw[ZX b]
  ·simp
  ·intro i f a;rw[l4 (λz=>a z.symm),bU]
 ·rfl
theorem NN{n:Nat}{A:Mt}{k j:Nat}(b:k<n)(a:j<n):sN n (λi=>A k i*NM n A i j)=if k=j then Yb n A else 0:=by
 rw[Jn a];split
 ·rename_i h;subst h;have:YU k (A k) A=A:=by funext r;unfold YU;split<;>simp_all
  rw[this]
 ·rename_i h;exact Uh b a h λc _=>by rw[YX _ _ h,Z1]
theorem MM(k:Nat)(A:Mt):YU k (A k) A=A:=by funext r;unfold YU;split<;>simp_all
theorem TU{n k:Nat}{A:Mt}(a:k<n)(h:∀c,c<n->A k c=0):Yb n A=0:=by
 have:=Vy (n:=n) (A:=A) (u:=A k) (v:=A k) (x:=0) (y:=0) a;rw[ZS (B:=A) (n:=n) λr c d b=>?_] at this
 ·simpa using this
 ·unfold YU;split
  ·rename_i q;subst q;rw[h c b];simp
  ·rfl
theorem IE{n k j:Nat}{A:Mt}{u:Nat->Int}(b:k<n)(e:j<n)(a:j≠k)(h:∀c,c<n->u c=A j c):Yb n (YU k u A)=0:=
 Uh b e (aw a) λc d=>by rw[Z1,YX _ _ a];exact h c d
theorem Pa{n q:Nat}{A B:Mt}{k:Nat->Int}(g:q<n)(f:∀c,c<n->B q c=A q c)(h:∀r c,r<n->c<n->r≠q->B r c=A r c+k r*A q c):Yb n B=Yb n A:=by
 have l:∀t,t<=n->Yb n (λr=>if r<t then B r else A r)=Yb n A:=by
  intro t
  induction t with
  | zero=>intro _;exact ZS λr c _ _=>by simp
  | succ t ih=>
   intro o;rw[<-ih (by omega)];by_cases e:t=q
   ·subst e;refine ZS λr c d a=>?_;by_cases z:r<t
    ·rw[kz (by omega),kz z]
    ·by_cases b:r=t
     ·subst b;rw[kz (by omega),l4 (by omega)];exact f c a
     ·rw[l4 (by omega),l4 z]
   ·have m:Yb n (λr=>if r<t+1 then B r else A r)=Yb n (YU t (λc=>(1:Int)*A t c+k t*A q c) (λr=>if r<t then B r else A r)):=by
     refine ZS λr c d a=>?_;unfold YU;by_cases b:r=t
     ·subst b;rw[kz rfl];rw[kz (by omega),h r c d a e,cq]
     ·rw[l4 b];show(if r<t+1 then B r else A r) c=(if r<t then B r else A r) c;by_cases z:r<t
      ·rw[kz (by omega),kz z]
      ·rw[l4 (by omega),l4 z]
    rw[m,Vy (by omega)];have i:YU t (A t) (λr=>if r<t then B r else A r)=λr=>if r<t then B r else A r:=by have:=MM t (λr=>if r<t then B r else A r);simp only[bz,if_false] at this;exact this
    rw[i,IE (j:=q) (by omega) g (aw e) (λc a=>by
     split
     ·rw[f c a]
     ·rfl)]
    omega
 rw[<-l n (aL n)];exact ZS λr c d _=>by rw[kz d]
abbrev Zb8:=Nat×Nat
noncomputable def ind(a b:Nat):Int:=if a=b then 1 else 0
noncomputable def dl(e:Zb8)(y:Nat):Int:=ind e.1 y-ind e.2 y
open L2 VL
theorem G7{f g:XS}{s:ZF}{v:PV}(a:f s=aA (.rt v)):Zn f g s=aA (.rt v):=by rw[Mp,a];rfl
noncomputable def Yi(ns:List Int)(k:Nat):Int:=if k<ns.length then Zp ns k else((k:Int)*k+3*k+1)*5003%1999
section
variable {s:ZF} {f g:XE} {a b:Int} {C:Int->Int->Prop} [∀i j,Decidable (C i j)] {op:Int->Int->Int}
theorem vC(e:f s=aA (.int a))(d:g s=aA (.int b))(c:C a b):Zj (J0 C op) f g s=aA (.int (op a b)):=by rw[RG,e,d];simp only[aY,BH,kz c]
theorem vI(d:f s=aA (.int a))(c:g s=aA (.int b)):Zj (gI op) f g s=aA (.int (op a b)):=by rw[RG,d,c];rfl
theorem vP(b:f s=aA (.int a)):eP f s=aA (.int a):=by rw[O2,b];rfl
theorem MN{v:PV}(a:f s=aA v):ZO f s=aA (.rt v):=by rw[HY,a];rfl
end
theorem Xt{a:List Int}(h:a.length<=63){k:Nat}(c:k<=100):Z7 [.cst (iL a),.int (k:Int)]=aA (.int (Yi a k)):=by
 unfold Yi;by_cases q:k<a.length
 ·simp[Z7,TC,YC,ZM,q,WH q]
 ·have c1:CMul (k:Int) (k:Int):=Gg (by omega) (by omega);have c2:CMul 3 (k:Int):=.inl (by omega);have c3:CMul ((k:Int)*k+3*k+1) 5003:=.inr (by omega);have b:RD (xB (Zj Lb (Za 1) (Zc Y1 [Za 0]))) (ZO (eP (Zj ZQ (Za 0) (Za 1)))) YE [aA (.cst (iL a)),aA (.int (k:Int))]=aA (.nx [aA (.cst (iL a)),aA (.int (k:Int))]):=by simp[q]
  show YC 2 TC _=_;unfold TC;show(Zn _ _ [aA (.cst (iL a)),aA (.int (k:Int))]).bind Tq=_;rw[YB b,l4 q,MN (vP (vC (vC (vI (vI (vC rfl rfl c1) (vC rfl rfl c2)) rfl) rfl c3) rfl (by decide)))];rfl
theorem G8{a:List Int}(b:∀n∈a,n.natAbs.log2<=1048576)(k:Nat):(Yi a k).natAbs.log2<=1048576:=by
 unfold Yi;split
 ·exact b _ (NJ (by assumption))
 ·generalize ((k:Int)*k+3*k+1)*5003=z;have c:=dI z (show(1999:Int)≠0 by decide);have d:=cW z (show(0:Int)<1999 by decide)
  have:(z%1999).natAbs.log2<=1048576:=by
   by_cases h:(z%1999).natAbs=0
   ·rw[h];decide +kernel
   ·have:=(kG (k:=11) h).mpr (by omega);omega
  exact this
theorem Wa(c:Int){t m:Nat}(F:t<=100)(w:0<m):∃v:Nat,v<m/\Zz [.int c,.int (t:Int),.int (m:Int)]=aA (.int (v:Int)):=by
 have u:(0:Int)<(m:Int):=by omega
 have a:∀x:Int,∃v:Nat,v<m/\x%(m:Int)=(v:Int):=λx=>by have A:=dI x (show(m:Int)≠0 by omega);have b:=cW x u;exact⟨(x%(m:Int)).toNat,by omega,by omega⟩
 have D:Zs 3 (eP (Zj Lu (Za 0) (eC (.int 2)))) [aA (.int c),aA (.int (t:Int)),aA (.int (m:Int)),none,none]=aA (.nx [aA (.int c),aA (.int (t:Int)),aA (.int (m:Int)),aA (.int (c/2)),none]):=by simp[Li]
 show ∃v:Nat,v<m/\YC 5 QJ _=_;unfold QJ;show ∃v:Nat,v<m/\(Zn _ _ [aA (.int c),aA (.int (t:Int)),aA (.int (m:Int)),none,none]).bind Tq=_;rw[YB D];by_cases q:c%2=1/\1000000000<c
 ·obtain⟨H,b,x,y,e⟩:=WW (T:=.one 4) (fb:=Zs 3 (eP (Zj Lu (Za 3) (eC (.int 1000))))) (ls:=Si t) (s:=[aA (.int c),aA (.int (t:Int)),aA (.int (m:Int)),aA (.int (c/2)),none])
   (λi st=>∃x y,st=[aA (.int c),aA (.int (t:Int)),aA (.int (m:Int)),aA (.int x),y]) ⟨_,_,rfl⟩ (by
    rintro i l st C ⟨x,y,rfl⟩;obtain⟨J,rfl⟩:=Tv C;refine⟨_,_,rfl,?_,x/1000,aA (.int (i:Int)),rfl⟩;simp[Li])
  subst e;obtain⟨v,h,o⟩:=a x;refine⟨v,h,?_⟩;have E:Ya [Za 1] [aA (.int c),aA (.int (t:Int)),aA (.int (m:Int)),aA (.int (c/2)),none]=aA (Si t):=Yd (by simp) (by omega);have B:Xq [] (Ya [Za 1]) (.one 4) (Zs 3 (eP (Zj Lu (Za 3) (eC (.int 1000))))) [aA (.int c),aA (.int (t:Int)),aA (.int (m:Int)),aA (.int (c/2)),none]=aA (.nx [aA (.int c),aA (.int (t:Int)),aA (.int (m:Int)),aA (.int x),y]):=by show(Ya [Za 1] [aA (.int c),aA (.int (t:Int)),aA (.int (m:Int)),aA (.int (c/2)),none]).bind _=_;rw[E];exact b
  rw[G7 (v:=.int (v:Int))]
  ·rfl
  ·rw[Xw];have:(Qi (xB (Zj (WR aB) (Zj Wn (Za 0) (eC (.int 2))) (eC (.int 1)))) (xB (Zj Lc (Za 0) (Zj Ep (eC (.int 10)) (eC (.int 9)))))) [aA (.int c),aA (.int (t:Int)),aA (.int (m:Int)),aA (.int (c/2)),none]=aA aC:=by simp[q.1,JR,q.2]
   rw[this];simp only[aY,if_true];rw[YB B];simp[w,o]
 ·have:(Qi (xB (Zj (WR aB) (Zj Wn (Za 0) (eC (.int 2))) (eC (.int 1)))) (xB (Zj Lc (Za 0) (Zj Ep (eC (.int 10)) (eC (.int 9)))))) [aA (.int c),aA (.int (t:Int)),aA (.int (m:Int)),aA (.int (c/2)),none]=aA aB:=by
   by_cases j:c%2=1
   ·have:¬1000000000<c:=λz=>q ⟨j,z⟩;simp[j,JR,this]
   ·simp[j]
  rw[YB (s1:=[aA (.int c),aA (.int (t:Int)),aA (.int (m:Int)),aA (.int (c/2)),none]) (by rw[Xw,this];rfl)];generalize r:c/2%999979+1009*(t:Int)=x1;have I:0<=x1/\x1<2000000:=by have A:=dI (c/2) (show(999979:Int)≠0 by decide);have b:=cW (c/2) (show(0:Int)<999979 by decide);omega
  generalize d:(x1*x1+40503*x1)%999983=x2;have G:0<=x2/\x2<2000000:=by have A:=dI (x1*x1+40503*x1) (show(999983:Int)≠0 by decide);have b:=cW (x1*x1+40503*x1) (show(0:Int)<999983 by decide);omega
  have p:CMul 1009 (t:Int):=.inl (by omega);have k:CMul x1 x1:=.inl (by omega);have n:CMul 40503 x1:=.inl (by omega);have f:CMul x2 x2:=.inl (by omega);have g:CMul 7 (t:Int):=.inl (by omega);obtain⟨v,h,o⟩:=a ((x2*x2+7*(t:Int))%999961/11);refine⟨v,h,?_⟩;rw[YB (s1:=[aA (.int c),aA (.int (t:Int)),aA (.int (m:Int)),aA (.int x1),none]) (by simp[p,r]),YB (s1:=[aA (.int c),aA (.int (t:Int)),aA (.int (m:Int)),aA (.int x2),none]) (by simp[k,n,d])];simp[f,g,Li,w,o]
noncomputable def Pb(M:List (List Int))(a b:Nat)(t:Int):List (List Int):=Se (Se M a b t) b a t
theorem RU{n:Nat}{M:List (List Int)}{a b:Nat}{t:Int}(ok:MatOk n M)(c:a<n)(d:b<n)(i j:Nat):ent (Pb M a b t) i j=if b=i/\a=j then t else if a=i/\b=j then t else ent M i j:=by obtain⟨e,f⟩:=W8 ok.len ok.row c;unfold Pb;rw[Ma e f d c,Ma ok.len ok.row c d]
theorem G9{n:Nat}{M:List (List Int)}{a b:Nat}{t:Int}(ok:MatOk n M)(f:a<n)(g:b<n)(e:a≠b)(o:0<=t)(q:t<=9):MatOk n (Pb M a b t):=by
 obtain⟨k,l⟩:=W8 ok.len ok.row f;obtain⟨h,m⟩:=W8 k l g;have E:=RU (t:=t) ok f g;refine⟨h,m,λi j c d=>?_,λi j c d=>?_,λi j c d=>?_,λi c=>?_⟩
 ·have:=ok.lo i j c d;rw[E];split<;>(try split)<;>omega
 ·have:=ok.hi i j c d;rw[E];split<;>(try split)<;>omega
 ·have:=ok.sym i j c d;rw[E,E];by_cases p:b=i/\a=j
  ·rw[kz p];by_cases p2:b=j/\a=i
   ·rw[kz p2]
   ·rw[l4 p2,kz ⟨p.2,p.1⟩]
  ·rw[l4 p];by_cases p2:a=i/\b=j
   ·rw[kz p2,kz ⟨p2.2,p2.1⟩]
   ·rw[l4 p2,l4 (λz=>p2 ⟨z.2,z.1⟩),l4 (λz=>p ⟨z.2,z.1⟩)];exact this
 ·rw[E,l4 (λz=>e (by omega)),l4 (λz=>e (by omega))];exact ok.dia i c
theorem MO{n:Nat}{M:List (List Int)}{a b:Nat}{k:Int}(ok:MatOk n M)(e:a<n)(f:b<n):Vn [.lst (rL M),.int (a:Int),.int (b:Int),.int k]=aA (.lst (rL (Pb M a b (if ent M a b+k<9 then ent M a b+k else 9)))):=by
 have g:(rL M).length=n:=by unfold rL;rw[aN];exact ok.len
 generalize i:(if ent M a b+k<9 then ent M a b+k else 9)=t;have r:T4 (rL M) (a:Int)=aA (.lst (iL (ZL M a))):=W7 (Kg (by rw[ok.len];exact e));have p:T4 (iL (ZL M a)) (b:Int)=aA (.int (ent M a b)):=WH (by rw[ok.row a e];exact f);have h:=W8 (t:=t) (b:=b) ok.len ok.row e;have d:(rL (Se M a b t)).length=n:=by unfold rL;rw[aN];exact h.1
 have o:Zs 4 (eP (Zc Mg [eC (.int 9),Zj Yj (Zj ZQ (Zj ZQ (Za 0) (Za 1)) (Za 2)) (Za 3)])) [aA (.lst (rL M)),aA (.int (a:Int)),aA (.int (b:Int)),aA (.int k),none]=aA (.nx [aA (.lst (rL M)),aA (.int (a:Int)),aA (.int (b:Int)),aA (.int k),aA (.int t)]):=by simp[r,p,i]
 have q:Vk 0 (Za 1) (Za 2) (Za 4) [aA (.lst (rL M)),aA (.int (a:Int)),aA (.int (b:Int)),aA (.int k),aA (.int t)]=aA (.nx [aA (.lst (rL (Se M a b t))),aA (.int (a:Int)),aA (.int (b:Int)),aA (.int k),aA (.int t)]):=by rw[QA (l:=.int t) (a:=(a:Int)) (b:=(b:Int)) (j:=a) (c:=b) (m:=rL M) (n:=iL (ZL M a)) rfl rfl rfl rfl (Tx (by rw[g];exact e)) (Kg (by rw[ok.len];exact e)) (ZV _) rfl (Tx (by rw[aN,ok.row a e];exact f)),G0];rfl
 have s:Vk 0 (Za 2) (Za 1) (Za 4) [aA (.lst (rL (Se M a b t))),aA (.int (a:Int)),aA (.int (b:Int)),aA (.int k),aA (.int t)]=aA (.nx [aA (.lst (rL (Pb M a b t))),aA (.int (a:Int)),aA (.int (b:Int)),aA (.int k),aA (.int t)]):=by rw[QA (l:=.int t) (a:=(b:Int)) (b:=(a:Int)) (j:=b) (c:=a) (m:=rL (Se M a b t)) (n:=iL (ZL (Se M a b t) b)) rfl rfl rfl rfl (Tx (by rw[d];exact f)) (Kg (by rw[h.1];exact f)) (ZV _) rfl (Tx (by rw[aN,h.2 b f];exact e)),G0];rfl
 show Ae 5 RK _=_;unfold Ae;rw[kz (by rfl)];unfold RK;show(Zn _ _ [aA (.lst (rL M)),aA (.int (a:Int)),aA (.int (b:Int)),aA (.int k),none]).bind A7=_;rw[YB o,YB q,s];rfl
theorem Jo{i:Nat}{D:List PV->Option PV}{fs:List XE}{s:ZF}{l0 l':PV}{ls:List PV}(a:s[i]?=aA (aA l0))(b:Ql fs s=aA ls)(c:ZJ ls=aC)(d:D (l0::ls)=aA l'):Mu i D fs s=aA (.nx (s.set i (aA l'))):=by unfold Mu;rw[a];simp only[b,aY,c,if_true,d,dZ]
theorem IF{s:ZF}{n:Nat}(h:s[3]?=aA (aA (.int (n:Int))))(a:n<=7):Zq 1 [3] (Ya [Za 3]) (.one 0) Zy (Zj Mm (UO [eC (.int 0)]) (Za 1)) s=aA (.lst (rL (aV n (aV n 0)))):=by
 rw[ZR (aE n) (λi=>.int (i:Int)) (λ_=>.lst (iL (aV n 0))) (Yd (by simp[h]) (by omega)) (by simp;omega) (λi _=>⟨_,rfl,rfl,?_⟩)]
 ·unfold rL;rw[List.map_const',bj,List.map_replicate]
 ·have e:Mm (.lst [.int 0]) (.int (n:Int))=aA (.lst (iL (aV n 0))):=by show(if ZJ [PV.int 0]=aC/\(-1000000:Int)<=(n:Int)/\(n:Int)<=1000000/\[PV.int 0].length*((n:Int)).toNat<=10000 then aA (PV.lst (aV ((n:Int)).toNat [PV.int 0]).flatten) else none)=_;rw[kz ⟨rfl,by omega,by omega,by simp;omega⟩];simp
  simp[ZI,h,e]
noncomputable def Grown(M:List (List Int))(l:List Int)(k:Nat):Prop:=∀j,1<=j->j<k->∃j',j'<j/\0<ent M (Zp l j).toNat (Zp l j').toNat
theorem Grown.mono{M c:List (List Int)}{l:List Int}{k:Nat}(h:Grown M l k)(g:∀i j,0<ent M i j->0<ent c i j):Grown c l k:=λj e f=>by obtain⟨d,a,b⟩:=h j e f;exact⟨d,a,g _ _ b⟩
theorem Grown.conn{M:List (List Int)}{l:List Int}{n:Nat}(h:Grown M l n)(s:M.length=n)(d:NamesOk n l):WO M:=by
 intro P t i j g p;rw[s] at g p;have lt:∀x,x<n->(Zp l x).toNat<M.length:=λx c=>by have:=d.at c;omega
 have all:∀k,k<n->(P (Zp l k).toNat↔P (Zp l 0).toNat):=by
  intro k
  induction k using kI with
  | ind k ih=>
   intro m;by_cases q:k=0
   ·subst q;exact Iff.rfl
   ·obtain⟨o,a,b⟩:=h k (by omega) m;exact(t _ _ (lt k m) (lt o (by omega)) b).trans (ih o a (by omega))
 have f:∀i,i<n->∃x,x<n/\(Zp l x).toNat=i:=λi g=>by have:=Zb7 d.nd (λx c=>⟨x.toNat,by have:=d.hi x c;omega,by have:=d.lo x c;omega⟩) d.len g;obtain⟨x,c,e⟩:=NK this;exact⟨x,by rw[<-d.len];exact c,by rw[e];rfl⟩
 obtain⟨x,c,rfl⟩:=f i g;obtain⟨y,r,rfl⟩:=f j p;exact(all x c).trans (all y r).symm
theorem Jp{n:Nat}{M:List (List Int)}{a b:Nat}{t:Int}(ok:MatOk n M)(e:a<n)(d:b<n)(c:0<t):(∀i j,0<ent M i j->0<ent (Pb M a b t) i j)/\0<ent (Pb M a b t) a b:=by
 refine⟨λi j h=>?_,?_⟩
 ·rw[RU ok e d];split
  ·exact c
  ·split
   ·exact c
   ·exact h
 ·rw[RU ok e d];split
  ·exact c
  ·rw[kz ⟨rfl,rfl⟩];exact c
noncomputable def Wk(ns:List Int)(mo n:Nat)(M:List (List Int))(sp:List Int)(x6 x7 x8 x9:Option PV):ZF:=[aA (.cst (iL ns)),aA (.int (mo:Int)),aA (.int (Yi ns 0)),aA (.int (n:Int)),aA (.lst (rL M)),aA (.lst (iL sp)),x6,x7,x8,x9]
abbrev bW1:XS:=Vj 5 (Zc Zz [Zc Z7 [Za 0,Zj Yj (eC (.int 6)) (Za 6)],eC (.int 10),Zj Yj (Za 6) (eC (.int 1))]) (Za 6)
abbrev bW2:XS:=Zn (Zs 7 (Zc Z7 [Za 0,Za 6]))
  (Mu 4 Vn [Zj ZQ (Za 5) (Za 6),Zj ZQ (Za 5) (Zc Zz [Za 7,eC (.int 1),Za 6]),Zj Yj (eC (.int 1)) (Zc Zz [Za 7,eC (.int 2),eC (.int 3)])])
abbrev bW3:XS:=(Zn (Zs 7 (Zc Z7 [Za 0,Zj Yj (eC (.int 7)) (Za 6)]))
  (Zn (Zs 8 (Zc Zz [Za 7,eC (.int 4),Za 3]))
  (Zn (Zs 9 (eP (Zj Wn (Zj Yj (Zj Yj (Za 8) (eC (.int 1))) (Zc Zz [Za 7,eC (.int 5),Zj VH (Za 3) (eC (.int 1))])) (Za 3))))
  (Mu 4 Vn [Za 8,Za 9,Zj Yj (eC (.int 1)) (Zc Zz [Za 7,eC (.int 6),eC (.int 2)])]))))
theorem BR{a:List Int}{mo n:Nat}{M:List (List Int)}{sp:List Int}{x7 x8 x9:Option PV}{i:Nat}(b:a.length<=63)(h:i<7)(c:NamesOk i sp) :
  ∃sp',NamesOk (i+1) sp'/\bW1 (Wk a mo n M sp (aA (.int (i:Int))) x7 x8 x9)=aA (.nx (Wk a mo n M sp' (aA (.int (i:Int))) x7 x8 x9)):=by
 obtain⟨v,j,d⟩:=Wa (Yi a (6+i)) (t:=10) (m:=i+1) (by omega) (by omega);have e:=Xt b (k:=6+i) (by omega);refine⟨sp.take v++(i:Int)::sp.drop v,c.ins v,?_⟩;unfold bW1;rw[Qz (k:=(v:Int)) (l:=.int (i:Int)) (m:=iL sp) ?_ rfl rfl (ZV sp) rfl (by omega) (by omega) (by rw[aN,c.len];omega),eZ,G1]
 ·rfl
 ·have f:((6+i:Nat):Int)=6+(i:Int):=by omega
  have g:((i+1:Nat):Int)=(i:Int)+1:=by omega
  rw[f] at e;rw[g] at d;simp[Wk,e];exact d
noncomputable def nL(l:List Nat):List Int:=l.map λ(i:Nat)=>(i:Int)
theorem Fb{y:Nat}{l:List Nat}:(y:Int)∈nL l↔y∈l:=by unfold nL;rw[bb];exact⟨λ⟨a,h,e⟩=>by rw[show y=a by omega];exact h,λh=>⟨y,h,rfl⟩⟩
noncomputable def Xu(W:List (List Int))(h:Nat)(F:List Nat):Int:=(F.map λo=>ent W h o).sum
theorem ties_comp2{W:List (List Int)}{h i j k:Nat}{F:List Nat}{s:ZF}(ok:ZP W)(a:h<W.length)(e:∀x∈F,x<W.length)(m:F.length<=100)(g:s[i]?=aA (aA (wP W)))(f:s[j]?=aA (aA (.int (h:Int))))(l:s[k]?=aA (aA (.lst (iL (nL F))))) :
  Zc UB [Zq 1 [i,j] (Ve (Za k)) (.one 0) Zy (Zj ZQ (Zj ZQ (Za 1) (Za 2)) (Za 0))] s=aA (.int (Xu W h F)):=by
 have d:Zq 1 [i,j] (Ve (Za k)) (.one 0) Zy (Zj ZQ (Zj ZQ (Za 1) (Za 2)) (Za 0)) s=aA (.lst (iL (F.map λo=>ent W h o))):=by
  rw[ZR F (λo=>.int (o:Int)) (λo=>.int (ent W h o)) (by simp[l,nL]) (by omega) (λo b=>⟨_,rfl,rfl,?_⟩)]
  ·simp
  ·have c:=ok.sq h a;have:=WH (by rw[c];exact e o b);simp[ZI,g,f,Ts a,this];rfl
 simp only[YO,ZD,d];exact Sl _
theorem MP{W:List (List Int)}{h:Nat}{F:List Nat}{X:PV}(ok:ZP W)(a:h<W.length)(e:∀x∈F,x<W.length)(f:F.length<=100)(c:BK (Za 2) [aA (wP W),aA (.int (h:Int)),aA X]=aA (iL (nL F))):WX [wP W,.int (h:Int),X]=aA (.int (Xu W h F)):=by
 have d:Zq 1 [0,1] (BK (Za 2)) (.one 0) Zy (Zj ZQ (Zj ZQ (Za 1) (Za 2)) (Za 0)) [aA (wP W),aA (.int (h:Int)),aA X]=aA (.lst (iL (F.map λo=>ent W h o))):=by
  rw[ZR F (λo=>.int (o:Int)) (λo=>.int (ent W h o)) (by rw[c];simp[nL]) (by omega) (λo b=>⟨_,rfl,rfl,?_⟩)]
  ·simp
  ·have:=WH (by rw[ok.sq h a];exact e o b);simp[ZI,Ts a,this];rfl
 show(ZO _ [aA (wP W),aA (.int (h:Int)),aA X]).bind Tq=_
 rw[MN (vP (by
  simp only[YO,ZD,d];exact Sl _))]
 rfl
theorem Kk{W:List (List Int)}{h:Nat}{F:List Nat}(ok:ZP W)(a:h<W.length)(c:∀x∈F,x<W.length)(b:F.length<=100):WX [wP W,.int (h:Int),.lst (iL (nL F))]=aA (.int (Xu W h F)):=MP ok a c b (A6 rfl)
theorem SU{d:Type}{T:Tgt}{fb:XS}{q g:d->PV}{c:d->Bool}(S:ZF->Prop):∀{ls:List d}{s:ZF},(∀a∈ls,∀s,S s->∃s1,Xb T (q a) s=aA s1/\((c a=aC->fb s1=aA (.rt (g a)))/\(c a=aB->∃s2,fb s1=aA (.nx s2)/\S s2)))->S s->
  match ls.find? c with | some a=>VN T fb (ls.map q) s=aA (.rt (g a)) | none=>∃s',VN T fb (ls.map q) s=aA (.nx s')/\S s'
 | [],s,_,h0=>⟨s,rfl,h0⟩
 | a::r,s,h,h0=>by
  obtain⟨s1,f,i,k⟩:=h a aZ s h0;rw[List.find?_cons]
  cases ca:c a with
  | true=>
   show VN T fb (q a::r.map q) s=_;unfold VN;rw[f];simp only[aY,i ca]
  | false=>
   obtain⟨s2,n,m⟩:=k ca;have j:=SU S (ls:=r) (s:=s2) (λb l=>h b (aT _ l)) m
   have e:VN T fb ((a::r).map q) s=VN T fb (r.map q) s2:=by
    show VN T fb (q a::r.map q) s=_;unfold VN;rw[f];simp only[aY,n];cases r.map q<;>rfl
   rw[e];exact j
noncomputable def Xk(W:List (List Int))(D:List Int)(F:List Nat):Option Nat:=(aE W.length).find? λh=>!decide (h∈F)&&decide (Zp D h<Xu W h F)
noncomputable def Pc:Option Nat->PV
 | none=>.non
 | some h=>.int (h:Int)
theorem Kl(y:Nat)(l:List Nat):J2 aC (.int (y:Int)) (.lst (iL (nL l)))=aA (.bl (!decide (y∈l))):=by rw[Ci];have:=Fb (y:=y) (l:=l);simp[this]
theorem Dd(y:Nat)(l:List Nat):J2 aB (.int (y:Int)) (.lst (iL (nL l)))=aA (.bl (decide (y∈l))):=by rw[Ci];have:=Fb (y:=y) (l:=l);simp[this]
theorem SV{W:List (List Int)}{D:List Int}{F:List Nat}(ok:ZP W)(j:D.length=W.length)(l:∀x∈F,x<W.length)(k:F.length<=100):Z2 [wP W,pP D,.lst (iL (nL F))]=aA (Pc (Xk W D F)):=by
 have a:=SU (T:=.many [3,4]) (fb:=RD (Qi (xB (Zj (J2 aC) (Za 3) (Za 2))) (xB (Zj Lb (Za 4) (Zc WX [Za 0,Za 3,Za 2])))) (ZO (eP (Za 3))) YE) (q:=λ(i:Nat)=>.tup [.int (i:Int),.int (Zp D i)]) (g:=λi=>.int (i:Int)) (c:=λh=>!decide (h∈F)&&decide (Zp D h<Xu W h F))
  (λst=>∃x y,st=[aA (wP W),aA (pP D),aA (.lst (iL (nL F))),x,y]) (ls:=aE W.length) (s:=[aA (wP W),aA (pP D),aA (.lst (iL (nL F))),none,none]) (by
   rintro h d st ⟨x,y,rfl⟩;have d:=aQ.mp d;have f:=Kk ok d l k;refine⟨_,rfl,λb=>?_,λb=>?_⟩
   ·simp only[bT] at b;simp[setAll,Kl,b.1,f,b.2]
   ·refine⟨[aA (wP W),aA (pP D),aA (.lst (iL (nL F))),aA (.int (h:Int)),aA (.int (Zp D h))],?_,_,_,rfl⟩;by_cases q:h∈F
    ·simp[setAll,Kl,q]
    ·have:¬Zp D h<Xu W h F:=λz=>by simp[q,z] at b
     simp[setAll,Kl,q,f,this]) ⟨_,_,rfl⟩
 have e:Xn aB [Za 1] [aA (wP W),aA (pP D),aA (.lst (iL (nL F))),none,none]=aA ((aE W.length).map λi=>.tup [.int (i:Int),.int (Zp D i)]):=by have:=RQ D;rw[j] at this;simp[this]
 show(Zn (Xq [] _ _ _) _ [aA (wP W),aA (pP D),aA (.lst (iL (nL F))),none,none]).bind Tq=_;unfold Xk
 cases q:(aE W.length).find? λh=>!decide (h∈F)&&decide (Zp D h<Xu W h F) with
 | some h=>
  rw[q] at a;rw[G7]
  ·rfl
  ·show(Xn aB [Za 1] [aA (wP W),aA (pP D),aA (.lst (iL (nL F))),none,none]).bind _=_;rw[e];exact a
 | none=>
  rw[q] at a;obtain⟨n,m,x,y,rfl⟩:=a;rw[YB]
  ·rfl
  ·show(Xn aB [Za 1] [aA (wP W),aA (pP D),aA (.lst (iL (nL F))),none,none]).bind _=_;rw[e];exact m
theorem BS{c:XT}{fb:XS}(g:ZF->Prop)(i:ZF->Nat)(step:∀st,g st->c st=aA aB\/(c st=aA aC/\∃s2,fb st=aA (.nx s2)/\g s2/\i s2<i st)){s:ZF}(n:g s) :
  ∃f,Xr c fb s=aA (.nx f)/\g f/\c f=aA aB:=by
 have gen:∀(k:Nat)(st:ZF),i st<k->g st->∃f,Yt c fb k st=aA (.nx f)/\g f/\c f=aA aB:=by
  intro k
  induction k with
  | zero=>intro st h;omega
  | succ k ih=>
   intro st o m;rcases step st m with j | ⟨j,s2,e,l,p⟩
   ·exact⟨st,by unfold Yt;rw[j];rfl,m,j⟩
   ·obtain⟨f,a,b,d⟩:=ih s2 (by omega) l;refine⟨f,?_,b,d⟩;unfold Yt;rw[j];simp only[e];exact a
 obtain⟨f,a,b,d⟩:=gen (i s+1) s (by omega) n;exact⟨f,Og a,b,d⟩
structure Burn(W:List (List Int))(D:List Int)(b:Nat)(F:List Nat):Prop where
 nd:F.Nodup
 lt:∀x∈F,x<W.length
 hd:F[0]?=aA b
 st:∀k,1<=k->k<F.length->Xk W D (F.take k)=F[k]?
theorem Burn.len{W:List (List Int)}{D:List Int}{b:Nat}{F:List Nat}(h:Burn W D b F):F.length<=W.length:=by
 have d:(nL F).Nodup:=List.Pairwise.map _ (λa b z=>by omega) h.nd;have:=Q6 d λy c=>by obtain⟨a,e,rfl⟩:=bb.mp c;exact bb.mpr ⟨a,aQ.mpr (h.lt a e),rfl⟩
 simpa [nL] using this
theorem Burn.pos{W:List (List Int)}{D:List Int}{b:Nat}{F:List Nat}(h:Burn W D b F):1<=F.length:=(aR.mp h.hd).1
theorem Burn.one{W:List (List Int)}{D:List Int}{b:Nat}(c:b<W.length):Burn W D b [b]:=⟨by simp,λx a=>by rw[ag.mp a];exact c,rfl,λk e d=>by simp at d;omega⟩
theorem Pd{W:List (List Int)}{D:List Int}{F:List Nat}{h:Nat}(e:Xk W D F=aA h):h<W.length/\h∉F/\Zp D h<Xu W h F:=by have a:=kJ e;have b:=gv e;simp only[bT,Bool.not_eq_true',decide_eq_false_iff_not,decide_eq_true_eq] at a;exact⟨aQ.mp b,a⟩
theorem Km{W:List (List Int)}{D:List Int}{F:List Nat}(e:Xk W D F=none){h:Nat}(a:h<W.length)(b:h∉F):Xu W h F<=Zp D h:=by have:=j5.mp e h (aQ.mpr a);simp[b] at this;exact this
theorem Burn.add{W:List (List Int)}{D:List Int}{b h:Nat}{F:List Nat}(B:Burn W D b F)(e:Xk W D F=aA h):Burn W D b (F++[h]):=by
 obtain⟨f,j,_⟩:=Pd e;have n:=B.pos;refine⟨?_,λx d=>?_,?_,λk l i=>?_⟩
 ·rw[eh];exact⟨B.nd,by simp,λa g c m z=>by rw[ag.mp m] at z;exact j (z▸g)⟩
 ·rcases b6.mp d with d | d
  ·exact B.lt x d
  ·rw[ag.mp d];exact f
 ·rw[ah (by omega)];exact B.hd
 ·rw[bA,dW] at i;by_cases q:k<F.length
  ·rw[List.take_append_of_le_length (by omega),ah q];exact B.st k l q
  ·have:k=F.length:=by omega
   subst this;rw[kK,e]
   ·simp
   ·rfl
theorem Fc{W:List (List Int)}{D:List Int}{b:Nat}(ok:ZP W)(k:D.length=W.length)(g:b<W.length):∃F,RL [wP W,pP D,.int (b:Int)]=aA (.lst (iL (nL F)))/\Burn W D b F/\Xk W D F=none:=by
 have p:=ok.few;have f:∀F:List Nat,Burn W D b F->Z2 [wP W,pP D,.lst (iL (nL F))]=aA (Pc (Xk W D F)):=λF B=>SV ok k B.lt (by have:=B.len;omega)
 obtain⟨o,j,⟨F,rfl,B⟩,i⟩:=BS (c:=xB (Qk aC (Za 4))) (fb:=Zn (Wt 3 (eP (Za 4))) (Zs 4 (Zc Z2 [Za 0,Za 1,Za 3])))
  (λst=>∃F,st=[aA (wP W),aA (pP D),aA (.int (b:Int)),aA (.lst (iL (nL F))),aA (Pc (Xk W D F))]/\Burn W D b F)
  (λst=>match st[3]? with | some (aA (PV.lst l))=>8-l.length | _=>0) (by
   rintro st ⟨F,rfl,B⟩
   cases e:Xk W D F with
   | none=>exact .inl rfl
   | some h=>
    have B':=B.add e;have m:=B'.len;rw[bA] at m;refine .inr ⟨by simp[Et,Pc],[aA (wP W),aA (pP D),aA (.int (b:Int)),aA (.lst (iL (nL (F++[h])))),aA (Pc (Xk W D (F++[h])))],?_,⟨F++[h],rfl,B'⟩,?_⟩
    ·have d:Wt 3 (eP (Za 4)) [aA (wP W),aA (pP D),aA (.int (b:Int)),aA (.lst (iL (nL F))),aA (Pc (aA h))]=aA (.nx [aA (wP W),aA (pP D),aA (.int (b:Int)),aA (.lst (iL (nL (F++[h])))),aA (Pc (aA h))]):=by rw[Qy (l:=.int (h:Int)) rfl rfl (by simp[nL];omega)];simp[nL]
     have a:Zs 4 (Zc Z2 [Za 0,Za 1,Za 3]) [aA (wP W),aA (pP D),aA (.int (b:Int)),aA (.lst (iL (nL (F++[h])))),aA (Pc (aA h))]=aA (.nx [aA (wP W),aA (pP D),aA (.int (b:Int)),aA (.lst (iL (nL (F++[h])))),aA (Pc (Xk W D (F++[h])))]):=by have:=f _ B';simp[this]
     rw[YB d,a]
    ·show 8-(iL (nL (F++[h]))).length<8-(iL (nL F)).length;simp[nL];omega) ⟨[b],rfl,Burn.one g⟩
 have n:Xk W D F=none:=by
  cases e:Xk W D F with
  | none=>rfl
  | some h=>rw[e] at i;simp[Et,Pc] at i
 refine⟨F,?_,B,n⟩;have d:Zs 3 (UO [eP (Za 2)]) [aA (wP W),aA (pP D),aA (.int (b:Int)),none,none]=aA (.nx [aA (wP W),aA (pP D),aA (.int (b:Int)),aA (.lst (iL (nL [b]))),none]):=by simp[nL]
 have a:Zs 4 (Zc Z2 [Za 0,Za 1,Za 3]) [aA (wP W),aA (pP D),aA (.int (b:Int)),aA (.lst (iL (nL [b]))),none]=aA (.nx [aA (wP W),aA (pP D),aA (.int (b:Int)),aA (.lst (iL (nL [b]))),aA (Pc (Xk W D [b]))]):=by have:=f _ (Burn.one g);simp[this]
 show(Zn _ _ [aA (wP W),aA (pP D),aA (.int (b:Int)),none,none]).bind Tq=_;rw[YB d,YB a,YB j];rfl
theorem Burn.uniq{W:List (List Int)}{D:List Int}{b:Nat}{F G:List Nat}(c:Burn W D b F)(d:Burn W D b G)(g:Xk W D F=none)(f:Xk W D G=none):F=G:=by
 have l:=c.pos;have m:=d.pos
 have pre:∀k,k<=F.length->k<=G.length->F.take k=G.take k:=by
  intro k
  induction k with
  | zero=>intros;simp
  | succ k ih=>
   intro i j;have e:=ih (by omega) (by omega);rw[kW,kW,e];congr 1;by_cases q:k=0
   ·subst q;rw[c.hd,d.hd]
   ·rw[<-c.st k (by omega) (by omega),<-d.st k (by omega) (by omega),e]
 rcases jq F.length G.length with h | h | h
 ·have:=pre F.length (by omega) (by omega);rw[eA] at this;have a:=d.st F.length (by omega) h;rw[<-this,g,aI h] at a;cases a
 ·have:=pre F.length (by omega) (by omega);rw[eA,h,eA] at this;exact this
 ·have:=pre G.length (by omega) (by omega);rw[eA] at this;have a:=c.st G.length (by omega) h;rw[this,f,aI h] at a;cases a
noncomputable def Xo(D:List Int)(b:Nat):List Nat:=(aE D.length).filter λh=>!decide (h=b)&&decide (Zp D h<0)
theorem Pe{D:List Int}{b:Nat}(e:D.length<=1000):YQ [pP D,.int (b:Int)]=aA (.lst (iL (nL (Xo D b)))):=by
 have a:Xn aB [Za 0] [aA (pP D),aA (.int (b:Int))]=aA ((aE D.length).map λi=>.tup [.int (i:Int),.int (Zp D i)]):=by have:=RQ D;simp[this]
 have c:Zq 2 [1] (Xn aB [Za 0]) (.many [0,1]) (Qi (xB (Zj (WR aC) (Za 0) (Za 2))) (xB (Zj Lb (Za 1) (eC (.int 0))))) (eP (Za 0)) [aA (pP D),aA (.int (b:Int))]=aA (.lst (iL (nL (Xo D b)))):=by
  rw[Vl (aE D.length) (λi=>.tup [.int (i:Int),.int (Zp D i)]) (λi=>.int (i:Int)) (λh=>!decide (h=b)&&decide (Zp D h<0)) a (by simp;omega) λy f=>⟨[aA (.int (y:Int)),aA (.int (Zp D y)),aA (.int (b:Int))],by simp[ZI,J8],?_,λ_=>by simp⟩]
  ·unfold nL Xo iL;rw[cM];rfl
  ·by_cases q:y=b
   ·subst q;simp
   ·have d:¬(y:Int)=(b:Int):=by omega
    simp[q,d]
 show(ZO _ [aA (pP D),aA (.int (b:Int))]).bind Tq=_;rw[MN c];rfl
theorem debt_nil{D:List Int}{b:Nat}:Xo D b=[]↔∀h,h<D.length->h≠b->0<=Zp D h:=by
 unfold Xo;rw[List.filter_eq_nil_iff];constructor
 ·intro h x a c;have:=h x (aQ.mpr a);simp[c] at this;exact this
 ·intro h x a;by_cases q:x=b
  ·simp[q]
  ·have:=h x (aQ.mp a) q;simp[q];omega
theorem Fd{D:List Int}{b h:Nat}:h∈Xo D b↔h<D.length/\h≠b/\Zp D h<0:=by unfold Xo;simp
end PW
set_option maxHeartbeats 2000000
namespace PW
open PySem L2 VL VX
section
variable {f g h k l:XE} {s s1:ZF} {a b c d e v r:PV} {i m:Nat} {F G:XS} {x y:XT} {o:Option LJ} {p:Bool} {D:List PV->Option PV} {R:Option PV} {ls:List PV}
theorem YV(q:F (ZM m ls)=aA (.rt v)):YC m F ls=aA v:=by show(F (ZM m ls)).bind Tq=_;rw[q];rfl
theorem sq(q:F s=aA (.nx s1))(w:G s1=o):Zn F G s=o:=(YB q).trans w
theorem Zx(q:f s=aA v):Zs i f s=aA (.nx (s.set i (aA v))):=by rw[Ys,q];rfl
theorem ep(q:f s=aA v)(w:Z9 v=aC:=by rfl):eP f s=aA v:=by rw[O2,q,aY,kz w]
theorem Hd{l:List Int}(q:f s=aA (pP l)):eP f s=aA (pP l):=ep q (ZV _)
theorem c1(q:f s=aA a)(w:D [a]=R):Zc D [f] s=R:=by show((f s).bind λx=>aA [x]).bind D=_;rw[q];exact w
theorem c2(q:f s=aA a)(c:g s=aA b)(w:D [a,b]=R):Zc D [f,g] s=R:=by rw[YO,ZD,q,ZD,c];exact w
theorem c3(q:f s=aA a)(e:g s=aA b)(d:h s=aA c)(w:D [a,b,c]=R):Zc D [f,g,h] s=R:=by rw[YO,ZD,q,ZD,e,ZD,d];exact w
theorem c4(q:f s=aA a)(j:g s=aA b)(i:h s=aA c)(e:k s=aA d)(w:D [a,b,c,d]=R):Zc D [f,g,h,k] s=R:=by rw[YO,ZD,q,ZD,j,ZD,i,ZD,e];exact w
theorem c5(q:f s=aA a)(n:g s=aA b)(j:h s=aA c)(i:k s=aA d)(m:l s=aA e)(w:D [a,b,c,d,e]=R):Zc D [f,g,h,k,l] s=R:=by rw[YO,ZD,q,ZD,n,ZD,j,ZD,i,ZD,m];exact w
theorem o2{op:PV->PV->Option PV}(q:f s=aA a)(c:g s=aA b)(w:op a b=R):Zj op f g s=R:=by rw[RG,q,c];exact w
theorem xb(q:f s=aA (.bl p)):xB f s=aA p:=by rw[O3,q];rfl
theorem xn(q:x s=aA p):Lx x s=aA !p:=by rw[HU,q];rfl
theorem xo{p2:Bool}(q:x s=aA p)(a:y s=aA p2):HA x y s=aA (p || p2):=by
 rw[K8,q];cases p
 ·exact a
 ·rfl
theorem ea{p2:Bool}(q:f s=aA (.bl p))(a:g s=aA (.bl p2)):Rt f g s=aA (.bl (p&&p2)):=by
 rw[HW,xb q];cases p
 ·rfl
 ·exact a
theorem gof(q:x s=aA aB):RD x F YE s=aA (.nx s):=by rw[Xw,q];rfl
theorem ret(q:f s=aA v):ZO f s=aA (.rt v):=MN q
theorem neq{l:List Int}(q:f s=aA (pP l))(a:g s=aA (pP l)):xB (Zj (WR aC) f g) s=aA aB:=xb (o2 q a (by simp))
theorem eqt{l:List Int}(q:f s=aA (pP l))(a:g s=aA (pP l)):Zj (WR aB) f g s=aA (.bl aC):=o2 q a (by simp)
end
theorem De{f g:XE}{s:ZF}{l:List Int}{k:Nat}(a:f s=aA (pP l))(b:g s=aA (.int (k:Int)))(h:k<l.length):Qt Sj f Ml (U8 g) s=aA (pP (l.take k)):=by rw[X7,a];simp only[aY,RH];unfold U8;rw[b];simp only[aY];unfold Sj;simp only[];rw[l4,Ki];rw[HT.sIx_none,HT.sIx_nat,aN];omega
theorem Dg{f g:XE}{s:ZF}{l:List Int}{k:Nat}(b:f s=aA (pP l))(a:g s=aA (.int (k:Int)))(h:k<l.length):Qt Sj f (U8 (Zj Yj g (eC (.int 1)))) Ml s=aA (pP (l.drop (k+1))):=by
 have a:Zj Yj g (eC (.int 1)) s=aA (.int ((k+1:Nat):Int)):=by rw[RG,a];rfl
 rw[X7,b];simp only[aY,RH];unfold U8;rw[a];simp only[aY];unfold Sj;simp only[];rw[l4,Kj];rw[HT.sIx_none,HT.sIx_nat,aN];omega
theorem Jq{a b:List Int}(h:a.length+b.length<=1000):Oo (pP a) (pP b)=aA (pP (a++b)):=by unfold Oo;simp only[];rw[kz (by rw[aN,aN];omega),<-cU]
noncomputable def Y0(F:XS)(s:ZF)(Q:PV->Prop):Prop:=∃v,F s=aA (.rt v)/\Q v
noncomputable def Wl(F:XS)(s:ZF)(R:ZF->Prop):Prop:=∃s1,F s=aA (.nx s1)/\R s1
section
variable {F G:XS} {s s1:ZF} {Q:PV->Prop} {R:ZF->Prop} {v:PV} {f g:XE} {x:XT} {p:Bool} {m i k n:Nat} {ls:List PV} {O:List Nat} {fi:XL} {T:Tgt} {fb:XS} {a b:Int}
theorem Rh(h:Y0 F (ZM m ls) Q):∃v,YC m F ls=aA v/\Q v:=by obtain⟨v,e,q⟩:=h;exact⟨v,YV e,q⟩
theorem Jr(h:Y0 F (ZM m ls) λw=>w=v):YC m F ls=aA v:=by obtain⟨_,e,rfl⟩:=Rh h;exact e
theorem Z3(q:F s=aA (.nx s1))(h:Y0 G s1 Q):Y0 (Zn F G) s Q:=by obtain⟨v,e,a⟩:=h;exact⟨v,sq q e,a⟩
theorem Rj(h:Wl F s R)(a:∀s1,R s1->Y0 G s1 Q):Y0 (Zn F G) s Q:=by obtain⟨s1,e,r⟩:=h;exact Z3 e (a s1 r)
theorem XY(q:f s=aA v)(h:Q v):Y0 (ZO f) s Q:=⟨v,ret q,h⟩
theorem Cj(q:x s=aA aC)(h:Y0 F s Q):Y0 (Zn (RD x F YE) G) s Q:=by obtain⟨v,e,a⟩:=h;exact⟨v,G7 (by rw[Xw,q];exact e),a⟩
theorem He(q:F s=aA (.nx s1))(h:R s1):Wl F s R:=⟨s1,q,h⟩
theorem TV(q:F s=aA (.nx s1))(h:Wl G s1 R):Wl (Zn F G) s R:=by obtain⟨s2,e,r⟩:=h;exact⟨s2,sq q e,r⟩
theorem Ck{R2:ZF->Prop}(h:Wl F s R)(a:∀s1,R s1->Wl G s1 R2):Wl (Zn F G) s R2:=by obtain⟨s1,e,r⟩:=h;exact TV e (a s1 r)
theorem Dh{R2:ZF->Prop}(h:Wl F s R)(a:∀s1,R s1->R2 s1):Wl F s R2:=by obtain⟨s1,e,r⟩:=h;exact⟨s1,e,a s1 r⟩
theorem Cm(q:x s=aA p)(b:p=aC->Wl F s R)(a:p=aB->Wl G s R):Wl (RD x F G) s R:=by
 unfold Wl;rw[Xw,q];cases p
 ·exact a rfl
 ·exact b rfl
theorem Kn(I:Nat->ZF->Prop)(g:fi (YW O s)=aA ls)(a:I 0 s)(st:∀i l s,ls[i]?=aA l->I i s->∃s1,Xb T l s=aA s1/\Wl fb s1 (I (i+1))):Wl (Xq O fi T fb) s (I ls.length):=by
 obtain⟨f,e,q⟩:=WW I a λi l s b h=>by obtain⟨s1,c,s2,j,d⟩:=st i l s b h;exact⟨s1,s2,c,j,d⟩
 refine⟨f,?_,q⟩;unfold Xq;rw[g];exact e
theorem Cn(I:Nat->ZF->Prop)(a:f (YW O s)=aA (.int (n:Int)))(b:I 0 s)(st:∀i s,i<n->I i s->Wl fb (s.set k (aA (.int (i:Int)))) (I (i+1)))(c:n<=10000:=by omega):Wl (Xq O (Ya [f]) (.one k) fb) s (I n):=by
 have:=Kn (T:=.one k) (fb:=fb) I (Yd a c) b λi l s d h=>by obtain⟨e,rfl⟩:=Tv d;exact⟨_,rfl,st i s e h⟩
 rwa [Qx] at this
theorem Di{d:Type}{L:List d}{q g:d->PV}(c:d->Bool)(I:ZF->Prop)(m:fi (YW O s)=aA (L.map q))(j:I s)(st:∀a∈L,∀s,I s->∃s1,Xb T (q a) s=aA s1/\(c a=aC->fb s1=aA (.rt (g a)))/\(c a=aB->Wl fb s1 I))(l:∀a,L.find? c=aA a->Q (g a))(f:L.find? c=none->∀s1,I s1->Y0 G s1 Q):Y0 (Zn (Xq O fi T fb) G) s Q:=by
 have b:=SU (T:=T) (fb:=fb) (g:=g) I st j;have e:∀o,VN T fb (L.map q) s=o->Xq O fi T fb s=o:=λo h=>by unfold Xq;rw[m];exact h
 cases z:L.find? c with
 | some a=>rw[z] at b;exact⟨_,G7 (e _ b),l a z⟩
 | none=>
  rw[z] at b;obtain⟨s1,k,i⟩:=b;exact Z3 (e _ k) (f z s1 i)
theorem goT{o:Option LJ}(q:x s=aA aC)(w:F s=o):RD x F G s=o:=by rw[Xw,q];exact w
theorem Zae{b:Type}{L:List b}{q g:b->PV}{H:XS}(c:b->Bool)(I:ZF->Prop)(n:fi (YW O s)=aA (L.map q))(m:I s)(st:∀a∈L,∀s,I s->∃s1,Xb T (q a) s=aA s1/\x s1=aA (c a)/\H s1=aA (.rt (g a))/\I s1)(l:∀a,L.find? c=aA a->Q (g a))(f:L.find? c=none->∀s1,I s1->Y0 G s1 Q):Y0 (Zn (Xq O fi T (RD x H YE)) G) s Q:=
 Di (g:=g) c I n m (λa j s i=>by
  obtain⟨s1,e,d,o,k⟩:=st a j s i;exact⟨s1,e,λh=>goT (by rw[d,h]) o,λh=>He (gof (by rw[d,h])) k⟩) l f
theorem Zaf{X:List Nat}(I:Nat->ZF->Prop)(a:fi (YW O s)=aA (iL (nL X)))(c:I 0 s)(st:∀i s (h:i<X.length),I i s->Wl fb (s.set k (aA (.int ((X[i]:Nat):Int)))) (I (i+1))):Wl (Xq O fi (.one k) fb) s (I X.length):=by
 have:=Kn (T:=.one k) (fb:=fb) I a c λi l s b h=>by
  have a:i<X.length:=by have:=(aR.mp b).1;simpa [nL] using this
  have e:l = .int ((X[i]:Nat):Int):=by rw[Qw (by simpa [nL] using a)] at b;rw[<-ay b];simp[nL,Zp,a]
  subst e;exact⟨_,rfl,st i s a h⟩
 rwa [show(iL (nL X)).length=X.length by simp[nL]] at this
theorem vmd(q:f s=aA (.int a))(c:g s=aA (.int b))(h:0<b:=by omega):Zj Wn f g s=aA (.int (a%b)):=vC q c h
theorem Af(q:f s=aA (.int a))(c:g s=aA (.int b)):Zj Yj f g s=aA (.int (a+b)):=vI q c
theorem vsb(q:f s=aA (.int a))(c:g s=aA (.int b)):Zj VH f g s=aA (.int (a-b)):=vI q c
theorem vlt{a b:Nat}(q:f s=aA (.int (a:Int)))(c:g s=aA (.int (b:Int))):Zj Lb f g s=aA (.bl (decide (a<b))):=o2 q c (by
 show aA (PV.bl (decide ((a:Int)<(b:Int))))=_;rw[decide_eq_decide.mpr Int.ofNat_lt])
theorem vgt{a b:Nat}(q:f s=aA (.int (a:Int)))(c:g s=aA (.int (b:Int))):Zj Lc f g s=aA (.bl (decide (b<a))):=o2 q c (by
 show aA (PV.bl (decide ((a:Int)>(b:Int))))=_;rw[decide_eq_decide.mpr Int.ofNat_lt])
theorem IG(q:f s=aA (.int a))(c:g s=aA (.int b)):Zj (WR aB) f g s=aA (.bl (decide (a=b))):=o2 q c (by rw[O5];rfl)
theorem Ag{op:PV->Option PV}{S:Option PV}(q:f s=aA v)(w:op v=S):OT op f s=S:=by unfold OT;rw[q];exact w
theorem Fe{S:Option PV}(q:x s=aA aC)(w:f s=S):HB x f g s=S:=by rw[O4,q];exact w
theorem Ff{S:Option PV}(q:x s=aA aB)(w:g s=S):HB x f g s=S:=by rw[O4,q,aY,l4 (by decide)];exact w
theorem Dj{a:Type}(h:a->PV){L:List a}{y:a}(q:f s=aA (h y))(b:K5 s i=aA (L.map h))(c:L.length<=9000):Wt i f s=aA (.nx (s.set i (aA (.lst ((L++[y]).map h))))):=by rw[Qy q b (by rw[aN];omega),cU];rfl
theorem BU(Q:List Int):Wq (iL Q)=(aE Q.length).map λ(i:Nat)=>.tup [.int (i:Int),.int (Zp Q i)]:=by
 rw[Wv,aN];exact ak λi a=>by rw[Yu Q i (aQ.mp a)]
theorem Js{W:List (List Int)}:Y1 [wP W]=aA (.int (W.length:Int)):=by show aA (PV.int ((W.map pP).length:Int))=_;rw[aN]
theorem BV{o:List Int}(q:f s=aA (.int (n:Int)))(c:g s=aA (.int a))(b:K5 s i=aA (iL o))(e:n<=1000)(d:o.length<=1000):Vj i f g s=aA (.nx (s.set i (aA (.lst (iL (o.take n++a::o.drop n)))))):=by rw[Qz q c b (ZV o) rfl (by omega) (by omega) (by rw[aN];omega),eZ,G1]
end
end PW
namespace PW
theorem SW{f:Nat->Int}{q:Nat}:∀{m:Nat},q<=m->(∀k,q<=k->k<m->f k=0)->sN m f=sN q f
 | 0,h,_=>by rw[show q=0 by omega]
 | m+1,h,z=>by
  by_cases e:q=m+1
  ·rw[e]
  ·show sN m f+f m=_;rw[SW (m:=m) (by omega) (λk a b=>z k a (by omega)),z m (by omega) (by omega)];omega
theorem Jt{f:Nat->Int}{q i:Nat}:∀{m:Nat},q<=i->i<m->(∀k,q<=k->k<m->k≠i->f k=0)->sN m f=sN q f+f i
 | 0,_,h,_=>by omega
 | m+1,hq,hi,z=>by
  show sN m f+f m=_;by_cases e:i=m
  ·subst e;rw[SW (q:=q) (by omega) λk a b=>z k a (by omega) (by omega)]
  ·rw[Jt (m:=m) hq (by omega) (λk a b=>z k a (by omega)),z m (by omega) (by omega) (λq=>e q.symm)];omega
noncomputable def XZ(m:Nat)(X:Mt):Nat->Mt×Int
 | 0=>(X,1)
 | p+1=>(λi j=>if i=p then(XZ m X p).1 i j else((XZ m X p).1 p p*(XZ m X p).1 i j-(XZ m X p).1 i p*(XZ m X p).1 p j).fdiv (XZ m X p).2,(XZ m X p).1 p p)
structure Dk(m:Nat)(A X:Mt):Prop where
 sym:∀i j,i<m->j<m->A i j=A j i
 inj:∀p,p<=m->∀z:Nat->Int,(∀j,j<p->sN p (λk=>z k*A k j)=0)->∀k,k<p->z k=0
 ext:∀i j,i<m->j<m->X i j=A i j
structure Zb9(m p:Nat)(X:Mt)(E:Mt)(d:Int)(i:Nat)(a:Nat->Int):Prop where
 off:∀k,k<m->p<=k->k≠i->a k=0
 on:p<=i->a i=d
 val:∀j,j<=m->E i j=sN m (λk=>a k*X k j)
 uni:∀j,j<p->E i j=if i=j then d else 0
structure Dl(m:Nat)(A X:Mt)(p:Nat)(E:Mt)(d:Int):Prop where
 de:d=Yb p A
 nz:d≠0
 row:∀i,i<m->∃a,Zb9 m p X E d i a
theorem U3{m:Nat}{A X:Mt}{p:Nat}{E:Mt}{d:Int}(ok:Dk m A X)(hp:p<m)(I:Dl m A X p E d) :
  Dl m A X (p+1) (λi j=>if i=p then E i j else(E p p*E i j-E i p*E p j).fdiv d) (E p p)/\∀i j,i<m->j<=m->i≠p->∃q,E p p*E i j-E i p*E p j=d*q:=by
 obtain⟨w,t⟩:=I.row p hp;have O:=I.nz
 -- the pivot's row
 have x:∀j,j<m->E p j=sN (p+1) (λk=>w k*A k j):=λj g=>by
  rw[t.val j (by omega),SW (q:=p+1) (by omega) λk u v=>by rw[t.off k v (by omega) (by omega),bZ]];exact Zg λk f=>by rw[ok.ext k j (by omega) g]
 have T:E p p=Yb (p+1) A:=by
  have u:=Dc (n:=p+1) (j:=p) (A:=A) (a:=w) (by omega);have v:=ML (A:=YU p (λc=>sN (p+1) λk=>w k*A k c) A) λc Z=>by rw[Z1];rw[<-x c (by omega),t.uni c Z,l4 (by omega)]
  have Q:Yb p (YU p (λc=>sN (p+1) λk=>w k*A k c) A)=Yb p A:=ZS λr c hr Z=>by rw[YX _ _ (by omega)]
  rw[Z1,Q,u,t.on (aL p),<-I.de] at v;have h4:d*Yb (p+1) A=E p p*d:=by rw[v];rw[<-x p hp]
  have h5:d*(Yb (p+1) A)=d*E p p:=by rw[h4,bC]
  exact(gw O h5).symm
 have pz:E p p≠0:=λz=>by
  have:=ok.inj (p+1) (by omega) w (λj g=>by
   rw[<-x j (by omega)];by_cases q:j=p
   ·rw[q];exact z
   ·rw[t.uni j (by omega),l4 (by omega)]) p (by omega)
  rw[t.on (aL p)] at this;exact O this
 -- the s rows
 have s:∀i,i<m->i≠p->∃b:Nat->Int,(∀k,k<m->p+1<=k->k≠i->b k=0)/\(p+1<=i->b i=E p p)/\(∀l,l<p+1->sN m (λk=>b k*A k l)=if i=l then E p p else 0)/\∀j,j<=m->E p p*E i j-E i p*E p j=d*sN m (λk=>b k*X k j):=by
  intro i D o
  obtain⟨b,L,H,M⟩:∃b:Nat->Int,(∀k,k<m->p+1<=k->k≠i->b k=0)/\(p+1<=i->b i=E p p)/\(∀l,l<p+1->sN m (λk=>b k*A k l)=if i=l then E p p else 0):=by
   have W:∀j l,j<p+1->l<p+1->sN (p+1) (λk=>NM (p+1) A k j*A k l)=if l=j then E p p else 0:=λj l g y=>by
    rw[T,<-NN y g];exact Zg λk f=>by rw[ok.sym l k (by omega) (by omega),bC]
   by_cases q:i<p
   ·obtain⟨b,B⟩:∃b:Nat->Int,∀k,b k=if k<p+1 then NM (p+1) A k i else 0:=⟨_,λ_=>rfl⟩
    refine⟨b,λk f u _=>by rw[B,l4 (by omega)],λh=>by omega,λl y=>?_⟩;rw[SW (q:=p+1) (by omega) λk u v=>by rw[B,l4 (by omega),bZ]];rw[Zg λk f=>by rw[B,kz f],W i l (by omega) y];by_cases e:i=l
    ·rw[kz e,kz e.symm]
    ·rw[l4 e,l4 (λz=>e z.symm)]
   ·obtain⟨b,B⟩:∃b:Nat->Int,∀k,b k=if k<p+1 then-sN (p+1) (λj=>A i j*NM (p+1) A k j) else if k=i then E p p else 0:=⟨_,λ_=>rfl⟩
    have F:b i=E p p:=by rw[B,l4 (by omega),kz rfl]
    refine⟨b,λk f u v=>by rw[B,l4 (by omega),l4 v],λh=>F,λl y=>?_⟩;rw[Jt (q:=p+1) (by omega) D λk u v Q=>by rw[B,l4 (by omega),l4 Q,bZ]];rw[F]
    have R:sN (p+1) (λk=>b k*A k l)=sN (p+1) (λk=>(-1)*sN (p+1) (λj=>A i j*(NM (p+1) A k j*A k l))):=Zg λk f=>by
     rw[B,kz f,bH,bC _ (A k l),<-ZA,bH,cq];congr 1;exact Zg λj _=>by rw[bC (A k l),bS]
    rw[R,ZA,TR];have e2:(sN (p+1) λj=>sN (p+1) λk=>A i j*(NM (p+1) A k j*A k l))=A i l*E p p:=by rw[Zg λj g=>by rw[ZA,W j l g y]];rw[ZX y λj _ P=>by rw[l4 (λz=>P z.symm),bU],kz rfl]
    rw[e2,bC (E p p)];omega
  refine⟨b,L,H,M,?_⟩;obtain⟨C,J⟩:=I.row i D
  have hw:∀k,k<m->E p p*C k-E i p*w k-d*b k=0:=by
   have G:∀k,k<m->p+1<=k->E p p*C k-E i p*w k-d*b k=0:=λk f u=>by
    have Y:=t.off k f (by omega) (by omega);by_cases q:k=i
    ·subst q;rw[J.on (by omega),Y,H u,bC d];omega
    ·rw[J.off k f (by omega) q,Y,L k f u q];omega
   intro k f;by_cases q:k<p+1
   ·refine ok.inj (p+1) (by omega) (λk=>E p p*C k-E i p*w k-d*b k) (λl y=>?_) k q;rw[<-SW (m:=m) (by omega) λk u v=>by rw[G k v u,bZ]]
    have R:sN m (λk=>(E p p*C k-E i p*w k-d*b k)*A k l)=E p p*sN m (λk=>C k*A k l)+((- E i p)*sN m (λk=>w k*A k l)+(- d)*sN m (λk=>b k*A k l)):=by
     rw[<-ZA,<-ZA,<-ZA,<-ZZ,<-ZZ];exact Zg λk _=>by rw[Int.sub_mul,Int.sub_mul];simp only[bS,bH];omega
    have eX:∀a:Nat->Int,sN m (λk=>a k*X k l)=sN m (λk=>a k*A k l):=λa=>Zg λk f=>by rw[ok.ext k l f (by omega)]
    rw[R,M l y,<-eX,<-eX,<-J.val l (by omega),<-t.val l (by omega)];by_cases q2:l=p
    ·subst q2;rw[l4 o,bC (E l l),bH];omega
    ·rw[J.uni l (by omega),t.uni l (by omega),l4 (show ¬p=l by omega)];by_cases N:i=l
     ·rw[kz N,kz N,bH d,bC d];omega
     ·rw[l4 N,l4 N];omega
   ·exact G k f (by omega)
  intro j g;rw[J.val j g,t.val j g,<-ZA,<-ZA,<-ZA];have:sN m (λk=>E p p*(C k*X k j))=sN m (λk=>d*(b k*X k j))+sN m (λk=>E i p*(w k*X k j)):=by rw[<-ZZ];refine Zg λk f=>?_;have:=hw k f;rw[<-bS,<-bS,<-bS,<-jB];congr 1;omega
  omega
 refine⟨⟨T,pz,λi D=>?_⟩,λi j D g o=>?_⟩
 ·by_cases o:i=p
  ·subst o;refine⟨w,λk f u v=>t.off k f (by omega) v,λh=>by omega,λj g=>by rw[kz rfl];exact t.val j g,λj g=>?_⟩;rw[kz rfl];by_cases q:i=j
   ·subst q;rw[kz rfl]
   ·rw[l4 q,t.uni j (by omega),l4 q]
  ·obtain⟨b,L,H,M,S⟩:=s i D o;have U:∀j,j<=m->(E p p*E i j-E i p*E p j).fdiv d=sN m (λk=>b k*X k j):=λj g=>by rw[S j g,dq _ O]
   refine⟨b,L,H,λj g=>by rw[l4 o];exact U j g,λj g=>?_⟩;rw[l4 o,U j (by omega),<-M j g];exact Zg λk f=>by rw[ok.ext k j f (by omega)]
 ·obtain⟨b,L,H,M,S⟩:=s i D o;exact⟨_,S j g⟩
theorem Yy{m:Nat}{A X:Mt}(ok:Dk m A X):∀{p:Nat},p<=m->Dl m A X p (XZ m X p).1 (XZ m X p).2
 | 0,_=>⟨rfl,(show(1:Int)≠0 by decide),λi b=>⟨λk=>if k=i then 1 else 0,λk _ _ h=>l4 h,λ_=>kz rfl,λj c=>by rw[ZX (k:=i) b λk _ a=>by rw[l4 a,bZ],kz rfl,cq];rfl,λj c=>by omega⟩⟩
 | p+1,h=>(U3 ok (by omega) (Yy ok (p:=p) (by omega))).1
theorem IH{m:Nat}{A X:Mt}(ok:Dk m A X){k:Nat}(b:k<m):sN m (λi=>A k i*(XZ m X m).1 i m)=(XZ m X m).2*X k m:=by
 have I:=Yy ok (aL m);generalize s:(XZ m X m).1=E at I ⊢;generalize r:(XZ m X m).2=d at I ⊢;have n:=I.nz
 have f:∀k,k<m->sN m (λi=>A k i*sN m (λj=>NM m A i j*X j m))=d*X k m:=λk b=>by
  rw[Zg (g:=λi=>sN m (λj=>A k i*(NM m A i j*X j m))) λi _=>by rw[ZA]]
  rw[TR,Zg (g:=λj=>(if k=j then d else 0)*X j m) λj p=>by
   rw[I.de,<-NN b p,bC _ (X j m),<-ZA];exact Zg λi _=>by rw[bC (X j m),bS]]
  rw[ZX b λj _ h=>by rw[l4 (λz=>h z.symm),bZ],kz rfl]
 have q:∀i,i<m->E i m=sN m (λj=>NM m A i j*X j m):=λi c=>by
  obtain⟨a,R⟩:=I.row i c;refine gw n ?_;rw[R.val m (aL m),<-ZA];have o:sN m (λk=>d*(a k*X k m))=sN m (λk=>a k*sN m (λl=>A k l*sN m (λj=>NM m A l j*X j m))):=Zg λk b=>by rw[f k b,cD]
  rw[o,Zg (g:=λk=>sN m (λl=>a k*A k l*sN m (λj=>NM m A l j*X j m))) λk _=>by rw[<-ZA];exact Zg λl _=>by rw[bS]]
  rw[TR,Zg (g:=λl=>(if i=l then d else 0)*sN m (λj=>NM m A l j*X j m)) λl e=>by
   rw[<-R.uni l e,R.val l (by omega),bC _ (sN m λj=>NM m A l j*X j m),<-ZA];exact Zg λk b=>by rw[ok.ext k l b e,bC]]
  rw[ZX c λl _ h=>by rw[l4 (λz=>h z.symm),bZ],kz rfl]
 rw[Zg λi c=>by rw[q i c]];exact f k b
open L2 VL
theorem Fg{z:Int}(h:z.natAbs<2^1000):z.natAbs.log2<1000:=by
 by_cases a:z.natAbs=0
 ·rw[a];decide +kernel
 ·exact(kG a).mpr h
theorem Ju{a b:Int}(h:a.natAbs<2^1000)(c:b.natAbs<2^1000):CMulW a b:=⟨by have:=Fg h;omega,by have:=Fg c;omega⟩
theorem Jw{a b:Int}(c:b≠0)(h:b.natAbs<2^1000):Tz a b:=⟨c,by have:=Fg h;omega⟩
noncomputable def Mb:Nat->Nat
 | 0=>2^7
 | p+1=>2*Mb p*Mb p
noncomputable def Nb:Nat->Nat
 | 0=>2^208
 | p+1=>2*Mb p*Nb p
theorem Zah{p:Nat}(h:p<=6):Mb p<2^1000:=by
 have:p=0\/p=1\/p=2\/p=3\/p=4\/p=5\/p=6:=by omega
 rcases this with rfl | rfl | rfl | rfl | rfl | rfl | rfl<;>decide +kernel
theorem Zca{p:Nat}(h:p<=6):Nb p<2^1000:=by
 have:p=0\/p=1\/p=2\/p=3\/p=4\/p=5\/p=6:=by omega
 rcases this with rfl | rfl | rfl | rfl | rfl | rfl | rfl<;>decide +kernel
theorem Jx{a b c d:Int}{M N:Nat}(h:a.natAbs<=M)(g:b.natAbs<=N)(f:c.natAbs<=M)(e:d.natAbs<=N):(a*b-c*d).natAbs<=2*M*N:=by
 have i:(a*b).natAbs<=M*N:=by rw[bh];exact bu h g
 have j:(c*d).natAbs<=M*N:=by rw[bh];exact bu f e
 have l:(a*b-c*d).natAbs<=(a*b).natAbs+(c*d).natAbs:=by omega
 have k:2*M*N=M*N+M*N:=by rw[dt];omega
 omega
theorem MQ{x d q:Int}(a:d≠0)(e:x=d*q):(x.fdiv d).natAbs<=x.natAbs:=by
 rw[e,dq _ a,bh];have:1<=d.natAbs:=by omega
 calc q.natAbs=1*q.natAbs:=by omega
  _<=d.natAbs*q.natAbs:=bp _ this
theorem Dm(p:Nat):Mb p<=Mb (p+1):=by
 have h:∀p,1<=Mb p:=λp=>by
  induction p with
  | zero=>decide
  | succ p ih=>show 1<=2*Mb p*Mb p;exact bu (show 1<=2*Mb p by omega) ih
 show Mb p<=2*Mb p*Mb p
 calc Mb p=1*Mb p:=by omega
  _<=2*Mb p*Mb p:=bp _ (by have:=h p;omega)
theorem Dn(p:Nat):Nb p<=Nb (p+1):=by
 have h:∀p,1<=Mb p:=λp=>by
  induction p with
  | zero=>decide
  | succ p ih=>show 1<=2*Mb p*Mb p;exact bu (show 1<=2*Mb p by omega) ih
 show Nb p<=2*Mb p*Nb p
 calc Nb p=1*Nb p:=by omega
  _<=2*Mb p*Nb p:=bp _ (by have:=h p;omega)
theorem SX{m:Nat}{A X:Mt}(ok:Dk m A X)(g:∀i j,i<m->j<m->(X i j).natAbs<=2^7)(h:∀i,i<m->(X i m).natAbs<=2^208):∀{p:Nat},p<=m->(∀i j,i<m->j<m->((XZ m X p).1 i j).natAbs<=Mb p)/\∀i,i<m->((XZ m X p).1 i m).natAbs<=Nb p
 | 0,_=>⟨g,h⟩
 | p+1,hp=>by
  obtain⟨b,d⟩:=SX ok g h (p:=p) (by omega);have I:=Yy ok (p:=p) (by omega);have k:=(U3 ok (by omega) I).2;refine⟨λi j a f=>?_,λi a=>?_⟩
  ·show(if i=p then(XZ m X p).1 i j else _).natAbs<=_;split
   ·exact aU (b i j a f) (Dm p)
   ·rename_i c;obtain⟨q,e⟩:=k i j a (by omega) c;exact aU (MQ I.nz e) (Jx (b p p (by omega) (by omega)) (b i j a f) (b i p a (by omega)) (b p j (by omega) f))
  ·show(if i=p then(XZ m X p).1 i m else _).natAbs<=_;split
   ·exact aU (d i a) (Dn p)
   ·rename_i c;obtain⟨q,e⟩:=k i m a (by omega) c;exact aU (MQ I.nz e) (Jx (b p p (by omega) (by omega)) (d i a) (b i p a (by omega)) (d p (by omega)))
noncomputable def ZE(w:Nat)(f:Nat->Int):List Int:=(aE w).map f
theorem Zr(w:Nat)(f:Nat->Int):(ZE w f).length=w:=by simp[ZE]
theorem Z5{w:Nat}{f:Nat->Int}{j:Nat}(h:j<w):Zp (ZE w f) j=f j:=Yp h
theorem Xl{n:Nat}{ix:List Nat}{d:XL}{T:Tgt}{c:XE}{s:ZF}{w:Nat}{q:Nat->PV}(g:Nat->Int)(e:d s=aA ((aE w).map q))(i:w<=100)(h:∀j,j<w->∃s1,Xb T (q j) (ZI n ix s)=aA s1/\c s1=aA (.int (g j))):Zq n ix d T Zy c s=aA (.lst (iL (ZE w g))):=by
 rw[ZR (aE w) q (λj=>.int (g j)) e (by rw[bj];omega) λj f=>by
  obtain⟨s1,a,b⟩:=h j (aQ.mp f);exact⟨s1,a,rfl,b⟩]
 simp[ZE]
theorem SY{w:Nat}{f:Nat->Int}{j:Nat}(h:j<w):T4 (iL (ZE w f)) (j:Int)=aA (.int (f j)):=by rw[WH (by rw[Zr];exact h),Z5 h]
theorem Ko{w p:Nat}{f g:Nat->Int}{d:Int}(o:w<=100)(e:p<w)(k:∀j,j<w->(f j).natAbs<2^1000)(m:∀j,j<w->(g j).natAbs<2^1000)(n:d≠0)(h:d.natAbs<2^1000) :
  Sq [pP (ZE w f),pP (ZE w g),.int (p:Int),.int d]=aA (pP (ZE w λj=>(g p*f j-f p*g j).fdiv d)):=by
 refine YV (ret (Hd (c1 (Xl (q:=λj=>.tup [.int (f j),.int (g j)]) (λj=>(g p*f j-f p*g j).fdiv d) ?_ o λj l=>⟨_,rfl,?_⟩) rfl)))
 ·show aA (WU (iL (ZE w f)) (iL (ZE w g)))=_;rw[YG _ _ (by simp[Zr]),aN,Zr];congr 1;refine ak λi c=>?_;have c:=aQ.mp c;rw[Yu _ i (by rw[Zr];exact c),Yu _ i (by rw[Zr];exact c),Z5 c,Z5 c]
 ·exact vC (C:=Tz) (op:=jD) (vI (vC (C:=CMulW) (op:=(· * ·)) (a:=g p) (b:=f j) (o2 rfl rfl (SY e)) rfl (Ju (m p e) (k j l))) (vC (C:=CMulW) (op:=(· * ·)) (a:=f p) (b:=g j) (o2 rfl rfl (SY e)) rfl (Ju (k p e) (m j l)))) rfl (Jw n h)
noncomputable def YZ(m w:Nat)(E:Mt):List (List Int):=(aE m).map λi=>ZE w (E i)
theorem RV(m w:Nat)(E:Mt):(YZ m w E).length=m:=by simp[YZ]
noncomputable def tL(M:List (List Int)):List PV:=M.map pP
theorem S2(m w:Nat)(E:Mt):tL (YZ m w E)=(aE m).map λi=>pP (ZE w (E i)):=by unfold tL YZ;rw[cM];rfl
theorem X0(m w:Nat)(E:Mt):(tL (YZ m w E)).length=m:=by simp[tL,RV]
theorem Ui{m w:Nat}{E:Mt}{i:Nat}(h:i<m):(tL (YZ m w E))[i]?=aA (pP (ZE w (E i))):=by rw[S2,aW,bJ h];rfl
theorem Jy(M:List (List Int)):ZJ (tL M)=aC:=V1 M
theorem Wy{n:Nat}{ix:List Nat}{d:XL}{T:Tgt}{c:XE}{s:ZF}{m w:Nat}{q:Nat->PV}(E:Mt)(e:d s=aA ((aE m).map q))(g:m<=100)(h:∀j,j<m->∃s1,Xb T (q j) (ZI n ix s)=aA s1/\c s1=aA (pP (ZE w (E j)))):Zq n ix d T Zy c s=aA (.lst (tL (YZ m w E))):=by
 rw[ZR (aE m) q (λj=>pP (ZE w (E j))) e (by rw[bj];omega) λj f=>by
  obtain⟨s1,a,b⟩:=h j (aQ.mp f);exact⟨s1,a,rfl,b⟩,S2]
theorem II{m w:Nat}{A X:Mt}(B:m<=6)(z:m<=w)(l:w<=m+1)(ok:Dk m A X)(y:∀i j,i<m->j<m->(X i j).natAbs<=2^7)(o:∀i,i<m->(X i m).natAbs<=2^208){R:PV}(x:R = .lst (tL (YZ m w X))\/R = .tup (tL (YZ m w X))) :
  QK [R]=aA (.tup [.int (XZ m X m).2,.lst (tL (YZ m w (XZ m X m).1))]):=by
 have g:∀{p:Nat},p<=m->∀i j,i<m->j<m+1->((XZ m X p).1 i j).natAbs<2^1000:=λ{p} d i j a f=>by
  obtain⟨t,r⟩:=SX ok y o d;by_cases q:j<m
  ·exact aq (t i j a q) (Zah (by omega))
  ·rw[show j=m by omega];exact aq (r i a) (Zca (by omega))
 have u:∀{p:Nat},p<=m->(XZ m X p).2.natAbs<2^1000:=λ{p} d=>by
  cases p with
  | zero=>show(1:Int).natAbs<_;decide +kernel
  | succ p=>exact g (p:=p) (by omega) p p (by omega) (by omega)
 let st:Nat->Option PV->Option PV->ZF:=λp c b=>[aA R,aA (.lst (tL (YZ m w (XZ m X p).1))),aA (.int (XZ m X p).2),c,b]
 have k:Vb [R]=aA (.lst (tL (YZ m w X)))/\Y1 [R]=aA (.int (m:Int)):=by
  rcases x with rfl | rfl
  ·exact⟨by rw[Tt,kz (Jy _)],by show aA (PV.int ((tL (YZ m w X)).length:Int))=_;rw[X0]⟩
  ·exact⟨by rw[Mq,kz (Jy _)],by show aA (PV.int ((tL (YZ m w X)).length:Int))=_;rw[X0]⟩
 suffices h:Y0 Mv (ZM 5 [R]) λv=>v = .tup [.int (XZ m X m).2,.lst (tL (YZ m w (XZ m X m).1))] by obtain⟨v,e,rfl⟩:=Rh h;exact e
 refine Z3 (Zx (c1 rfl k.1)) (Z3 (Zx (vP rfl)) (Rj (Cn (n:=m) (λp s=>∃c b,s=st p c b) (c1 rfl k.2) ⟨none,none,rfl⟩ ?_) ?_))
 ·rintro p s d ⟨c,b,rfl⟩;have I:=Yy ok (p:=p) (by omega);have bE:=λi j a f=>g (p:=p) (by omega) i j a f;refine TV (Zx (Hd (o2 rfl rfl (W7 (Ui d))))) (TV (Zx (Wy (w:=w) (XZ m X (p+1)).1 (q:=λi=>.tup [.int (i:Int),pP (ZE w ((XZ m X p).1 i))]) ?_ (by omega) λi a=>⟨_,rfl,Hd ?_⟩)) (He (Zx (vP (o2 rfl rfl (SY (by omega))))) ⟨_,_,rfl⟩))
  ·show aA (Wq (tL (YZ m w (XZ m X p).1)))=_;rw[Wv,X0];congr 1;refine ak λi a=>?_;rw[aH,Ui (aQ.mp a)];rfl
  ·by_cases q:i=p
   ·exact Fe (xb ((IG rfl rfl).trans (by rw[decide_eq_true (by omega)]))) (by rw[show(XZ m X (p+1)).1 i=(XZ m X p).1 i from funext λj=>kz q];rfl)
   ·refine Ff (xb ((IG rfl rfl).trans (by rw[decide_eq_false (by omega)]))) ?_;rw[show(XZ m X (p+1)).1 i=_ from funext λj=>l4 q];exact c4 rfl rfl rfl rfl (Ko (by omega) (by omega) (λj f=>bE i j a (by omega)) (λj f=>bE p j d (by omega)) I.nz (u (by omega)))
 ·rintro s ⟨c,b,rfl⟩;exact⟨_,rfl,rfl⟩
theorem IJ{m:Nat}{A X:Mt}(d:m<=6)(ok:Dk m A X)(b:∀i j,i<m->j<m->(X i j).natAbs<=2^7)(c:∀i,i<m->(X i m).natAbs<=2^208) :
  Wh [wP (YZ m m A),pP (ZE m λi=>X i m)]=aA (.lst (iL (ZE m λi=>((XZ m X m).1 i m).fdiv (XZ m X m).2))):=by
 have I:=Yy ok (aL m)
 have e:(XZ m X m).2.natAbs<2^1000:=by
  cases m with
  | zero=>show(1:Int).natAbs<_;decide +kernel
  | succ k=>exact aq ((SX ok b c (p:=k) (by omega)).1 k k (by omega) (by omega)) (Zah (by omega))
 refine YV (sq (Zx (c1 (Wy (w:=m+1) X (q:=λi=>.tup [pP (ZE m (A i)),.int (X i m)]) ?_ (by omega) λi a=>⟨_,rfl,?_⟩) (II d (by omega) (by omega) ok b c (.inl rfl)))) (ret (Xl (q:=λi=>pP (ZE (m+1) ((XZ m X m).1 i))) _ ?_ (by omega) λi a=>⟨_,rfl,vP (vC (C:=Tz) (op:=jD) (o2 rfl rfl ?_) rfl (Jw I.nz e))⟩)))
 ·show aA (WU (tL (YZ m m A)) (iL (ZE m λi=>X i m)))=_;rw[YG _ _ (by rw[X0,aN,Zr]),X0];congr 1;refine ak λi a=>?_;have a:=aQ.mp a;rw[Yu _ i (by rw[Zr];exact a),Z5 a,aH,Ui a];rfl
 ·have g:iL (ZE m (A i))++[PV.int (X i m)]=iL (ZE (m+1) (X i)):=by unfold ZE;rw[fP,cU];simp;exact λj f=>(ok.ext i j a f).symm
  show(if(iL (ZE m (A i))).length+[PV.int (X i m)].length<=10000 then aA (PV.tup (iL (ZE m (A i))++[PV.int (X i m)])) else none)=_;rw[kz (by simp[Zr];omega),g]
 ·show aA (tL (YZ m (m+1) (XZ m X m).1))=_;rw[S2]
 ·show T4 (iL (ZE (m+1) ((XZ m X m).1 i))) (-1)=_;unfold T4 Pp;rw[aN,Zr,l4 (by omega),kz (by omega),show(-1+((m+1:Nat):Int)).toNat=m by omega];show(iL (ZE (m+1) ((XZ m X m).1 i)))[m]?=_;rw[Qw (by rw[Zr];omega),Z5 (by omega)]
noncomputable def Xd(b i:Nat):Nat:=if i<b then i else i+1
noncomputable def Jz(b h:Nat):Nat:=if h<b then h else h-1
theorem Fh(b i:Nat):Xd b i≠b:=by unfold Xd;split<;>omega
theorem Xm{b i m:Nat}(h:i<m):Xd b i<m+1:=by unfold Xd;split<;>omega
theorem RW(b i:Nat):Jz b (Xd b i)=i:=by unfold Jz Xd;split<;>(try split)<;>omega
theorem RX{b h:Nat}(q:h≠b):Xd b (Jz b h)=h:=by unfold Jz Xd;split<;>(try split)<;>omega
theorem Fi{b h m:Nat}(c:b<m+1)(a:h<m+1)(q:h≠b):Jz b h<m:=by unfold Jz;split<;>omega
theorem Dp{b i j:Nat}(h:Xd b i=Xd b j):i=j:=by rw[<-RW b i,h,RW]
theorem MR{n b:Nat}(c:n<=7)(a:b<n):(aE n).filter (λh=>!decide (h=b))=(aE (n-1)).map (Xd b):=by
 have:∀n,n<8->∀b,b<8->b<n->(aE n).filter (λh=>!decide (h=b))=(aE (n-1)).map (Xd b):=by decide
 exact this n (by omega) b (by omega) a
theorem Kp{f:Nat->Int}{b:Nat}(a:f b=0):∀{m:Nat},b<m+1->sN (m+1) f=sN m (λi=>f (Xd b i))
 | 0,h=>by
  have:b=0:=by omega
  subst this;show 0+f 0=0;rw[a];rfl
 | m+1,h=>by
  by_cases q:b=m+1
  ·subst q;show sN (m+1) f+f (m+1)=_;rw[a,gD];exact Zg λi c=>by unfold Xd;rw[kz c]
  ·show sN (m+1) f+f (m+1)=sN m (λi=>f (Xd b i))+f (Xd b m);rw[Kp a (m:=m) (by omega),show Xd b m=m+1 by unfold Xd;rw[l4 (by omega)]]
theorem Uj{f:Nat->Int}:∀{n:Nat},(∀i,i<n->0<=f i)->sN n f<=0->∀i,i<n->f i=0
 | 0,_,_,i,h=>by omega
 | n+1,h,s,i,a=>by
  have s:sN n f+f n<=0:=s
  have c:0<=sN n f:=by
   have:∀k,k<=n->0<=sN k f:=by
    intro k
    induction k with
    | zero=>intro _;exact df 0
    | succ k ih=>intro b;have:=ih (by omega);have:=h k (by omega);show 0<=sN k f+f k;omega
   exact this n (aL n)
  have d:=h n (by omega);by_cases q:i=n
  ·subst q;omega
  ·exact Uj (n:=n) (λi a=>h i (by omega)) (by omega) i (by omega)
theorem Yf{f:Nat->Int}:∀{n:Nat},(∀i,i<n->0<=f i)->0<=sN n f
 | 0,_=>df 0
 | n+1,h=>by have:=Yf (n:=n) λi a=>h i (by omega);have:=h n (by omega);show 0<=sN n f+f n;omega
theorem Pf(Y:Nat->Int):∀{n:Nat},0<n->∃h,h<n/\∀g,g<n->Y h<=Y g
 | 0,h=>by omega
 | 1,_=>⟨0,by omega,λg b=>by rw[show g=0 by omega];exact df _⟩
 | n+2,_=>by
  obtain⟨h,c,a⟩:=Pf Y (n:=n+1) (by omega);by_cases q:Y h<=Y (n+1)
  ·exact⟨h,by omega,λg b=>by
    by_cases e:g=n+1
    ·rw[e];exact q
    ·exact a g (by omega)⟩
  ·exact⟨n+1,by omega,λg b=>by
    by_cases e:g=n+1
    ·rw[e];exact df _
    ·have:=a g (by omega);omega⟩
noncomputable def gN(W:List (List Int))(Y:Nat->Int)(h:Nat):Int:=sN W.length (λg=>ent W h g*(Y g-Y h))
theorem Dq{W:List (List Int)}(ok:ZP W)(o:WO W){Y:Nat->Int}{b:Nat}(q:b<W.length)(j:∀h,h<W.length->h≠b->Y h<Y b->gN W Y h<=0):∀h,h<W.length->Y b<=Y h:=by
 intro h u;refine gn.mp λr=>?_;obtain⟨e,l0,l⟩:=Pf Y (n:=W.length) (by omega);have p:Y e<Y b:=by have:=l h u;omega
 have step:∀a c,a<W.length->c<W.length->0<ent W a c->Y a=Y e->Y c=Y e:=λa c d i k ea=>by
  have s:=j a d (λz=>by rw[z] at ea;omega) (by omega);have t:=Uj (f:=λg=>ent W a g*(Y g-Y a)) (λg m=>cI (ok.lo a g d m) (by have:=l g m;omega)) s c i
  have:Y c-Y a=0:=by
   rcases Int.mul_eq_zero.mp t with z | z
   ·omega
   ·exact z
  omega
 have:=(o (λx=>Y x=Y e) (λa c d i k=>⟨step a c d i k,step c a i d (by rw[ok.sym c a i d];exact k)⟩) e b l0 q).mp rfl;omega
theorem U4{W:List (List Int)}(Y Z:Nat->Int)(h:Nat):gN W (λx=>Y x+Z x) h=gN W Y h+gN W Z h:=by
 unfold gN;rw[<-ZZ];exact Zg λg _=>by show ent W h g*(Y g+Z g-(Y h+Z h))=_;rw[<-fV];congr 1;omega
theorem Wm{W:List (List Int)}(c:Int)(Y:Nat->Int)(h:Nat):gN W (λx=>c*Y x) h=c*gN W Y h:=by
 unfold gN;rw[<-ZA];exact Zg λg _=>by show ent W h g*(c*Y g-c*Y h)=_;rw[<-dh,cD]
theorem Uk{W:List (List Int)}{Y Z:Nat->Int}{h:Nat}(a:h<W.length)(e:∀g,g<W.length->Y g=Z g):gN W Y h=gN W Z h:=Zg λg b=>by rw[e g b,e h a]
theorem Dr(W:List (List Int))(S:List Int)(h:Nat):W0 W S h=gN W (Zp S) h:=by unfold W0 gN;rw[Y7]
noncomputable def ZK(W:List (List Int))(b:Nat):Mt:=λi j=>if Xd b j=Xd b i then(ZL W (Xd b i)).sum else-ent W (Xd b i) (Xd b j)
noncomputable def Vz(W:List (List Int))(b:Nat)(c:Nat->Int):Mt:=λi j=>if j<W.length-1 then ZK W b i j else c (Xd b i)
theorem Pg{W:List (List Int)}(ok:ZP W){b:Nat}(t:b<W.length){Y:Nat->Int}(p:Y b=0){k:Nat}(e:k<W.length-1):gN W Y (Xd b k) = - sN (W.length-1) (λi=>ZK W b k i*Y (Xd b i)):=by
 have u:=ok.pos;obtain⟨m,d⟩:∃m,W.length=m+1:=⟨W.length-1,by omega⟩;have c:W.length-1=m:=by omega
 rw[c] at e ⊢;generalize j:Xd b k=h;have a:h<W.length:=by rw[d,<-j];exact Xm e
 have n:sN m (λi=>ZK W b k i*Y (Xd b i))=sN (m+1) (λg=>(if g=h then(ZL W h).sum else-ent W h g)*Y g):=by
  rw[Kp (b:=b) (f:=λg=>(if g=h then(ZL W h).sum else-ent W h g)*Y g) (by rw[p,bU]) (by omega)];exact Zg λi _=>by unfold ZK;rw[j]
 have l:sN (m+1) (λg=>(if g=h then(ZL W h).sum else-ent W h g)*Y g)=(-1)*sN (m+1) (λg=>ent W h g*Y g)+(ZL W h).sum*Y h:=by
  have:sN (m+1) (λg=>if g=h then(ZL W h).sum*Y h else 0)=(ZL W h).sum*Y h:=by rw[ZX (k:=h) (by omega) λi _ r=>l4 r,kz rfl]
  rw[<-this,<-ZA,<-ZZ];refine Zg λg v=>?_;by_cases q:g=h
  ·subst q;rw[kz rfl,kz rfl,ok.dia g a];omega
  ·rw[l4 q,l4 q,bH,bH,cq];omega
 have s:(ZL W h).sum=sN (m+1) (λg=>ent W h g):=by rw[Ux ok a,Y7,d]
 have o:gN W Y h=sN (m+1) (λg=>ent W h g*Y g)+(- Y h)*sN (m+1) (λg=>ent W h g):=by
  unfold gN;rw[d,<-ZA,<-ZZ];exact Zg λg _=>by rw[dh,bC (- Y h),gV];omega
 rw[o,n,l,s,bC (sN (m+1) λg=>ent W h g) (Y h),bH];omega
theorem S3{W:List (List Int)}(ok:ZP W)(C:WO W){b:Nat}(w:b<W.length)(c:Nat->Int):Dk (W.length-1) (ZK W b) (Vz W b c):=by
 have G:=ok.pos;obtain⟨m,r⟩:∃m,W.length=m+1:=⟨W.length-1,by omega⟩;have a:W.length-1=m:=by omega
 have l:∀i j,i<m->j<m->ZK W b i j=ZK W b j i:=λi j t n=>by
  unfold ZK;by_cases q:Xd b j=Xd b i
  ·rw[kz q,kz q.symm,q]
  ·rw[l4 q,l4 (λz=>q z.symm),ok.sym _ _ (by rw[r];exact Xm t) (by rw[r];exact Xm n)]
 rw[a];refine⟨l,λp v z E k u=>?_,λi j t n=>by unfold Vz;rw[a,kz n]⟩;obtain⟨Z,y⟩:∃Z:Nat->Int,∀h,Z h=if h=b then 0 else if Jz b h<p then z (Jz b h) else 0:=⟨_,λ_=>rfl⟩
 have f:Z b=0:=by rw[y,kz rfl]
 have A:∀i,Z (Xd b i)=if i<p then z i else 0:=λi=>by rw[y,l4 (Fh b i),RW]
 have o:∀j,j<p->gN W Z (Xd b j)=0:=λj n=>by
  rw[Pg ok w f (by omega),a]
  have e:sN m (λi=>ZK W b j i*Z (Xd b i))=sN p (λk=>z k*ZK W b k j):=by
   rw[SW (q:=p) v λk B D=>by rw[A,l4 (by omega),bU]];exact Zg λk u=>by rw[A,kz u,l j k (by omega) (by omega),bC]
  rw[e,E j n];rfl
 have off:∀h,h<W.length->Z h≠0->gN W Z h=0:=λh s ne=>by
  have g:h≠b:=λz=>ne (by rw[z];exact f);have t:Jz b h<p:=by refine Nat.not_le.mp λq=>ne ?_;rw[y,l4 g,l4 (by omega)]
  have:=o _ t;rw[RX g] at this;exact this
 have up:=Dq ok C (Y:=Z) w (λh s _ d=>by rw[off h s (by rw[f] at d;omega)];exact df _)
 have F:=Dq ok C (Y:=λx=>(-1)*Z x) w (λh s _ d=>by
  simp only[f] at d;rw[Wm,off h s (by omega)];decide)
 have B:=up (Xd b k) (by rw[r];exact Xm (by omega));have D:=F (Xd b k) (by rw[r];exact Xm (by omega));simp only[f,A,kz u] at B D;omega
theorem Oy{W:List (List Int)}(ok:ZP W)(l:WO W){b:Nat}(f:b<W.length)(c:Nat->Int) :
  ∃R:Nat->Int,R b=0/\(∀i,i<W.length-1->R (Xd b i)=(XZ (W.length-1) (Vz W b c) (W.length-1)).1 i (W.length-1))/\∀h,h<W.length->h≠b->gN W R h = - ((XZ (W.length-1) (Vz W b c) (W.length-1)).2*c h):=by
 have o:=ok.pos;have bk:=S3 ok l f c;obtain⟨R,j⟩:∃R:Nat->Int,∀h,R h=if h=b then 0 else(XZ (W.length-1) (Vz W b c) (W.length-1)).1 (Jz b h) (W.length-1):=⟨_,λ_=>rfl⟩
 have g:R b=0:=by rw[j,kz rfl]
 have k:∀i,R (Xd b i)=(XZ (W.length-1) (Vz W b c) (W.length-1)).1 i (W.length-1):=λi=>by rw[j,l4 (Fh b i),RW]
 refine⟨R,g,λi _=>k i,λh n a=>?_⟩;have d:Jz b h<W.length-1:=Fi (m:=W.length-1) (by omega) (by omega) a;have e:=Pg ok f g d;rw[RX a] at e;have s:=IH bk d;have x:Vz W b c (Jz b h) (W.length-1)=c h:=by unfold Vz;rw[l4 (by omega),RX a]
 rw[x] at s;rw[e,<-s];congr 1;exact Zg λi _=>by rw[k]
theorem Fj(l:List Int)(g:Int->Int):l.map g=(aE l.length).map λi=>g (Zp l i):=by refine X9 (by simp) λi a=>?_;rw[aN] at a;rw[Yp (by omega)];simp[Zp,aH,aI a]
theorem Kq{n:Nat}{ix:List Nat}{c:XL}{d:XT}{b:XE}{s:ZF}{l:List Int}(g:Int->Int)(a:c s=aA (iL l))(f:l.length<=1000)(h:∀x∈l,∃s1,Xb (.one 0) (.int x) (ZI n ix s)=aA s1/\d s1=aA aC/\b s1=aA (.int (g x))) :
  Zq n ix c (.one 0) d b s=aA (.lst (iL (l.map g))):=by
 rw[ZR l (λ(x:Int)=>.int x) (λx=>.int (g x)) a (by omega) (λx e=>h x e)];simp
theorem Ph{l:List Int}(d:0<l.length)(a:l.length<=1000):Vo [pP l]=aA (pP (Z4 l)):=by
 have b:Zq 1 [1] (Vf (Za 0)) (.one 0) Zy (Zj VH (Za 0) (Za 1)) [aA (pP l),aA (.int (X8 l))]=aA (.lst (iL (Z4 l))):=by rw[show Z4 l=l.map λx=>x-X8 l from(Fj l λx=>x-X8 l).symm];exact Kq (λx=>x-X8 l) (V2 rfl) a λx e=>⟨_,rfl,rfl,by simp[ZI]⟩
 have c:=EJ X8 (l:=l) (dw.mp d);simp[Vo,Jg,YC,ZM,c,b]
theorem IK{W:List (List Int)}{h m:Nat}{f:Nat->Nat}(ok:ZP W)(a:h<W.length)(d:m<=6)(b:∀i,i<m->f i<W.length) :
  QM [wP W,.int (h:Int),.lst (iL (nL ((aE m).map f)))]=aA (pP (ZE m λj=>if f j=h then(ZL W h).sum else-ent W h (f j))):=by
 refine YV (ret (Hd (c1 (Xl (q:=λj=>.int ((f j:Nat):Int)) _ (by show aA (iL (nL ((aE m).map f)))=_;simp[nL]) (by omega) λj c=>⟨_,rfl,?_⟩) rfl)));by_cases q:f j=h
 ·rw[kz q];exact Fe (xb ((IG rfl rfl).trans (by rw[decide_eq_true (by omega)]))) (c2 rfl rfl (Ke a))
 ·rw[l4 q];exact Ff (xb ((IG rfl rfl).trans (by rw[decide_eq_false (by omega)]))) (Ag (o2 (o2 rfl rfl (Ts a)) rfl (WH (by rw[ok.sq h a];exact b j c))) rfl)
theorem Wz{W:List (List Int)}{b:Nat}(ok:ZP W)(d:b<W.length) :
  YR [wP W,.int (b:Int)]=aA (wP (YZ (W.length-1) (W.length-1) (ZK W b))):=by
 have o:=ok.pos;have j:=ok.few;obtain⟨m,g⟩:∃m,W.length=m+1:=⟨W.length-1,by omega⟩;have a:W.length-1=m:=by omega
 rw[a];have fo:∀i,i<m->Xd b i<W.length:=λi c=>by rw[g];exact Xm c
 have k:Zq 1 [1] (Ya [Zc Y1 [Za 0]]) (.one 0) (xB (Zj (WR aC) (Za 0) (Za 1))) (eP (Za 0)) [aA (wP W),aA (.int (b:Int)),none]=aA (.lst (iL (nL ((aE m).map (Xd b))))):=by
  rw[Vl (aE W.length) (λ(i:Nat)=>.int (i:Int)) (λ(i:Nat)=>.int (i:Int)) (λh=>!decide (h=b)) (Yd (n:=W.length) (by simp) (by omega)) (by simp;omega) λy l=>⟨[aA (.int (y:Int)),aA (.int (b:Int))],rfl,?_,λ_=>by simp⟩]
  ·rw[MR j d,a];simp[nL]
  ·by_cases q:y=b
   ·simp[q]
   ·have e:¬(y:Int)=(b:Int):=by omega
    simp[q,e]
 exact YV (sq (Zx k) (ret (ep (c1 (Wy (w:=m) (ZK W b) (q:=λi=>.int ((Xd b i:Nat):Int)) (by show aA (iL (nL ((aE m).map (Xd b))))=_;simp[nL]) (by omega) λi c=>⟨_,rfl,c3 rfl rfl rfl (IK (f:=Xd b) ok (fo i c) (by omega) fo)⟩) rfl) (V1 _))))
theorem Ds{l:List Int}{b h:Nat}{x:Int}(c:b<=l.length)(d:h<l.length+1):Zp (l.take b++x::l.drop b) h=if h=b then x else Zp l (Jz b h):=by
 unfold Zp Jz;rw[aH,aH];by_cases q:h<b
 ·rw[l4 (by omega),kz q,ah (by rw[bP];omega),dj q]
 ·rw[bI (by rw[bP];omega),bP,dH c];by_cases a:h=b
  ·rw[kz a,a,Nat.sub_self];rfl
  ·rw[l4 a,l4 q,show h-b=(h-b-1)+1 by omega,List.getElem?_cons_succ,dQ,show b+(h-b-1)=h-1 by omega]
theorem JA{f:Nat->Int}:∀{n:Nat},(∀i,i<n->0<=f i/\f i<=9)->0<=sN n f/\sN n f<=9*n
 | 0,_=>⟨df _,by show(0:Int)<=_;omega⟩
 | n+1,h=>by
  obtain⟨a,b⟩:=JA (n:=n) λi c=>h i (by omega);have:=h n (by omega);refine⟨?_,?_⟩
  ·show 0<=sN n f+f n;omega
  ·show sN n f+f n<=_;omega
theorem IL{W:List (List Int)}(ok:ZP W){b:Nat}{c:Nat->Int}{i j:Nat}(h:i<W.length-1)(e:j<W.length-1):(Vz W b c i j).natAbs<=2^7:=by
 have l:=ok.pos;have k:=ok.few;have d:Xd b i<W.length:=by have:=Xm (b:=b) h;omega
 have g:Xd b j<W.length:=by have:=Xm (b:=b) e;omega
 unfold Vz ZK;rw[kz e];split
 ·rw[Ux ok d,Y7];obtain⟨a,b⟩:=JA (f:=λj=>ent W (Xd b i) j) (n:=W.length) λj e=>⟨ok.lo _ j d e,ok.hi _ j d e⟩;omega
 ·have:=ok.lo _ _ d g;have:=ok.hi _ _ d g;omega
noncomputable def Oz(W:List (List Int))(D:List Int)(b:Nat):List Int:=
 (ZE (W.length-1) λi=>((XZ (W.length-1) (Vz W b (Zp D)) (W.length-1)).1 i (W.length-1)).fdiv (XZ (W.length-1) (Vz W b (Zp D)) (W.length-1)).2).take b++0::(ZE (W.length-1) λi=>((XZ (W.length-1) (Vz W b (Zp D)) (W.length-1)).1 i (W.length-1)).fdiv (XZ (W.length-1) (Vz W b (Zp D)) (W.length-1)).2).drop b
theorem Fl{W:List (List Int)}{D:List Int}{b:Nat}(a:b<W.length):(Oz W D b).length=W.length:=by unfold Oz;rw[bA,bP,b9,cL,Zr];omega
theorem Fm{W:List (List Int)}{D:List Int}{b:Nat}(ok:ZP W)(e:WO W)(l:D.length=W.length)(c:b<W.length)(f:∀h,h<W.length->(Zp D h).natAbs<=2^208):We [wP W,pP D,.int (b:Int)]=aA (pP (Oz W D b)):=by
 have m:=ok.few
 have g:D.take b++D.drop (b+1)=ZE (W.length-1) λi=>Vz W b (Zp D) i (W.length-1):=by
  refine X9 (by rw[bA,bP,cL,Zr];omega) λi a=>?_;have a:i<W.length-1:=by rw[bA,bP,cL] at a;omega
  rw[Z5 a];unfold Vz Xd Zp;rw[l4 (by omega),aH,aH];by_cases q:i<b
  ·rw[kz q,ah (by rw[bP];omega),dj q]
  ·rw[l4 q,bI (by rw[bP];omega),bP,dQ];congr 2;omega
 have d:=IJ (by omega) (S3 ok e c (Zp D)) (λi j a k=>IL ok a k) (λi a=>by
  unfold Vz;rw[l4 (by omega)];exact f _ (by have:=Xm (b:=b) a;omega))
 rw[<-g] at d;exact YV (sq (Zx (Hd (o2 (De rfl rfl (by omega)) (Dg rfl rfl (by omega)) (Jq (by rw[bP,cL];omega))))) (sq (Zx (c2 (c2 rfl rfl (Wz ok c)) rfl d)) (sq (BV rfl rfl rfl (by omega) (by rw[Zr];omega)) (ret (Hd (c1 rfl rfl))))))
theorem Kr{W:List (List Int)}{D:List Int}{b:Nat}(ok:ZP W)(k:WO W)(r:D.length=W.length)(f:b<W.length)(t:∀h,h<W.length->(Zp D h).natAbs<=2^208) :
  ∃(S0:List Int) (d:Int) (R:Nat->Int),We [wP W,pP D,.int (b:Int)]=aA (pP S0)/\S0.length=W.length/\0<d/\R b=0/\Zp S0 b=0/\(∀h,h<W.length->d*Zp S0 h<=R h/\R h<d*Zp S0 h+d)/\∀h,h<W.length->h≠b->gN W R h = - (d*Zp D h):=by
 have v:=ok.few;obtain⟨R,n,u,p⟩:=Oy ok k f (Zp D);have s:=(Yy (S3 ok k f (Zp D)) (aL _)).nz;have run:=Fm ok k r f t;have len:=Fl (W:=W) (D:=D) f
 have a:∀h,h<W.length->Zp (Oz W D b) h=if h=b then 0 else(R h).fdiv (XZ (W.length-1) (Vz W b (Zp D)) (W.length-1)).2:=λh c=>by
  unfold Oz;rw[Ds (by rw[Zr];omega) (by rw[Zr];omega)];by_cases q:h=b
  ·rw[kz q,kz q]
  ·have i:=Fi (m:=W.length-1) (by omega) (by omega) q;rw[l4 q,l4 q,Z5 i,<-u _ i,RX q]
 generalize (XZ (W.length-1) (Vz W b (Zp D)) (W.length-1)).2=d at *;generalize Oz W D b=l at *;have j:Zp l b=0:=by rw[a b f,kz rfl]
 have a:∀h,h<W.length->Zp l h=(R h).fdiv d:=λh c=>by
  rw[a h c];split
  ·rename_i q;rw[q,n];simp
  ·rfl
 rcases eM s with neg | pos
 ·refine⟨_,- d,λh=>- R h,run,len,by omega,by show-R b=0;rw[n];rfl,j,λh c=>?_,λh c o=>?_⟩
  ·have e:(R h).fdiv d=(- R h)/(- d):=by rw[<-kA,dN _ (by omega)]
   rw[a h c,e];exact⟨jE (by omega),iG (by omega)⟩
  ·have:=Wm (W:=W) (-1) R h;rw[p h c o] at this;rw[Uk (Z:=λx=>(-1)*R x) c (λg _=>by show-R g=(-1)*R g;omega),this,bH d];omega
 ·refine⟨_,d,R,run,len,pos,n,j,λh c=>?_,p⟩;rw[a h c,dN _ (by omega)];exact⟨jE (by omega),iG pos⟩
theorem Fo{c:XT}{fb:XS}(g:Nat->ZF->Prop)(step:∀k st,g k st->c st=aA aB\/(c st=aA aC/\∃s2 k',fb st=aA (.nx s2)/\k'<k/\g k' s2)){k:Nat}{s:ZF}(o:g k s) :
  ∃f k',Xr c fb s=aA (.nx f)/\g k' f/\c f=aA aB:=by
 have gen:∀(n k:Nat)(st:ZF),k<n->g k st->∃f k',Yt c fb n st=aA (.nx f)/\g k' f/\c f=aA aB:=by
  intro n
  induction n with
  | zero=>intro k st h;omega
  | succ n ih=>
   intro k st p l;rcases step k st l with i | ⟨i,s2,k',e,q,j⟩
   ·exact⟨st,k,by unfold Yt;rw[i];rfl,l,i⟩
   ·obtain⟨f,m,a,b,d⟩:=ih k' s2 (by omega) j;refine⟨f,m,?_,b,d⟩;unfold Yt;rw[i];simp only[e];exact a
 obtain⟨f,k',a,b,d⟩:=gen (k+1) k s (by omega) o;exact⟨f,k',Og a,b,d⟩
noncomputable def WQ(n:Nat)(L:List Nat):List Int:=(aE n).map λh=>if h∈L then -1 else 0
theorem NO{W:List (List Int)}{L:List Nat}(b:W.length<=7):Xc [wP W,.lst (iL (nL L))]=aA (pP (WQ W.length L)):=by
 have a:Zq 1 [1] (Ya [Zc Y1 [Za 0]]) (.one 0) Zy (HB (xB (Zj (J2 aB) (Za 0) (Za 1))) (OT UA (eC (.int 1))) (eC (.int 0))) [aA (wP W),aA (.lst (iL (nL L)))]=aA (.lst (iL (WQ W.length L))):=by
  rw[W4 (λh=>if h∈L then -1 else 0) (Yd (n:=W.length) (by simp) (by omega)) (by omega) λi c=>⟨[aA (.int (i:Int)),aA (.lst (iL (nL L)))],rfl,rfl,?_⟩]
  ·rfl
  ·have g:=Dd i L;have t:xB (Zj (J2 aB) (Za 0) (Za 1)) [aA (.int (i:Int)),aA (.lst (iL (nL L)))]=aA (decide (i∈L)):=by rw[O3];show(J2 aB (.int (i:Int)) (.lst (iL (nL L)))).bind blO=_;rw[g];rfl
   rw[O4,t];by_cases q:i∈L
   ·rw[kz q,decide_eq_true q];rfl
   ·rw[l4 q,decide_eq_false q];rfl
 show(ZO _ [aA (wP W),aA (.lst (iL (nL L)))]).bind Tq=_;have:Zc ZT [Zq 1 [1] (Ya [Zc Y1 [Za 0]]) (.one 0) Zy (HB (xB (Zj (J2 aB) (Za 0) (Za 1))) (OT UA (eC (.int 1))) (eC (.int 0)))] [aA (wP W),aA (.lst (iL (nL L)))]=aA (pP (WQ W.length L)):=by simp only[YO,ZD,EA,a,aY,dZ,YF]
 rw[MN (v:=pP (WQ W.length L)) (by rw[O2,this];simp)];rfl
theorem Dt{n:Nat}{L:List Nat}{h:Nat}(a:h<n):Zp (WQ n L) h=if h∈L then -1 else 0:=Yp a
theorem Ul{W:List (List Int)}{D S:List Int}{h:Nat}(a:h<D.length):Zp (Z8 W D S) h=Zp D h+gN W (Zp S) h:=by rw[TQ a,Dr]
structure MS(W:List (List Int))(b:Nat)(n0:Nat->Int)(B:Nat->Int):Prop where
 pos:∀h,h<W.length->0<=B h
 base:B b=0
 free:∀h,h<W.length->h≠b->0<=n0 h-gN W B h
theorem Du{W:List (List Int)}(ok:ZP W)(g:WO W){b:Nat}(k:b<W.length)(d:Nat->Int):∃B,MS W b d B:=by
 obtain⟨z,l,_,p⟩:=Oy ok g k (λ_=>1);have v:=(Yy (S3 ok g k (λ_=>1)) (aL _)).nz
 obtain⟨y,t,m⟩:∃y:Nat->Int,y b=0/\∀h,h<W.length->h≠b->gN W y h<=-1:=by
  rcases eM v with neg | pos
  ·exact⟨λx=>(-1)*z x,by show(-1)*z b=0;rw[l];rfl,λh c a=>by rw[Wm,p h c a];omega⟩
  ·exact⟨z,l,λh c a=>by rw[p h c a];omega⟩
 have o:=Dq ok g (Y:=y) k (λh c a _=>by have:=m h c a;omega);rw[t] at o;obtain⟨K,r⟩:∃K:Int,K=sN W.length (λh=>((d h).natAbs:Int)):=⟨_,rfl⟩;have s:0<=K:=by rw[r];exact Yf λi _=>by omega
 have j:∀h,h<W.length->- d h<=K:=λh c=>by
  have:∀n,h<n->- d h<=sN n (λh=>((d h).natAbs:Int)):=by
   intro n
   induction n with
   | zero=>intro q;omega
   | succ n ih=>
    intro q;show _<=sN n (λh=>((d h).natAbs:Int))+((d n).natAbs:Int);by_cases e:h=n
    ·subst e;have:=Yf (f:=λh=>((d h).natAbs:Int)) (n:=h) λi _=>by omega
     omega
    ·have:=ih (by omega);omega
  rw[r];exact this _ c
 refine⟨λx=>K*y x,λh c=>cI s (o h c),by rw[t,bU],λh c a=>?_⟩;rw[Wm];have u:=m h c a;have A:=eJ u s;have w:=j h c;omega
theorem IM{W:List (List Int)}(ok:ZP W){b:Nat}{d B B':Nat->Int}(f:MS W b d B')(j:∀h,h<W.length->B h<=B' h){h:Nat}(c:h<W.length)(a:h≠b)(i:d h-gN W B h<0):B h<B' h:=by
 refine Int.lt_iff_le_and_ne.mpr ⟨j h c,λe=>?_⟩;have m:=f.free h c a
 have n:gN W B h<=gN W B' h:=by
  have:0<=sN W.length (λg=>ent W h g*(B' g-B' h)+(-1)*(ent W h g*(B g-B h))):=Yf λg k=>by
   have l:ent W h g*(B' g-B' h)+(-1)*(ent W h g*(B g-B h))=ent W h g*(B' g-B g):=by rw[e,bH,cq,<-j6,<-dh];congr 1;omega
   rw[l];exact cI (ok.lo h g c k) (by have:=j g k;omega)
  rw[ZZ,ZA] at this;unfold gN;omega
 omega
structure RY(W:List (List Int))(b:Nat)(N:List Int)(F:List Nat):Prop where
 free:∀h,h<W.length->h≠b->0<=Zp N h
 burn:Burn W N b F
 stop:Xk W N F=none
 all:∀h,h<W.length->h∈F
theorem Fp{W:List (List Int)}{N:List Int}(ok:ZP W)(J:WO W){b:Nat}(L:b<W.length){k B R:Nat->Int}{d:Int}(O:0<d)(Y:R b=0)(G:∀h,h<W.length->0<=R h/\R h<d)(M:∀h,h<W.length->h≠b->gN W R h = - (d*k h))
  (S:∀h,h<W.length->Zp N h=k h-gN W B h) (f:MS W b k B) (j:∀B',MS W b k B'->∀h,h<W.length->B h<=B' h) {F:List Nat} (y:Burn W N b F) (st:Xk W N F=none):∀h,h<W.length->h∈F:=by
 intro x t;refine b5 λs=>?_;have Q:=cH y.hd;obtain⟨T,m⟩:∃T:Nat->Int,∀h,T h=if h∈F then 0 else 1:=⟨_,λ_=>rfl⟩
 have E:T b=0:=by rw[m,kz Q]
 have v:∀h,0<=T h/\T h<=1:=λh=>by rw[m];split<;>omega
 -- what the houses outside lend to those that burn
 have u:∀h,h<W.length->h∉F->gN W T h = - Xu W h F:=λh c D=>by
  have U:gN W T h=(-1)*sN W.length (λg=>if g∈F then ent W h g else 0):=by
   rw[<-ZA];refine Zg λg A=>?_;rw[m,m];split
   ·rw[Int.zero_sub];omega
   ·simp
  have H:sN W.length (λg=>if g∈F then ent W h g else 0)=Xu W h F:=by
   have gen:∀l:List Nat,l.Nodup->(∀x∈l,x<W.length)->sN W.length (λg=>if g∈l then ent W h g else 0)=(l.map λo=>ent W h o).sum:=by
    intro l
    induction l with
    | nil=>intro _ _;rw[Y6 λi _=>by simp];rfl
    | cons a r ih=>
     intro w lt;rw[bK] at w;rw[dk,jT,<-ih w.2 λx t=>lt x (aT _ t)];have:ent W h a=sN W.length (λg=>if g=a then ent W h a else 0):=by rw[ZX (lt a aZ) λi _ Z=>l4 Z,kz rfl]
     rw[this,<-ZZ];refine Zg λg A=>?_;by_cases q:g=a
     ·subst q;rw[kz aZ,l4 w.1];omega
     ·by_cases p:g∈r
      ·rw[kz (aT _ p),kz p];omega
      ·rw[l4 (λz=>(a9.mp z).elim q p),l4 q,l4 p];rfl
   exact gen F y.nd y.lt
  rw[U,H];omega
 have n:∀h,h<W.length->h∈F->0<=gN W T h:=λh c D=>Yf λg A=>by rw[show T h=0 by rw[m,kz D]];exact cI (ok.lo h g c A) (by have:=(v g).1;omega)
 have sub:∀h,gN W (λx=>B x+(-1)*T x) h=gN W B h-gN W T h:=λh=>by rw[U4,Wm];omega
 have free:∀h,h<W.length->h≠b->0<=k h-gN W (λx=>B x+(-1)*T x) h:=λh c e=>by
  rw[sub];by_cases q:h∈F
  ·have:=n h c q;have:=f.free h c e;omega
  ·have C:=u h c q;have X:=Km st c q;rw[S h c] at X;omega
 have f2:MS W b k (λx=>B x+(-1)*T x):=by
  refine⟨λh c=>?_,by show B b+(-1)*T b=0;rw[f.base,E];rfl,free⟩
  have up:=Dq ok J L (λh c e _=>by
   rw[U4 R (λx=>d*(B x+(-1)*T x)),Wm,M h c e];have:=free h c e;have P:0<=d*(k h-gN W (λx=>B x+(-1)*T x) h):=cI (by omega) this;rw[dh] at P;omega) h c
  rw[Y,f.base,E] at up;have:=(G h c).2;refine gn.mp λneg=>?_;have I:B h+(-1)*T h<=-1:=by omega
  have h5:d*(B h+(-1)*T h)<=d*(-1):=eJ I (by omega);omega
 have C:=j _ f2 x t;rw[show T x=1 by rw[m,l4 s]] at C;omega
theorem Uy{W:List (List Int)}{D:List Int}{b:Nat}(ok:ZP W)(cn:WO W)(G:D.length=W.length)(E:b<W.length)(hD:∀h,h<W.length->(Zp D h).natAbs<=2^208) :
  ∃(S N:List Int) (F:List Nat),Yh [wP W,pP D,.int (b:Int)]=aA (.tup [pP (Z4 S),pP N,.lst (iL (nL F))])/\S.length=W.length/\N=Z8 W D S/\RY W b N F:=by
 have hf:=ok.few;obtain⟨a,d,R,en,l0,d0,Rb,Y,Rs,Rg⟩:=Kr ok cn G E hD;obtain⟨t,A⟩:∃t:Nat->Int,∀h,t h=Zp D h+gN W (Zp a) h:=⟨_,λ_=>rfl⟩;obtain⟨Bs,fs⟩:=Du ok cn E t;have v:∀S:List Int,(Z8 W D S).length=W.length:=λS=>by rw[YI,G]
 let st:=λS n=>[aA (wP W),aA (pP D),aA (.int (b:Int)),aA (pP S),aA (pP (Z8 W D S)),aA (.lst (iL (nL (Xo (Z8 W D S) b)))),n];have r:∀(S:List Int)(B:Nat->Int),(∀h,h<W.length->Zp S h=Zp a h-B h)->∀h,h<W.length->Zp (Z8 W D S) h=t h-gN W B h:=λS B e h j=>by rw[Ul (by omega),A,Uk (Z:=λx=>Zp a x+(-1)*B x) j (λg hg=>by rw[e g hg];omega),U4,Wm];omega
 let J:=λk s=>∃(S:List Int) (B:Nat->Int) (n:Option PV),s=st S n/\S.length=W.length/\(∀h,h<W.length->Zp S h=Zp a h-B h)/\(∀h,h<W.length->0<=B h)/\B b=0/\(∀B',MS W b t B'->∀h,h<W.length->B h<=B' h)/\k=(sN W.length (λh=>Bs h-B h)).toNat;have j0:J (sN W.length (λh=>Bs h-0)).toNat (st a none):=⟨a,λ_=>0,none,rfl,l0,λh _=>by(show Zp a h=Zp a h-0);omega,λh _=>df 0,rfl,λB' f h j=>f.pos h j,rfl⟩
 obtain⟨s',k',w1,⟨S,B,n,rfl,lS,M,O,U,H,_⟩,w3⟩:=Fo (c:=xB (Zj Lc (Zc Y1 [Za 5]) (eC (.int 0)))) (fb:=(Zn (Zs 6 (Zc Xc [Za 0,Za 5]))
  (Zn (Zs 3 (Zc UR [Za 3,Za 6]))
  (Zn (Zs 4 (Zc UH [Za 0,Za 4,Za 6]))
  (Zs 5 (Zc YQ [Za 4,Za 2])))))) J (by
   rintro k s ⟨S,B,n,rfl,lS,M,O,U,H,rfl⟩;have I:xB (Zj Lc (Zc Y1 [Za 5]) (eC (.int 0))) (st S n)=aA (decide ((0:Int)<((Xo (Z8 W D S) b).length:Int))):=by show aA (decide ((0:Int)<((iL (nL (Xo (Z8 W D S) b))).length:Int)))=_;simp[nL]
   by_cases q:Xo (Z8 W D S) b=[]
   ·left;rw[I,q];rfl
   ·right;have ql:=dw.mpr q;refine⟨by rw[I,decide_eq_true (by omega)],?_⟩;generalize hL:Xo (Z8 W D S) b=L at *;have o:∀h,h∈L↔h<W.length/\h≠b/\Zp (Z8 W D S) h<0:=λh=>by rw[<-hL,Fd,v]
    let m:=Kf S (WQ W.length L);have lb:(WQ W.length L).length=W.length:=by simp[WQ]
    have P:m.length=W.length:=by rw[G3];exact lS
    have X:Zs 6 (Zc Xc [Za 0,Za 5]) [aA (wP W),aA (pP D),aA (.int (b:Int)),aA (pP S),aA (pP (Z8 W D S)),aA (.lst (iL (nL L))),n]=aA (.nx [aA (wP W),aA (pP D),aA (.int (b:Int)),aA (pP S),aA (pP (Z8 W D S)),aA (.lst (iL (nL L))),aA (pP (WQ W.length L))]):=by have:Zc Xc [Za 0,Za 5] [aA (wP W),aA (pP D),aA (.int (b:Int)),aA (pP S),aA (pP (Z8 W D S)),aA (.lst (iL (nL L))),n]=aA (pP (WQ W.length L)):=NO hf;rw[Ys,this];rfl
    have Q:Zs 3 (Zc UR [Za 3,Za 6]) [aA (wP W),aA (pP D),aA (.int (b:Int)),aA (pP S),aA (pP (Z8 W D S)),aA (.lst (iL (nL L))),aA (pP (WQ W.length L))]=aA (.nx [aA (wP W),aA (pP D),aA (.int (b:Int)),aA (pP m),aA (pP (Z8 W D S)),aA (.lst (iL (nL L))),aA (pP (WQ W.length L))]):=by have:Zc UR [Za 3,Za 6] [aA (wP W),aA (pP D),aA (.int (b:Int)),aA (pP S),aA (pP (Z8 W D S)),aA (.lst (iL (nL L))),aA (pP (WQ W.length L))]=aA (pP m):=E6 (by omega) (by omega);rw[Ys,this];rfl
    have rr:Z8 W (Z8 W D S) (WQ W.length L)=Z8 W D m:=Jl G λi hi=>MJ (by omega)
    have T:Zs 4 (Zc UH [Za 0,Za 4,Za 6]) [aA (wP W),aA (pP D),aA (.int (b:Int)),aA (pP m),aA (pP (Z8 W D S)),aA (.lst (iL (nL L))),aA (pP (WQ W.length L))]=aA (.nx [aA (wP W),aA (pP D),aA (.int (b:Int)),aA (pP m),aA (pP (Z8 W D m)),aA (.lst (iL (nL L))),aA (pP (WQ W.length L))]):=by
     have:Zc UH [Za 0,Za 4,Za 6] [aA (wP W),aA (pP D),aA (.int (b:Int)),aA (pP m),aA (pP (Z8 W D S)),aA (.lst (iL (nL L))),aA (pP (WQ W.length L))]=aA (pP (Z8 W D m)):=by rw[<-rr];exact GX ok (v S) lb
     rw[Ys,this];rfl
    have e4:Zs 5 (Zc YQ [Za 4,Za 2]) [aA (wP W),aA (pP D),aA (.int (b:Int)),aA (pP m),aA (pP (Z8 W D m)),aA (.lst (iL (nL L))),aA (pP (WQ W.length L))]=aA (.nx (st m (aA (pP (WQ W.length L))))):=by have:Zc YQ [Za 4,Za 2] [aA (wP W),aA (pP D),aA (.int (b:Int)),aA (pP m),aA (pP (Z8 W D m)),aA (.lst (iL (nL L))),aA (pP (WQ W.length L))]=aA (.lst (iL (nL (Xo (Z8 W D m) b)))):=Pe (by rw[v];omega);rw[Ys,this];rfl
    obtain⟨B',p⟩:∃B':Nat->Int,∀h,B' h=B h+(if h∈L then 1 else 0):=⟨_,λ_=>rfl⟩
    have less:∀C,MS W b t C->∀h,h<W.length->B' h<=C h:=λC fc h j=>by
     rw[p];by_cases z:h∈L
     ·rw[kz z];obtain⟨_,z2,z3⟩:=(o h).mp z;rw[r S B M h j] at z3;have:=IM ok fc (λg hg=>H C fc g hg) j z2 z3;omega
     ·rw[l4 z];have:=H C fc h j;omega
    refine⟨st m (aA (pP (WQ W.length L))),(sN W.length (λh=>Bs h-B' h)).toNat,?_,?_,m,B',_,rfl,P,λh j=>?_,λh j=>?_,?_,less,rfl⟩
    ·show Zn _ _ [aA (wP W),aA (pP D),aA (.int (b:Int)),aA (pP S),aA (pP (Z8 W D S)),aA (.lst (iL (nL (Xo (Z8 W D S) b)))),n]=_;rw[hL,YB X,YB Q,YB T,e4]
    ·have p1:0<=sN W.length (λh=>Bs h-B' h):=Yf λh j=>by have:=less Bs fs h j;omega
     have p2:sN W.length (λh=>Bs h-B h)=sN W.length (λh=>Bs h-B' h)+sN W.length (λh=>if h∈L then 1 else 0):=by
      rw[<-ZZ];exact Zg λh _=>by rw[p];omega
     have p3:0<sN W.length (λh=>if h∈L then(1:Int) else 0):=by refine Int.not_le.mp λz=>?_;obtain⟨x,hx⟩:=List.exists_mem_of_length_pos ql;have:=Uj (λi _=>by split<;>omega) z x ((o x).mp hx).1;rw[kz hx] at this;omega
     omega
    ·rw[MJ (by omega),Dt j,M h j,p];split<;>omega
    ·have:=O h j;rw[p];split<;>omega
    ·rw[p,l4 (λz=>((o b).mp z).2.1 rfl),U];rfl) j0
 have w:Xo (Z8 W D S) b=[]:=by
  refine b5 λq=>?_;have ql:=dw.mpr q;have I:xB (Zj Lc (Zc Y1 [Za 5]) (eC (.int 0))) (st S n)=aA (decide ((0:Int)<((Xo (Z8 W D S) b).length:Int))):=by show aA (decide ((0:Int)<((iL (nL (Xo (Z8 W D S) b))).length:Int)))=_;simp[nL]
  rw[I,decide_eq_true (by omega)] at w3;cases w3
 have free:=debt_nil.mp w;rw[v] at free;have nr:=r S B M;have fB:MS W b t B:=⟨O,U,λh j u=>by rw[<-nr h j];exact free h j u⟩;obtain⟨F,eF,Bu,y⟩:=Fc ok (v S) E
 -- what the rounding left
 have all:=Fp ok cn E (R:=λh=>R h+(- d)*Zp a h) d0 (by show R b+(- d)*Zp a b=0;rw[Rb,Y,bU];rfl)
  (λh j=>by
   have:=Rs h j;rw[bH];omega)
  (λh j u=>by rw[U4 R (λx=>(- d)*Zp a x),Wm,Rg h j u,A,fV,bH];omega) nr fB H Bu y
 refine⟨S,Z8 W D S,F,?_,lS,rfl,free,Bu,y,all⟩;have X:Zs 3 (Zc We [Za 0,Za 1,Za 2]) [aA (wP W),aA (pP D),aA (.int (b:Int)),none,none,none,none]=aA (.nx [aA (wP W),aA (pP D),aA (.int (b:Int)),aA (pP a),none,none,none]):=by have:Zc We [Za 0,Za 1,Za 2] [aA (wP W),aA (pP D),aA (.int (b:Int)),none,none,none,none]=aA (pP a):=en;rw[Ys,this];rfl
 have Q:Zs 4 (Zc UH [Za 0,Za 1,Za 3]) [aA (wP W),aA (pP D),aA (.int (b:Int)),aA (pP a),none,none,none]=aA (.nx [aA (wP W),aA (pP D),aA (.int (b:Int)),aA (pP a),aA (pP (Z8 W D a)),none,none]):=by have:Zc UH [Za 0,Za 1,Za 3] [aA (wP W),aA (pP D),aA (.int (b:Int)),aA (pP a),none,none,none]=aA (pP (Z8 W D a)):=GX ok G l0;rw[Ys,this];rfl
 have T:Zs 5 (Zc YQ [Za 4,Za 2]) [aA (wP W),aA (pP D),aA (.int (b:Int)),aA (pP a),aA (pP (Z8 W D a)),none,none]=aA (.nx (st a none)):=by have:Zc YQ [Za 4,Za 2] [aA (wP W),aA (pP D),aA (.int (b:Int)),aA (pP a),aA (pP (Z8 W D a)),none,none]=aA (.lst (iL (nL (Xo (Z8 W D a) b)))):=Pe (by rw[v];omega);rw[Ys,this];rfl
 show(Zn _ _ [aA (wP W),aA (pP D),aA (.int (b:Int)),none,none,none,none]).bind Tq=_;rw[YB X,YB Q,YB T,YB w1];have g1:Zc Vo [Za 3] (st S n)=aA (pP (Z4 S)):=Ph (by omega) (by omega);have g2:eP (Za 4) (st S n)=aA (pP (Z8 W D S)):=by show(aA (pP (Z8 W D S))).bind (λl=>if Z9 l=aC then aA l else none)=_;simp
 have g3:Zc RL [Za 0,Za 4,Za 2] (st S n)=aA (.lst (iL (nL F))):=eF;rw[MN (by rw[Mo,ZD,ZD,ZD,g1,g2,g3];rfl)];rfl
theorem MT{l:List Int}{n:Nat}(h:l.length=n)(a:n<=1000):RM [pP l,.int (n:Int)]=aA (.bl aC):=by subst h;exact GY a
theorem Dv(Y:Nat->Int){n:Nat}(h:0<n):∃h,h<n/\∀g,g<n->Y g<=Y h:=by obtain⟨x,a,b⟩:=Pf (λi=>- Y i) h;exact⟨x,a,λg c=>by have:=b g c;omega⟩
theorem Dw{W:List (List Int)}(ok:ZP W){h:Nat}(j:h<W.length){P:Nat->Prop}[DecidablePred P]:∀{l:List Nat},l.Nodup->(∀x∈l,x<W.length/\¬P x)->Xu W h l<=sN W.length (λg=>if P g then 0 else ent W h g):=by
 intro l b e
 have gen:∀l:List Nat,l.Nodup->(∀x∈l,x<W.length)->sN W.length (λg=>if g∈l then ent W h g else 0)=(l.map λo=>ent W h o).sum:=by
  intro l
  induction l with
  | nil=>intro _ _;rw[Y6 λi _=>by simp];rfl
  | cons a r ih=>
   intro b lt;rw[bK] at b;rw[dk,jT,<-ih b.2 λx d=>lt x (aT _ d)];have:ent W h a=sN W.length (λg=>if g=a then ent W h a else 0):=by rw[ZX (lt a aZ) λi _ k=>l4 k,kz rfl]
   rw[this,<-ZZ];refine Zg λg f=>?_;by_cases q:g=a
   ·subst q;rw[kz aZ,l4 b.1];omega
   ·by_cases c:g∈r
    ·rw[kz (aT _ c),kz c];omega
    ·rw[l4 (λz=>(a9.mp z).elim q c),l4 q,l4 c];rfl
 unfold Xu;rw[<-gen l b λx d=>(e x d).1]
 have:0<=sN W.length (λg=>(if P g then 0 else ent W h g)+(-1)*(if g∈l then ent W h g else 0)):=Yf λg f=>by
  have:=ok.lo h g j f;by_cases q:g∈l
  ·rw[l4 (e g q).2];omega
  ·rw[l4 q];split<;>omega
 rw[ZZ,ZA] at this;omega
theorem JB{W:List (List Int)}{N M:List Int}{b:Nat}{F:List Nat}(ok:ZP W)(O:b<W.length){T:Nat->Int}(B:Burn W N b F)(all:∀h,h<W.length->h∈F)(A:∀h,h<W.length->Zp M h=Zp N h+gN W T h)(fr:∀h,h<W.length->h≠b->0<=Zp M h):∀h,h<W.length->T h<=T b:=by
 intro x v;refine gn.mp λE=>?_;obtain⟨m,C,p⟩:=Dv T (n:=W.length) (by omega);have L:T b<T m:=by have:=p x v;omega
 -- the first of the greatest that burns
 have w:∀k:Nat,(∃j,j<k/\∃h,F[j]?=aA h/\T h=T m)\/∀j,j<k->∀h,F[j]?=aA h->T h≠T m:=by
  intro k;by_cases q:∃j,j<k/\∃h,F[j]?=aA h/\T h=T m
  ·exact .inl q
  ·exact .inr λj a h c e=>q ⟨j,a,h,c,e⟩
 have first:∀k:Nat,(∃h,F[k]?=aA h/\T h=T m)->∃k h:Nat,F[k]?=aA h/\T h=T m/\∀j,j<k->∀h,F[j]?=aA h->T h≠T m:=by
  intro k
  induction k using kI with
  | ind k ih=>
   rintro⟨h,e,t⟩;rcases w k with⟨j,a,q⟩ | q
   ·exact ih j a q
   ·exact⟨k,h,e,t,q⟩
 obtain⟨D,l,J⟩:=fK (all m C);obtain⟨k,h,i,s,d⟩:=first D ⟨m,by rw[aI l,J],rfl⟩
 have I:1<=k:=by
  refine gO.mp λq=>?_;have:k=0:=by omega
  subst this;rw[B.hd] at i;cases i;omega
 have G:=(aR.mp i).1;have c:=B.lt h (cH i);have st:=B.st k I G;rw[i] at st;obtain⟨_,_,lt⟩:=Pd st;have o:h≠b:=λz=>by rw[z] at s;omega
 have H:(F.take k).Nodup:=B.nd.sublist (jg _ _);have P:=Dw ok c H λy r=>by refine⟨B.lt y (gU r),λz=>?_⟩;obtain⟨j,a,e⟩:=fK r;rw[bP] at a;exact d j (by omega) y (by rw[<-dj (show j<k by omega),aI (by rw[bP];exact a),e]) z
 have R:gN W T h<=- sN W.length (λg=>if T g=T m then 0 else ent W h g):=by
  have:0<=sN W.length (λg=>(-1)*(if T g=T m then 0 else ent W h g)+(-1)*(ent W h g*(T g-T h))):=Yf λg u=>by
   have lo:=ok.lo h g c u;have Q:=p g u;rw[s];by_cases q:T g=T m
   ·rw[q];simp
   ·rw[l4 q];have:0<=ent W h g*(T m-T g-1):=cI lo (by omega);have e:ent W h g*(T m-T g-1)=(-1)*ent W h g+(-1)*(ent W h g*(T g-T m)):=by rw[dh,dh,dh];omega
    omega
  rw[ZZ,ZA,ZA] at this;unfold gN;omega
 have f:=fr h c o;rw[A h c] at f;omega
theorem MU{W:List (List Int)}{N M:List Int}{b:Nat}{F G:List Nat}(ok:ZP W)(d:b<W.length){T:Nat->Int}(s1:RY W b N F)(s2:RY W b M G)(a:∀h,h<W.length->Zp M h=Zp N h+gN W T h):∀h,h<W.length->T h=T b:=by intro h c;have f:=JB ok d s1.burn s1.all a s2.free h c;have g:=JB (T:=λx=>(-1)*T x) ok d s2.burn s2.all (λx e=>by rw[a x e,Wm];omega) s1.free h c;omega
theorem MV{W:List (List Int)}{T:Nat->Int}{c:Int}(e:∀h,h<W.length->T h=c){h:Nat}(a:h<W.length):gN W T h=0:=Y6 λg b=>by rw[e g b,e h a];simp
theorem IP{W:List (List Int)}{D S N:List Int}{b:Nat}{F:List Nat}(ok:ZP W)(s:WO W)(j:D.length=W.length)(n:b<W.length)(v:∀h,h<W.length->(Zp D h).natAbs<=2^208)
  (A:S.length=W.length) (q:N=Z8 W D S) (st:RY W b N F):Yh [wP W,pP D,.int (b:Int)]=aA (.tup [pP (Z4 S),pP N,.lst (iL (nL F))]):=by
 obtain⟨g,k,y,e,r,f,a⟩:=Uy ok s j n v;have B:N.length=W.length:=by rw[q,YI,j]
 have z:k.length=W.length:=by rw[f,YI,j]
 have d:∀h,h<W.length->Zp N h=Zp k h+gN W (λx=>Zp S x+(-1)*Zp g x) h:=λh C=>by rw[q,f,Ul (by omega),Ul (by omega),U4 (Zp S) (λx=>(-1)*Zp g x),Wm];omega
 have o:=MU ok n a st d;obtain⟨c,E⟩:∃c,c=Zp S b+(-1)*Zp g b:=⟨_,rfl⟩;have l:N=k:=X9 (by omega) λi t=>by rw[d i (by omega),MV o (by omega)];omega
 have w:Z4 S=Z4 g:=Rf c (by omega) (by omega) λi t=>by have:=o i (by omega);omega
 have u:F=y:=by have p:=st.burn;have m:=st.stop;rw[l] at p m;exact Burn.uniq p a.burn m a.stop
 rw[e,w,l,u]
theorem Pj{f:Nat->Int}{M:Nat}:∀{n:Nat},(∀i,i<n->(f i).natAbs<=M)->(sN n f).natAbs<=n*M
 | 0,_=>by show(0:Int).natAbs<=_;simp
 | n+1,h=>by have a:=Pj (n:=n) λi c=>h i (by omega);have b:=h n (by omega);show(sN n f+f n).natAbs<=_;rw[jF,jG];omega
theorem U5(l:List Int):l.sum=sN l.length (Zp l):=by rw[<-Y7,ON]
end PW
namespace PM
open PW
noncomputable def mul(m:Nat)(A B:Mt):Mt:=λi j=>sN m λk=>A i k*B k j
noncomputable def one:Mt:=λi j=>if i=j then 1 else 0
noncomputable def EqM(m:Nat)(A B:Mt):Prop:=∀i j,i<m->j<m->A i j=B i j
theorem Dx(c:Int)(f:Nat->Int)(n:Nat):sN n (λi=>f i*c)=sN n f*c:=by rw[bC,<-ZA];exact Zg λi _=>bC _ _
theorem assoc(m:Nat)(A B C:Mt)(i j:Nat):mul m (mul m A B) C i j=mul m A (mul m B C) i j:=by show sN m (λk=>sN m (λl=>A i l*B l k)*C k j)=sN m (λl=>A i l*sN m (λk=>B l k*C k j));rw[Zg (g:=λk=>sN m (λl=>A i l*B l k*C k j)) λk _=>(Dx _ _ _).symm];rw[TR (λk l=>A i l*B l k*C k j)];refine Zg λl _=>?_;rw[<-ZA];exact Zg λk _=>bS _ _ _
theorem mul_one{m:Nat}{A:Mt}{i j:Nat}(a:j<m):mul m A one i j=A i j:=by
 show sN m (λk=>A i k*one k j)=_;rw[ZX a]
 ·unfold one;rw[kz rfl,gQ]
 ·intro k _ h;unfold one;rw[l4 h,bU]
theorem one_mul{m:Nat}{A:Mt}{i j:Nat}(a:i<m):mul m one A i j=A i j:=by
 show sN m (λk=>one i k*A k j)=_;rw[ZX a]
 ·unfold one;rw[kz rfl,cq]
 ·intro k _ h;unfold one;rw[l4 (λz=>h z.symm),bZ]
theorem mul_congr{m:Nat}{A A' B B':Mt}{i j:Nat}(h:∀k,k<m->A i k=A' i k)(b:∀k,k<m->B k j=B' k j):mul m A B i j=mul m A' B' i j:=Zg λk a=>by rw[h k a,b k a]
theorem EqM.mulL{m:Nat}{A A' B:Mt}(h:EqM m A A'):EqM m (mul m A B) (mul m A' B):=λi j b c=>mul_congr (λk a=>h i k b a) λ_ _=>rfl
theorem EqM.mulR{m:Nat}{A B B':Mt}(h:EqM m B B'):EqM m (mul m A B) (mul m A B'):=λi j c b=>mul_congr (λ_ _=>rfl) λk a=>h k j a b
theorem EqM.trans{m:Nat}{A B C:Mt}(h:EqM m A B)(c:EqM m B C):EqM m A C:=λi j a b=>(h i j a b).trans (c i j a b)
noncomputable def tr(A:Mt):Mt:=λi j=>A j i
theorem S4(m:Nat)(A B:Mt)(i j:Nat):tr (mul m A B) i j=mul m (tr B) (tr A) i j:=Zg λk _=>bC _ _
theorem R3{m:Nat}{A A' B B':Mt}(h:EqM m (mul m A A') one)(c:EqM m (mul m B B') one):EqM m (mul m (mul m A B) (mul m B' A')) one:=λi j d f=>by
 rw[assoc];have e:mul m A (mul m B (mul m B' A')) i j=mul m A A' i j:=mul_congr (λ_ _=>rfl) λk a=>by rw[<-assoc,mul_congr (A':=one) (B':=A') (λl b=>c k l a b) (λ_ _=>rfl),one_mul a]
 rw[e];exact h i j d f
structure RT(m p:Nat)(E E':Mt):Prop where
 ex:∃U V:Mt,EqM m (mul m U V) one/\EqM m (mul m V U) one/\(∀i j,i<m->E' i j=mul m U E i j)/\(∀i k,p<=i->i<m->k<p->U i k=0/\V i k=0)
 up:∀i j,i<p->E' i j=E i j
 low:∀i j,m<=i->E' i j=E i j
theorem RT.refl{m p:Nat}{E:Mt}:RT m p E E:=⟨⟨one,one,λi j a b=>mul_one b,λi j a b=>mul_one b,λi j a=>(one_mul a).symm,λi k c d e=>by unfold one;rw[l4 (by omega)];exact⟨rfl,rfl⟩⟩,λ_ _ _=>rfl,λ_ _ _=>rfl⟩
theorem JC{m p:Nat}{U a:Mt}(g:p<=m)(h:∀i k,p<=i->i<m->k<p->U i k=0)(e:∀i k,p<=i->i<m->k<p->a i k=0):∀i k,p<=i->i<m->k<p->mul m U a i k=0:=λi k d f c=>Y6 λl b=>by
 by_cases q:l<p
 ·rw[h i l d f q,bZ]
 ·rw[e l k (by omega) b c,bU]
theorem RT.trans{m p:Nat}{E e b:Mt}(c:p<=m)(h:RT m p E e)(d:RT m p e b):RT m p E b:=by obtain⟨U,V,u,A,q,o⟩:=h.ex;obtain⟨w,t,v,s,B,l⟩:=d.ex;refine⟨⟨mul m w U,mul m V t,R3 v u,R3 A s,λi j a=>?_,λi k f n g=>⟨JC c (λi k x y z=>(l i k x y z).1) (λi k x y z=>(o i k x y z).1) i k f n g,JC c (λi k x y z=>(o i k x y z).2) (λi k x y z=>(l i k x y z).2) i k f n g⟩⟩,λi j a=>(d.up i j a).trans (h.up i j a),λi j a=>(d.low i j a).trans (h.low i j a)⟩;rw[B i j a,assoc];exact mul_congr (λ_ _=>rfl) λk r=>q k j r
theorem RT.back{m p:Nat}{E c:Mt}(h:RT m p E c):RT m p c E:=by obtain⟨U,V,o,l,n,g⟩:=h.ex;refine⟨⟨V,U,l,o,λi j a=>?_,λi k d f e=>⟨(g i k d f e).2,(g i k d f e).1⟩⟩,λi j a=>(h.up i j a).symm,λi j a=>(h.low i j a).symm⟩;rw[mul_congr (A':=V) (B':=mul m U E) (λ_ _=>rfl) (λk b=>n k j b),<-assoc,mul_congr (A':=one) (B':=E) (λk b=>l i k a b) (λ_ _=>rfl),one_mul a]
theorem Ks{c:Int}{f:Nat->Int}:∀{n:Nat},(∀i,i<n->c∣f i)->c∣sN n f
 | 0,_=>cV c
 | n+1,h=>Int.dvd_add (Ks λi a=>h i (by omega)) (h n (by omega))
theorem RT.dvd{m p:Nat}{E a:Mt}(h:RT m p E a){c:Int}{j:Nat}(g:∀i,p<=i->i<m->c∣E i j):∀i,p<=i->i<m->c∣a i j:=λi f b=>by
 obtain⟨U,V,n,o,d,l⟩:=h.ex;rw[d i j b];refine Ks λk e=>?_;by_cases q:k<p
 ·rw[(l i k f b q).1,bZ];exact cV c
 ·exact iH (g k (by omega) e)
theorem RT.sub{m p a b:Nat}{q:Int}{E:Mt}(C:p<=a)(u:a<m)(D:p<=b)(n:b<m)(ne:a≠b):RT m p E (λi j=>if i=a then E i j-q*E b j else E i j):=by
 have f:∀(c:Int)(i:Nat)(F:Mt)(j:Nat),i<m->mul m (λi k=>one i k+(if i=a/\k=b then c else 0)) F i j=F i j+(if i=a then c*F b j else 0):=λc i F j e=>by
  show sN m (λk=>(one i k+(if i=a/\k=b then c else 0))*F k j)=_;rw[Zg (g:=λk=>one i k*F k j+(if i=a/\k=b then c else 0)*F k j) λk _=>jB _ _ _,ZZ];have o:sN m (λk=>one i k*F k j)=F i j:=one_mul (A:=F) e;rw[o];congr 1;by_cases z:i=a
  ·rw[kz z,ZX n]
   ·rw[kz ⟨z,rfl⟩]
   ·intro k _ r;rw[l4 (λw=>r w.2),bZ]
  ·rw[l4 z];exact Y6 λk _=>by rw[l4 (λw=>z w.1),bZ]
 have l:∀(c d:Int)(i j:Nat),c = - d->(one i j+(if i=a/\j=b then d else 0))+(if i=a then c*(one b j+(if b=a/\j=b then d else 0)) else 0)=one i j:=λc d i j h=>by
  have v:=aw ne;by_cases z:i=a
  ·simp only[z,true_and,if_true,v,false_and,if_false,gD];by_cases w:j=b
   ·subst w;simp[one];omega
   ·have y:¬b=j:=λx=>w x.symm;simp[one,w,y]
  ·simp[z]
 refine⟨⟨λi k=>one i k+(if i=a/\k=b then -q else 0),λi k=>one i k+(if i=a/\k=b then q else 0),λi j e t=>?_,λi j e t=>?_,λi j e=>?_,λi k B H G=>?_⟩,λi j e=>?_,λi j e=>?_⟩
 ·exact(f _ i _ j e).trans (l (-q) q i j (by omega))
 ·exact(f _ i _ j e).trans (l q (-q) i j (by omega))
 ·rw[f _ i _ j e];by_cases z:i=a
  ·rw[kz z,kz z,bH];omega
  ·rw[l4 z,l4 z];omega
 ·have o:¬i=k:=by omega
  have s:¬k=b:=by omega
  simp[one,o,s]
 ·show(if i=a then _ else _)=_;rw[l4 (by omega)]
 ·show(if i=a then _ else _)=_;rw[l4 (by omega)]
noncomputable def sw(a b i:Nat):Nat:=if i=a then b else if i=b then a else i
theorem Zai(a b i:Nat):sw a b (sw a b i)=i:=by unfold sw;split<;>(try split)<;>(try split)<;>omega
theorem sw_lt{a b i m:Nat}(d:a<m)(c:b<m)(e:i<m):sw a b i<m:=by unfold sw;split<;>(try split)<;>omega
theorem RT.swap{m p a b:Nat}{E:Mt}(h:p<=a)(f:a<m)(l:p<=b)(e:b<m):RT m p E (λi j=>E (sw a b i) j):=by
 have d:∀(F:Mt)(i j:Nat),i<m->mul m (λi k=>one (sw a b i) k) F i j=F (sw a b i) j:=λF i j c=>one_mul (A:=F) (sw_lt f e c);have inv:EqM m (mul m (λi k=>one (sw a b i) k) (λi k=>one (sw a b i) k)) one:=λi j c q=>by rw[d _ i j c,Zai]
 refine⟨⟨_,_,inv,inv,λi j c=>(d E i j c).symm,λi k g o n=>?_⟩,λi j c=>?_,λi j c=>?_⟩
 ·have:one (sw a b i) k=0:=by
   unfold one sw;rw[l4];split<;>(try split)<;>omega
  exact⟨this,this⟩
 ·show E (sw a b i) j=_;unfold sw;rw[l4 (by omega),l4 (by omega)]
 ·show E (sw a b i) j=_;unfold sw;rw[l4 (by omega),l4 (by omega)]
theorem RT.neg{m p a:Nat}{E:Mt}(h:p<=a)(d:a<m):RT m p E (λi j=>if i=a then-E i j else E i j):=by
 have c:∀(F:Mt)(i j:Nat),i<m->mul m (λi k=>if i=a then-one i k else one i k) F i j=if i=a then-F i j else F i j:=λF i j b=>by
  have e:sN m (λk=>one i k*F k j)=F i j:=one_mul (A:=F) b;by_cases z:i=a
  ·show sN m (λk=>(if i=a then-one i k else one i k)*F k j)=_;rw[kz z,<-e,Zg (g:=λk=>(-1)*(one i k*F k j)) λk _=>by rw[kz z,bH];omega,ZA];omega
  ·show sN m (λk=>(if i=a then-one i k else one i k)*F k j)=_;rw[l4 z,<-e];exact Zg λk _=>by rw[l4 z]
 have inv:EqM m (mul m (λi k=>if i=a then-one i k else one i k) (λi k=>if i=a then-one i k else one i k)) one:=λi j b o=>by
  rw[c _ i j b];split
  ·omega
  ·rfl
 refine⟨⟨_,_,inv,inv,λi j b=>(c E i j b).symm,λi k f n l=>?_⟩,λi j b=>?_,λi j b=>?_⟩
 ·have:one i k=0:=by unfold one;rw[l4 (by omega)]
  simp only[this];split<;>exact⟨rfl,rfl⟩
 ·show(if i=a then _ else _)=_;rw[l4 (by omega)]
 ·show(if i=a then _ else _)=_;rw[l4 (by omega)]
structure Adm(m:Nat)(A0 E:Mt):Prop where
 ex:∃L' R':Mt,EqM m (mul m (λi k=>E i (m+k)) L') one/\EqM m (mul m L' (λi k=>E i (m+k))) one/\EqM m (mul m (λi k=>E (m+i) k) R') one/\EqM m (mul m R' (λi k=>E (m+i) k)) one
 val:EqM m (mul m (λi k=>E i (m+k)) (mul m A0 (λi k=>E (m+i) k))) E
 nil:∀i j,i<m->j<m->E (m+i) (m+j)=0
theorem Adm.rt{m p:Nat}{d E c:Mt}(h:Adm m d E)(r:RT m p E c):Adm m d c:=by obtain⟨U,V,q,v,g,x⟩:=r.ex;obtain⟨t,o,s,n,w,u⟩:=h.ex;have f:EqM m (λi k=>c i (m+k)) (mul m U (λi k=>E i (m+k))):=λi j b a=>g i (m+j) b;have e:EqM m (λi k=>c (m+i) k) (λi k=>E (m+i) k):=λi j b a=>r.low _ _ (by omega);refine⟨⟨mul m t V,o,(f.mulL).trans (R3 q s),(f.mulR).trans (R3 n v),(e.mulL).trans w,(e.mulR).trans u⟩,λi j b a=>?_,λi j b a=>by rw[r.low _ _ (by omega)];exact h.nil i j b a⟩;rw[g i j b,f.mulL i j b a,assoc];refine mul_congr (λ_ _=>rfl) λk l=>?_;rw[EqM.mulR (A:=λi k=>E i (m+k)) (EqM.mulR (A:=d) e) k j l a];exact h.val k j l a
theorem Adm.tr{m:Nat}{c E:Mt}(h:Adm m c E):Adm m (tr c) (tr E):=by
 obtain⟨g,f,o,l,r,p⟩:=h.ex
 have d:EqM m (PM.tr one) one:=λi j _ _=>by
  unfold PM.tr one;by_cases q:i=j
  ·rw[kz q,kz q.symm]
  ·rw[l4 q,l4 (λz=>q z.symm)]
 refine⟨⟨PM.tr f,PM.tr g,λi j b a=>?_,λi j b a=>?_,λi j b a=>?_,λi j b a=>?_⟩,λi j b a=>?_,λi j b a=>h.nil j i a b⟩
 ·exact((S4 m f (λi k=>E (m+i) k) i j).symm.trans (p j i a b)).trans (d i j b a)
 ·exact((S4 m (λi k=>E (m+i) k) f i j).symm.trans (r j i a b)).trans (d i j b a)
 ·exact((S4 m g (λi k=>E i (m+k)) i j).symm.trans (l j i a b)).trans (d i j b a)
 ·exact((S4 m (λi k=>E i (m+k)) g i j).symm.trans (o j i a b)).trans (d i j b a)
 ·have e:=h.val j i a b;show mul m (λi k=>E (m+k) i) (mul m (PM.tr c) (λi k=>E k (m+i))) i j=E j i;rw[<-e,<-assoc];have q:=S4 m (λi k=>E i (m+k)) (mul m c (λi k=>E (m+i) k)) i j;have n:mul m (PM.tr (mul m c (λi k=>E (m+i) k))) (PM.tr (λi k=>E i (m+k))) i j=mul m (mul m (λi k=>E (m+k) i) (PM.tr c)) (λi k=>E k (m+i)) i j:=mul_congr (λk _=>S4 m c (λi k=>E (m+i) k) i k) λ_ _=>rfl;exact(q.trans n).symm
theorem Adm.div{m:Nat}{d b E:Mt}{D:Int}(h:Adm m d E)(u:EqM m (mul m b d) (λi j=>D*one i j)){c:Int}{j:Nat}(p:j<m)(t:∀i,i<m->c∣E i j):c∣D:=by
 obtain⟨f,a,v,r,w,s⟩:=h.ex
 have e:mul m (mul m a (mul m b f)) E j j=D:=by
  have s1:mul m (mul m a (mul m b f)) E j j=mul m a (mul m (mul m b f) E) j j:=assoc ..;rw[s1]
  have s2:∀k,k<m->mul m (mul m b f) E k j=D*E (m+k) j:=λk n=>by
   rw[assoc];rw[mul_congr (A':=b) (B':=mul m d (λi k=>E (m+i) k)) (λ_ _=>rfl) (λl o=>?_)]
   ·rw[<-assoc,mul_congr (A':=λi j=>D*one i j) (B':=λi k=>E (m+i) k) (λl o=>u k l n o) (λ_ _=>rfl)];show sN m (λl=>D*one k l*E (m+l) j)=_;rw[Zg (g:=λl=>D*(one k l*E (m+l) j)) λl _=>bS _ _ _,ZA];congr 1;exact one_mul (A:=λi k=>E (m+i) k) n
   ·rw[mul_congr (A':=f) (B':=mul m (λi k=>E i (m+k)) (mul m d (λi k=>E (m+i) k))) (λ_ _=>rfl) (λi q=>(h.val i j q p).symm),<-assoc,mul_congr (A':=one) (B':=mul m d (λi k=>E (m+i) k)) (λi q=>r l i o q) (λ_ _=>rfl),one_mul o]
  rw[mul_congr (A':=a) (B':=λk j=>D*E (m+k) j) (λ_ _=>rfl) s2];show sN m (λk=>a j k*(D*E (m+k) j))=D;rw[Zg (g:=λk=>D*(a j k*E (m+k) j)) λk _=>by rw[<-bS,bC (a j k),bS],ZA];have:sN m (λk=>a j k*E (m+k) j)=1:=by have:=s j j p p;unfold one at this;rw[kz rfl] at this;exact this
  rw[this,gQ]
 rw[<-e];exact Ks λk n=>iH (t k n)
noncomputable def UJ(i c:Nat):Nat:=if c<i then c else c+1
theorem Fq(f:Nat->Int):∀n,sN (n+1) f=f 0+sN n λj=>f (j+1)
 | 0=>by show 0+f 0=f 0+0;omega
 | n+1=>by show sN (n+1) f+f (n+1)=f 0+(sN n (λj=>f (j+1))+f (n+1));rw[Fq f n];omega
theorem Fs(r s:Nat):UJ (r+1) (s+1)=UJ r s+1:=by unfold UJ;split<;>split<;>omega
theorem MW:∀{n:Nat}{A:Mt}{i:Nat},i<n+1->Yb (n+1) (YU 0 (λc=>if c=i then 1 else 0) A)=sg i*Yb n (λr c=>A (r+1) (UJ i c))
 | n,A,0,_=>by
  rw[Yo,ZX (k:=0) (by omega)]
  ·rw[Z1,kz rfl];show 1*1*Yb n _=1*Yb n _;rw[cq,cq];rw[cq];exact ZS λr c _ _=>by show YU 0 _ A (if r<0 then r else r+1) (c+1)=A (r+1) (UJ 0 c);rw[l4 (by omega),YX _ _ (by omega)];rfl
  ·intro r a f;rw[TU (k:=0) (by omega) λc b=>?_,bU];show YU 0 _ A (if 0<r then 0 else 0+1) (c+1)=0;rw[kz (by omega),Z1,l4 (by omega)]
 | 0,A,i+1,h=>by omega
 | n+1,A,i+1,h=>by
  rw[Yo,Fq];have z:sg 0*YU 0 (λc=>if c=i+1 then 1 else 0) A 0 0*Yb (n+1) (VP 0 (YU 0 (λc=>if c=i+1 then 1 else 0) A))=0:=by rw[Z1,l4 (by omega),bU,bZ]
  rw[z,jn,Yo,<-ZA];refine Zg λr a=>?_
  have e:Yb (n+1) (VP (r+1) (YU 0 (λc=>if c=i+1 then 1 else 0) A))=Yb (n+1) (YU 0 (λc=>if c=i then 1 else 0) (VP (r+1) A)):=ZS λs c g b=>by
   by_cases q:s=0
   ·subst q;show YU 0 _ A (if 0<r+1 then 0 else 0+1) (c+1)=_;rw[kz (by omega),Z1,Z1];by_cases w:c=i
    ·rw[kz w,kz (by omega)]
    ·rw[l4 w,l4 (by omega)]
   ·rw[YX _ _ q];show YU 0 _ A (if s<r+1 then s else s+1) (c+1)=A (if s<r+1 then s else s+1) (c+1);rw[YX];split<;>omega
  rw[e,MW (n:=n) (i:=i) (by omega),YX _ _ (by omega)];have d:Yb n (λs c=>VP (r+1) A (s+1) (UJ i c))=Yb n (VP r (λr c=>A (r+1) (UJ (i+1) c))):=ZS λs c _ _=>by show A (UJ (r+1) (s+1)) (UJ i c+1)=A (UJ r s+1) (UJ (i+1) (c+1));rw[Fs,Fs]
  rw[d];show-sg r*A (r+1) 0*(sg i*_) = - sg i*(sg r*A (r+1) 0*_);rw[bH,bH,bH,cD]
theorem Dy{n:Nat}{A:Mt}:Yb (n+1) A=sN (n+1) λi=>sg i*A 0 i*Yb n (λr c=>A (r+1) (UJ i c)):=by have h:=Jn (n:=n+1) (A:=A) (j:=0) (by omega) (A 0);rw[MM] at h;rw[<-h];refine Zg λi a=>?_;unfold NM;rw[MW a,<-bS,bC (A 0 i)]
theorem NP:∀{n:Nat}{A:Mt},Yb n (tr A)=Yb n A
 | 0,_=>rfl
 | n+1,A=>by rw[Yo,Dy];refine Zg λi a=>?_;have e:Yb n (VP i (tr A))=Yb n (tr λr c=>A (r+1) (UJ i c)):=rfl;rw[e,NP];rfl
theorem pig:∀(m:Nat)(ρ:Nat->Nat)(j:Nat),(∀a,a<j->ρ a<m)->m<j->∃a b,a<b/\b<j/\ρ a=ρ b
 | 0,ρ,j,h,hj=>by have:=h 0 hj;omega
 | m+1,ρ,0,h,hj=>by omega
 | m+1,ρ,j+1,h,hj=>by
  by_cases q:∃a,a<j/\ρ a=ρ j
  ·obtain⟨a,d,f⟩:=q;exact⟨a,j,d,by omega,f⟩
  ·have ne:∀a,a<j->ρ a≠ρ j:=λa e z=>q ⟨a,e,z⟩
   obtain⟨a,b,d,f,c⟩:=pig m (λa=>if ρ a=m then ρ j else ρ a) j (λa e=>by
    have d:=h a (by omega);have f:=h j (by omega);have c:=ne a e;show(if ρ a=m then ρ j else ρ a)<m;split<;>omega) (by omega)
   refine⟨a,b,d,by omega,?_⟩;have g:=ne a (by omega);have i:=ne b (by omega);have c:(if ρ a=m then ρ j else ρ a)=if ρ b=m then ρ j else ρ b:=c
   split at c<;>split at c<;>omega
theorem OA{m k j:Nat}{E:Mt}{d h:Nat->Nat}(e:∀a,a<j->k<=d a/\d a<m)(n:m-k<j):Yb j (λa b=>E (d a) (h b))=0:=by
 obtain⟨a,b,o,f,g⟩:=pig (m-k) (λa=>d a-k) j (λa l=>by have:=e a l;show d a-k<m-k;omega) n;have p:=e a (by omega);have q:=e b f;have g:d a-k=d b-k:=g;exact Uh (i:=a) (j:=b) (by omega) f (by omega) λc _=>by rw[show d a=d b by omega]
noncomputable def Mn(m k T:Nat)(E:Mt):Prop:=∀(j:Nat)(ρ σ:Nat->Nat),(∀a,a<j->k<=ρ a/\ρ a<m)->(∀a,a<j->k<=σ a/\σ a<m)->(Yb j (λa b=>E (ρ a) (σ b))).natAbs<=T
theorem Mn.tr{m k T:Nat}{E:Mt}(h:Mn m k T E):Mn m k T (PM.tr E):=λj d c f g=>by have e:Yb j (λa b=>PM.tr E (d a) (c b))=Yb j (PM.tr λa b=>E (c a) (d b)):=rfl;rw[e,NP];exact h j c d g f
theorem Mn.up{m k T a:Nat}{E:Mt}(h:Mn m k T E)(l:T<=a):Mn m k a E:=λj e c b d=>aU (h j e c b d) l
theorem Mn.ab{m k T:Nat}{E:Mt}(h:Mn m k T E){i j:Nat}(a:k<=i)(b:i<m)(d:k<=j)(c:j<m):(E i j).natAbs<=T:=by
 have:=h 1 (λ_=>i) (λ_=>j) (λ_ _=>⟨a,b⟩) (λ_ _=>⟨d,c⟩);have e:Yb 1 (λ_ _=>E i j)=E i j:=by show 0+1*E i j*1=_;omega
 rwa [e] at this
theorem Mn.rows{m k T:Nat}{E:Mt}(h:Mn m k T E)(f:Nat->Nat)(e:∀i,k<=i->i<m->k<=f i/\f i<m):Mn m k T (λi j=>E (f i) j):=λj l d b g=>h j (λa=>f (l a)) d (λa c=>e _ (b a c).1 (b a c).2) g
theorem Kt:∀i,(sg i).natAbs=1
 | 0=>rfl
 | i+1=>by show(- sg i).natAbs=1;rw[gE];exact Kt i
theorem Mn.turn{m k T:Nat}{E g:Mt}{q:Nat->Int}(h7:m<=7)(hk:k<m)(h:Mn m k T E)(nz:E k k≠0)(e:∀i j,k<=i->i<m->g i j=E i j-q i*E k j)(r:∀i,k<=i->i<m->(g i k).natAbs<=(E k k).natAbs):Mn m k (8*T) g:=λj v f w I=>by
 by_cases z:m-k<j
 ·rw[OA w z];exact cO _
 obtain⟨R,O⟩:∃R:Nat->Nat,∀a,R a=if a=0 then k else v (a-1):=⟨_,λ_=>rfl⟩
 obtain⟨S,G⟩:∃S:Nat->Nat,∀a,S a=if a=0 then k else f (a-1):=⟨_,λ_=>rfl⟩
 have p:R 0=k:=by rw[O,kz rfl]
 have x:S 0=k:=by rw[G,kz rfl]
 have C:∀a,R (a+1)=v a:=λa=>by rw[O,l4 (by omega),j7]
 have t:∀a,S (a+1)=f a:=λa=>by rw[G,l4 (by omega),j7]
 have n:∀a,a<j+1->k<=R a/\R a<m:=λa l=>by
  cases a with
  | zero=>rw[p];omega
  | succ a=>rw[C];exact w a (by omega)
 have Q:∀a,a<j+1->k<=S a/\S a<m:=λa l=>by
  cases a with
  | zero=>rw[x];omega
  | succ a=>rw[t];exact I a (by omega)
 obtain⟨X,H⟩:∃X:Mt,X=λa b=>if a=0 then E k (S b) else g (R a) (S b):=⟨_,rfl⟩
 have y:∀b,X 0 b=E k (S b):=λb=>by rw[H];exact kz rfl
 have u:∀a b,a≠0->X a b=g (R a) (S b):=λa b h=>by rw[H];exact l4 h
 have U:Yb (j+1) X=Yb (j+1) (λa b=>E (R a) (S b)):=Pa (q:=0) (k:=λa=>- q (R a)) (by omega) (λc B=>by rw[y,p]) λa c l B P=>by rw[u a c P,p,e _ _ (n a l).1 (n a l).2,bH];omega
 have o:=h (j+1) R S n Q;rw[<-U,Yo,Fq] at o;have W:X 0 0=E k k:=by rw[y,x]
 have Z:Yb j (VP 0 X)=Yb j (λa b=>g (v a) (f b)):=ZS λa b _ _=>by
  show X (UJ 0 a) (b+1)=_;have A:UJ 0 a=a+1:=by unfold UJ;rw[l4 (by omega)]
  rw[A,u _ _ (by omega),C,t]
 have Ym:(sN j λi=>sg (i+1)*X (i+1) 0*Yb j (VP (i+1) X)).natAbs<=j*((E k k).natAbs*T):=Pj λi J=>by
  rw[bh,bh,Kt,jG];refine bu ?_ ?_
  ·rw[u _ _ (by omega),C,x];exact r _ (w i J).1 (w i J).2
  ·have D:UJ (i+1) 0=0:=by unfold UJ;rw[kz (by omega)]
   have Y:Yb j (VP (i+1) X)=Yb j (λa b=>E (R (UJ (i+1) a)) (f b)):=Pa (q:=0) (k:=λa=>- q (R (UJ (i+1) a))) (by omega) (λc B=>by
    show X (UJ (i+1) 0) (c+1)=E (R (UJ (i+1) 0)) (f c)
    rw[D,y,p,t]) λa c l B P=>by
    have A:UJ (i+1) a≠0:=by unfold UJ;split<;>omega
    have M:UJ (i+1) a<j+1:=by unfold UJ;split<;>omega
    show X (UJ (i+1) a) (c+1)=E (R (UJ (i+1) a)) (f c) + - q (R (UJ (i+1) a))*E (R (UJ (i+1) 0)) (f c);rw[u _ _ A,D,p,t,e _ _ (n _ M).1 (n _ M).2,bH];omega
   rw[Y];refine h j (λa=>R (UJ (i+1) a)) f (λa l=>n _ ?_) I;unfold UJ;split<;>omega
 rw[Z,W] at o;generalize Yb j (λa b=>g (v a) (f b))=d at o ⊢;generalize (sN j λi=>sg (i+1)*X (i+1) 0*Yb j (VP (i+1) X))=s at o Ym;have N:1<=(E k k).natAbs:=by omega
 have F:(E k k*d).natAbs<=T+j*((E k k).natAbs*T):=by
  have L:(sg 0*E k k*d)=E k k*d:=by show 1*E k k*d=_;rw[cq]
  rw[L] at o;omega
 rw[bh] at F;refine Nat.le_of_mul_le_mul_left (aU F ?_) N;have L:T<=(E k k).natAbs*T:=gF _ N;have h3:j*((E k k).natAbs*T)<=7*((E k k).natAbs*T):=bp _ (by omega);rw[el (E k k).natAbs 8 T];omega
noncomputable def fct:Nat->Nat
 | 0=>1
 | n+1=>(n+1)*fct n
theorem JD{B:Nat}:∀{j:Nat}{A:Mt},(∀a b,a<j->b<j->(A a b).natAbs<=B)->(Yb j A).natAbs<=fct j*B^j
 | 0,_,_=>aL _
 | j+1,A,h=>by
  rw[Yo]
  have:=Pj (n:=j+1) (f:=λi=>sg i*A i 0*Yb j (VP i A)) (M:=B*(fct j*B^j)) λi c=>by
   rw[bh,bh,Kt,jG];refine bu (h i 0 c (by omega)) (JD λa b e d=>h _ _ ?_ (by omega));split<;>omega
  refine aU this ?_;show(j+1)*(B*(fct j*B^j))<=(j+1)*fct j*B^(j+1);rw[di,dt,el B,cT B];exact aL _
theorem MX{B:Nat}(a:1<=B):∀{n j:Nat},j<=n->fct j*B^j<=fct n*B^n
 | 0,j,h=>by rw[show j=0 by omega];exact aL _
 | n+1,j,h=>by
  by_cases q:j=n+1
  ·rw[q];exact aL _
  ·refine aU (MX a (n:=n) (by omega)) ?_;refine bu (gF _ (by omega)) (jH a (by omega))
theorem Mn.ent{m k n B:Nat}{E:Mt}(l:1<=B)(p:m-k<=n)(h:∀i j,k<=i->i<m->k<=j->j<m->(E i j).natAbs<=B):Mn m k (fct n*B^n) E:=λj q o c e=>by
 by_cases d:m-k<j
 ·rw[OA c d];exact cO _
 ·exact aU (JD λa b g f=>h _ _ (c a g).1 (c a g).2 (e b f).1 (e b f).2) (MX l (by omega))
theorem Mn.same{m k T:Nat}{E n:Mt}{q:Nat->Int}(h:Mn m k T E)(x:q k=0)(e:∀i j,k<=i->i<m->n i j=E i j-q i*E k j)(z:∀i,k<i->i<m->n i k=0)(u:∀j,k<j->j<m->E k j=0):Mn m k T n:=λj d f g r=>by
 by_cases s:∃a,a<j/\d a=k
 ·obtain⟨a,l,t⟩:=s
  rw[Pa (q:=a) (A:=λa b=>E (d a) (f b)) (k:=λb=>- q (d b)) l (λc p=>by show n (d a) (f c)=E (d a) (f c);rw[e _ _ (g a l).1 (g a l).2,t,x];simp) λb c o p _=>by
   show n (d b) (f c)=E (d b) (f c) + - q (d b)*E (d a) (f c);rw[e _ _ (g b o).1 (g b o).2,t,bH];omega]
  exact h j d f g r
 ·have lo:∀a,a<j->k<d a:=λa l=>dU (g a l).1 λw=>s ⟨a,l,w.symm⟩;by_cases p:∃b,b<j/\f b=k
  ·obtain⟨b,o,y⟩:=p
   have v:Yb j (λa b=>n (d a) (f b))=0:=by
    rw[<-NP];exact TU (k:=b) o λc p=>by show n (d c) (f b)=0;rw[y];exact z _ (lo c p) (g c p).2
   rw[v];exact cO _
  ·rw[ZS (B:=λa b=>E (d a) (f b)) λa b l o=>by
    have:k<f b:=dU (r b o).1 λw=>p ⟨b,o,w.symm⟩;show n (d a) (f b)=E (d a) (f b);rw[e _ _ (g a l).1 (g a l).2,u _ this (r b o).2];simp]
   exact h j d f g r
theorem Mn.less{m k u T:Nat}{E g:Mt}(H:k<u)(x:u<m)(h:Mn m k T E)(J:∀j,g k j=E k j-1*E u j)(D:∀i j,i≠k->g i j=E i j)(z:∀i,k<i->i<m->E i k=0)(I:∀j,k<j->j<m->E k j=0):Mn m k T g:=λj e d r q=>by
 by_cases F:∃a,a<j/\e a=k
 ·obtain⟨a,p,A⟩:=F;by_cases G:∃b,b<j/\b≠a/\e b=k
  ·obtain⟨b,f,n,C⟩:=G;have s:Yb j (λa b=>g (e a) (d b))=0:=Uh f p n λc _=>by show g (e b) (d c)=g (e a) (d c);rw[A,C]
   rw[s];exact cO _
  ·have only:∀b,b<j->b≠a->e b≠k:=λb f n w=>G ⟨b,f,n,w⟩;obtain⟨R,v⟩:∃R:Nat->Nat,∀b,R b=if b=a then u else e b:=⟨_,λ_=>rfl⟩
   have t:Yb j (λa b=>g (e a) (d b))=1*Yb j (λa b=>E (e a) (d b))+(-1)*Yb j (λa b=>E (R a) (d b)):=NL (k:=a) p (λb c f l n=>by
    refine⟨?_,?_⟩
    ·show E (e b) (d c)=g (e b) (d c);rw[D _ _ (only b f n)]
    ·show E (R b) (d c)=g (e b) (d c)
     rw[v,l4 n,D _ _ (only b f n)]) λc l=>by
    show g (e a) (d c)=1*E (e a) (d c)+(-1)*E (R a) (d c);rw[A,v,kz rfl,J];omega
   by_cases l:∃b,b<j/\d b=k
   ·obtain⟨b,f,C⟩:=l
    have s:Yb j (λa b=>E (R a) (d b))=0:=by
     rw[<-NP]
     exact TU (k:=b) f λc l=>by
      show E (R c) (d b)=0;rw[C,v];by_cases w:c=a
      ·rw[kz w];exact z u H x
      ·rw[l4 w];exact z _ (dU (r c l).1 λy=>only c l w y.symm) (r c l).2
    rw[t,s,cq,bU,gD];exact h j e d r q
   ·have s:Yb j (λa b=>E (e a) (d b))=0:=TU (k:=a) p λc o=>by show E (e a) (d c)=0;rw[A];exact I _ (dU (q c o).1 λw=>l ⟨c,o,w.symm⟩) (q c o).2
    rw[t,s]
    have:=h j R d (λb f=>by
     rw[v];split
     ·omega
     ·exact r b f) q
    omega
 ·rw[ZS (B:=λa b=>E (e a) (d b)) λa b p f=>D _ _ λw=>F ⟨a,p,w⟩];exact h j e d r q
theorem Ft{x p:Int}(d:0<=x)(c:0<p):(x.fdiv p).natAbs=x.natAbs/p.natAbs/\(x-x.fdiv p*p).natAbs=x.natAbs%p.natAbs/\0<=(x-x.fdiv p*p)*p:=by
 obtain⟨a,rfl⟩:=iO d;obtain⟨b,rfl⟩:=iO (g7 c);have e:(a:Int).fdiv (b:Int)=((a/b:Nat):Int):=by rw[dN _ (g7 c)];exact(Int.natCast_ediv a b).symm
 have r:(a:Int)-((a/b:Nat):Int)*(b:Int)=((a%b:Nat):Int):=by
  have:=kL a b;have h:(b:Int)*((a/b:Nat):Int)+((a%b:Nat):Int)=(a:Int):=by exact_mod_cast this
  rw[bC] at h;omega
 rw[e,r];exact⟨rfl,rfl,cI (j8 _) (j8 _)⟩
theorem Dz{x p:Int}(h:0<=x*p)(d:p≠0):(x.fdiv p).natAbs=x.natAbs/p.natAbs/\(x-x.fdiv p*p).natAbs=x.natAbs%p.natAbs/\0<=(x-x.fdiv p*p)*p:=by
 rcases eM d with c | a
 ·have f:x<=0:=by refine gn.mp λz=>?_;have:=Int.mul_neg_of_pos_of_neg z c;omega
  have:=Ft (x:=-x) (p:=-p) (by omega) (by omega);rw[kA,gE,gE] at this;refine⟨this.1,?_,?_⟩
  ·rw[<-this.2.1,<-gE];congr 1;rw[gV];omega
  ·have b:=this.2.2;have e:(-x-x.fdiv p * -p) * -p=(x-x.fdiv p*p)*p:=by rw[gV,<-bH,gV];congr 1;omega
   rw[e] at b;exact b
 ·refine Ft (gn.mp λz=>?_) a;have:=gx z a;omega
theorem fd_any{x p:Int}(h:p≠0):(x-x.fdiv p*p).natAbs<p.natAbs/\0<=(x-x.fdiv p*p)*p/\(x.fdiv p).natAbs<=x.natAbs+1:=by
 have e:x-x.fdiv p*p=x.fmod p:=by have:=Int.mul_fdiv_add_fmod x p;rw[bC] at this;omega
 have r:(x.fmod p).natAbs<p.natAbs/\0<=x.fmod p*p:=by
  rcases eM h with j | a
  ·have c:=iY (-x) (b:=-p) (by omega);have f:=j9 (-x) (b:=-p) (by omega);rw[Int.neg_fmod_neg] at c f;refine⟨by omega,?_⟩;have:=cI c (show 0<=-p by omega);rw[Int.neg_mul_neg] at this;exact this
  ·have c:=iY x (b:=p) a;have f:=j9 x (b:=p) a;exact⟨by omega,cI c (by omega)⟩
 rw[e];refine⟨r.1,r.2,?_⟩;have i:x.fdiv p*p=x-x.fmod p:=by omega
 have l:(x.fdiv p).natAbs*p.natAbs<=x.natAbs+(x.fmod p).natAbs:=by rw[<-bh,i];exact gy _ _
 refine gO.mp λz=>?_;have d:1<=p.natAbs:=by omega
 have g:(x.natAbs+2)*p.natAbs<=(x.fdiv p).natAbs*p.natAbs:=bp _ z;rw[jF] at g;have k:x.natAbs*1<=x.natAbs*p.natAbs:=bR _ d;omega
noncomputable def Bo(m k j N:Nat)(E:Mt):Prop:=∀i,k<=i->i<m->(E i j).natAbs<=N
structure Fst(m k:Nat)(E:Mt)(f:Nat):Prop where
 lo:k<f
 hi:f<m
 ne:E f k≠0
 ze:∀i,k<i->i<f->E i k=0
noncomputable def red(m k:Nat)(E:Mt):Mt:=λi j=>if k<i/\i<m then E i j-(E i k).fdiv (E k k)*E k j else E i j
theorem red_k{m k j:Nat}{E:Mt}:red m k E k j=E k j:=by unfold red;rw[l4 (by omega)]
theorem TX{m k i j:Nat}{E:Mt}(h:k<i)(a:i<m):red m k E i j=E i j-(E i k).fdiv (E k k)*E k j:=by unfold red;rw[kz ⟨h,a⟩]
theorem RT.many{m k:Nat}{E:Mt}(q:Nat->Int)(d:k<m):RT m k E (λi j=>if k<i/\i<m then E i j-q i*E k j else E i j):=by
 have g:∀t,t<=m->RT m k E (λi j=>if k<i/\i<t then E i j-q i*E k j else E i j):=by
  intro t
  induction t with
  | zero=>intro _;rw[show(λi j=>if k<i/\i<0 then E i j-q i*E k j else E i j)=E from funext λi=>funext λj=>l4 (by omega)];exact RT.refl
  | succ t ih=>
   intro h;have c:=ih (by omega);by_cases z:k<t
   ·refine c.trans (by omega) ?_;have f:=RT.sub (m:=m) (p:=k) (a:=t) (b:=k) (q:=q t) (E:=λi j=>if k<i/\i<t then E i j-q i*E k j else E i j) (by omega) (by omega) (aL _) d (by omega)
    have e:(λi j=>if k<i/\i<t+1 then E i j-q i*E k j else E i j)=(λi j=>if i=t then(if k<i/\i<t then E i j-q i*E k j else E i j)-q t*(if k<k/\k<t then E k j-q k*E k j else E k j) else if k<i/\i<t then E i j-q i*E k j else E i j):=by
     funext i j;rw[l4 (show ¬(k<k/\k<t) by omega)];by_cases w:i=t
     ·subst w;rw[kz ⟨z,by omega⟩,kz rfl,l4 (by omega)]
     ·rw[l4 w];by_cases y:k<i/\i<t
      ·rw[kz y,kz ⟨y.1,by omega⟩]
      ·rw[l4 y,l4 (by omega)]
    rw[e];exact f
   ·have e:(λi j=>if k<i/\i<t+1 then E i j-q i*E k j else E i j)=(λi j=>if k<i/\i<t then E i j-q i*E k j else E i j):=by funext i j;rw[l4 (by omega),l4 (by omega)]
    rw[e];exact c
 exact g m (aL _)
theorem rt_red{m k:Nat}{E:Mt}(a:k<m):RT m k E (red m k E):=RT.many (λi=>(E i k).fdiv (E k k)) a
open Classical in
noncomputable def pre(k f:Nat)(E:Mt):Mt:=if E k k=0\/(E f k).natAbs<(E k k).natAbs then λi j=>E (sw k f i) j else E
theorem rt_pre{m k f:Nat}{E:Mt}(a:k<m)(h:k<f)(b:f<m):RT m k E (pre k f E):=by
 unfold pre;split
 ·exact RT.swap (aL _) a (by omega) b
 ·exact RT.refl
theorem Ku(a b:Nat):sw a b a=b:=by unfold sw;rw[kz rfl]
theorem BW{a b:Nat}(h:a≠b):sw a b b=a:=by unfold sw;rw[l4 (λz=>h z.symm),kz rfl]
theorem sw_c{a b i:Nat}(h:i≠a)(c:i≠b):sw a b i=i:=by unfold sw;rw[l4 h,l4 c]
structure Hyp(m k:Nat)(E:Mt)(j N M P:Nat):Prop where
 bo:Bo m k j N E
 one:1<=P
 piv:E k k≠0->(E k k).natAbs<=P
 nil:E k k=0->∀i,k<i->i<m->(E i k).natAbs<=P
 col:(∀i,k<=i->i<m->(E i k).natAbs<=M)\/(m=k+2/\E k j=0/\E k k≠0/\(E k k).natAbs<=M)
structure Aft(m k:Nat)(E0 E:Mt):Prop where
 nz:E k k≠0
 sg:∀i,k<i->i<m->(E i k).natAbs<(E k k).natAbs/\0<=E i k*E k k
 dv:E0 k k≠0->(∀i,k<i->i<m->E0 k k∣E0 i k)->E=red m k E0
 pv:∀P,(E0 k k≠0->(E0 k k).natAbs<=P)->(E0 k k=0->∀i,k<i->i<m->(E0 i k).natAbs<=P)->(E k k).natAbs<=P
 po:∀j N M P,Hyp m k E0 j N M P->∃N',Bo m k j N' E/\N'<=2*(N*(M+2)*P^3)/\∀f,Fst m k E f->N'*(E k k).natAbs*((E k k).natAbs*(E f k).natAbs)<=N*(M+2)*P^3
 mn:∀T P,m<=7->Mn m k T E0->1<=P->(E0 k k≠0->(E0 k k).natAbs<=P)->(E0 k k=0->∀i,k<i->i<m->(E0 i k).natAbs<=P)->∃T',Mn m k T' E/\T'<=64*(T*P^6)/\∀f,Fst m k E f->T'*((E k k).natAbs*(E f k).natAbs)^3<=8*(T*P^6)
theorem Kv{x y q:Int}{N Q:Nat}(d:x.natAbs<=N)(c:y.natAbs<=N)(a:q.natAbs<=Q):(x-q*y).natAbs<=N*(1+Q):=by have b:=gy x (q*y);rw[bh] at b;have e:q.natAbs*y.natAbs<=Q*N:=bu a c;rw[Nat.mul_add,Nat.mul_one,cT N Q];omega
theorem Mn.red{m k T:Nat}{E:Mt}(c:m<=7)(d:k<m)(h:Mn m k T E)(b:E k k≠0):Mn m k (8*T) (PM.red m k E):=
 h.turn (q:=λi=>if k<i/\i<m then(E i k).fdiv (E k k) else 0) c d b (λi j e a=>by
  show PM.red m k E i j=E i j-(if k<i/\i<m then(E i k).fdiv (E k k) else 0)*E k j;by_cases q:k<i
  ·rw[TX q a,kz ⟨q,a⟩]
  ·rw[l4 (λw=>q w.1),show i=k by omega,red_k];omega) λi e a=>by
  by_cases q:k<i
  ·rw[TX q a];have:=(fd_any (x:=E i k) b).1;omega
  ·rw[show i=k by omega,red_k];exact aL _
theorem Mn.pre{m k f T:Nat}{E:Mt}(b:k<m)(c:k<f)(a:f<m)(h:Mn m k T E):Mn m k T (PM.pre k f E):=by
 unfold PM.pre;split
 ·exact h.rows (sw k f) λi d e=>by unfold sw;split<;>(try split)<;>omega
 ·exact h
theorem Zaj(p v:Nat):(p*v)^3=p^3*v^3:=Nat.mul_pow p v 3
theorem Aft.first{m k f:Nat}{E:Mt}(d:k<m)(F:Fst m k E f):Aft m k E (red m k (pre k f E)):=by
 have C:=F.lo
 have b:pre k f E k k≠0:=by
  unfold pre;split
  ·show E (sw k f k) k≠0;rw[Ku];exact F.ne
  ·rename_i h;exact λz=>h (.inl z)
 have pv:∀P,(E k k≠0->(E k k).natAbs<=P)->(E k k=0->∀i,k<i->i<m->(E i k).natAbs<=P)->(pre k f E k k).natAbs<=P:=λP piv nil=>by
   unfold pre;split
   ·rename_i h;show(E (sw k f k) k).natAbs<=P;rw[Ku];rcases h with z | z
    ·exact nil z f F.lo F.hi
    ·have:=piv (by omega);omega
   ·rename_i h;exact piv λz=>h (.inl z)
 refine⟨by rw[red_k];exact b,λi c a=>?_,λt I=>?_,λP piv nil=>by rw[red_k];exact pv P piv nil,λj N M P H=>?_,λT P A R r piv nil=>?_⟩
 ·rw[red_k,TX c a];have:=fd_any (x:=pre k f E i k) b;exact⟨this.1,this.2.1⟩
 ·have:pre k f E=E:=by
   unfold pre;rw[l4];rintro(z | z)
   ·exact t z
   ·have:=cB.mpr (I f F.lo F.hi);have:=eV (by have:=F.ne;omega) this;omega
  rw[this]
 ·have pP:=pv P H.piv H.nil
  have B:Bo m k j (N*(M+2)) (red m k (pre k f E)):=λi c a=>by
   have n:N<=N*(M+2):=az N (by omega);by_cases e:i=k
   ·subst e;rw[red_k];refine aU ?_ n;unfold pre;split
    ·show(E (sw i f i) j).natAbs<=N;rw[Ku];exact H.bo f (by omega) F.hi
    ·exact H.bo i c a
   ·rw[TX (by omega) a]
    have u:(pre k f E i j).natAbs<=N:=by
     unfold pre;split
     ·show(E (sw k f i) j).natAbs<=N;unfold sw;split
      ·exact H.bo f (by omega) F.hi
      ·split
       ·exact H.bo k (by omega) d
       ·exact H.bo i c a
     ·exact H.bo i c a
    have l:(pre k f E k j).natAbs<=N:=by
     unfold pre;split
     ·show(E (sw k f k) j).natAbs<=N;rw[Ku];exact H.bo f (by omega) F.hi
     ·exact H.bo k (by omega) d
    rcases H.col with y | ⟨W,t,S,D⟩
    ·have q:=(fd_any (x:=pre k f E i k) b).2.2
     have p:(pre k f E i k).natAbs<=M:=by
      unfold pre;split
      ·show(E (sw k f i) k).natAbs<=M;exact y _ (by unfold sw;split<;>(try split)<;>omega) (sw_lt d F.hi a)
      ·exact y i c a
     have:=Kv u l (aU q (jI p 1));rw[show M+2=1+(M+1) by omega];exact this
    ·have L:i=f:=by have:=F.hi;omega
     subst L;by_cases s:E k k=0\/(E i k).natAbs<(E k k).natAbs
     ·have q:=(fd_any (x:=pre k i E i k) b).2.2;have p:(pre k i E i k).natAbs<=M:=by unfold pre;rw[kz s];show(E (sw k i i) k).natAbs<=M;rw[BW (by omega)];exact D
      have:=Kv u l (aU q (jI p 1));rw[show M+2=1+(M+1) by omega];exact this
     ·have Q:pre k i E k j=0:=by unfold pre;rw[l4 s];exact t
      rw[Q,bU,jr];exact aU u n
  have r:=H.one;have c3:1<=P^3:=fE _ _ r;refine⟨_,B,aU (az _ c3) (gF _ (by omega)),λg G=>?_⟩;have o:(red m k (pre k f E) k k).natAbs<=P:=by rw[red_k];exact pP
  have v:(red m k (pre k f E) g k).natAbs<=P:=by rw[TX G.lo G.hi];have:=(fd_any (x:=pre k f E g k) b).1;omega
  rw[dt,show P^3=P*(P*P) by rw[di,di,Nat.pow_one];rw[dt]];exact bR _ (bu o (bu o v))
 ·have pP:=pv P piv nil;have J:1<=P^6:=fE _ _ r;have U:T<=T*P^6:=az _ J;refine⟨8*T,(R.pre d F.lo F.hi).red A d b,by omega,λg G=>?_⟩;have o:(red m k (pre k f E) k k).natAbs<=P:=by rw[red_k];exact pP
  have v:(red m k (pre k f E) g k).natAbs<=P:=by rw[TX G.lo G.hi];have:=(fd_any (x:=pre k f E g k) b).1;omega
  have w:=g6 (bu o v) 3;have O:(P*P)^3=P^6:=by rw[Zaj,<-fW]
  rw[O] at w;rw[dt];exact bR _ (bR _ w)
theorem Aft.next{m k f:Nat}{E0 E:Mt}(L:k<m)(A:Aft m k E0 E)(F:Fst m k E f):Aft m k E0 (red m k (pre k f E))/\(red m k (pre k f E) k k).natAbs<(E k k).natAbs:=by
 have U:=F.lo;have C:=A.sg f F.lo F.hi;have ep:pre k f E=λi j=>E (sw k f i) j:=by unfold pre;rw[kz (.inr C.1)]
 rw[ep];have pk:∀j,(λi j=>E (sw k f i) j:Mt) k j=E f j:=λj=>by show E (sw k f k) j=_;rw[Ku]
 obtain⟨a,I⟩:∃a,a=(E k k).natAbs:=⟨_,rfl⟩;obtain⟨b,t⟩:∃b,b=(E f k).natAbs:=⟨_,rfl⟩;have l:0<b:=by have:=F.ne;omega
 have hab:b<a:=by omega
 -- the entries of the column ahead of the turn
 have D:∀i,k<i->i<m->(E (sw k f i) k).natAbs<=a/\0<=E (sw k f i) k*E f k:=λi n d=>by
  by_cases e:i=f
  ·subst e;rw[BW (by omega)];exact⟨by omega,by rw[bC];exact C.2⟩
  ·rw[sw_c (by omega) e];have:=A.sg i n d;refine⟨by omega,?_⟩;have h3:=cI this.2 C.2;have e1:E i k*E k k*(E f k*E k k)=E i k*E f k*(E k k*E k k):=by rw[bS,bS];congr 1;rw[<-bS,bC (E k k) (E f k),bS]
   rw[e1] at h3;have nz:=A.nz
   have sq:0<E k k*E k k:=by
    rcases eM nz with h | h
    ·exact Int.mul_pos_of_neg_of_neg h h
    ·exact Int.mul_pos h h
   refine gn.mp λz=>?_;have:=gx z sq;omega
 have ent:∀i,k<i->i<m->∀j,red m k (λi j=>E (sw k f i) j) i j=E (sw k f i) j-(E (sw k f i) k).fdiv (E f k)*E f j:=λi n d j=>by rw[TX n d,Ku]
 have piv:∀j,red m k (λi j=>E (sw k f i) j) k j=E f j:=λj=>by rw[red_k];exact pk j
 have q:∀i,k<i->i<m->(red m k (λi j=>E (sw k f i) j) i k).natAbs=(E (sw k f i) k).natAbs%b/\0<=red m k (λi j=>E (sw k f i) j) i k*E f k/\((E (sw k f i) k).fdiv (E f k)).natAbs<=a/b:=λi n d=>by rw[ent i n d];have v:=D i n d;have:=Dz v.2 F.ne;rw[<-t] at this;exact⟨this.2.1,this.2.2,by rw[this.1];exact Nat.div_le_div_right v.1⟩
 have two:∀g,Fst m k (red m k (λi j=>E (sw k f i) j)) g->2*(red m k (λi j=>E (sw k f i) j) g k).natAbs<=a:=λg p=>by
   have B:=(q f F.lo F.hi).1;rw[BW (by omega),<-I] at B;have Y:=kL a b;have d1:1<=a/b:=(Nat.one_le_div_iff l).mpr (by omega);have d2:b*1<=b*(a/b):=bR _ d1;have ml:=ja a l;by_cases e:g=f
   ·subst e;rw[B];omega
   ·have W:f<g:=by
     refine dU (gO.mp λz=>?_) (λz=>e z.symm);refine p.ne ?_;have w:=(q g p.lo p.hi).1;rw[sw_c (by have:=p.lo;omega) e,F.ze g p.lo z] at w;have:(red m k (λi j=>E (sw k f i) j) g k).natAbs=0:=by rw[w];simp
     omega
    have Z:=p.ze f F.lo W;rw[Z] at B;have r0:a%b=0:=by rw[<-B];rfl
    have r1:=(q g p.lo p.hi).1;have r2:=ja (E (sw k f g) k).natAbs l
    have d3:2<=a/b:=by
     refine gO.mp λz=>?_;have:a/b=1:=by omega
     rw[this] at Y;omega
    have d4:b*2<=b*(a/b):=bR _ d3;omega
 refine⟨⟨by rw[piv];exact F.ne,λi n d=>?_,λR O=>?_,λP n d=>by rw[piv];have:=A.pv P n d;omega,λj N M P H=>?_,λT P Q hT hP n d=>?_⟩,by rw[piv];omega⟩
 ·have r:=q i n d;rw[piv,r.1];exact⟨by rw[<-t];exact ja _ l,r.2.1⟩
 ·exfalso;have e:=A.dv R O;have:=F.ne;rw[e,TX F.lo F.hi] at this;obtain⟨c,hc⟩:=O f F.lo F.hi;rw[hc,dq _ R,bC c] at this;exact this (by omega)
 ·obtain⟨o,x,S,y⟩:=A.po j N M P H;have s:=y f F;rw[<-I,<-t] at s;generalize N*(M+2)*P^3=G at s S y ⊢
  have nb:Bo m k j (o*(1+a/b)) (red m k (λi j=>E (sw k f i) j)):=λi n d=>by
   by_cases e:i=k
   ·subst e;rw[piv];exact aU (x f (by omega) F.hi) (az _ (aa Nat.one_pos (dz 1 _)))
   ·rw[ent i (by omega) d];refine Kv (x _ ?_ (sw_lt L F.hi d)) (x f (by omega) F.hi) (q i (by omega) d).2.2;unfold sw;split<;>(try split)<;>omega
  have X:o*(1+a/b)*b<=2*(o*a):=by rw[dt,jF,jG,el];refine bR _ ?_;have:=Nat.div_mul_le_self a b;omega
  have n2:o*a<=G:=by refine aU ?_ s;exact az _ (Nat.mul_pos (by omega) l)
  refine⟨_,nb,?_,λg p=>?_⟩
  ·have:o*(1+a/b)<=o*(1+a/b)*b:=az _ l;omega
  ·rw[piv,<-t];have two:=two g p;generalize (red m k (λi j=>E (sw k f i) j) g k).natAbs=v at two ⊢;have s1:o*(1+a/b)*b*(b*v)<=2*(o*a)*(b*v):=bp _ X;have s2:2*(o*a)*(b*v)=o*a*(b*(2*v)):=by rw[cT 2,dt,el 2 b v]
   have s3:o*a*(b*(2*v))<=o*a*(b*a):=bR _ (bR _ two);rw[cT b a] at s3;omega
 ·obtain⟨u,x,S,y⟩:=A.mn T P Q hT hP n d;have s:=y f F;rw[<-I,<-t] at s;have J:1<=(a*b)^3:=fE _ _ (Nat.mul_pos (by omega) l);have t1:u<=u*(a*b)^3:=az _ J;have m1:=x.rows (sw k f) λi n d=>by have:=F.hi;unfold sw;split<;>(try split)<;>omega
  refine⟨8*u,m1.red Q L (by show E (sw k f k) k≠0;rw[Ku];exact F.ne),by omega,λg p=>?_⟩;have two:=two g p;rw[piv,<-t];generalize (red m k (λi j=>E (sw k f i) j) g k).natAbs=v at two ⊢
  have s1:(2*(b*v))^3<=(a*b)^3:=g6 (by
   rw[el,cT a b];exact bR _ two) 3
  rw[Zaj 2] at s1;have s2:8*u*(b*v)^3=u*(2^3*(b*v)^3):=by rw[cT 8,dt]
  rw[s2];exact aU (bR _ s1) s
structure CL(m k:Nat)(E0 E:Mt):Prop where
 rt:RT m k E0 E
 z:∀i,k<i->i<m->E i k=0
 same:E0 k k≠0->(∀i,k<i->i<m->E0 k k∣E0 i k)->∀i j,i<m->E i j=red m k E0 i j
 bd:∀j N M P,Hyp m k E0 j N M P->Bo m k j (2*(N*(M+2)*P^3)) E
 mn:∀T P,m<=7->Mn m k T E0->1<=P->(E0 k k≠0->(E0 k k).natAbs<=P)->(E0 k k=0->∀i,k<i->i<m->(E0 i k).natAbs<=P)->Mn m k (64*(T*P^6)) E
theorem CL.aft{m k:Nat}{E0 E:Mt}(r:RT m k E0 E)(A:Aft m k E0 E)(z:∀i,k<i->i<m->E i k=0):CL m k E0 E:=
 ⟨r,z,λh f i j _=>by rw[A.dv h f],λj N M P H=>by
  obtain⟨o,c,b,_⟩:=A.po j N M P H
  exact λi a d=>aU (c i a d) b,λT P e l g a d=>by
  obtain⟨n,c,b,_⟩:=A.mn T P e l g a d;exact c.up b⟩
theorem CL.refl{m k:Nat}{E:Mt}(z:∀i,k<i->i<m->E i k=0):CL m k E E:=
 ⟨RT.refl,z,λh _ i j l=>by
  unfold red;split
  ·rename_i q;rw[z i q.1 q.2,Int.zero_fdiv,bZ,jr]
  ·rfl,λj N M P H i a c=>by
  refine aU (H.bo i a c) ?_;have c3:1<=P^3:=fE _ _ H.one;have:N<=N*(M+2):=az N (by omega);have:N*(M+2)<=N*(M+2)*P^3:=az _ c3
  omega,λT P f e d _ _=>e.up (by
  have b:1<=P^6:=fE _ _ d;have g:T<=T*P^6:=az _ b;omega)⟩
structure Bs(m:Nat)(A0:Mt)(D:Int):Prop where
 sym:EqM m (tr A0) A0
 z:∃Z0,EqM m (mul m Z0 A0) (λi j=>D*one i j)
 nz:D≠0
 m7:m<=7
theorem Adm.trs{m:Nat}{b E:Mt}(e:EqM m (PM.tr b) b)(h:Adm m b E):Adm m b (PM.tr E):=by have a:=h.tr;exact⟨a.ex,λi j f c=>(mul_congr (λ_ _=>rfl) λk d=>(e.mulL k j d c).symm).trans (a.val i j f c),a.nil⟩
structure Cr(m k:Nat)(A0 E:Mt):Prop where
 adm:Adm m A0 E
 d1:∀i j,i<k->j<m->j≠i->E i j=0/\E j i=0
 d2:∀i,i<k->1<=E i i
 d3:∀i a b,i<k->i<=a->i<=b->a<m->b<m->E i i∣E a b
theorem Cr.rt{m k:Nat}{l E n:Mt}(c:Cr m k l E)(r:RT m k E n):Cr m k l n:=by
 refine⟨c.adm.rt r,λi j d h o=>⟨by rw[r.up i j d];exact(c.d1 i j d h o).1,?_⟩,λi d=>by rw[r.up i i d];exact c.d2 i d,λi a b d t p f e=>?_⟩
 ·by_cases q:j<k
  ·rw[r.up j i q];exact(c.d1 i j d h o).2
  ·exact g8.mp (r.dvd (c:=0) (λx s g=>g8.mpr (c.d1 i x d g (by omega)).2) j (by omega) h)
 ·rw[r.up i i d];by_cases q:a<k
  ·rw[r.up a b q];exact c.d3 i a b d t p f e
  ·exact r.dvd (λx s g=>c.d3 i x b d (by omega) p g e) a (by omega) f
theorem Cr.tr{m k:Nat}{e E:Mt}{D:Int}(b:Bs m e D)(c:Cr m k e E):Cr m k e (PM.tr E):=
 ⟨c.adm.trs b.sym,λi j d l h=>⟨(c.d1 i j d l h).2,(c.d1 i j d l h).1⟩,c.d2,λi a b d o n g f=>c.d3 i b a d n o f g⟩
theorem Cr.col{m k:Nat}{d E:Mt}{D:Int}(b:Bs m d D)(c:Cr m k d E){j:Nat}{x:Int}(l:k<=j)(a:j<m)(h:∀i,k<=i->i<m->x∣E i j):x∣D:=by
 obtain⟨g,e⟩:=b.z;refine c.adm.div e a λi f=>?_;by_cases q:i<k
 ·rw[(c.d1 i j q a (by omega)).1];exact cV x
 ·exact h i (by omega) f
theorem Cr.piv{m k:Nat}{a E:Mt}{D:Int}(b:Bs m a D)(c:Cr m k a E)(d:k<m)(z:∀i,k<i->i<m->E i k=0):E k k≠0/\E k k∣D:=by
 have:E k k∣D:=c.col b (aL k) d λi f e=>by
  by_cases q:i=k
  ·rw[q];exact gG _
  ·rw[z i (by omega) e];exact cV _
 exact⟨λh=>b.nz (g8.mp (h▸this)),this⟩
theorem Zcb{a b:Int}(h:a∣b)(f:b≠0)(n:¬b∣a):2*a.natAbs<=b.natAbs:=by
 obtain⟨c,d⟩:=h;have e:b.natAbs=a.natAbs*c.natAbs:=by rw[d,bh]
 have g:c.natAbs≠0:=λz=>f (by rw[d,Int.natAbs_eq_zero.mp z,bU])
 have c1:c.natAbs≠1:=λz=>n (by
  refine cB.mp ?_;rw[e,z,Nat.mul_one];exact Nat.dvd_refl _)
 have:a.natAbs*2<=a.natAbs*c.natAbs:=bR _ (by omega);omega
structure RZ(m k e β γ:Nat)(A0 E:Mt):Prop where
 cr:Cr m k A0 E
 nz:E k k≠0
 pb:(E k k).natAbs<=2^e
 rz:∀j,k<j->j<m->E k j=0
 mb:Mn m k (2^β) E
 lb:∀i j,i<m->j<m->(E i (m+j)).natAbs<=2^γ
 rb:∀i j,i<m->j<m->(E (m+i) j).natAbs<=2^γ
theorem RZ.ab{m k e a d:Nat}{b E:Mt}(h:RZ m k e a d b E):∀i j,k<=i->i<m->k<=j->j<m->(E i j).natAbs<=2^a:=λi j c f l g=>h.mb.ab c f l g
theorem pw2{a b:Nat}(h:a<=b):2^a<=2^b:=jH (by omega) h
theorem bits3(g u e:Nat):2*(2^g*(2^u+2)*(2^e)^3)<=2^(g+u+3*e+3):=by
 have a:2^u+2<=2^(u+2):=by have:=br (n:=u);rw[di,di];omega
 have b:(2^e)^3=2^(3*e):=by rw[<-Nat.pow_mul,cT]
 rw[b];have d:2^g*(2^u+2)*2^(3*e)<=2^g*2^(u+2)*2^(3*e):=bp _ (bR _ a);rw[<-fW,<-fW] at d;have c:2^(g+u+3*e+3)=2*2^(g+(u+2)+3*e):=by rw[show g+u+3*e+3=(g+(u+2)+3*e)+1 by omega,di];omega
 rw[c];omega
theorem CL.beside{m k e u a:Nat}{E b:Mt}(c:CL m k E b)(o:1<=2^e)(pv:E k k≠0->(E k k).natAbs<=2^e)(l:E k k=0->∀i,k<i->i<m->(E i k).natAbs<=2^e)(h:∀i,k<=i->i<m->(E i k).natAbs<=2^u)
  (d:∀i j,i<m->j<m->(E i (m+j)).natAbs<=2^a):∀i j,i<m->j<m->(b i (m+j)).natAbs<=2^(a+u+3*e+3):=λi j g f=>by
 by_cases q:i<k
 ·rw[c.rt.up i _ q];exact aU (d i j g f) (pw2 (by omega))
 ·exact aU (c.bd (m+j) (2^a) (2^u) (2^e) ⟨λx p n=>d x j n f,o,pv,l,.inl h⟩ i (by omega) g) (bits3 _ _ _)
theorem HS{m k e p s:Nat}{o:Nat->Nat}{r E a:Mt}{D:Int}(b:Bs m r D)(v:k<m)(h:RZ m k e (o e) p r E)(c:CL m k E a)(L:o e+3*e+3<=s)(I:∀f,e=f+1->Mn m k (2^(o f)) a) :
  (RZ m k e (o e) (p+s) r a/\RZ m k e (o e) (p+s) r (tr a)/\∀i,k<i->i<m->E k k∣E i k)\/
   (∃f,e=f+1/\RZ m k f (o f) (p+s) r (tr a)/\¬ ∀i,k<i->i<m->E k k∣E i k):=by
 have x:=h.cr.rt c.rt
 have y:∀i j,i<m->j<m->(a i (m+j)).natAbs<=2^(p+s):=λi j g l=>
  aU (c.beside (e:=e) (u:=o e) br (λ_=>h.pb) (λz=>absurd z h.nz) (λi n d=>h.ab i k n d (aL _) v) h.lb i j g l) (pw2 (by omega))
 have B:∀i j,i<m->j<m->(a (m+i) j).natAbs<=2^(p+s):=λi j g l=>by rw[c.rt.low _ _ (by omega)];exact aU (h.rb i j g l) (pw2 (by omega))
 by_cases all:∀i,k<i->i<m->E k k∣E i k
 ·refine .inl ?_;have C:=c.same h.nz all;have t:∀j,a k j=E k j:=λj=>by rw[C k j v,red_k]
  have H:Mn m k (2^(o e)) a:=h.mb.same (q:=λi=>if k<i/\i<m then(E i k).fdiv (E k k) else 0) (by show(if k<k/\k<m then _ else _:Int)=0;rw[l4 (by omega)]) (λi j n d=>by
   rw[C i j d];show red m k E i j=E i j-(if k<i/\i<m then(E i k).fdiv (E k k) else 0)*E k j;by_cases q:k<i
   ·rw[TX q d,kz ⟨q,d⟩]
   ·rw[l4 (λw=>q w.1),show i=k by omega,red_k];omega) c.z h.rz
  exact⟨⟨x,by rw[t];exact h.nz,by rw[t];exact h.pb,λj n d=>by rw[t];exact h.rz j n d,H,y,B⟩,
   ⟨x.tr b,by show a k k≠0;rw[t];exact h.nz,by show(a k k).natAbs<=_;rw[t];exact h.pb,λj n d=>c.z j n d,H.tr,λi j g l=>B j i l g,λi j g l=>y j i l g⟩,all⟩
 ·refine .inr ?_;have pv:=x.piv b v c.z
  have F:∀i,k<=i->i<m->a k k∣E i k:=c.rt.back.dvd λi n d=>by
   by_cases q:i=k
   ·rw[q];exact gG _
   ·rw[c.z i (by omega) d];exact cV _
  have M:2*(a k k).natAbs<=(E k k).natAbs:=Zcb (F k (aL _) v) h.nz λz=>all λi n d=>Int.dvd_trans z (F i (by omega) d);have G:=h.pb;have J:1<=(a k k).natAbs:=by have:=pv.1;omega
  obtain⟨f,rfl⟩:∃f,e=f+1:=by
   cases e with
   | zero=>exfalso;rw[Nat.pow_zero] at G;omega
   | succ f=>exact⟨f,rfl⟩
  have A:(a k k).natAbs<=2^f:=by rw[di] at G;omega
  exact⟨f,rfl,⟨x.tr b,pv.1,A,λj n d=>c.z j n d,(I f rfl).tr,λi j g l=>B j i l g,λi j g l=>y j i l g⟩,all⟩
structure Bv(m k e0:Nat)(s β:Nat->Nat)(A0:Mt):Prop where
 hs:∀e,e<=e0->β e+3*e+3<=s e
 cl:∀e γ E E',e<e0->RZ m k (e+1) (β (e+1)) γ A0 E->CL m k E E'->Mn m k (2^(β e)) E'
theorem HV{m k e l g:Nat}{s j:Nat->Nat}{a E d:Mt}{D:Int}(b:Bs m a D)(B:Bv m k l s j a)(n:k<m)(p:e<=l)(h:RZ m k e (j e) g a E)(c:CL m k E d) :
  (RZ m k e (j e) (g+s e) a d/\RZ m k e (j e) (g+s e) a (tr d)/\∀i,k<i->i<m->E k k∣E i k)\/
   (∃f,e=f+1/\RZ m k f (j f) (g+s e) a (tr d)/\¬ ∀i,k<i->i<m->E k k∣E i k):=
 HS b n h c (B.hs e p) λf o=>by subst o;exact B.cl f g E d (by omega) h c
noncomputable def f1(s:Nat->Nat):Nat->Nat
 | 0=>0
 | e+1=>f1 s e+s e+s (e+1)
noncomputable def f2(s:Nat->Nat):Nat->Nat
 | 0=>0
 | e+1=>f2 s e+s e+s (e+1)+(2*s e+1)
theorem f1_mono(s:Nat->Nat){a b:Nat}(h:a<=b):f1 s a<=f1 s b:=by
 induction b with
 | zero=>rw[show a=0 by omega];exact aL _
 | succ b ih=>
  by_cases q:a=b+1
  ·rw[q];exact aL _
  ·have:=ih (by omega);show f1 s a<=f1 s b+s b+s (b+1);omega
theorem f2_step(s:Nat->Nat){a b:Nat}(h:a<b):f2 s a+f1 s b+2*s a+1<=f2 s b+f1 s a:=by
 induction b with
 | zero=>omega
 | succ b ih=>
  show f2 s a+(f1 s b+s b+s (b+1))+2*s a+1<=f2 s b+s b+s (b+1)+(2*s b+1)+f1 s a;by_cases q:a=b
  ·subst q;omega
  ·have:=ih (by omega);omega
theorem f2_ge(s:Nat->Nat)(a:Nat):f1 s a<=f2 s a:=by
 induction a with
 | zero=>exact aL _
 | succ a ih=>
  show f1 s a+s a+s (a+1)<=f2 s a+s a+s (a+1)+(2*s a+1);omega
theorem f2_le(s:Nat->Nat){a b:Nat}(h:a<=b):f2 s a+f1 s b<=f2 s b+f1 s a:=by
 by_cases q:a=b
 ·subst q;omega
 ·have:=f2_step s (show a<b by omega);omega
theorem turnV{m k e u g:Nat}{s n:Nat->Nat}{d E F o:Mt}{D:Int}(b:Bs m d D)(B:Bv m k u s n d)(p:k<m)(w:e<=u)(h:RZ m k e (n e) g d (tr E))(c:CL m k (tr E) F)(v:CL m k (tr F) o) :
  (∃e' γ',e'<=e/\γ'+f1 s e'<=g+f1 s e+2*s e'/\RZ m k e' (n e') γ' d o/\RZ m k e' (n e') γ' d (tr o)/\((¬ ∀i,k<i->i<m->E k k∣E k i)->e'<e))\/
   (∃e' γ',e'<e/\γ'+f1 s e'<=g+f1 s e/\RZ m k e' (n e') γ' d (tr o)):=by
 rcases HV b B p w h c with⟨q,A,l⟩ | ⟨j,rfl,q,t⟩
 ·rcases HV b B p w A v with⟨f,r,_⟩ | ⟨a,rfl,f,t⟩
  ·exact .inl ⟨e,_,aL _,by omega,f,r,λz=>absurd l z⟩
  ·exfalso;refine t λi x y=>?_;have:tr F i k=0:=q.rz i x y;rw[this];exact cV _
 ·rcases HV b B p (by omega) q v with⟨f,r,_⟩ | ⟨a,rfl,f,_⟩
  ·refine .inl ⟨j,_,by omega,?_,f,r,λ_=>by omega⟩;show _<=g+(f1 s j+s j+s (j+1))+2*s j;omega
  ·refine .inr ⟨a,_,by omega,?_,f⟩;show _<=g+(f1 s a+s a+s (a+1)+s (a+1)+s (a+1+1));omega
end PM
namespace PW
open L2 VL
structure SInv(m:Nat)(A E:Mt)(d:Int)(p:Nat):Prop where
 dp:0<d
 off:∀i j,p<=i->i<m->p<=j->j<m->i≠j->E i j<=0
 row:∀i,p<=i->i<m->0<=sN m λj=>if j<p then 0 else E i j
 dia:∀i,p<=i->i<m->E i i<=d*A i i
theorem SInv.piv{m p:Nat}{A E:Mt}{d:Int}(S:SInv m A E d p)(a:p<m):0<=E p p:=by
 have h:=S.row p (aL p) a;have e:=ZX (n:=m) (f:=λj=>if j=p then E p p else 0) a λi _ ne=>l4 ne
 have l:=Yf (n:=m) (f:=λj=>(if j=p then E p p else 0)+(-1)*(if j<p then 0 else E p j)) λj b=>by
  by_cases q:j=p
  ·subst q;rw[kz rfl,l4 (by omega)];omega
  ·rw[l4 q];split
   ·omega
   ·have:=S.off p j (aL p) a (by omega) b (λz=>q z.symm);omega
 rw[ZZ,ZA,e,kz rfl] at l;omega
theorem SInv.step{m p:Nat}{A X E:Mt}{d:Int}(ok:Dk m A X)(f:p<m)(I:Dl m A X p E d)(S:SInv m A E d p):SInv m A (λi j=>if i=p then E i j else(E p p*E i j-E i p*E p j).fdiv d) (E p p) (p+1):=by
 obtain⟨t,r⟩:=U3 ok f I;have h:0<E p p:=by have:=S.piv f;have:=t.nz;omega
 have k:=S.dp;have l:∀i j,p+1<=i->i<m->j<m->d*(if i=p then E i j else(E p p*E i j-E i p*E p j).fdiv d)=E p p*E i j-E i p*E p j:=λi j c b n=>by obtain⟨q,e⟩:=r i j b (by omega) (by omega);rw[l4 (by omega),e,dq _ (by omega)]
 have o:∀i j,p+1<=i->i<m->p+1<=j->j<m->0<=E i p*E p j:=λi j c b n g=>
  Int.mul_nonneg_of_nonpos_of_nonpos (S.off i p (by omega) b (aL p) f (by omega)) (S.off p j (aL p) f (by omega) g (by omega))
 refine⟨h,λi j c b n g ne=>?_,λi c b=>?_,λi c b=>?_⟩
 ·refine fH (a:=d) ?_ k;rw[l i j c b g,bU];have:=Int.mul_nonpos_of_nonneg_of_nonpos (g7 h) (S.off i j (by omega) b (by omega) g ne);have:=o i j c b n g;omega
 ·refine fH (a:=d) ?_ k;rw[bU,<-ZA]
  have e:(sN m λj=>d*(if j<p+1 then 0 else if i=p then E i j else(E p p*E i j-E i p*E p j).fdiv d))=sN m λj=>E p p*(if j<p then 0 else E i j)+(- E i p)*(if j<p then 0 else E p j):=Zg λj u=>by
   by_cases q:j<p
   ·rw[kz (by omega),kz q,kz q];simp
   ·rw[l4 q,l4 q];by_cases s:j=p
    ·subst s;rw[kz (by omega),bH,bC (E i j)];omega
    ·rw[l4 (by omega),l i j c b u,bH];omega
  rw[e,ZZ,ZA,ZA];have:=cI (g7 h) (S.row i (by omega) b);have:=cI (a:=- E i p) (by have:=S.off i p (by omega) b (aL p) f (by omega);omega) (S.row p (aL p) f);omega
 ·refine fH (a:=d) ?_ k;rw[l i i c b b];have:=o i i c b c b;have:=eJ (S.dia i (by omega) b) (g7 h);rw[cD] at this;omega
noncomputable def prN(A:Mt):Nat->Int
 | 0=>1
 | p+1=>prN A p*A p p
theorem Fu{m:Nat}{A X:Mt}(ok:Dk m A X)(o:∀i j,i<m->j<m->i≠j->A i j<=0)(r:∀i,i<m->0<=sN m (A i))(a:∀i,i<m->0<=A i i):∀{p:Nat},p<=m->SInv m A (XZ m X p).1 (XZ m X p).2 p/\(XZ m X p).2<=prN A p
 | 0,_=>⟨⟨by show(0:Int)<1;decide,λi j _ b _ c ne=>by show X i j<=0;rw[ok.ext i j b c];exact o i j b c ne,λi _ b=>by
   rw[Zg (g:=A i) λj c=>by rw[l4 (by omega)];exact ok.ext i j b c];exact r i b,λi _ b=>by show X i i<=1*A i i;rw[ok.ext i i b b];omega⟩,df _⟩
 | p+1,h=>by obtain⟨S,l⟩:=Fu ok o r a (p:=p) (by omega);refine⟨S.step ok (by omega) (Yy ok (by omega)),?_⟩;have d:=S.dia p (aL p) (by omega);exact Int.le_trans d (Int.mul_le_mul_of_nonneg_right l (a p (by omega)))
end PW
namespace PM
open PW
theorem Co(g e:Nat):64*(2^g*(2^e)^6)=2^(g+6*e+6):=by rw[<-Nat.pow_mul,<-fW,fW 2 _ 6,cT 64,cT e 6]
noncomputable def ad:Nat->Nat
 | 0=>0
 | n+1=>ad n+(6*(n+1)+6)
theorem DA{a b:Nat}(h:a<=b):ad a<=ad b:=by
 induction b with
 | zero=>rw[show a=0 by omega];exact aL _
 | succ b ih=>
  by_cases q:a=b+1
  ·rw[q];exact aL _
  ·have:=ih (by omega);show ad a<=ad b+_;omega
noncomputable def be(t e0 e:Nat):Nat:=t+(ad e0-ad e)
noncomputable def sB(β:Nat->Nat)(e:Nat):Nat:=β e+3*e+3
theorem Bv.gen{m k d t:Nat}{f:Mt}{D:Int}(b:Bs m f D):Bv m k d (sB (be t d)) (be t d) f:=
 ⟨λe _=>aL _,λe l E g i h c=>by
  refine(c.mn _ (2^(e+1)) b.m7 h.mb br (λ_=>h.pb) λz=>absurd z h.nz).up ?_;rw[Co];refine pw2 ?_;unfold be;have j:ad (e+1)=ad e+(6*(e+1)+6):=rfl;have n:=DA (a:=e+1) (b:=d) (by omega);omega⟩
noncomputable def bE(t e:Nat):Nat:=if 20<=e then t else 210
theorem Bv.end{m k t:Nat}{f:Mt}{D:Int}(b:Bs m f D)(o:k<m)(v:D.natAbs<=2^20)(J:m<=k+2):Bv m k 20 (sB (bE t)) (bE t) f:=by
 refine⟨λe _=>aL _,λe L E r M h c=>?_⟩;have l:∀{x:Int},x∣D->x.natAbs<=2^20:=λ{x} d=>aU (eV (by have:=b.nz;omega) (cB.mpr d)) v;have A:=h.cr.rt c.rt
 have ent:∀i j,k<=i->i<m->k<=j->j<m->(r i j).natAbs<=2^103:=λi j u g G a=>by
  by_cases p:j=k
  ·subst p;by_cases q:i=j
   ·rw[q];exact aU (l (A.piv b o c.z).2) (pw2 (by omega))
   ·rw[c.z i (by omega) g];exact cO _
  ·have s:m=k+2:=by omega
   have C:j=k+1:=by omega
   have w:∀i,k<=i->i<m->(E i j).natAbs<=2^20:=λi F I=>by
    by_cases q:i=k
    ·rw[q,h.rz j (by omega) a];exact cO _
    ·have y:i=j:=by omega
     rw[y];refine l (h.cr.col b (by omega) a λx B H=>?_);by_cases q:x=k
     ·rw[q,h.rz j (by omega) a];exact cV _
     ·rw[show x=j by omega];exact gG _
   exact aU (c.bd j (2^20) (2^(e+1)) (2^(e+1)) ⟨w,br,λ_=>h.pb,λz=>absurd z h.nz,.inr ⟨s,h.rz j (by omega) a,h.nz,h.pb⟩⟩ i u g) (aU (bits3 _ _ _) (pw2 (by omega)))
 refine(Mn.ent (n:=2) br (by omega) ent).up ?_;unfold bE;rw[l4 (by omega)];decide
theorem f2_top{s:Nat->Nat}{S:Nat}:∀{n:Nat},(∀e,e<=n->s e<=S)->f2 s n<=n*(4*S+1)
 | 0,_=>cO _
 | n+1,h=>by have b:=f2_top (n:=n) λe a=>h e (by omega);have c:=h n (by omega);have d:=h (n+1) (aL _);show f2 s n+s n+s (n+1)+(2*s n+1)<=_;rw[jF];omega
theorem f2_end(t:Nat):f2 (sB (bE t)) 20<=t+23000:=by
 have b:=f2_top (s:=sB (bE t)) (S:=273) (n:=19) λe a=>by unfold sB bE;rw[l4 (by omega)];omega
 show f2 (sB (bE t)) 19+sB (bE t) 19+sB (bE t) 20+(2*sB (bE t) 19+1)<=_;have c:sB (bE t) 19=270:=rfl;have d:sB (bE t) 20=t+3*20+3:=rfl;omega
structure Pl(m k a γ:Nat)(A0 E:Mt):Prop where
 cr:Cr m k A0 E
 mb:Mn m k (2^a) E
 lb:∀i j,i<m->j<m->(E i (m+j)).natAbs<=2^γ
 rb:∀i j,i<m->j<m->(E (m+i) j).natAbs<=2^γ
theorem Pl.ab{m k a d:Nat}{b E:Mt}(h:Pl m k a d b E):∀i j,k<=i->i<m->k<=j->j<m->(E i j).natAbs<=2^a:=λi j c e g f=>h.mb.ab c e g f
theorem Pl.first{m k a v s g:Nat}{y:Nat->Nat}{l E d:Mt}{D:Int}(b:Bs m l D)(f:k<m)(h:Pl m k a v l E)(c:CL m k E d)(z:(d k k).natAbs<=2^g)(t:7*a+6<=y g)(A:4*a+3<=s):RZ m k g (y g) (v+s) l (tr d):=by
 have w:=h.cr.rt c.rt;have col:∀i,k<=i->i<m->(E i k).natAbs<=2^a:=λi n q=>h.ab i k n q (aL _) f;refine⟨w.tr b,(w.piv b f c.z).1,z,λj n q=>c.z j n q,?_,λi j o r=>?_,λi j o r=>?_⟩
 ·refine((c.mn _ (2^a) b.m7 h.mb br (λ_=>col k (aL _) f) λ_ x t p=>col x (by omega) p).up ?_).tr;rw[Co];exact pw2 (by omega)
 ·show(d (m+j) i).natAbs<=_;rw[c.rt.low _ _ (by omega)];exact aU (h.rb j i r o) (pw2 (by omega))
 ·show(d j (m+i)).natAbs<=_;exact aU (c.beside (e:=a) (u:=a) br (λ_=>col k (aL _) f) (λ_ x t p=>col x (by omega) p) col h.lb j i r o) (pw2 (by omega))
theorem Pl.small{m k a p X:Nat}{g E f:Mt}{D:Int}(b:Bs m g D)(j:k<m)(h:Pl m k a p g E)(c:CL m k E f)(o:∀i,k<=i->i<m->(E i k).natAbs<=X):(f k k).natAbs<=X/\(f k k).natAbs<=D.natAbs:=by
 have r:=h.cr.rt c.rt;have pv:=r.piv b j c.z;refine⟨?_,eV (by have:=b.nz;omega) (cB.mpr pv.2)⟩
 have l:∀i,k<=i->i<m->f k k∣E i k:=c.rt.back.dvd λi e d=>by
  by_cases q:i=k
  ·rw[q];exact gG _
  ·rw[c.z i (by omega) d];exact cV _
 obtain⟨i,e,d,s⟩:∃i,k<=i/\i<m/\E i k≠0:=by refine b5 λn=>pv.1 ?_;refine g8.mp (c.rt.dvd (c:=0) (λi e d=>?_) k (aL _) j);refine g8.mpr (b5 λz=>n ⟨i,e,d,z⟩)
 have:=eV (by omega) (cB.mpr (l i e d));have:=o i e d;omega
theorem RZ.unfit{m k e t d u:Nat}{g E:Mt}{D:Int}(b:Bs m g D)(w:k<m)(h:RZ m k e t d g E)(s:RZ m k e t d g (tr E))(v:k<u)(c:u<m):RZ m k e t (d+1) g (tr (λi j=>if i=k then E i j-1*E u j else E i j)):=by
 have r:=RT.sub (m:=m) (p:=k) (a:=k) (b:=u) (q:=1) (E:=E) (aL _) w (by omega) c (by omega);have y:E u k=0:=s.rz u v c;have p2:2^d+2^d=2^(d+1):=by rw[di];omega
 have kk:(if k=k then E k k-1*E u k else E k k)=E k k:=by rw[kz rfl,y];omega
 refine⟨(h.cr.rt r).tr b,?_,?_,λj l n=>?_,?_,λi j f o=>?_,λi j f o=>?_⟩
 ·show(if k=k then E k k-1*E u k else E k k)≠0;rw[kk];exact h.nz
 ·show(if k=k then E k k-1*E u k else E k k).natAbs<=_;rw[kk];exact h.pb
 ·show(if j=k then E j k-1*E u k else E j k)=0;rw[l4 (by omega)];exact s.rz j l n
 ·exact(h.mb.less v c (λj=>kz rfl) (λi j x=>l4 x) (λi l n=>s.rz i l n) h.rz).tr
 ·show(if m+j=k then E (m+j) i-1*E u i else E (m+j) i).natAbs<=_;rw[l4 (by omega)];exact aU (h.rb j i o f) (pw2 (by omega))
 ·show(if j=k then E j (m+i)-1*E u (m+i) else E j (m+i)).natAbs<=_;split
  ·have l:=h.lb j i o f;have n:=h.lb u i c f;have:=gy (E j (m+i)) (1*E u (m+i));omega
  ·exact aU (h.lb j i o f) (pw2 (by omega))
theorem Mn.next{m k T:Nat}{E l:Mt}(h:Mn m k T E)(e:∀i j,k<i->k<j->l i j=E i j):Mn m (k+1) T l:=λj n g d f=>by rw[ZS (B:=λa b=>E (n a) (g b)) λa b c o=>e _ _ (d a c).1 (f b o).1];exact h j n g (λa c=>⟨by have:=(d a c).1;omega,(d a c).2⟩) (λa c=>⟨by have:=(f a c).1;omega,(f a c).2⟩)
theorem RZ.next{m k e y x:Nat}{v E:Mt}(D:k<m)(h:RZ m k e y x v E)(B:RZ m k e y x v (tr E))(G:∀i j,k<i->i<m->j<m->E k k∣E i j):Pl m (k+1) y x v (λi j=>if i=k/\E k k<0 then-E i j else E i j):=by
 have l:∀i j,k<=i->i<m->k<=j->j<m->E k k∣E i j:=λi j F C I A=>by
  by_cases q:i=k
  ·rw[q];by_cases H:j=k
   ·rw[H];exact gG _
   ·rw[h.rz j (by omega) A];exact cV _
  ·exact G i j (by omega) C A
 by_cases s:E k k<0
 ·have r:=RT.neg (m:=m) (p:=k) (a:=k) (E:=E) (aL _) D
  have e:(λi j=>if i=k/\E k k<0 then-E i j else E i j)=(λi j=>if i=k then-E i j else E i j):=by
   funext i j;by_cases q:i=k
   ·rw[kz ⟨q,s⟩,kz q]
   ·rw[l4 (λz=>q z.1),l4 q]
  rw[e];have c:=h.cr.rt r;refine⟨⟨c.adm,λi j n g u=>?_,λi n=>?_,λi a b n o t f d=>?_⟩,h.mb.next λi j F C=>l4 (by omega),λi j n g=>?_,λi j n g=>?_⟩
  ·by_cases q:i=k
   ·subst q;refine⟨?_,?_⟩
    ·show(if i=i then _ else _)=_;rw[kz rfl];by_cases w:j<i
     ·have:=(h.cr.d1 j i w (by omega) (by omega)).2;rw[this];rfl
     ·rw[h.rz j (by omega) g];rfl
    ·show(if j=i then _ else _)=_;rw[l4 u];by_cases w:j<i
     ·exact(h.cr.d1 j i w (by omega) (by omega)).1
     ·exact B.rz j (by omega) g
   ·exact c.d1 i j (by omega) g u
  ·by_cases q:i=k
   ·subst q;show 1<=(if i=i then _ else _);rw[kz rfl];omega
   ·exact c.d2 i (by omega)
  ·by_cases q:i=k
   ·subst q;show(if i=i then-E i i else E i i)∣(if a=i then-E a b else E a b);rw[kz rfl,Int.neg_dvd];split
    ·exact Int.dvd_neg.mpr (l a b o f t d)
    ·exact l a b o f t d
   ·exact c.d3 i a b (by omega) o t f d
  ·show(if i=k then-E i (m+j) else E i (m+j)).natAbs<=_;split
   ·rw[gE];exact h.lb i j n g
   ·exact h.lb i j n g
  ·show(if m+i=k then _ else _:Int).natAbs<=_;rw[l4 (by omega)];exact h.rb i j n g
 ·have e:(λi j=>if i=k/\E k k<0 then-E i j else E i j)=E:=by funext i j;rw[l4 (λz=>s z.2)]
  rw[e];refine⟨⟨h.cr.adm,λi j n g u=>?_,λi n=>?_,λi a b n o t f d=>?_⟩,h.mb.next λi j _ _=>rfl,h.lb,h.rb⟩
  ·by_cases q:i=k
   ·subst q;by_cases w:j<i
    ·have:=h.cr.d1 j i w (by omega) (by omega);exact⟨this.2,this.1⟩
    ·exact⟨h.rz j (by omega) g,B.rz j (by omega) g⟩
   ·exact h.cr.d1 i j (by omega) g u
  ·by_cases q:i=k
   ·subst q;have:=h.nz;omega
   ·exact h.cr.d2 i (by omega)
  ·by_cases q:i=k
   ·subst q;exact l a b o f t d
   ·exact h.cr.d3 i a b (by omega) o t f d
end PM
namespace PW
open PySem L2 VL VX
theorem JE{F:XS}{x:XT}{s:ZF}{k:Nat}(J:Nat->ZF->Prop)(f:J k s)(st:∀k s,J k s->x s=aA aB\/(x s=aA aC/\Wl F s λs2=>∃k',k'<k/\J k' s2)):Wl (Xr x F) s λd=>∃k,J k d/\x d=aA aB:=by
 obtain⟨d,k',a,b,c⟩:=Fo (c:=x) (fb:=F) J (λk s h=>by
  rcases st k s h with z | ⟨z,s2,e,k',g,i⟩
  ·exact .inl z
  ·exact .inr ⟨z,s2,k',e,g,i⟩) f
 exact⟨d,a,k',b,c⟩
noncomputable def cR(w:Nat)(f:Nat->Int):PV:=.cst (iL (ZE w f))
noncomputable def bL(w:Nat)(E:Mt):List PV:=(aE w).map λi=>cR w (E i)
section
variable {w m k i j a:Nat} {E E':Mt} {f g h:XE} {s:ZF}
theorem U6:(bL w E).length=w:=by simp[bL]
theorem Kw(a:i<w):(bL w E)[i]?=aA (cR w (E i)):=by unfold bL;rw[aW,bJ a];rfl
theorem VB(f:Nat->Int):Z9 (cR w f)=aC:=ZV _
theorem NQ:ZJ (bL w E)=aC:=by rw[Xp,ar];intro x a;obtain⟨i,_,rfl⟩:=bb.mp a;exact VB _
theorem BX{v:Nat->Int}(c:a<w):(bL w E).set a (cR w v)=bL w (YU a v E):=by
 apply cj;intro i;rw[au,U6];by_cases b:i<w
 ·rw[Kw (E:=YU a v E) b];by_cases q:a=i
  ·subst q;rw[kz rfl,kz b,Z1]
  ·rw[l4 q,Kw b,YX _ _ (λz=>q z.symm)]
 ·rw[bV (l:=bL w (YU a v E)) (by rw[U6];omega),l4 (by omega)];exact bV (by rw[U6];omega)
theorem PK(a:i<w)(q:f s=aA (.lst (bL w E)))(b:g s=aA (.int (i:Int))):Zj ZQ f g s=aA (cR w (E i)):=o2 q b (W7 (Kw a))
theorem Zal{v:Nat->Int}(a:j<w)(q:f s=aA (cR w v))(b:g s=aA (.int (j:Int))):Zj ZQ f g s=aA (.int (v j)):=o2 q b (SY a)
theorem TY(c:i<w)(d:j<w)(q:f s=aA (.lst (bL w E)))(b:g s=aA (.int (i:Int)))(a:h s=aA (.int (j:Int))):Zj ZQ (Zj ZQ f g) h s=aA (.int (E i j)):=Zal d (PK c q b) a
theorem MY{v:Nat->Int}{c:Nat}(b:a<w)(q:f s=aA (.int (a:Int)))(e:g s=aA (cR w v))(d:K5 s c=aA (bL w E)):XG c f g s=aA (.nx (s.set c (aA (.lst (bL w (YU a v E)))))):=by rw[Om e q d NQ (VB _) (Tx (by rw[U6];exact b)),BX b]
theorem S5{v:Nat->Int}(q:f s=aA (.lst (iL (ZE w v)))):PB f s=aA (cR w v):=by unfold PB;rw[q];show(XD (iL (ZE w v))).map _=_;rw[Xa];rfl
theorem Kx{u v:Nat->Int}:WU (iL (ZE w u)) (iL (ZE w v))=(aE w).map λj=>.tup [.int (u j),.int (v j)]:=by rw[YG _ _ (by simp[Zr]),aN,Zr];refine ak λi a=>?_;have a:=aQ.mp a;rw[Yu _ i (by rw[Zr];exact a),Yu _ i (by rw[Zr];exact a),Z5 a,Z5 a]
theorem Fv{x:Int}{G:Nat}(h:x.natAbs<2^G)(a:0<G):x.natAbs.log2<G:=by
 by_cases z:x.natAbs=0
 ·rw[z];have:Nat.log2 0=0:=by decide
  omega
 ·exact(kG z).mpr h
theorem IQ{x y:Int}{G:Nat}(h:x.natAbs<2^G)(c:y.natAbs<2^G)(a:0<G)(b:G<=67000000):CMulW x y:=⟨by have:=Fv h a;omega,by have:=Fv c a;omega⟩
theorem JF{u v:Nat->Int}{q:Int}(b:w<=100)(a:∀j,j<w->CMulW q (v j)):Su [cR w u,cR w v,.int q]=aA (.lst (iL (ZE w λj=>u j-q*v j))):=by refine YV (ret (Xl (q:=λj=>.tup [.int (u j),.int (v j)]) (λj=>u j-q*v j) ?_ b λj c=>⟨_,rfl,vP (vI rfl (vC (C:=CMulW) (op:=(· * ·)) rfl rfl (a j c)))⟩));show aA (WU (iL (ZE w u)) (iL (ZE w v)))=_;rw[Kx]
noncomputable def bw(m k:Nat)(E:Mt):List Nat:=((aE (m-(k+1))).map λi=>k+1+i).filter λi=>decide (E i k≠0)
theorem mem_bw{x:Nat}:x∈bw m k E↔k<x/\x<m/\E x k≠0:=by
 unfold bw;rw[gW,bb];constructor
 ·rintro⟨⟨i,a,rfl⟩,h⟩;have:=aQ.mp a;exact⟨by omega,by omega,of_decide_eq_true h⟩
 ·rintro⟨c,d,b⟩;exact⟨⟨x-(k+1),aQ.mpr (by omega),by omega⟩,decide_eq_true b⟩
theorem Cp:(bw m k E).Pairwise (· < ·):=by unfold bw;refine List.Pairwise.filter _ (List.pairwise_map.mpr ?_);exact List.Pairwise.imp (λh=>by omega) List.pairwise_lt_range
theorem Fw{x:Nat}{r:List Nat}(e:bw m k E=x::r):PM.Fst m k E x:=by
 have a:=mem_bw.mp (show x∈bw m k E by rw[e];exact aZ);refine⟨a.1,a.2.1,a.2.2,λi c d=>b5 λz=>?_⟩;have b:i∈bw m k E:=mem_bw.mpr ⟨c,by omega,z⟩;have up:=Cp (m:=m) (k:=k) (E:=E);rw[e] at b up;rcases a9.mp b with q | q
 ·omega
 ·have:=List.rel_of_pairwise_cons up q;omega
theorem Um(d:m<=w)(f:w<=100)(c:k<m):Y5 [.lst (bL w E),.int (m:Int),.int (k:Int)]=aA (.lst (iL (nL (bw m k E)))):=by
 have e:iL (nL (bw m k E))=(bw m k E).map λ(i:Nat)=>PV.int (i:Int):=by simp[nL]
 rw[e];refine YV (ret (Vl ((aE (m-(k+1))).map λi=>k+1+i) (λ(i:Nat)=>PV.int (i:Int)) (λ(i:Nat)=>PV.int (i:Int)) (λi=>decide (E i k≠0)) ?_ (by simp;omega) λi b=>?_))
 ·rw[Sm (i:=(k:Int)+1) (j:=(m:Int)) (Af rfl rfl) rfl (by omega) (by omega)];unfold UQ;rw[cM,show((m:Int)-((k:Int)+1)).toNat=m-(k+1) by omega];congr 1
 ·obtain⟨x,a,rfl⟩:=bb.mp b;have:=aQ.mp a;refine⟨_,rfl,xb (o2 (TY (by omega) (by omega) rfl rfl rfl) rfl ?_),λ_=>vP rfl⟩;rw[O5];simp
end
abbrev Ah(w m k:Nat)(E0 E:Mt)(x5 x6 x7:Option PV):ZF:=[aA (.lst (bL w E0)),aA (.int (m:Int)),aA (.int (k:Int)),aA (.lst (bL w E)),aA (.lst (iL (nL (bw m k E)))),x5,x6,x7]
theorem Fx(x:Int):LF [.int x]=aA (.int (x.natAbs:Int)):=by
 show aA (PV.int (if x<0 then -x else x))=_;congr 2;split<;>omega
theorem DB{k f:Nat}{E:Mt}(h:k≠f):YU f (E k) (YU k (E f) E)=λi j=>E (PM.sw k f i) j:=by
 funext i;unfold YU PM.sw;by_cases q:i=f
 ·rw[kz q,l4 (by omega),kz q]
 ·rw[l4 q];by_cases a:i=k
  ·rw[kz a,kz a]
  ·rw[l4 a,l4 a,l4 q]
noncomputable def PL(X:List Nat)(k:Nat)(E:Mt):Mt:=λi j=>if i∈X then E i j-(E i k).fdiv (E k k)*E k j else E i j
theorem DC{w m k:Nat}{E0 E a:Mt}{d f x7:Option PV}{G:Nat}(B:w<=100)(I:m<=w)(A:k<m)(J:0<G)(F:G<=60000000)(p:∀i j,k<=i->i<m->j<w->(a i j).natAbs<2^G)(u:a k k≠0) :
  Wl (Xq [3] (Ve (Za 4)) (.one 7) (XG 3 (Za 7) (PB (Zc Su [Zj ZQ (Za 3) (Za 7),Zj ZQ (Za 3) (Za 2),Zj Gw (Zj ZQ (Zj ZQ (Za 3) (Za 7)) (Za 2)) (Zj ZQ (Zj ZQ (Za 3) (Za 2)) (Za 2))]))))
   [aA (.lst (bL w E0)),aA (.int (m:Int)),aA (.int (k:Int)),aA (.lst (bL w a)),aA (.lst (iL (nL (bw m k E)))),d,f,x7]
   λs=>∃x7,s=[aA (.lst (bL w E0)),aA (.int (m:Int)),aA (.int (k:Int)),aA (.lst (bL w (PL (bw m k E) k a))),aA (.lst (iL (nL (bw m k E)))),d,f,x7]:=by
 refine Dh (Zaf (X:=bw m k E) (λt s=>∃x7,s=[aA (.lst (bL w E0)),aA (.int (m:Int)),aA (.int (k:Int)),aA (.lst (bL w (PL ((bw m k E).take t) k a))),aA (.lst (iL (nL (bw m k E)))),d,f,x7]) rfl ⟨x7,?_⟩ ?_) ?_
 ·rw[jC,show PL [] k a=a from funext λi=>funext λj=>l4 (cy)]
 ·rintro t s n ⟨x7,rfl⟩;have o:=mem_bw.mp (cz (l:=bw m k E) n);obtain⟨x,r⟩:∃x,x=(bw m k E)[t]:=⟨_,rfl⟩;rw[<-r] at o ⊢
  have xn:x∉(bw m k E).take t:=λz=>by
   obtain⟨i,L,e⟩:=List.mem_take_iff_getElem.mp z;have g:i<t:=by omega
   have:=(List.pairwise_iff_getElem.mp (Cp (m:=m) (k:=k) (E:=E))) i t (by omega) n g;omega
  have D:k∉(bw m k E).take t:=λz=>by have:=(mem_bw.mp (gU z)).1;omega
  have h:PL ((bw m k E).take t) k a x=a x:=funext λj=>l4 xn;have c:PL ((bw m k E).take t) k a k=a k:=funext λj=>l4 D;refine He (MY (v:=λj=>a x j-(a x k).fdiv (a k k)*a k j) (by omega) rfl (S5 (c3 (PK (by omega) rfl rfl) (PK (by omega) rfl rfl) (vC (C:=λ_ j=>j≠0) (op:=jD) (TY (by omega) (by omega) rfl rfl rfl) (TY (by omega) (by omega) rfl rfl rfl) ?_) ?_)) rfl) ⟨aA (.int (x:Int)),?_⟩
  ·rw[c];exact u
  ·rw[h,c];refine JF B λj H=>?_;have q:=(PM.fd_any (x:=a x k) u).2.2;have b:=p x k (by omega) o.2.1 (by omega);refine IQ (G:=G+1) ?_ (aa (p k j (aL _) A H) (PM.pw2 (by omega))) (by omega) (by omega);rw[di];omega
  ·show [aA (PV.lst (bL w E0)),aA (.int (m:Int)),aA (.int (k:Int)),aA (.lst (bL w (YU x (λj=>a x j-(a x k).fdiv (a k k)*a k j) (PL ((bw m k E).take t) k a)))),aA (.lst (iL (nL (bw m k E)))),d,f,aA (.int (x:Int))]=_;congr 4;congr 2;congr 1;funext i;unfold YU;have tk:∀y,y∈(bw m k E).take (t+1)↔y∈(bw m k E).take t\/y=x:=λy=>by rw[List.take_succ_eq_append_getElem n,b6,ag,<-r]
   by_cases q:i=x
   ·rw[kz q,q];funext j;unfold PL;rw[kz ((tk x).mpr (.inr rfl))]
   ·rw[l4 q];funext j;unfold PL;by_cases b:i∈(bw m k E).take t
    ·rw[kz b,kz ((tk i).mpr (.inl b))]
    ·rw[l4 b,l4 (λz=>by rcases(tk i).mp z with z | z;exact b z;exact q z)]
 ·rintro s ⟨x7,rfl⟩;rw[eA];exact⟨x7,rfl⟩
theorem DD{w m k f:Nat}{E:Mt}(F:PM.Fst m k E f)(d:k<m):PL (bw m k E) k (PM.pre k f E)=PM.red m k (PM.pre k f E):=by
 funext i j;unfold PL PM.red;by_cases q:i∈bw m k E
 ·have:=mem_bw.mp q;rw[kz q,kz ⟨this.1,this.2.1⟩]
 ·rw[l4 q];by_cases c:k<i/\i<m
  ·rw[kz c];have z:E i k=0:=b5 λz=>q (mem_bw.mpr ⟨c.1,c.2,z⟩)
   have e:PM.pre k f E i k=0:=by
    unfold PM.pre;split
    ·show E (PM.sw k f i) k=0;rw[PM.sw_c (a:=k) (b:=f) (by omega) (λy=>F.ne (by rw[<-y];exact z))];exact z
    ·exact z
   rw[e,Int.zero_fdiv,bZ,jr]
  ·rw[l4 c]
theorem OB{w m k G:Nat}{E0:Mt}(C:w<=100)(O:m<=w)(c:k<m)(hG:0<G)(L:G<=60000000)(hB:∀j,j<w->∃N M P,PM.Hyp m k E0 j N M P/\2*(N*(M+2)*P^3)<2^G):∃E,ZN [.lst (bL w E0),.int (m:Int),.int (k:Int)]=aA (.lst (bL w E))/\PM.CL m k E0 E:=by
 suffices g:Y0 VG (ZM 8 [.lst (bL w E0),.int (m:Int),.int (k:Int)]) λv=>∃E,v = .lst (bL w E)/\PM.CL m k E0 E by obtain⟨v,e,E,rfl,r⟩:=Rh g;exact⟨E,e,r⟩
 have I:∀{N M P:Nat},1<=P->N<=2*(N*(M+2)*P^3):=λ{N M P} h=>by have c3:1<=P^3:=fE _ _ h;have:N<=N*(M+2):=az N (by omega);have:N*(M+2)<=N*(M+2)*P^3:=az _ c3;omega
 refine Z3 (Zx (c1 rfl (by rw[Tt,kz NQ]))) (Z3 (Zx (c3 rfl rfl rfl (Um O C c))) ?_)
 obtain⟨Q,U⟩:∃Q,∀f,PM.Fst m k E0 f->(PM.red m k (PM.pre k f E0) k k).natAbs<Q:=by
  by_cases q:∃f,PM.Fst m k E0 f
  ·obtain⟨f,F⟩:=q;refine⟨(PM.red m k (PM.pre k f E0) k k).natAbs+1,λg D=>?_⟩
   have:g=f:=by
    rcases jq g f with z | z | z
    ·exact absurd (F.ze g D.lo z) D.ne
    ·exact z
    ·exact absurd (D.ze f F.lo z) F.ne
   rw[this];omega
  ·exact⟨0,λf F=>absurd ⟨f,F⟩ q⟩
 refine Rj (JE (λn st=>∃E o l x7,st=Ah w m k E0 E o l x7/\PM.RT m k E0 E/\((E=E0/\n=Q)\/(PM.Aft m k E0 E/\n=(E k k).natAbs))) ⟨E0,none,none,none,rfl,.refl,.inl ⟨rfl,rfl⟩⟩ ?_) ?_
 ·rintro n st ⟨E,o,l,x7,rfl,rt,y⟩;have a:(iL (nL (bw m k E))).length=(bw m k E).length:=by simp[nL]
  have d:xB (Zj Lc (Zc Y1 [Za 4]) (eC (.int 0))) (Ah w m k E0 E o l x7)=aA (decide (0<(bw m k E).length)):=xb (vgt (b:=0) (c1 rfl (by rw[LM,a])) rfl)
  cases e:bw m k E with
  | nil=>exact .inl (d.trans (by rw[e];rfl))
  | cons f r=>
   refine .inr ⟨d.trans (by rw[e];rfl),?_⟩;have F:=Fw e;have Y:=F.lo
   -- the bounds
   have W:∀i j,k<=i->i<m->j<w->(E i j).natAbs<2^G:=λi j t p B=>by
    obtain⟨N,M,P',H,x⟩:=hB j B;rcases y with⟨rfl,_⟩ | ⟨A,_⟩
    ·exact aq (H.bo i t p) (aq (I H.one) x)
    ·obtain⟨N',Z,X,_⟩:=A.po j N M P' H;exact aq (Z i t p) (aq X x)
   have J:PM.Aft m k E0 (PM.red m k (PM.pre k f E))/\(PM.red m k (PM.pre k f E) k k).natAbs<n:=by
    rcases y with⟨rfl,rfl⟩ | ⟨A,rfl⟩
    ·exact⟨PM.Aft.first c F,U f F⟩
    ·exact A.next c F
   have pz:PM.pre k f E k k≠0:=by have:=J.1.nz;rwa [PM.red_k] at this
   have T:∀i j,k<=i->i<m->j<w->(PM.pre k f E i j).natAbs<2^G:=λi j t p B=>by
    unfold PM.pre;split
    ·exact W _ j (by unfold PM.sw;split<;>(try split)<;>omega) (PM.sw_lt c F.hi p) B
    ·exact W i j t p B
   have u:∀o:Option PV,HA (xB (Zj (WR aB) (Zj ZQ (Zj ZQ (Za 3) (Za 2)) (Za 2)) (eC (.int 0)))) (xB (Zj Lb (Zc LF [Zj ZQ (Zj ZQ (Za 3) (Za 5)) (Za 2)]) (Zc LF [Zj ZQ (Zj ZQ (Za 3) (Za 2)) (Za 2)]))) (Ah w m k E0 E (aA (.int (f:Int))) l x7)=aA (decide (E k k=0) || decide ((E f k).natAbs<(E k k).natAbs)):=λ_=>xo (xb (IG (TY (by omega) (by omega) rfl rfl rfl) rfl)) (xb (vlt (c1 (TY (by have:=F.hi;omega) (by omega) rfl rfl rfl) (Fx _)) (c1 (TY (by omega) (by omega) rfl rfl rfl) (Fx _))));have hf:ZQ (.lst (iL (nL (bw m k E)))) (.int 0)=aA (.int (f:Int)):=by rw[e];exact W7 (j:=0) rfl
   refine TV (Zx (ep (o2 rfl rfl hf))) (Ck (R:=λs=>∃l,s=[aA (.lst (bL w E0)),aA (.int (m:Int)),aA (.int (k:Int)),aA (.lst (bL w (PM.pre k f E))),aA (.lst (iL (nL (bw m k E)))),aA (.int (f:Int)),l,x7]) (Cm (u o) (λz=>?_) λz=>?_) ?_)
   ·have S:E k k=0\/(E f k).natAbs<(E k k).natAbs:=by simpa using z
    refine TV (Zx (ep (PK (by omega) rfl rfl) (VB _))) (TV (MY (by omega) rfl (PK (by have:=F.hi;omega) rfl rfl) rfl) (He (MY (v:=E k) (by have:=F.hi;omega) rfl rfl rfl) ⟨aA (cR w (E k)),?_⟩));show [aA (PV.lst (bL w E0)),aA (.int (m:Int)),aA (.int (k:Int)),aA (.lst (bL w (YU f (E k) (YU k (E f) E)))),aA (.lst (iL (nL (bw m k E)))),aA (.int (f:Int)),aA (cR w (E k)),x7]=_;rw[DB (by omega),show PM.pre k f E=λi j=>E (PM.sw k f i) j by unfold PM.pre;rw[kz S]]
   ·have S:¬(E k k=0\/(E f k).natAbs<(E k k).natAbs):=by simpa using z
    exact He rfl ⟨l,by rw[show PM.pre k f E=E by unfold PM.pre;rw[l4 S]];rfl⟩
   ·rintro s ⟨y6,rfl⟩;refine Ck (DC C O c hG L T pz) ?_;rintro s ⟨y7,rfl⟩;rw[DD (w:=w) F c];exact He (Zx (c3 rfl rfl rfl (Um O C c))) ⟨_,J.2,_,_,_,_,rfl,(rt.trans (by omega) (PM.rt_pre c F.lo F.hi)).trans (by omega) (PM.rt_red c),.inr ⟨J.1,rfl⟩⟩
 ·rintro st ⟨n,⟨E,o,l,x7,rfl,rt,y⟩,q⟩;have a:(iL (nL (bw m k E))).length=(bw m k E).length:=by simp[nL]
  have d:xB (Zj Lc (Zc Y1 [Za 4]) (eC (.int 0))) (Ah w m k E0 E o l x7)=aA (decide (0<(bw m k E).length)):=xb (vgt (b:=0) (c1 rfl (by rw[LM,a])) rfl);have q0:=of_decide_eq_false (ay (d.symm.trans q));have nil:bw m k E=[]:=List.eq_nil_of_length_eq_zero (by omega);have z:∀i,k<i->i<m->E i k=0:=λi t p=>b5 λz=>by have:=mem_bw.mpr ⟨t,p,z⟩;rw[nil] at this;exact cy this
  refine XY rfl ⟨E,rfl,?_⟩;rcases y with⟨rfl,_⟩ | ⟨A,_⟩
  ·exact .refl z
  ·exact .aft rt A z
section
variable {w m k:Nat} {E:Mt}
theorem Uo(b:w<=100):Yv [.lst (bL w E)]=aA (.lst (bL w (PM.tr E))):=by refine YV (ret (ZR (aE w) (λ(i:Nat)=>PV.int (i:Int)) (λi=>cR w (PM.tr E i)) (Yd (c1 rfl (by rw[LM,U6])) (by omega)) (by simp;omega) λi a=>⟨_,rfl,rfl,ep (S5 ?_) (VB _)⟩));have a:=aQ.mp a;exact Xl (q:=λr=>cR w (E r)) (λr=>E r i) rfl b λr c=>⟨_,rfl,vP (Zal a rfl rfl)⟩
noncomputable def beside(m k:Nat)(E:Mt):Bool:=((aE (m-(k+1))).map λi=>E k (k+1+i)).any λz=>z != 0
theorem IS(h:beside m k E=aB):∀j,k<j->j<m->E k j=0:=λj a b=>by have:=fX.mp h (E k j) (bb.mpr ⟨j-(k+1),aQ.mpr (by omega),by rw[show k+1+(j-(k+1))=j by omega]⟩);simpa using this
theorem Ky(h:∀j,k<j->j<m->E k j=0):beside m k E=aB:=fX.mpr λx a=>by obtain⟨i,b,rfl⟩:=bb.mp a;have:=aQ.mp b;rw[h _ (by omega) (by omega)];simp
theorem DE{l:List Int}{a b:Nat}(d:a<=l.length)(c:b<=l.length):WG (iL l) (aA (a:Int)) (aA (b:Int))=iL ((l.drop a).take (b-a)):=by unfold WG;rw[HT.sIx_nat,HT.sIx_nat,aN,dH d,dH c,<-k8,<-k7]
theorem R4{v:Nat->Int}{a b:Nat}(c:a<=b)(d:b<=w):((ZE w v).drop a).take (b-a)=(aE (b-a)).map λi=>v (a+i):=by
 apply cj;intro i;rw[List.getElem?_take];by_cases h:i<b-a
 ·rw[kz h,dQ,aW,bJ h];unfold ZE;rw[aW,bJ (by omega)];rfl
 ·rw[l4 h,bV (by simp;omega)]
theorem JG{s:ZF}{f g h:XE}(e:m<=w)(j:k<m)(q:f s=aA (.lst (bL w E)))(c:g s=aA (.int (k:Int)))(d:h s=aA (.int (m:Int))):xB (Zc QN [Qt Tj (Zj ZQ f g) (U8 (Zj Yj g (eC (.int 1)))) (U8 h)]) s=aA (beside m k E):=by
 refine xb (c1 (a:=.lst (iL ((aE (m-(k+1))).map λi=>E k (k+1+i)))) ?_ ?_)
 ·rw[X7,PK (by omega) q c];simp only[aY];unfold U8;rw[Af (a:=(k:Int)) (b:=1) c rfl,d];simp only[aY];show aA (PV.lst (WG (iL (ZE w (E k))) (aA ((k:Int)+1)) (aA (m:Int))))=_;rw[show((k:Int)+1)=((k+1:Nat):Int) from rfl,DE (by rw[Zr];omega) (by rw[Zr];omega),R4 (by omega) e]
 ·show(XD (iL _)).map _=_;rw[Xa];rfl
end
theorem BY{m k e a d G:Nat}{f E:Mt}(g:k<m)(h:PM.RZ m k e a d f E)(p:d+2*a+3*e+3<G):∀j,j<m+m->∃N M P,PM.Hyp m k E j N M P/\2*(N*(M+2)*P^3)<2^G:=λj o=>by
 have lt:∀{x},x<=d+2*a+3*e+3->2^x<2^G:=λ{x} n=>bq (by omega) (by omega);have col:∀i,k<=i->i<m->(E i k).natAbs<=2^a:=λi c b=>h.ab i k c b (aL _) g;by_cases q:j<m
 ·refine⟨2^a,2^a,2^e,⟨λi c b=>?_,br,λ_=>h.pb,λz=>absurd z h.nz,.inl col⟩,aq (PM.bits3 _ _ _) (lt (by omega))⟩;by_cases l:j<k
  ·rw[(h.cr.d1 j i l b (by omega)).2];exact cO _
  ·exact h.ab i j c b (by omega) q
 ·refine⟨2^d,2^a,2^e,⟨λi c b=>?_,br,λ_=>h.pb,λz=>absurd z h.nz,.inl col⟩,aq (PM.bits3 _ _ _) (lt (by omega))⟩;have:=h.lb i (j-m) b (by omega)
  rwa [show m+(j-m)=j by omega] at this
theorem Pk{m k e d c G:Nat}{f E:Mt}(i:m<=50)(b:k<m)(h:PM.RZ m k e d c f E)(g:c+2*d+3*e+3<G)(a:G<=60000000):∃E',ZN [.lst (bL (m+m) E),.int (m:Int),.int (k:Int)]=aA (.lst (bL (m+m) E'))/\PM.CL m k E E':=
 OB (G:=G) (by omega) (by omega) b (by omega) a (BY b h g)
theorem BZ{m k e g f:Nat}{a E:Mt}{D:Int}(b:PM.Bs m a D)(h:PM.RZ m k e g f a (PM.tr E))(z:∀j,k<j->j<m->E k j=0):PM.RZ m k e g f a E:=
 ⟨h.cr.tr b,h.nz,h.pb,z,h.mb.tr,λi j c d=>h.rb j i d c,λi j c d=>h.lb j i d c⟩
abbrev stX(w m k:Nat)(B:List PV)(E:Mt):ZF:=[aA (.lst B),aA (.int (m:Int)),aA (.int (k:Int)),aA (.lst (bL w E))]
theorem TZ{m k e I x G sx bx:Nat}{s o:Nat->Nat}{l E:Mt}{B:List PV}{D:Int}(b:PM.Bs m l D)(S:PM.Bv m k I s o l)(P:m<=50)(p:k<m)(he:e<=I)(Z:I<=20)(h:PM.RZ m k e (o e) x l (PM.tr E))(y:∀e,e<=I->o e<=bx/\s e<=sx)
  (hG:x+PM.f1 s e+sx+2*bx+70<G) (t:G<=60000000) :
  Y0 (Zn (Xr (xB (Zc QN [Qt Tj (Zj ZQ (Za 3) (Za 2)) (U8 (Zj Yj (Za 2) (eC (.int 1)))) (U8 (Za 1))])) (Zn (Zs 3 (Zc Yv [Zc ZN [Zc Yv [Za 3],Za 1,Za 2]])) (Zs 3 (Zc ZN [Za 3,Za 1,Za 2])))) (ZO (Za 3)))
   (stX (m+m) m k B E) λv=>∃E' e' γ',v = .lst (bL (m+m) E')/\e'<=e/\γ'+PM.f1 s e'<=x+PM.f1 s e+2*s e'/\PM.RZ m k e' (o e') γ' l E'/\PM.RZ m k e' (o e') γ' l (PM.tr E')/\((¬ ∀i,k<i->i<m->E k k∣E k i)->e'<e):=by
 refine Rj (JE (λn st=>∃d a c,st=stX (m+m) m k B d/\((n=a+1/\a<=e/\c+PM.f1 s a<=x+PM.f1 s e/\PM.RZ m k a (o a) c l (PM.tr d)/\(a=e->d=E))\/(n=0/\a<=e/\c+PM.f1 s a<=x+PM.f1 s e+2*s a/\PM.RZ m k a (o a) c l d/\PM.RZ m k a (o a) c l (PM.tr d)/\((¬ ∀i,k<i->i<m->E k k∣E k i)->a<e)))) ⟨E,e,x,rfl,.inl ⟨rfl,aL _,aL _,h,λ_=>rfl⟩⟩ ?_) ?_
 ·rintro n st ⟨d,a,c,rfl,N⟩;have j:xB (Zc QN [Qt Tj (Zj ZQ (Za 3) (Za 2)) (U8 (Zj Yj (Za 2) (eC (.int 1)))) (U8 (Za 1))]) (stX (m+m) m k B d)=aA (beside m k d):=JG (by omega) p rfl rfl rfl
  cases q:beside m k d with
  | false=>exact .inl (j.trans (by rw[q]))
  | true=>
   refine .inr ⟨j.trans (by rw[q]),?_⟩;rcases N with⟨rfl,f,M,g,r⟩ | ⟨_,_,_,g,_⟩
   ·have b1:=y a (by omega);obtain⟨F,X,T⟩:=Pk (G:=G) P p g (by omega) t
    have c2:∃C,ZN [.lst (bL (m+m) (PM.tr F)),.int (m:Int),.int (k:Int)]=aA (.lst (bL (m+m) C))/\PM.CL m k (PM.tr F) C:=by
     rcases PM.HV b S p (by omega) g T with⟨_,H,_⟩ | ⟨w,rfl,H,_⟩
     ·exact Pk (G:=G) P p H (by omega) t
     ·have:=y w (by omega);exact Pk (G:=G) P p H (by omega) t
    obtain⟨C,O,R⟩:=c2;refine TV (Zx (c1 (c3 (c1 rfl (Uo (by omega))) rfl rfl X) (Uo (by omega)))) (He (Zx (c3 rfl rfl rfl O)) ?_);rcases PM.turnV b S p (by omega) g T R with⟨w,u,Y,U,A,J,L⟩ | ⟨w,u,Y,U,A⟩
    ·refine⟨0,by omega,C,w,u,rfl,.inr ⟨rfl,by omega,by omega,A,J,λz=>?_⟩⟩;by_cases Q:a=e
     ·have:=L (by rw[r Q];exact z);omega
     ·omega
    ·exact⟨w+1,by omega,C,w,u,rfl,.inl ⟨rfl,by omega,by omega,A,λz=>by omega⟩⟩
   ·exfalso;rw[Ky g.rz] at q;cases q
 ·rintro st ⟨n,⟨d,a,c,rfl,N⟩,q⟩;have j:xB (Zc QN [Qt Tj (Zj ZQ (Za 3) (Za 2)) (U8 (Zj Yj (Za 2) (eC (.int 1)))) (U8 (Za 1))]) (stX (m+m) m k B d)=aA (beside m k d):=JG (by omega) p rfl rfl rfl;have z:=IS (ay (j.symm.trans q));rcases N with⟨rfl,f,M,g,r⟩ | ⟨_,f,M,g,H,L⟩
  ·refine XY rfl ⟨d,a,c,rfl,f,by omega,BZ b g z,g,λW=>?_⟩;refine dU f λQ=>W ?_;have e:=r Q;subst e;exact λi A J=>by rw[z i A J];exact cV _
  ·exact XY rfl ⟨d,a,c,rfl,f,M,g,H,L⟩
theorem MZ{w m k:Nat}{E:Mt}(d:w<=100)(c:m<=w)(a:k<m)(z:∀i,k<i->i<m->E i k=0):ZN [.lst (bL w E),.int (m:Int),.int (k:Int)]=aA (.lst (bL w E)):=by
 have nil:bw m k E=[]:=List.eq_nil_iff_forall_not_mem.mpr λx b=>by have:=mem_bw.mp b;exact this.2.2 (z x this.1 this.2.1)
 refine Jr (Z3 (Zx (c1 rfl (by rw[Tt,kz NQ]))) (Z3 (Zx (c3 rfl rfl rfl (Um c d a))) (Rj (JE (k:=0) (λn st=>st=Ah w m k E E none none none) rfl ?_) ?_)))
 ·rintro n st rfl;unfold Ah;rw[nil];exact .inl rfl
 ·rintro st ⟨n,rfl,_⟩;exact XY rfl rfl
theorem B1{m k a d G:Nat}{g E:Mt}(e:k<m)(h:PM.Pl m k a d g E)(r:d+5*a+3<G):∀j,j<m+m->∃N M P,PM.Hyp m k E j N M P/\2*(N*(M+2)*P^3)<2^G:=λj p=>by
 have lt:∀{x},x<=d+5*a+3->2^x<2^G:=λ{x} o=>bq (by omega) (by omega);have col:∀i,k<=i->i<m->(E i k).natAbs<=2^a:=λi c b=>h.ab i k c b (aL _) e;have f:∀N,PM.Bo m k j N E->PM.Hyp m k E j N (2^a) (2^a):=λN l=>⟨l,br,λ_=>col k (aL _) e,λ_ i c b=>col i (by omega) b,.inl col⟩;by_cases q:j<m
 ·refine⟨2^a,2^a,2^a,f _ λi c b=>?_,aq (PM.bits3 _ _ _) (lt (by omega))⟩;by_cases n:j<k
  ·rw[(h.cr.d1 j i n b (by omega)).2];exact cO _
  ·exact h.ab i j c b (by omega) q
 ·refine⟨2^d,2^a,2^a,f _ λi c b=>?_,aq (PM.bits3 _ _ _) (lt (by omega))⟩;have:=h.lb i (j-m) b (by omega)
  rwa [show m+(j-m)=j by omega] at this
structure Plc(m k a e0 sf sx bx:Nat)(s β:Nat->Nat)(A0 E:Mt)(D:Int):Prop where
 bs:PM.Bs m A0 D
 bd:PM.Bv m k e0 s β A0
 m5:m<=50
 km:k<m
 e17:e0<=20
 b8:∀e,e<=e0->β e<=bx/\s e<=sx
 a5:7*a+6<=β e0
 a4:4*a+3<=sf
 small:sf+sx+sx+sx+2*bx+PM.f2 s e0<=28500000
 pb:∀E',PM.CL m k E E'->(E' k k).natAbs<=2^e0
section
variable {m k a e0 γ sf sx bx:Nat} {s β:Nat->Nat} {A0 E:Mt} {D:Int}
theorem PN(P:Plc m k a e0 sf sx bx s β A0 E D)(h:PM.Pl m k a γ A0 E)(l:γ<=31000000) :
  ∃e c b,Y2 [.lst (bL (m+m) E),.int (m:Int),.int (k:Int)]=aA (.lst (bL (m+m) e))/\c<=e0/\b+PM.f1 s c<=γ+sf+PM.f1 s e0+2*s c/\PM.RZ m k c (β c) b A0 e/\PM.RZ m k c (β c) b A0 (PM.tr e):=by
 have j:=P.m5;have f:=P.km;have u:=P.a5;have A:=P.a4;have i:=P.e17;have C:=P.b8 e0 (aL _);have F:=P.small;have H:=PM.f2_ge s e0;obtain⟨p,t,d⟩:=OB (w:=m+m) (G:=60000000) (by omega) (by omega) f (by omega) (by omega) (B1 f h (by omega));have r:=PM.Pl.first (s:=sf) P.bs f h d (P.pb p d) u A;have g:=TZ (G:=60000000) (sx:=sx) (bx:=bx) (B:=bL (m+m) E) P.bs P.bd j f (aL e0) i r P.b8 (by omega) (by omega);have n:Y0 WI (ZM 4 [.lst (bL (m+m) E),.int (m:Int),.int (k:Int)]) _:=Z3 (Zx (c3 rfl rfl rfl t)) g;obtain⟨v,o,e,c,b,rfl,x,q,y,z,_⟩:=Rh n;exact⟨e,c,b,o,x,q,y,z⟩
theorem PQ{e:Nat}(P:Plc m k a e0 sf sx bx s β A0 E D){d:Mt}(n:e<=e0)(r:PM.RZ m k e (β e) γ A0 (PM.tr d))(j:γ+PM.f1 s e+sx+2*bx+70<60000000) :
  ∃f c b,Y2 [.lst (bL (m+m) d),.int (m:Int),.int (k:Int)]=aA (.lst (bL (m+m) f))/\c<=e/\b+PM.f1 s c<=γ+PM.f1 s e+2*s c/\PM.RZ m k c (β c) b A0 f/\PM.RZ m k c (β c) b A0 (PM.tr f)/\((¬ ∀i,k<i->i<m->d k k∣d k i)->c<e):=by
 have o:=P.m5;have l:=P.km;have h:=P.e17;have x:=P.small;have y:=PM.f2_ge s e0;have z:=PM.f1_mono s n;have g:=TZ (G:=60000000) (sx:=sx) (bx:=bx) (B:=bL (m+m) d) P.bs P.bd o l n h r P.b8 j (by omega);have q:Y0 WI (ZM 4 [.lst (bL (m+m) d),.int (m:Int),.int (k:Int)]) _:=Z3 (Zx (c3 rfl rfl rfl (MZ (w:=m+m) (by omega) (by omega) l λi p u=>r.rz i p u))) g;obtain⟨v,t,f,c,b,rfl,Ym⟩:=Rh q;exact⟨f,c,b,t,Ym⟩
noncomputable def B2(m k:Nat)(E:Mt)(i:Nat):Bool:=((aE m).map λj=>!decide ((E i j).fmod (E k k)=0)).any id
theorem DF{i:Nat}(h:B2 m k E i=aB):∀j,j<m->E k k∣E i j:=λj a=>by have:=fX.mp h (!decide ((E i j).fmod (E k k)=0)) (bb.mpr ⟨j,aQ.mpr a,rfl⟩);exact Int.dvd_of_fmod_eq_zero (by simpa using this)
theorem Fy{i:Nat}(h:B2 m k E i=aC):∃j,j<m/\¬E k k∣E i j:=by obtain⟨b,a,c⟩:=eH.mp h;obtain⟨j,d,rfl⟩:=bb.mp a;refine⟨j,aQ.mp d,λz=>?_⟩;have:=Int.fmod_eq_zero_of_dvd z;simp[this] at c
theorem M0{w:Nat}(r:w<=100)(l:m<=w)(p:k<m)(h:E k k≠0):∃v,Wx [.lst (bL w E),.int (m:Int),.int (k:Int)]=aA v/\((v = .non/\∀i j,k<i->i<m->j<m->E k k∣E i j)\/(∃u:Nat,v = .int (u:Int)/\k<u/\u<m/\∃j,j<m/\¬E k k∣E u j)):=by
 refine Rh (Z3 (Zx (ep (TY (by omega) (by omega) rfl rfl rfl))) (Zae (L:=(aE (m-(k+1))).map λi=>k+1+i) (q:=λ(i:Nat)=>PV.int (i:Int)) (g:=λ(i:Nat)=>PV.int (i:Int)) (B2 m k E) (λs=>∃x,s=[aA (.lst (bL w E)),aA (.int (m:Int)),aA (.int (k:Int)),aA (.int (E k k)),x]) ?_ ⟨none,rfl⟩ ?_ ?_ ?_))
 ·rw[Sm (i:=(k:Int)+1) (j:=(m:Int)) (Af rfl rfl) rfl (by omega) (by omega)];unfold UQ;rw[cM,show((m:Int)-((k:Int)+1)).toNat=m-(k+1) by omega];congr 1
 ·rintro i c s ⟨x,rfl⟩;obtain⟨t,d,rfl⟩:=bb.mp c;have:=aQ.mp d;refine⟨_,rfl,xb (c1 (a:=.lst (((aE m).map λj=>!decide ((E (k+1+t) j).fmod (E k k)=0)).map PV.bl)) ?_ (H9 _)),ret (vP rfl),⟨_,rfl⟩⟩;rw[cM];refine ZR (aE m) (λj=>PV.int (E (k+1+t) j)) _ ?_ (by simp;omega) λj y=>⟨_,rfl,rfl,o2 (vC (C:=λ_ j=>j≠0) (op:=Int.fmod) rfl rfl h) rfl (by rw[O5];rfl)⟩;show(Qt Tj (Zj ZQ (Za 0) (Za 4)) Ml (U8 (Za 1)) _).bind _=_;rw[X7,PK (i:=k+1+t) (E:=E) (w:=w) (by omega) rfl rfl];simp only[aY,RH];show(aA (PV.lst (WG (iL (ZE w (E (k+1+t)))) none (aA (m:Int))))).bind _=_;rw[Ki];show aA (iL ((ZE w (E (k+1+t))).take m))=_;have:=R4 (w:=w) (v:=E (k+1+t)) (a:=0) (b:=m) (by omega) l;rw[gm,iX] at this;rw[this];show aA (iN PV.int (iN _ _))=_;rw[cM];congr 1;refine ak λi _=>?_;show PV.int (E (k+1+t) (0+i))=_;rw[Nat.zero_add]
 ·intro i c;have e:=gv c;have f:=kJ c;obtain⟨t,d,rfl⟩:=bb.mp e;have:=aQ.mp d;exact .inr ⟨_,rfl,by omega,by omega,Fy f⟩
 ·rintro n s ⟨x,rfl⟩;refine XY rfl (.inl ⟨rfl,λi j e f o=>DF ?_ j o⟩);have:=j5.mp n i (bb.mpr ⟨i-(k+1),aQ.mpr (by omega),by omega⟩);simpa using this
theorem IT{e c b:Nat}{d E:Mt}{G u:Nat}(h:PM.RZ m k e c b d E)(i:c<G)(n:b<G)(g:k<=u)(a:u<m):∀j,j<m+m->(E u j).natAbs<2^G:=λj o=>by
 have lt:∀{x},x<G->2^x<2^G:=λ{x} f=>bq (by omega) f;by_cases q:j<m
 ·by_cases l:j<k
  ·rw[(h.cr.d1 j u l a (by omega)).2];exact Nat.pow_pos (by omega)
  ·exact aq (h.ab u j g a (by omega) q) (lt i)
 ·have:=h.lb u (j-m) a (by omega);rw[show m+(j-m)=j by omega] at this;exact aq this (lt n)
theorem NR(P:Plc m k a e0 sf sx bx s β A0 E D)(h:PM.Pl m k a γ A0 E)(hγ:γ<=31000000)(f:Nat)(t:∀e,e<=e0->β e<=f) :
  ∃o d,Xj [.lst (bL (m+m) E),.int (m:Int),.int (k:Int)]=aA (.lst (bL (m+m) o))/\d<=γ+sf+2*sx+PM.f2 s e0/\PM.Pl m (k+1) f d A0 o:=by
 have m5:=P.m5;have H:=P.km;have e17:=P.e17;obtain⟨X,Y,B,v1,S,g1,l,p⟩:=PN P h (by omega);obtain⟨x1,w1,O⟩:=M0 (w:=m+m) (E:=X) (by omega) (by omega) H l.nz
 suffices g:Y0 TH (ZM 5 [.lst (bL (m+m) E),.int (m:Int),.int (k:Int)]) λv=>∃o d,v = .lst (bL (m+m) o)/\d<=γ+sf+2*sx+PM.f2 s e0/\PM.Pl m (k+1) f d A0 o by obtain⟨v,e,o,d,rfl,r⟩:=Rh g;exact⟨o,d,e,r⟩
 have sm:=P.small;have base:B+PM.f2 s Y<=γ+sf+2*sx+PM.f2 s e0:=by have:=PM.f2_le s S;have:=(P.b8 Y S).2;omega
 refine Z3 (Zx (c3 rfl rfl rfl v1)) (Z3 (Zx (c3 rfl rfl rfl w1)) (Rj (JE (λn st=>∃b c x,st=[aA (.lst (bL (m+m) E)),aA (.int (m:Int)),aA (.int (k:Int)),aA (.lst (bL (m+m) b)),aA x]/\n<=e0/\c+PM.f2 s n<=γ+sf+2*sx+PM.f2 s e0/\PM.RZ m k n (β n) c A0 b/\PM.RZ m k n (β n) c A0 (PM.tr b)/\((x = .non/\∀i j,k<i->i<m->j<m->b k k∣b i j)\/(∃u:Nat,x = .int (u:Int)/\k<u/\u<m/\∃j,j<m/\¬b k k∣b u j))) ⟨X,B,x1,rfl,S,base,l,p,O⟩ ?_) ?_))
 ·rintro n st ⟨b,c,x,rfl,C,hg,l,p,I⟩;rcases I with⟨rfl,_⟩ | ⟨u,rfl,W,F,j,A,Z⟩
  ·exact .inl rfl
  ·refine .inr ⟨rfl,?_⟩;have b8:=P.b8 n C;have fg:=PM.f2_ge s n;have J:=IT (G:=60000000) l (by omega) (by omega) (by omega) F;have lo:Su [cR (m+m) (b k),cR (m+m) (b u),.int 1]=aA (.lst (iL (ZE (m+m) λj=>b k j-1*b u j))):=JF (by omega) λj A=>IQ (G:=60000000) (by show 1<2^60000000;exact Nat.one_lt_two_pow (by omega)) (J j A) (by omega) (by omega);have r3:=l.unfit P.bs H p W F
   have eE:YU k (λj=>b k j-1*b u j) b=λi j=>if i=k then b i j-1*b u j else b i j:=by
    funext i;unfold YU;by_cases q:i=k
    ·rw[kz q];funext j;rw[kz q,q]
    ·rw[l4 q];funext j;rw[l4 q]
   obtain⟨E3,e3,L,v3,l3,g3,r4,r5,d3⟩:=PQ P C r3 (by omega)
   have less:e3<n:=d3 λz=>by
    have U:b u k=0:=p.rz u W F
    have T:k<j:=by
     refine Nat.not_le.mp λle=>Z ?_;by_cases q:j=k
     ·rw[q,U];exact cV _
     ·rw[(l.cr.d1 j u (by omega) F (by omega)).2];exact cV _
    have:=z j T A;simp only[kz] at this;rw[U,l.rz j T A] at this;refine Z ?_;have h2:b k k∣-(1*b u j):=by simpa using this
    simpa using Int.dvd_neg.mp h2
   have st:=PM.f2_step s less;obtain⟨x3,w3,M⟩:=M0 (w:=m+m) (E:=E3) (by omega) (by omega) H r4.nz;refine TV (MY (w:=m+m) (E:=b) (v:=λj=>b k j-1*b u j) (by omega) rfl (S5 (c3 (PK (by omega) rfl rfl) (PK (by omega) rfl rfl) rfl lo)) rfl) (TV (Zx (c3 rfl rfl rfl ?_)) (He (Zx (c3 rfl rfl rfl w3)) ⟨e3,less,E3,L,x3,rfl,by omega,by omega,r4,r5,M⟩));rw[eE];exact v3
 ·rintro st ⟨n,⟨b,c,x,rfl,C,hg,l,p,I⟩,q⟩;rcases I with⟨rfl,dv⟩ | ⟨u,rfl,_⟩
  case inr=>cases q
  have nx:=l.next H p dv;have Q:PM.Pl m (k+1) f c A0 (λi j=>if i=k/\b k k<0 then-b i j else b i j):=⟨nx.cr,nx.mb.up (PM.pw2 (t n C)),nx.lb,nx.rb⟩;have N:xB (Zj Lb (Zj ZQ (Zj ZQ (Za 3) (Za 2)) (Za 2)) (eC (.int 0))) [aA (.lst (bL (m+m) E)),aA (.int (m:Int)),aA (.int (k:Int)),aA (.lst (bL (m+m) b)),aA .non]=aA (decide (b k k<0)):=xb (o2 (TY (by omega) (by omega) rfl rfl rfl) rfl rfl);refine Rj (R:=λs=>s=[aA (.lst (bL (m+m) E)),aA (.int (m:Int)),aA (.int (k:Int)),aA (.lst (bL (m+m) (λi j=>if i=k/\b k k<0 then-b i j else b i j))),aA .non]) (Cm N (λz=>?_) λz=>?_) ?_
  ·have z:=of_decide_eq_true z;refine He (MY (w:=m+m) (E:=b) (v:=λj=>- b k j) (by omega) rfl (S5 (Xl (q:=λj=>.int (b k j)) (λj=>- b k j) ?_ (by omega) λj A=>⟨_,rfl,vP (Ag rfl rfl)⟩)) rfl) ?_
   ·show(Zj ZQ (Za 3) (Za 2) _).bind _=_;rw[PK (i:=k) (E:=b) (w:=m+m) (by omega) rfl rfl];show aA (iN PV.int (iN (b k) (aE (m+m))))=_;rw[cM];rfl
   ·show [_,_,_,aA (PV.lst (bL (m+m) (YU k (λj=>- b k j) b))),_]=_;rw[show YU k (λj=>- b k j) b=λi j=>if i=k/\b k k<0 then-b i j else b i j from ?_];funext i;unfold YU;by_cases q:i=k
    ·rw[kz q];funext j;rw[kz ⟨q,z⟩,q]
    ·rw[l4 q];funext j;rw[l4 (λy=>q y.1)]
  ·have z:=of_decide_eq_false z;refine He rfl ?_;rw[show(λi j=>if i=k/\b k k<0 then-b i j else b i j)=b from funext λi=>funext λj=>l4 (λy=>z y.2)]
  ·rintro s rfl;exact XY rfl ⟨_,c,rfl,by omega,Q⟩
end
noncomputable def E0(m:Nat)(A:Mt):Mt:=λi j=>if i<m then(if j<m then A i j else PM.one i (j-m)) else(if j<m then PM.one (i-m) j else 0)
theorem B3{a b:Nat}(u v:Nat->Int):ZE a u++ZE b v=ZE (a+b) λj=>if j<a then u j else v (j-a):=by
 apply cj;intro i;unfold ZE;by_cases h:i<a
 ·rw[ah (by simpa using h),aW,aW,bJ h,bJ (by omega)];show aA (u i)=aA (if i<a then u i else v (i-a));rw[kz h]
 ·rw[bI (by simp;omega),aN,bj,aW,aW];by_cases c:i<a+b
  ·rw[bJ (by omega),bJ c];show aA (v (i-a))=aA (if i<a then u i else v (i-a));rw[l4 h]
  ·rw[bV (by simp;omega),bV (by simp;omega)];rfl
theorem Fz{a b:Nat}{u v:Nat->Int}(h:a+b<=100):Wu (.lst (iL (ZE a u))) (.lst (iL (ZE b v)))=aA (.lst (iL (ZE (a+b) λj=>if j<a then u j else v (j-a)))):=by unfold Wu;simp only[];rw[kz ⟨by rw[aN,aN,Zr,Zr];omega,ZV _,ZV _⟩,<-cU,B3]
theorem Rk{m i:Nat}(a:m<=100):Vp [.int (m:Int),.int (i:Int)]=aA (.lst (iL (ZE m (PM.one i)))):=by
 refine YV (ret (W4 (PM.one i) (Yd rfl (by omega)) (by omega) λj b=>⟨_,rfl,rfl,vP ?_⟩));unfold PM.one;by_cases q:i=j
 ·rw[kz q];exact Fe (xb ((IG rfl rfl).trans (by rw[decide_eq_true (by omega)]))) rfl
 ·rw[l4 q];exact Ff (xb ((IG rfl rfl).trans (by rw[decide_eq_false (by omega)]))) rfl
theorem Zan{m:Nat}(a:m<=100):Mm (.lst [.int 0]) (.int (m:Int))=aA (.lst (iL (ZE m λ_=>0))):=by
 unfold Mm;simp only[];rw[kz (by refine⟨?_,?_,?_,?_⟩<;>first | rfl | omega | (simp;omega))];congr 2;apply cj;intro i;unfold ZE;by_cases h:i<m
 ·simp[h]
 ·simp[h]
theorem M1{m:Nat}{A:Mt}(f:m<=50):US [wP (YZ m m A)]=aA (.lst (bL (m+m) (E0 m A))):=by
 have up:∀i,i<m->cR (m+m) (E0 m A i) = .cst (iL (ZE (m+m) λj=>if j<m then A i j else PM.one i (j-m))):=λi b=>by unfold cR E0;simp only[kz b]
 have lo:∀i,i<m->cR (m+m) (E0 m A (m+i)) = .cst (iL (ZE (m+m) λj=>if j<m then PM.one i j else 0)):=λi b=>by unfold cR E0;rw[show m+i-m=i by omega];simp only[l4 (show ¬m+i<m by omega)]
 have c:bL (m+m) (E0 m A)=(aE m).map (λi=>cR (m+m) (E0 m A i))++(aE m).map λi=>cR (m+m) (E0 m A (m+i)):=by unfold bL;rw[kX,cU,cM];rfl
 have d:∀(g:Nat->Nat->Int),ZJ ((aE m).map λi=>cR (m+m) (g i))=aC:=λg=>by rw[Xp,ar];intro x e;obtain⟨i,_,rfl⟩:=bb.mp e;exact VB _
 refine Jr (Z3 (Zx (vP (c1 rfl (by rw[Js,RV])))) (Z3 (Zx (ZR (aE m) (λi=>.tup [.int ((i:Nat):Int),pP (ZE m (A i))]) (λi=>cR (m+m) (E0 m A i)) ?_ (by simp;omega) λi b=>⟨_,rfl,rfl,ep ?_ (VB _)⟩)) (Z3 (Zx (ZR (aE m) (λ(i:Nat)=>PV.int (i:Int)) (λi=>cR (m+m) (E0 m A (m+i))) (Yd rfl (by omega)) (by simp;omega) λi b=>⟨_,rfl,rfl,ep ?_ (VB _)⟩)) (XY (o2 rfl rfl ?_) rfl))))
 ·show aA (Wq (tL (YZ m m A)))=_;rw[Wv,X0];congr 1;refine ak λi b=>?_;rw[aH,Ui (aQ.mp b)];rfl
 ·rw[up i (aQ.mp b)];exact S5 (o2 (a:=.lst (iL (ZE m (A i)))) (c1 rfl (by rw[Mq,kz (ZV _)])) (c2 rfl rfl (Rk (by omega))) (Fz (by omega)))
 ·rw[lo i (aQ.mp b)];exact S5 (o2 (c2 rfl rfl (Rk (by omega))) (o2 rfl rfl (Zan (by omega))) (Fz (by omega)))
 ·unfold Wu;simp only[];rw[kz ⟨by simp;omega,d _,d _⟩,c]
theorem Zcc(m:Nat)(A:Mt):PM.Adm m A (E0 m A):=by
 have e:PM.EqM m (λi k=>E0 m A i (m+k)) PM.one:=λi j b a=>by show E0 m A i (m+j)=_;unfold E0;rw[kz b,l4 (by omega),show m+j-m=j by omega]
 have d:PM.EqM m (λi k=>E0 m A (m+i) k) PM.one:=λi j b a=>by show E0 m A (m+i) j=_;unfold E0;rw[l4 (by omega),kz a,show m+i-m=i by omega]
 have c:PM.EqM m (PM.mul m PM.one PM.one) PM.one:=λi j b a=>PM.mul_one a;refine⟨⟨PM.one,PM.one,e.mulL.trans c,e.mulR.trans c,d.mulL.trans c,d.mulR.trans c⟩,λi j b a=>?_,λi j b a=>?_⟩
 ·rw[e.mulL i j b a,PM.one_mul b,d.mulR i j b a,PM.mul_one a];unfold E0;rw[kz b,kz a]
 ·unfold E0;rw[l4 (by omega),l4 (by omega)]
theorem JH(i j:Nat):(PM.one i j).natAbs<=2^0:=by unfold PM.one;split<;>decide
theorem pl0{m:Nat}{A:Mt}(c:m<=6)(h:∀i j,i<m->j<m->(A i j).natAbs<=2^6):PM.Pl m 0 46 0 A (E0 m A):=by
 refine⟨⟨Zcc m A,λi _ a=>by omega,λi a=>by omega,λi _ _ a=>by omega⟩,?_,λi j a b=>?_,λi j a b=>?_⟩
 ·refine(PM.Mn.ent (n:=6) (B:=2^6) (by decide) (by omega) λi j _ a _ b=>?_).up (show PM.fct 6*(2^6)^6<=2^46 by decide);unfold E0;rw[kz a,kz b];exact h i j a b
 ·unfold E0;rw[kz a,l4 (by omega)];exact JH _ _
 ·unfold E0;rw[l4 (by omega),kz b];exact JH _ _
section
variable {W:List (List Int)} {m:Nat}
theorem FA(ok:ZP W)(d:WO W)(h:W.length<=7)(l:W.length=m+1):PM.Bs m (ZK W 0) (Yb m (ZK W 0)):=by
 have bk:=S3 ok d (b:=0) ok.pos (λ_=>0);rw[show W.length-1=m by omega] at bk;have I:=Yy bk (aL m);refine⟨λi j c a=>bk.sym j i a c,⟨PM.tr (NM m (ZK W 0)),λi j c a=>?_⟩,?_,?_⟩
 ·have e:=NN (A:=ZK W 0) a c;show sN m (λk=>NM m (ZK W 0) k i*ZK W 0 k j)=_;rw[Zg (g:=λk=>ZK W 0 j k*NM m (ZK W 0) k i) λk f=>by rw[bC,bk.sym k j f a],e];unfold PM.one;by_cases q:i=j
  ·rw[kz q.symm];show _=Yb m (ZK W 0)*(if i=j then 1 else 0);rw[kz q,gQ]
  ·rw[l4 (λz=>q z.symm)];show _=Yb m (ZK W 0)*(if i=j then 1 else 0);rw[l4 q,bU]
 ·rw[<-I.de];exact I.nz
 ·omega
theorem o0(i:Nat):Xd 0 i=i+1:=by unfold Xd;rw[l4 (by omega)]
theorem FC{W:List (List Int)}(ok:ZP W)(m:WO W)(r:2<=W.length):1<=(ZL W 0).sum:=by
 have c:=ok.pos;rw[Ux ok c,Y7];refine b5 λh=>?_;have h:¬1<=sN W.length (ent W 0):=h
 have z:∀j,j<W.length->ent W 0 j=0:=λj g=>by
  have e:=ZX (n:=W.length) (f:=λi=>if i=j then ent W 0 j else 0) g λi _ ne=>l4 ne
  have l:=Yf (n:=W.length) (f:=λi=>ent W 0 i+(-1)*(if i=j then ent W 0 j else 0)) λi p=>by
   have:=ok.lo 0 i c p;split
   ·rename_i q;subst q;omega
   ·omega
  rw[ZZ,ZA,e,kz rfl] at l;have:=ok.lo 0 j c g;omega
 have:=(m (· = 0) (λa b d o k=>⟨λq=>by rw[q,z b o] at k;omega,λq=>by rw[q,ok.sym a 0 d c,z a d] at k;omega⟩) 1 0 (by omega) c).mpr rfl;omega
theorem M3(ok:ZP W)(a:WO W)(d:2<=W.length):sN (W.length-1) (λi=>ZK W 0 i i)<=2*((UI W).length:Int)-1:=by
 have j:=FC ok a d;have t:=MK ok;rw[Y7] at t;have e:=Kp (m:=W.length-1) (b:=0) (f:=λh=>if h=0 then 0 else(ZL W h).sum) (kz rfl) (by omega);rw[show W.length-1+1=W.length by omega] at e
 have l:sN (W.length-1) (λi=>ZK W 0 i i)=sN W.length λh=>if h=0 then 0 else(ZL W h).sum:=by
  rw[e];exact Zg λi _=>by unfold ZK;rw[kz rfl,o0,l4 (by omega)]
 have g:=ZX (n:=W.length) (f:=λh=>if h=0 then(ZL W 0).sum else 0) (k:=0) ok.pos λi _ ne=>l4 ne
 have c:sN W.length (λh=>(ZL W h).sum)=sN W.length (λh=>(if h=0 then 0 else(ZL W h).sum)+if h=0 then(ZL W 0).sum else 0):=Zg λi _=>by
  split
  ·rename_i q;rw[q];omega
  ·omega
 rw[c,ZZ,g,kz rfl] at t;omega
theorem DG(ok:ZP W)(a:W.length=m+1):∀i,i<m->0<=ZK W 0 i i:=λi b=>by unfold ZK;rw[kz rfl,Ux ok (by rw[a];exact Xm b),Y7];exact Yf λj c=>ok.lo _ _ (by rw[a];exact Xm b) c
theorem Cq(ok:ZP W)(a:WO W)(b:W.length=m+1)(j:(UI W).length<=28):∀i,i<m->ZK W 0 i i<=55:=λi h=>by
 have d:=M3 ok a (by omega);rw[show W.length-1=m by omega] at d;have g:=DG ok b;have e:=ZX (n:=m) (f:=λx=>if x=i then ZK W 0 i i else 0) h λx _ ne=>l4 ne
 have l:=Yf (n:=m) (f:=λx=>ZK W 0 x x+(-1)*(if x=i then ZK W 0 i i else 0)) λx c=>by
  have:=g x c;split
  ·rename_i z;subst z;omega
  ·omega
 rw[ZZ,ZA,e,kz rfl] at l;omega
theorem Cs(ok:ZP W)(g:WO W)(c:W.length=m+1)(f:(UI W).length<=28):∀i j,i<m->j<m->(ZK W 0 i j).natAbs<=55:=λi j a h=>by
 have d:Xd 0 i<W.length:=by have:=Xm (b:=0) a;omega
 have e:Xd 0 j<W.length:=by have:=Xm (b:=0) h;omega
 by_cases q:Xd 0 j=Xd 0 i
 ·rw[show j=i from Dp q];have:=DG ok c i a;have:=Cq ok g c f i a;omega
 ·unfold ZK;rw[l4 q];have:=ok.lo _ _ d e;have:=ok.hi _ _ d e;omega
theorem x12:∀x,x<56->x^12<=2^(2*x+21):=by decide +kernel
theorem Zao{A:Mt}:∀{m:Nat},(∀i,i<m->0<=A i i/\A i i<=55)->∃s:Nat,sN m (λi=>A i i)=(s:Int)/\(prN A m).natAbs^12<=2^(2*s+21*m)
 | 0,_=>⟨0,rfl,show(1:Int).natAbs^12<=2^(2*0+21*0) by decide⟩
 | m+1,h=>by
  obtain⟨s,e,l⟩:=Zao (m:=m) λi b=>h i (by omega);have a:=h m (by omega);refine⟨s+(A m m).natAbs,?_,?_⟩
  ·show sN m (λi=>A i i)+A m m=_;rw[e];omega
  ·show(prN A m*A m m).natAbs^12<=_;rw[bh,Nat.mul_pow];refine aU (bu l (x12 (A m m).natAbs (by omega))) ?_;rw[<-fW];exact PM.pw2 (by omega)
theorem D28(ok:ZP W)(f:WO W)(e:W.length=m+1)(u:W.length<=7)(q:(UI W).length<=28):(Yb m (ZK W 0)).natAbs<=2^20:=by
 have n:=ok.pos;have a:W.length-1=m:=by omega
 by_cases z:m=0
 ·subst z;show(1:Int).natAbs<=_;decide
 have bk:=S3 ok f (b:=0) n (λ_=>0);rw[a] at bk;have I:=Yy bk (aL m)
 obtain⟨S,r⟩:=Fu bk (λi j c y ne=>by
  unfold ZK;rw[o0,o0,l4 (by omega)];have:=ok.lo (i+1) (j+1) (by omega) (by omega)
  omega) (λi c=>by
  have g:=Pg ok n (Y:=λh=>if h=0 then 0 else 1) (kz rfl) (k:=i) (by omega);rw[a,Zg (g:=ZK W 0 i) λj _=>by rw[o0,l4 (by omega),gQ]] at g
  have:0<=sN W.length λh=>(-1)*(ent W (Xd 0 i) h*((if h=0 then 0 else 1)-(if Xd 0 i=0 then 0 else 1))):=Yf λh t=>by
   have:=ok.lo (Xd 0 i) h (by rw[e];exact Xm c) t;rw[o0] at this ⊢;rw[l4 (show ¬i+1=0 by omega)];split
   ·rw[Int.zero_sub,gV,gQ];omega
   ·simp
  rw[ZA] at this;have g:(sN W.length λh=>ent W (Xd 0 i) h*((if h=0 then(0:Int) else 1)-(if Xd 0 i=0 then 0 else 1))) = - sN m (ZK W 0 i):=g;omega) (DG ok e) (aL m)
 have d:=M3 ok f (by omega);rw[a] at d;obtain⟨s,o,l⟩:=Zao (A:=ZK W 0) (m:=m) λi c=>⟨DG ok e i c,Cq ok f e q i c⟩;rw[o] at d;rw[I.de] at r;have pos:0<Yb m (ZK W 0):=by rw[<-I.de];exact S.dp
 refine gO.mp λp=>?_;have v:(2^20)^12<=(prN (ZK W 0) m).natAbs^12:=g6 (by omega) 12;have x:2^(2*s+21*m)<=2^236:=PM.pw2 (by omega);have w:(2^236:Nat)<(2^20)^12:=by decide
 omega
theorem DH{k a e:Nat}{c E:Mt}{D:Int}(b:PM.Bs m c D)(l:D.natAbs<=2^20)(o:k+1=m)(h:PM.Pl m k a e c E):PM.Pl m k 20 e c E:=by refine⟨h.cr,?_,h.lb,h.rb⟩;have d:=(h.cr.piv b (by omega) λi f g=>by omega).2;have:=eV (by have:=b.nz;omega) (cB.mpr d);refine(PM.Mn.ent (n:=1) (B:=2^20) (by decide) (by omega) λi j f g q p=>?_).up (show PM.fct 1*(2^20)^1<=2^20 by decide);rw[show i=k by omega,show j=k by omega];omega
noncomputable def aK:Nat->Nat
 | 0=>46
 | 1=>500
 | 2=>4900
 | 3=>36000
 | 4=>254000
 | _=>1800000
noncomputable def gK:Nat->Nat
 | 0=>0
 | 1=>50000
 | 2=>470000
 | 3=>3470000
 | 4=>24470000
 | 5=>30870000
 | _=>30920000
theorem DI{k a c bx:Nat}{g E:Mt}{D:Int}(b:PM.Bs m g D)(i:k<m)(d:c<=20)(o:7*a+6+PM.ad c<=bx)(n:4*a+3+3*(bx+63)+2*bx+c*(4*(bx+63)+1)<=28500000)(j:∀E',PM.CL m k E E'->(E' k k).natAbs<=2^c) :
  Plc m k a c (4*a+3) (bx+63) bx (PM.sB (PM.be (7*a+6) c)) (PM.be (7*a+6) c) g E D/\PM.f2 (PM.sB (PM.be (7*a+6) c)) c<=c*(4*(bx+63)+1):=by
 have l:=b.m7;have be:∀e,e<=c->PM.be (7*a+6) c e<=bx/\PM.sB (PM.be (7*a+6) c) e<=bx+63:=λe h=>by unfold PM.sB PM.be;omega
 have f:=PM.f2_top λe d=>(be e d).2;exact⟨⟨b,PM.Bv.gen b,by omega,i,d,be,by unfold PM.be;omega,aL _,by omega,j⟩,f⟩
theorem JI{k a:Nat}{c E:Mt}{D:Int}(b:PM.Bs m c D)(d:k<m)(h:m<=k+2)(g:D.natAbs<=2^20)(l:a<=300000)(i:∀E',PM.CL m k E E'->(E' k k).natAbs<=2^20) :
  Plc m k a 20 (4*a+3) (7*a+6+273) (7*a+6+210) (PM.sB (PM.bE (7*a+6))) (PM.bE (7*a+6)) c E D:=by
 have j:=b.m7;have f:=PM.f2_end (7*a+6);exact⟨b,PM.Bv.end b d g h,by omega,d,by omega,λe n=>by unfold PM.sB PM.bE;split<;>omega,by unfold PM.bE;rw[kz (by omega)];exact aL _,aL _,by omega,i⟩
theorem FD{k w:Nat}{p E:Mt}{D:Int}(b:PM.Bs m p D)(v:D.natAbs<=2^20)(L:m<=6)(l:k<m)(I:k=0->∀i j,i<m->j<m->(E i j).natAbs<=2^6)(h:PM.Pl m k (aK k) w p E)(x:w<=gK k) :
  ∃g d,Xj [.lst (bL (m+m) E),.int (m:Int),.int (k:Int)]=aA (.lst (bL (m+m) g))/\d<=gK (k+1)/\PM.Pl m (k+1) (aK (k+1)) d p g:=by
 have kk:k=0\/k=1\/k=2\/k=3\/k=4\/k=5:=by omega
 have n:w<=31000000:=by rcases kk with r | r | r | r | r | r<;>subst r<;>exact aU x (by decide)
 have q:∀{a},PM.Pl m k a w p E->∀g,PM.CL m k E g->(g k k).natAbs<=2^20:=λ{a} h g c=>aU (h.small b l c λi C y=>h.ab i k C y (aL _) l).2 v;have c:(k+1=m)\/(k+2=m)\/(k+3<=m):=by omega
 rcases c with c | c | c
 ·have B:=DH b v c h;have P:=JI b l (by omega) v (a:=20) (by omega) (q B)
  obtain⟨g,d,s,A,t⟩:=NR P B n (aK (k+1)) λe _=>by
   have:PM.bE (7*20+6) e<=210:=by unfold PM.bE;split<;>omega
   refine aU this ?_;rcases kk with r | r | r | r | r | r<;>subst r<;>decide
  have f:=PM.f2_end (7*20+6);refine⟨g,d,s,?_,t⟩;have:gK k+50000<=gK (k+1):=by rcases kk with r | r | r | r | r | r<;>subst r<;>decide
  omega
 ·have J:aK k<=254000/\7*aK k+6<=aK (k+1)/\210<=aK (k+1)/\gK k+25*aK k+24000<=gK (k+1):=by
   have kk:k=0\/k=1\/k=2\/k=3\/k=4:=by omega
   rcases kk with r | r | r | r | r<;>subst r<;>decide
  have P:=JI b l (by omega) v (a:=aK k) (by omega) (q h);obtain⟨g,d,s,A,t⟩:=NR P h n (aK (k+1)) λe _=>by unfold PM.bE;split<;>omega
  have f:=PM.f2_end (7*aK k+6);exact⟨g,d,s,by omega,t⟩
 ·have u:∀o,o<=20->7*aK k+6+PM.ad o<=aK (k+1)->4*aK k+3+3*(aK (k+1)+63)+2*aK (k+1)+o*(4*(aK (k+1)+63)+1)<=28500000->gK k+(4*aK k+3)+2*(aK (k+1)+63)+o*(4*(aK (k+1)+63)+1)<=gK (k+1)->(∀g,PM.CL m k E g->(g k k).natAbs<=2^o)->∃g d,Xj [.lst (bL (m+m) E),.int (m:Int),.int (k:Int)]=aA (.lst (bL (m+m) g))/\d<=gK (k+1)/\PM.Pl m (k+1) (aK (k+1)) d p g:=λo z H G M F=>by obtain⟨P,f⟩:=DI b l z H G F;obtain⟨g,d,s,A,t⟩:=NR P h n (aK (k+1)) λe z=>(P.b8 e z).1;exact⟨g,d,s,by omega,t⟩
  have kk:k=0\/k=1\/k=2\/k=3:=by omega
  rcases kk with r | r | r | r
  ·subst r;exact u 6 (by omega) (by decide) (by decide) (by decide) λg c=>(h.small b l c λi _ y=>I rfl i 0 y l).1
  ·subst r;exact u 20 (by omega) (by decide) (by decide) (by decide) (q h)
  ·subst r;exact u 20 (by omega) (by decide) (by decide) (by decide) (q h)
  ·subst r;exact u 20 (by omega) (by decide) (by decide) (by decide) (q h)
end
section
variable {m:Nat} {A B:Mt} {u v:Nat->Int}
theorem Zap{i j:Nat}(c:i<m)(d:j<m){f g h:XE}{s:ZF}(q:f s=aA (wP (YZ m m B)))(b:g s=aA (.int (i:Int)))(a:h s=aA (.int (j:Int))):Zj ZQ (Zj ZQ f g) h s=aA (.int (B i j)):=o2 (o2 q b (W7 (Ui c))) a (SY d)
theorem S6{j:Nat}(d:m<=50)(c:j<m)(b:∀k,k<m->CMulW (u k) (B k j)):XH [pP (ZE m u),wP (YZ m m B),.int (j:Int)]=aA (.int (sN m λk=>u k*B k j)):=by
 refine YV (ret (vP (c1 (Xl (q:=λi=>.tup [.int ((i:Nat):Int),.int (u i)]) (λk=>u k*B k j) ?_ (by omega) λi a=>⟨_,rfl,vC (C:=CMulW) (op:=(· * ·)) rfl (Zap a c rfl rfl rfl) (b i a)⟩) ?_)))
 ·show aA (Wq (iL (ZE m u)))=_;rw[BU,Zr];congr 1;refine ak λi a=>?_;rw[Z5 (aQ.mp a)]
 ·rw[Sl];congr 2;exact Y7 _ _
theorem NS(c:m<=50)(d:∀k j,k<m->j<m->CMulW (u k) (B k j)):V4 [pP (ZE m u),wP (YZ m m B)]=aA (pP (ZE m λj=>sN m λk=>u k*B k j)):=
 YV (ret (Hd (c1 (W4 (λj=>sN m λk=>u k*B k j) (Yd (n:=m) (c1 rfl (by rw[Ga,aN,Zr])) (by omega)) (by omega) λj a=>⟨_,rfl,rfl,c3 rfl rfl rfl (S6 c a λk b=>d k j b a)⟩) (YF _))))
theorem M4{M:List (List Int)}{f:XE}{s:ZF}(q:f s=aA (.lst (tL M))):eP (Zc ZT [f]) s=aA (wP M):=ep (c1 q (YF _)) (by rw[Ut];exact V1 _)
theorem UK(b:m<=50)(c:∀i k j,i<m->k<m->j<m->CMulW (A i k) (B k j)):YS [wP (YZ m m A),wP (YZ m m B)]=aA (wP (YZ m m (PM.mul m A B))):=
 YV (ret (M4 (Wy (w:=m) (PM.mul m A B) (q:=λi=>pP (ZE m (A i))) (by show aA (tL (YZ m m A))=_;rw[S2]) (by omega) λi d=>⟨_,rfl,c2 rfl rfl (NS b λk j a e=>c i k j d a e)⟩)))
theorem Pm(b:m<=100)(c:∀j,j<m->Tz (u j) (v j)):Uw [pP (ZE m u),pP (ZE m v)]=aA (pP (ZE m λj=>(u j).fdiv (v j))):=
 YV (ret (Hd (c1 (Xl (q:=λj=>.tup [.int (u j),.int (v j)]) (λj=>(u j).fdiv (v j)) (by show aA (WU (iL (ZE m u)) (iL (ZE m v)))=_;rw[Kx]) b λj a=>⟨_,rfl,vC (C:=Tz) (op:=jD) rfl rfl (c j a)⟩) (YF _))))
theorem NT{W:List (List Int)}(ok:ZP W)(a:W.length=m+1):V3 [wP W]=aA (wP (YZ m m (ZK W 0))):=by have h:=Wz ok (b:=0) ok.pos;rw[show W.length-1=m by omega] at h;exact YV (ret (c2 rfl rfl h))
theorem DJ{l:List PV}{k:Nat}(a:k<=l.length):WG l none (aA (k:Int))=l.take k:=by unfold WG;rw[HT.sIx_none,HT.sIx_nat,gm,iX,dH a]
theorem DK{l:List PV}{k:Nat}(a:k<=l.length):WG l (aA (k:Int)) none=l.drop k:=by unfold WG;rw[HT.sIx_none,HT.sIx_nat,dH a,ba (by rw[cL];omega)]
theorem DL:(ZE (m+m) u).take m=ZE m u:=by have:=R4 (w:=m+m) (v:=u) (a:=0) (b:=m) (by omega) (by omega);rw[gm,iX] at this;rw[this];unfold ZE;refine ak λi _=>?_;rw[Nat.zero_add]
theorem DM:(ZE (m+m) u).drop m=ZE m λj=>u (m+j):=by have:=R4 (w:=m+m) (v:=u) (a:=m) (b:=m+m) (by omega) (by omega);rw[ba (by rw[cL,Zr];omega),show m+m-m=m by omega] at this;exact this
theorem B4{x:Int}(b:1<=m)(a:m<=100):Ms (.tup [.int x]) (.int (m:Int))=aA (pP (ZE m λ_=>x)):=by
 unfold Ms;simp only[];rw[kz (by refine⟨rfl,by simp,by omega,by omega,by simp;omega⟩)];congr 2;apply cj;intro i;unfold ZE;by_cases h:i<m
 ·simp[h]
 ·simp[h]
end
abbrev Wb(m:Nat)(E:Mt):Mt:=λi j=>E i (m+j)
abbrev Rl(m:Nat)(E:Mt):Mt:=λi j=>E (m+i) j
abbrev B5(W:List (List Int))(m:Nat)(E:Mt):List (List Int):=YZ m m λi j=>(PM.mul m (ZK W 0) (Rl m E) i j).fdiv (E j j)
abbrev B6(W:List (List Int))(m:Nat)(E:Mt):List (List Int):=YZ m m λi j=>(PM.mul m (Wb m E) (ZK W 0) i j).fdiv (E i i)
theorem FE{W:List (List Int)}{m:Nat}(ok:ZP W)(F:WO W)(L:W.length<=7)(N:(UI W).length<=28)(D:W.length=m+1) :
  ∃E c,TJ [wP W]=aA (.tup [wP (YZ m m (Wb m E)),wP (B5 W m E),wP (YZ m m (Rl m E)),wP (B6 W m E),pP (ZE m λi=>E i i)])/\PM.Cr m m (ZK W 0) E/\c<=43000000/\(∀i j,i<m->j<m->(E i (m+j)).natAbs<=2^c)/\(∀i j,i<m->j<m->(E (m+i) j).natAbs<=2^c)/\(∀i,i<m->E i i∣Yb m (ZK W 0)):=by
 have O:m<=6:=by omega
 have bs:=FA ok F L D;have H:=D28 ok F D L N;have u:=Cs ok F D N
 suffices g:Y0 Ji (ZM 10 [wP W]) λv=>∃E c,v = .tup [wP (YZ m m (Wb m E)),wP (B5 W m E),wP (YZ m m (Rl m E)),wP (B6 W m E),pP (ZE m λi=>E i i)]/\PM.Cr m m (ZK W 0) E/\c<=43000000/\(∀i j,i<m->j<m->(E i (m+j)).natAbs<=2^c)/\(∀i j,i<m->j<m->(E (m+i) j).natAbs<=2^c)/\(∀i,i<m->E i i∣Yb m (ZK W 0)) by obtain⟨v,e,E,c,rfl,r⟩:=Rh g;exact⟨E,c,e,r⟩
 refine Z3 (Zx (c1 rfl (NT ok D))) (Z3 (Zx (vP (c1 rfl (by rw[Js,RV])))) (Z3 (Zx (c1 rfl (M1 (by omega)))) (Rj (Cn (n:=m) (λk s=>∃E c y,s=[aA (wP W),aA (wP (YZ m m (ZK W 0))),aA (.int (m:Int)),aA (.lst (bL (m+m) E)),y,none,none,none,none,none]/\c<=gK k/\(k=0->∀i j,i<m->j<m->(E i j).natAbs<=2^6)/\PM.Pl m k (aK k) c (ZK W 0) E) rfl ⟨E0 m (ZK W 0),0,none,rfl,cO _,λ_ i j b d=>?_,?_⟩ ?_) ?_)))
 ·rw[show E0 m (ZK W 0) i j=ZK W 0 i j by unfold E0;rw[kz b,kz d]];exact aU (u i j b d) (by decide)
 ·exact pl0 O λi j b d=>aU (u i j b d) (by decide)
 ·rintro k s f ⟨E,c,y,rfl,t,Z,h⟩;obtain⟨Q,I,e,l,p⟩:=FD bs H O f Z h t;exact He (Zx (c3 rfl rfl rfl e)) ⟨Q,I,_,rfl,l,λz=>absurd z (by omega),p⟩
 ·rintro s ⟨E,c,y,rfl,t,_,h⟩
  have C:c<=43000000:=aU t (by
   have kk:m=0\/m=1\/m=2\/m=3\/m=4\/m=5\/m=6:=by omega
   rcases kk with r | r | r | r | r | r | r<;>subst r<;>decide)
  have M:∀i,i<m->E i i∣Yb m (ZK W 0):=λi b=>by
   obtain⟨Z0,hZ⟩:=bs.z;refine h.cr.adm.div hZ b λx R=>?_;by_cases q:x=i
   ·rw[q];exact gG _
   ·rw[(h.cr.d1 i x b R q).2];exact cV _
  have dl:∀i,i<m->E i i≠0/\(E i i).natAbs.log2<9000:=λi b=>by have h1:=h.cr.d2 i b;have h2:=eV (by have:=bs.nz;omega) (cB.mpr (M i b));refine⟨by omega,?_⟩;have:=Fv (x:=E i i) (G:=21) (by omega) (by omega);omega
  have P:∀{i j G},6<=G->i<m->j<m->(ZK W 0 i j).natAbs<2^G:=λ{i j G} X b d=>aa (show _<2^6 by have:=u i j b d;omega) (PM.pw2 X);have U:∀i j,i<m->j<m->(E (m+i) j).natAbs<2^(c+6):=λi j b d=>aq (h.rb i j b d) (bq (by omega) (by omega));have S:∀i j,i<m->j<m->(E i (m+j)).natAbs<2^(c+6):=λi j b d=>aq (h.lb i j b d) (bq (by omega) (by omega));have T:=UK (m:=m) (A:=ZK W 0) (B:=Rl m E) (by omega) λi k j b f d=>IQ (G:=c+6) (P (by omega) b f) (U k j f d) (by omega) (by omega);have Y:=UK (m:=m) (A:=Wb m E) (B:=ZK W 0) (by omega) λi k j b f d=>IQ (G:=c+6) (S i k b f) (P (by omega) f d) (by omega) (by omega);have lst:bL (m+m) E=(aE m).map (λi=>cR (m+m) (E i))++(aE m).map λi=>cR (m+m) (E (m+i)):=by unfold bL;rw[kX,cU,cM];rfl
  refine Z3 (Zx (Hd (c1 (W4 (λi=>E i i) (Yd rfl (by omega)) (by omega) λi b=>⟨_,rfl,rfl,TY (w:=m+m) (E:=E) (by omega) (by omega) rfl rfl rfl⟩) (YF _)))) (Z3 (Zx (M4 (Wy (w:=m) (Wb m E) (q:=λi=>cR (m+m) (E i)) ?_ (by omega) λi b=>⟨_,rfl,c1 (a:=.lst (iL (ZE m λj=>E i (m+j)))) ?_ (YF _)⟩))) (Z3 (Zx (M4 (Wy (w:=m) (Rl m E) (q:=λi=>cR (m+m) (E (m+i))) ?_ (by omega) λi b=>⟨_,rfl,c1 (a:=.lst (iL (ZE m (E (m+i))))) ?_ (YF _)⟩))) (Z3 (Zx (M4 (Wy (m:=m) (w:=m) (λi j=>(PM.mul m (ZK W 0) (Rl m E) i j).fdiv (E j j)) (q:=λi=>pP (ZE m (PM.mul m (ZK W 0) (Rl m E) i))) ?_ (by omega) λi b=>⟨_,rfl,c2 rfl rfl (Pm (by omega) λj d=>dl j d)⟩))) (Z3 (Zx (M4 (Wy (m:=m) (w:=m) (λi j=>(PM.mul m (Wb m E) (ZK W 0) i j).fdiv (E i i)) (q:=λi=>.tup [pP (ZE m (PM.mul m (Wb m E) (ZK W 0) i)),.int (E i i)]) ?_ (by omega) λi b=>⟨_,rfl,c2 rfl (o2 (a:=.tup [.int (E i i)]) rfl rfl (B4 (by omega) (by omega))) (Pm (by omega) λj d=>dl i b)⟩))) (XY (ep rfl ?_) ⟨E,c,rfl,h.cr,C,h.lb,h.rb,M⟩)))))
  ·show(Qt Tj (Za 3) Ml (U8 (Za 2)) _).bind _=_;rw[X7];show(aA (PV.lst (WG (bL (m+m) E) none (aA (m:Int))))).bind _=_;rw[DJ (by rw[U6];omega),lst,kK (by simp)];rfl
  ·rw[X7];show aA (PV.lst (WG (iL (ZE (m+m) (E i))) (aA (m:Int)) none))=_;rw[Kj,DM]
  ·show(Qt Tj (Za 3) (U8 (Za 2)) Ml _).bind _=_;rw[X7];show(aA (PV.lst (WG (bL (m+m) E) (aA (m:Int)) none))).bind _=_;rw[DK (by rw[U6];omega),lst,List.drop_left' (by simp)];rfl
  ·rw[X7];show aA (PV.lst (WG (iL (ZE (m+m) (E (m+i)))) none (aA (m:Int))))=_;rw[Ki,DL]
  ·have:Zc YS [Za 1,Za 7] [aA (wP W),aA (wP (YZ m m (ZK W 0))),aA (.int (m:Int)),aA (.lst (bL (m+m) E)),y,aA (pP (ZE m λi=>E i i)),aA (wP (YZ m m (Wb m E))),aA (wP (YZ m m (Rl m E))),none,none]=aA (wP (YZ m m (PM.mul m (ZK W 0) (Rl m E)))):=c2 rfl rfl T;refine(V2 this).trans ?_;show aA (tL (YZ m m _))=_;rw[S2]
  ·have:∀J,Zc YS [Za 6,Za 1] [aA (wP W),aA (wP (YZ m m (ZK W 0))),aA (.int (m:Int)),aA (.lst (bL (m+m) E)),y,aA (pP (ZE m λi=>E i i)),aA (wP (YZ m m (Wb m E))),aA (wP (YZ m m (Rl m E))),J,none]=aA (wP (YZ m m (PM.mul m (Wb m E) (ZK W 0)))):=λJ=>c2 rfl rfl Y;rw[Mr];refine(congrArg (λo=>Option.bind o _) (this _)).trans ?_;show aA (WU (tL (YZ m m (PM.mul m (Wb m E) (ZK W 0)))) (iL (ZE m λi=>E i i)))=_;rw[YG _ _ (by rw[X0];simp[Zr]),X0];congr 1;refine ak λi b=>?_;have b:=aQ.mp b;rw[aH,Ui b,Yu _ i (by rw[Zr];exact b),Z5 b];rfl
  ·rw[Ut];simp only[ZJ,Ut,V1,ZV,Bool.and_self]
section
variable {m:Nat} {u v:Nat->Int} {L:Mt}
theorem IU{l:List Int}(b:l.length=m)(e:m<=50)(c:∀j,j<m->CMulW (u j) (Zp l j)):QO [pP (ZE m u),pP l]=aA (.int (sN m λj=>u j*Zp l j)):=by
 refine YV (ret (vP (c1 (Xl (q:=λj=>.tup [.int (u j),.int (Zp l j)]) (λj=>u j*Zp l j) ?_ (by omega) λj d=>⟨_,rfl,vC (C:=CMulW) (op:=(· * ·)) rfl rfl (c j d)⟩) ?_)))
 ·show aA (WU (iL (ZE m u)) (iL l))=_;rw[YG _ _ (by simp[Zr,b]),aN,Zr];congr 1;refine ak λi a=>?_;have a:=aQ.mp a;rw[Yu _ i (by rw[Zr];exact a),Yu _ i (by omega),Z5 a]
 ·rw[Sl];congr 2;exact Y7 _ _
abbrev M5(m:Nat)(L:Mt)(bk:List (List Int))(R:Mt)(fo:List (List Int))(r:Nat->Int):PV:=.tup [wP (YZ m m L),wP bk,wP (YZ m m R),wP fo,pP (ZE m r)]
theorem Zcd{l:List Int}(h:1<=l.length){f:XE}{s:ZF}(q:f s=aA (pP l)):Qt Sj f (U8 (eC (.int 1))) Ml s=aA (pP (l.drop 1)):=by rw[X7,q];simp only[aY,RH];show Sj (pP l) (aA ((1:Nat):Int)) none=_;unfold Sj;simp only[];rw[l4,Kj];rw[HT.sIx_none,HT.sIx_nat,aN];omega
noncomputable def M6(m:Nat)(L:Mt)(D:List Int)(i:Nat):Int:=sN m λj=>L i j*Zp D (j+1)
theorem FF{R:Mt}{bk fo:List (List Int)}{D:List Int}(d:m<=50)(h:D.length=m+1)(e:∀i j,i<m->j<m->CMulW (L i j) (Zp D (j+1)))(g:∀i,i<m->1<=v i):Nf [M5 m L bk R fo v,pP D]=aA (pP (ZE m λi=>M6 m L D i%v i)):=by
 have c:∀j,Zp (D.drop 1) j=Zp D (j+1):=λj=>by unfold Zp;rw[aH,dQ,aH,Nat.add_comm]
 refine YV (sq (Zx (ep (v:=wP (YZ m m L)) rfl (by rw[Ut];exact V1 _))) (ret (Hd (c1 (Xl (q:=λi=>.tup [pP (ZE m (L i)),.int (v i)]) (λi=>M6 m L D i%v i) ?_ (by omega) λi b=>⟨_,rfl,vC (C:=λ_ j=>0<j) (op:=(· % ·)) (a:=M6 m L D i) (c2 rfl (Zcd (by omega) rfl) ?_) rfl (by have:=g i b;omega)⟩) (YF _)))))
 ·rw[Mr];show aA (WU (tL (YZ m m L)) (iL (ZE m v)))=_;rw[YG _ _ (by rw[X0];simp[Zr]),X0];congr 1;refine ak λi b=>?_;have b:=aQ.mp b;rw[aH,Ui b,Yu _ i (by rw[Zr];exact b),Z5 b];rfl
 ·rw[IU (l:=D.drop 1) (by rw[cL];omega) d λj f=>by rw[c];exact e i j b f];unfold M6;rw[Zg λj _=>by rw[c]]
end
end PW
namespace PW
open L2 VL
theorem FG{W:List (List Int)}{D E O:List Int}(ok:ZP W)(e:WO W)(d:D.length=W.length)(k:∀h,h<W.length->(Zp D h).natAbs<=2^208)(bE:∀h,h<W.length->(Zp E h).natAbs<=2^208)(z:O.length=W.length)(f:E=Z8 W D O):Ww [wP W,pP D,pP E]=aA (pP (Z4 O)):=by
 have A:=ok.pos;have y:=ok.few;have t:E.length=W.length:=by rw[f,YI,d]
 obtain⟨S,N,F,s,p,g,st⟩:=Uy ok e d (b:=0) (by omega) k;have x:N.length=W.length:=by rw[g,YI,d]
 have n:=IP (D:=E) (S:=UE S O) (N:=N) (F:=F) ok e t (b:=0) (by omega) bE (by rw[W3];exact p) (by
  rw[g,f];exact(Jl d λi v=>by rw[Q7 (by omega)];omega).symm) st
 have w:=GW (a:=Z4 S) (b:=Z4 (UE S O)) (by rw[Yq,Yq,W3]) (by rw[Yq];omega);have j:=Ph (l:=UE (Z4 S) (Z4 (UE S O))) (by rw[W3,Yq];omega) (by rw[W3,Yq];omega);have r:Z4 (UE (Z4 S) (Z4 (UE S O)))=Z4 O:=Rf (X8 (UE S O)-X8 S) (by rw[W3,Yq];omega) (by omega) λi v=>by rw[Q7 (by rw[Yq];omega),Vx (by omega),Vx (by rw[W3];omega),Q7 (by omega)];omega
 rw[r] at j;let T:PV:=.tup [pP (Z4 S),pP N,.lst (iL (nL F))];let c:PV:=.tup [pP (Z4 (UE S O)),pP N,.lst (iL (nL F))];have u:Zs 3 (Zc Yh [Za 0,Za 1,eC (.int 0)]) [aA (wP W),aA (pP D),aA (pP E),none,none]=aA (.nx [aA (wP W),aA (pP D),aA (pP E),aA T,none]):=by have:Zc Yh [Za 0,Za 1,eC (.int 0)] [aA (wP W),aA (pP D),aA (pP E),none,none]=aA T:=s;rw[Ys,this];rfl
 have o:Zs 4 (Zc Yh [Za 0,Za 2,eC (.int 0)]) [aA (wP W),aA (pP D),aA (pP E),aA T,none]=aA (.nx [aA (wP W),aA (pP D),aA (pP E),aA T,aA c]):=by have:Zc Yh [Za 0,Za 2,eC (.int 0)] [aA (wP W),aA (pP D),aA (pP E),aA T,none]=aA c:=n;rw[Ys,this];rfl
 have q:RD (xB (Zj (WR aC) (Zj ZQ (Za 3) (eC (.int 1))) (Zj ZQ (Za 4) (eC (.int 1))))) (ZO (eP (eC .non))) YE [aA (wP W),aA (pP D),aA (pP E),aA T,aA c]=aA (.nx [aA (wP W),aA (pP D),aA (pP E),aA T,aA c]):=by
  have:Zj (WR aC) (Zj ZQ (Za 3) (eC (.int 1))) (Zj ZQ (Za 4) (eC (.int 1))) [aA (wP W),aA (pP D),aA (pP E),aA T,aA c]=aA (.bl aB):=by show WR aC (pP N) (pP N)=_;rw[Gb];simp
  rw[Xw,O3,this];rfl
 show YC 5 TF _=_;unfold TF;show(Zn _ _ [aA (wP W),aA (pP D),aA (pP E),none,none]).bind Tq=_;rw[YB u,YB o,YB q];have m:Zc Vo [Zc Uv [Zj ZQ (Za 3) (eC (.int 0)),Zj ZQ (Za 4) (eC (.int 0))]] [aA (wP W),aA (pP D),aA (pP E),aA T,aA c]=aA (pP (Z4 O)):=by have h:Zc Uv [Zj ZQ (Za 3) (eC (.int 0)),Zj ZQ (Za 4) (eC (.int 0))] [aA (wP W),aA (pP D),aA (pP E),aA T,aA c]=aA (pP (UE (Z4 S) (Z4 (UE S O)))):=w;rw[YO,ZD,h];exact j
 rw[MN m];rfl
theorem IV{W:List (List Int)}{D E S N e b:List Int}{F d:List Nat}(ok:ZP W)(j:WO W)(k:D.length=W.length)(l:E.length=W.length)(h:Yh [wP W,pP D,.int ((0:Nat):Int)]=aA (.tup [pP S,pP N,.lst (iL (nL F))]))(c:Yh [wP W,pP E,.int ((0:Nat):Int)]=aA (.tup [pP e,pP b,.lst (iL (nL d))]))(ne:N≠b):Ww [wP W,pP D,pP E]=aA .non:=by
 let T:PV:=.tup [pP S,pP N,.lst (iL (nL F))];let a:PV:=.tup [pP e,pP b,.lst (iL (nL d))];have i:Zs 3 (Zc Yh [Za 0,Za 1,eC (.int 0)]) [aA (wP W),aA (pP D),aA (pP E),none,none]=aA (.nx [aA (wP W),aA (pP D),aA (pP E),aA T,none]):=by have:Zc Yh [Za 0,Za 1,eC (.int 0)] [aA (wP W),aA (pP D),aA (pP E),none,none]=aA T:=h;rw[Ys,this];rfl
 have f:Zs 4 (Zc Yh [Za 0,Za 2,eC (.int 0)]) [aA (wP W),aA (pP D),aA (pP E),aA T,none]=aA (.nx [aA (wP W),aA (pP D),aA (pP E),aA T,aA a]):=by have:Zc Yh [Za 0,Za 2,eC (.int 0)] [aA (wP W),aA (pP D),aA (pP E),aA T,none]=aA a:=c;rw[Ys,this];rfl
 have g:RD (xB (Zj (WR aC) (Zj ZQ (Za 3) (eC (.int 1))) (Zj ZQ (Za 4) (eC (.int 1))))) (ZO (eP (eC .non))) YE [aA (wP W),aA (pP D),aA (pP E),aA T,aA a]=aA (.rt .non):=by
  have:Zj (WR aC) (Zj ZQ (Za 3) (eC (.int 1))) (Zj ZQ (Za 4) (eC (.int 1))) [aA (wP W),aA (pP D),aA (pP E),aA T,aA a]=aA (.bl aC):=by show WR aC (pP N) (pP b)=_;rw[Gb];simp[ne]
  rw[Xw,O3,this];rfl
 show YC 5 TF _=_;unfold TF;show(Zn _ _ [aA (wP W),aA (pP D),aA (pP E),none,none]).bind Tq=_;rw[YB i,YB f,G7 g];rfl
end PW
namespace PM
open PW
noncomputable def col(x:Nat->Int):Mt:=λi _=>x i
theorem image{m:Nat}{d E:Mt}(v:Cr m m d E)(c:Nat->Int)(k:Int):(∀i,i<m->E i i∣k*sN m (λj=>E i (m+j)*c j))↔∃x:Nat->Int,∀j,j<m->sN m (λl=>d j l*x l)=k*c j:=by
 obtain⟨g,n,G,r,A,H⟩:=v.adm.ex;have e:=v.adm.val;generalize F:(λi k=>E i (m+k):Mt)=L at G r e;generalize N:(λi k=>E (m+i) k:Mt)=R at A H e;have w:∀i,sN m (λj=>E i (m+j)*c j)=mul m L (col c) i 0:=λi=>by rw[<-F];rfl
 have o:∀(y:Nat->Int) i,i<m->mul m E (col y) i 0=E i i*y i:=λy i a=>ZX a λj f C=>by rw[(v.d1 i j a f C).1,bZ]
 have I:∀i j,i<m->j<m->mul m d R i j=mul m g E i j:=λi j a f=>by rw[mul_congr (A':=g) (B':=mul m L (mul m d R)) (λ_ _=>rfl) (λl b=>(e l j b f).symm),<-assoc,mul_congr (A':=one) (B':=mul m d R) (λl b=>r i l a b) (λ_ _=>rfl),one_mul a]
 constructor
 ·intro h
  have:∀i,∃t,i<m->k*mul m L (col c) i 0=E i i*t:=λi=>by
   by_cases a:i<m
   ·obtain⟨t,p⟩:=h i a;rw[w] at p;exact⟨t,λ_=>p⟩
   ·exact⟨0,λz=>absurd z a⟩
  obtain⟨t,p⟩:=Classical.axiomOfChoice this;refine⟨λl=>mul m R (col t) l 0,λj f=>?_⟩;have u:sN m (λl=>d j l*mul m R (col t) l 0)=mul m (mul m d R) (col t) j 0:=(assoc m d R (col t) j 0).symm;have s:mul m (mul m d R) (col t) j 0=mul m (mul m g E) (col t) j 0:=mul_congr (λl b=>I j l f b) λ_ _=>rfl;rw[u,s,assoc];have M:mul m g (mul m E (col t)) j 0=sN m (λi=>k*(g j i*mul m L (col c) i 0)):=Zg λi a=>by rw[o t i a,<-p i a,cD]
  rw[M,ZA];congr 1;have J:sN m (λi=>g j i*mul m L (col c) i 0)=mul m (mul m g L) (col c) j 0:=(assoc m g L (col c) j 0).symm;rw[J,mul_congr (A':=one) (B':=col c) (λl b=>r j l f b) (λ_ _=>rfl),one_mul f];rfl
 ·rintro⟨x,D⟩ i a;rw[w];refine⟨mul m n (col x) i 0,?_⟩;rw[<-o (λi=>mul m n (col x) i 0) i a];have u:mul m E (col λi=>mul m n (col x) i 0) i 0=mul m (mul m L (mul m d R)) (mul m n (col x)) i 0:=mul_congr (λl b=>(e i l a b).symm) λ_ _=>rfl;rw[u,assoc];have s:∀j,j<m->mul m (mul m d R) (mul m n (col x)) j 0=k*c j:=λj f=>by rw[assoc,<-D j f];refine Zg λl b=>?_;rw[<-assoc,mul_congr (A':=one) (B':=col x) (λq B=>A l q b B) (λ_ _=>rfl),one_mul b];rfl
  rw[mul_congr (A':=L) (B':=λj _=>k*c j) (λ_ _=>rfl) s];show k*sN m (λj=>L i j*c j)=sN m (λj=>L i j*(k*c j));rw[<-ZA];exact Zg λj _=>cD _ _ _
end PM
namespace PW
open PySem L2 VL VX
theorem NU(f:Nat->Int):∀n,sN (n+1) f=f 0+sN n λj=>f (j+1)
 | 0=>by show 0+f 0=f 0+0;omega
 | n+1=>by show sN (n+1) f+f (n+1)=f 0+(sN n (λj=>f (j+1))+f (n+1));rw[NU f n];omega
theorem M7(i:Nat):Xd 0 i=i+1:=by unfold Xd;rw[l4 (by omega)]
section
variable {W:List (List Int)} {m:Nat} {D:List Int}
theorem B7(ok:ZP W)(Y:Nat->Int):sN W.length (gN W Y)=0:=by
 have z:(aV W.length (0:Int)).length=W.length:=by simp
 have h:=E8 (S:=ZE W.length Y) ok z;rw[U5,YI,z] at h
 have b:(aV W.length (0:Int)).sum=0:=by
  rw[U5];exact Y6 λi a=>by rw[z] at a;exact Jm 0 a
 rw[b] at h;rw[<-h];refine Zg λi a=>?_;rw[Ul (by rw[z];exact a),Jm 0 a,jn];exact Uk a λg c=>(Z5 c).symm
theorem Kz(ok:ZP W)(n:W.length=m+1)(s:D.length=W.length)(v:D.sum=0)(k:Int):(∃Y:Nat->Int,∀h,h<W.length->k*Zp D h+gN W Y h=0)↔∃x:Nat->Int,∀j,j<m->sN m (λl=>ZK W 0 j l*x l)=k*Zp D (j+1):=by
 have f:sN (m+1) (Zp D)=0:=by rw[<-n,<-s,<-U5];exact v
 constructor
 ·rintro⟨Y,d⟩;obtain⟨Z,p⟩:∃Z:Nat->Int,∀h,Z h=Y h+(- Y 0):=⟨_,λ_=>rfl⟩;refine⟨λl=>Z (l+1),λj o=>?_⟩;have e:=Pg ok (b:=0) ok.pos (Y:=Z) (by rw[p];omega) (k:=j) (by omega);have u:gN W Z (Xd 0 j)=gN W Y (Xd 0 j):=by rw[M7];rw[Uk (W:=W) (Y:=Z) (Z:=λx=>Y x+(λ_=>- Y 0) x) (by omega) (λg _=>p g),U4,MV (T:=λ_=>- Y 0) (c:=- Y 0) (λ_ _=>rfl) (by omega)];omega
  rw[u,M7,show W.length-1=m by omega] at e;have w:=d (j+1) (by omega);rw[Zg (g:=λi=>ZK W 0 j i*Z (Xd 0 i)) λi _=>by rw[M7]];omega
 ·rintro⟨x,r⟩;obtain⟨Y,d⟩:∃Y:Nat->Int,∀h,Y h=if h=0 then 0 else x (h-1):=⟨_,λ_=>rfl⟩
  have a:∀j,j<m->k*Zp D (j+1)+gN W Y (j+1)=0:=λj o=>by have e:=Pg ok (b:=0) ok.pos (Y:=Y) (by rw[d,kz rfl]) (k:=j) (by omega);rw[M7,show W.length-1=m by omega,Zg (g:=λl=>ZK W 0 j l*x l) λl _=>by rw[M7,d,l4 (by omega),show l+1-1=l by omega],r j o] at e;omega
  refine⟨Y,λh y=>?_⟩;by_cases q:h=0
  ·subst q;have s1:=B7 ok Y;rw[n,NU (gN W Y) m] at s1;rw[NU (Zp D) m] at f;have s2:sN m (λj=>k*Zp D (j+1)+gN W Y (j+1))=0:=Y6 a;rw[ZZ,ZA] at s2;have t:k*(Zp D 0+sN m λj=>Zp D (j+1))=0:=by rw[f,bU]
   rw[fV] at t;omega
  ·have:=a (h-1) (by omega)
   rwa [show h-1+1=h by omega] at this
theorem IW{E:List Int}(ok:ZP W)(a:WO W)(c:D.length=W.length)(f:E.length=W.length)(k:∀h,h<W.length->(Zp D h).natAbs<=2^208)(bE:∀h,h<W.length->(Zp E h).natAbs<=2^208) :
  (∃O,O.length=W.length/\E=Z8 W D O/\Ww [wP W,pP D,pP E]=aA (pP (Z4 O)))\/(Ww [wP W,pP D,pP E]=aA .non/\¬ ∃Y:Nat->Int,∀h,h<W.length->Zp E h=Zp D h+gN W Y h):=by
 have C:=ok.pos;by_cases q:∃Y:Nat->Int,∀h,h<W.length->Zp E h=Zp D h+gN W Y h
 ·obtain⟨Y,u⟩:=q;have m:=Zr W.length Y;have l:E=Z8 W D (ZE W.length Y):=X9 (by rw[f,YI,c]) λi G=>by rw[u i (by omega),Ul (by omega)];congr 1;exact Uk (by omega) λg v=>(Z5 v).symm
  exact .inl ⟨_,m,l,FG ok a c k bE m l⟩
 ·refine .inr ⟨?_,q⟩;obtain⟨S,N,F,r,w,s,st⟩:=Uy ok a c (b:=0) (by omega) k;obtain⟨j,p,A,e,o,d,t⟩:=Uy ok a f (b:=0) (by omega) bE;refine IV ok a c f r e λz=>q ⟨λx=>Zp S x+(-1)*Zp j x,λh B=>?_⟩;have n:Zp N h=Zp D h+gN W (Zp S) h:=by rw[s];exact Ul (by omega)
  have y:Zp p h=Zp E h+gN W (Zp j) h:=by rw[d];exact Ul (by omega)
  rw[U4 (Zp S) (λx=>(-1)*Zp j x),Wm];rw[z] at n;omega
end
end PW
namespace PW
open L2 VL
noncomputable def T3(n:Nat)(M:List (List Int)):Int:=sN n λi=>sN n (ent M i)
theorem IX(n:Nat):T3 n (aV n (aV n (0:Int)))=0:=Y6 λi a=>Y6 λj b=>by simp[ent,ZL,Zp,a,b]
theorem OC{n a b:Nat}{c:Int}(e:a<n)(d:b<n):(sN n λi=>sN n λj=>if i=a/\j=b then c else 0)=c:=by rw[ZX e λi _ f=>Y6 λj _=>l4 λz=>f z.1,ZX d λj _ g=>l4 λz=>g z.2,kz ⟨rfl,rfl⟩]
theorem JJ{n:Nat}{M:List (List Int)}{a b:Nat}{t:Int}(ok:MatOk n M)(c:a<n)(d:b<n)(f:a≠b):T3 n (Pb M a b t)=T3 n M+2*(t-ent M a b):=by
 have e:T3 n (Pb M a b t)=sN n λi=>sN n λj=>(ent M i j+if i=a/\j=b then t-ent M a b else 0)+if i=b/\j=a then t-ent M a b else 0:=Zg λi k=>Zg λj h=>by
  rw[RU ok c d];have s:=ok.sym a b c d;by_cases p:b=i/\a=j
  ·obtain⟨rfl,rfl⟩:=p;rw[kz ⟨rfl,rfl⟩,l4 λz=>f z.1.symm,kz ⟨rfl,rfl⟩];omega
  ·rw[l4 p,l4 (show ¬(i=b/\j=a) from λz=>p ⟨z.1.symm,z.2.symm⟩)];by_cases p2:a=i/\b=j
   ·obtain⟨rfl,rfl⟩:=p2;rw[kz ⟨rfl,rfl⟩,kz ⟨rfl,rfl⟩];omega
   ·rw[l4 p2,l4 (show ¬(i=a/\j=b) from λz=>p2 ⟨z.1.symm,z.2.symm⟩)];omega
 rw[e]
 have g:(sN n λi=>sN n λj=>(ent M i j+if i=a/\j=b then t-ent M a b else 0)+if i=b/\j=a then t-ent M a b else 0)=(T3 n M+sN n λi=>sN n λj=>if i=a/\j=b then t-ent M a b else 0)+sN n λi=>sN n λj=>if i=b/\j=a then t-ent M a b else 0:=by
  unfold T3;rw[<-ZZ,<-ZZ];exact Zg λi _=>by rw[<-ZZ,<-ZZ]
 rw[g,OC c d,OC d c];omega
theorem Zce{c:List Int}{mo n:Nat}{M:List (List Int)}{sp:List Int}{x7 x8 x9:Option PV}{k:Nat}(h:c.length<=63)(Q:n<=7)(s:1<=k)(g:k<n)(f:NamesOk n sp)(ok:MatOk n M)(G:Grown M sp k) :
  ∃M' y7,MatOk n M'/\Grown M' sp (k+1)/\T3 n M'<=T3 n M+6/\bW2 (Wk c mo n M sp (aA (.int (k:Int))) x7 x8 x9)=aA (.nx (Wk c mo n M' sp (aA (.int (k:Int))) y7 x8 x9)):=by
 obtain⟨v,E,H⟩:=Wa (Yi c k) (t:=1) (m:=k) (by omega) (by omega);obtain⟨w,R,J⟩:=Wa (Yi c k) (t:=2) (m:=3) (by omega) (by omega);have N:=Xt h (k:=k) (by omega);have U:=f.at (x:=k) g;have O:=f.at (x:=v) (by omega);have ne:=f.ne (x:=k) (y:=v) g (by omega) (by omega);obtain⟨a,ea⟩:∃a:Nat,Zp sp k=(a:Int):=⟨(Zp sp k).toNat,by omega⟩;obtain⟨b,u⟩:∃b:Nat,Zp sp v=(b:Int):=⟨(Zp sp v).toNat,by omega⟩;have d:a<n:=by omega
 have e:b<n:=by omega
 have C:=MO (k:=1+(w:Int)) ok d e;have lo:=ok.lo a b d e;generalize D:(if ent M a b+(1+(w:Int))<9 then ent M a b+(1+(w:Int)) else 9)=t at C;have z:0<t/\t<=9:=by rw[<-D];split<;>omega
 have S:t<=ent M a b+3:=by rw[<-D];have:=ok.hi a b d e;split<;>omega
 have r:a≠b:=by omega
 have P:=JJ (t:=t) ok d e r;have A:=WH (l:=sp) (k:=k) (by rw[f.len];exact g);have B:=WH (l:=sp) (k:=v) (by rw[f.len];omega);rw[ea] at A;rw[u] at B;obtain⟨L,F⟩:=Jp ok d e z.1;refine⟨Pb M a b t,aA (.int (Yi c k)),G9 ok d e (by omega) (by omega) z.2,λj s T=>?_,?_,?_⟩
 ·by_cases q:j<k
  ·exact(G.mono L) j s q
  ·have:j=k:=by omega
   subst this;exact⟨v,E,by rw[ea,u];exact F⟩
 ·omega
 ·have I:Zs 7 (Zc Z7 [Za 0,Za 6]) (Wk c mo n M sp (aA (.int (k:Int))) x7 x8 x9)=aA (.nx (Wk c mo n M sp (aA (.int (k:Int))) (aA (.int (Yi c k))) x8 x9)):=by simp[Wk,N]
  unfold bW2;rw[YB I,Jo (i:=4) (l0:=.lst (rL M)) (ls:=[.int (a:Int),.int (b:Int),.int (1+(w:Int))]) rfl ?_ rfl C]
  ·rfl
  ·have p:Zz [PV.int (Yi c k),PV.int 1,PV.int (k:Int)]=aA (.int (v:Int)):=H;have o:Zz [PV.int (Yi c k),PV.int 2,PV.int 3]=aA (.int (w:Int)):=J;simp[Wk,A,B,p,o]
theorem Zcf{e:List Int}{mo n:Nat}{M:List (List Int)}{sp:List Int}{x7 x8 x9:Option PV}{i:Nat}(o:e.length<=63)(L:n<=7)(R:2<=n)(S:i<6)(ok:MatOk n M) :
  ∃M' y7 y8 y9,MatOk n M'/\(∀i j,0<ent M i j->0<ent M' i j)/\T3 n M'<=T3 n M+4/\bW3 (Wk e mo n M sp (aA (.int (i:Int))) x7 x8 x9)=aA (.nx (Wk e mo n M' sp (aA (.int (i:Int))) y7 y8 y9)):=by
 generalize G:Yi e (7+i)=c;obtain⟨a,f,ea⟩:=Wa c (t:=4) (m:=n) (by omega) (by omega);obtain⟨d,P,y⟩:=Wa c (t:=5) (m:=n-1) (by omega) (by omega);obtain⟨w,N,E⟩:=Wa c (t:=6) (m:=2) (by omega) (by omega);have u:=Xt o (k:=7+i) (by omega);rw[G] at u
 obtain⟨b,g,h,C⟩:∃b:Nat,b<n/\a≠b/\((a:Int)+1+(d:Int))%(n:Int)=(b:Int):=by
  refine⟨(a+1+d)%n,ja _ (by omega),?_,?_⟩
  ·by_cases q:a+1+d<n
   ·rw[kB q];omega
   ·rw[Nat.mod_eq_sub_mod (by omega),kB (by omega)];omega
  ·have:((a:Int)+1+(d:Int))=((a+1+d:Nat):Int):=by omega
   rw[this];exact(Int.natCast_emod _ _).symm
 have z:=MO (k:=1+(w:Int)) ok f g;have lo:=ok.lo a b f g;generalize v:(if ent M a b+(1+(w:Int))<9 then ent M a b+(1+(w:Int)) else 9)=t at z;have x:0<t/\t<=9:=by rw[<-v];split<;>omega
 have Q:t<=ent M a b+2:=by rw[<-v];have:=ok.hi a b f g;split<;>omega
 have J:=JJ (t:=t) ok f g h;obtain⟨F,O⟩:=Jp ok f g x.1;refine⟨Pb M a b t,aA (.int c),aA (.int (a:Int)),aA (.int (b:Int)),G9 ok f g h (by omega) x.2,F,by omega,?_⟩;have A:((7+i:Nat):Int)=7+(i:Int):=by omega
 rw[A] at u;have D:Zs 7 (Zc Z7 [Za 0,Zj Yj (eC (.int 7)) (Za 6)]) (Wk e mo n M sp (aA (.int (i:Int))) x7 x8 x9)=aA (.nx (Wk e mo n M sp (aA (.int (i:Int))) (aA (.int c)) x8 x9)):=by simp[Wk,u]
 have r:Zz [PV.int c,PV.int 4,PV.int (n:Int)]=aA (.int (a:Int)):=ea;have B:Zs 8 (Zc Zz [Za 7,eC (.int 4),Za 3]) (Wk e mo n M sp (aA (.int (i:Int))) (aA (.int c)) x8 x9)=aA (.nx (Wk e mo n M sp (aA (.int (i:Int))) (aA (.int c)) (aA (.int (a:Int))) x9)):=by simp[Wk,r]
 have l:((n-1:Nat):Int)=(n:Int)-1:=by omega
 rw[l] at y;have s:Zz [PV.int c,PV.int 5,PV.int ((n:Int)-1)]=aA (.int (d:Int)):=y;have H:0<n:=by omega
 have I:Zs 9 (eP (Zj Wn (Zj Yj (Zj Yj (Za 8) (eC (.int 1))) (Zc Zz [Za 7,eC (.int 5),Zj VH (Za 3) (eC (.int 1))])) (Za 3))) (Wk e mo n M sp (aA (.int (i:Int))) (aA (.int c)) (aA (.int (a:Int))) x9)=aA (.nx (Wk e mo n M sp (aA (.int (i:Int))) (aA (.int c)) (aA (.int (a:Int))) (aA (.int (b:Int))))):=by simp[Wk,s,H,C]
 have p:Zz [PV.int c,PV.int 6,PV.int 2]=aA (.int (w:Int)):=E;unfold bW3;rw[YB D,YB B,YB I,Jo (i:=4) (l0:=.lst (rL M)) (ls:=[.int (a:Int),.int (b:Int),.int (1+(w:Int))]) rfl ?_ rfl z]
 ·rfl
 ·simp[Wk,p]
theorem KA{a:List Int}(y:a.length<=63){mo:Nat}(h1:1<=mo)(h7:mo<=7):∃W,Na [.cst (iL a),.int (mo:Int)]=aA (wP W)/\ZP W/\WO W/\W.length<=mo/\(UI W).length<=28:=by
 obtain⟨p0,hp0,U⟩:=Wa (Yi a 0) (t:=0) (m:=mo) (by omega) (by omega);have D:Zz [PV.int (Yi a 0),PV.int 0,PV.int (mo:Int)]=aA (.int (p0:Int)):=U;have R:=Xt y (k:=0) (by omega);have F:Z7 [PV.cst (iL a),PV.int 0]=aA (.int (Yi a 0)):=R;obtain⟨n,hn⟩:∃n:Nat,n=1+p0:=⟨_,rfl⟩;have S:(1:Int)+(p0:Int)=(n:Int):=by omega
 let Z:=aV n (aV n (0:Int));have e1:Zs 2 (Zc Z7 [Za 0,eC (.int 0)]) [aA (.cst (iL a)),aA (.int (mo:Int)),none,none,none,none,none,none,none,none]=aA (.nx [aA (.cst (iL a)),aA (.int (mo:Int)),aA (.int (Yi a 0)),none,none,none,none,none,none,none]):=by simp[F]
 have e2:Zs 3 (eP (Zj Yj (eC (.int 1)) (Zc Zz [Za 2,eC (.int 0),Za 1]))) [aA (.cst (iL a)),aA (.int (mo:Int)),aA (.int (Yi a 0)),none,none,none,none,none,none,none]=aA (.nx [aA (.cst (iL a)),aA (.int (mo:Int)),aA (.int (Yi a 0)),aA (.int (n:Int)),none,none,none,none,none,none]):=by simp[D,S]
 have e3:Zs 4 (Zq 1 [3] (Ya [Za 3]) (.one 0) Zy (Zj Mm (UO [eC (.int 0)]) (Za 1))) [aA (.cst (iL a)),aA (.int (mo:Int)),aA (.int (Yi a 0)),aA (.int (n:Int)),none,none,none,none,none,none]=aA (.nx [aA (.cst (iL a)),aA (.int (mo:Int)),aA (.int (Yi a 0)),aA (.int (n:Int)),aA (.lst (rL Z)),none,none,none,none,none]):=by rw[Ys,IF (n:=n) rfl (by omega)];rfl
 have e4:Zs 5 (UO []) [aA (.cst (iL a)),aA (.int (mo:Int)),aA (.int (Yi a 0)),aA (.int (n:Int)),aA (.lst (rL Z)),none,none,none,none,none]=aA (.nx (Wk a mo n Z [] none none none none)):=by simp[Wk]
 -- the houses' order
 obtain⟨s5,f5,sp,B,hs5,E⟩:=WW (T:=.one 6) (fb:=bW1) (ls:=Si n) (s:=Wk a mo n Z [] none none none none)
  (λi st=>∃sp B,st=Wk a mo n Z sp B none none none/\NamesOk i sp) ⟨[],none,rfl,NamesOk.nil⟩ (by
   rintro i l st C ⟨sp,B,rfl,E⟩;obtain⟨L,rfl⟩:=Tv C;obtain⟨sp',Y,e⟩:=BR (mo:=mo) (n:=n) (M:=Z) (x7:=none) (x8:=none) (x9:=none) y (by omega) E;exact⟨_,_,rfl,e,sp',_,rfl,Y⟩)
 subst hs5;rw[Qx] at E;have e5:Xq [4,5] (Ya [Za 3]) (.one 6) bW1 (Wk a mo n Z [] none none none none)=aA (.nx (Wk a mo n Z sp B none none none)):=by show(Ya [Za 3] (YW [4,5] (Wk a mo n Z [] none none none none))).bind _=_;rw[Yd (n:=n) (by simp[Wk,YW]) (by omega)];exact f5
 -- each to one ahead
 obtain⟨s6,f6,M,o,h,O,u,J,sm⟩:=WW (T:=.one 6) (fb:=bW2) (ls:=UQ 1 (n-1)) (s:=Wk a mo n Z sp B none none none)
  (λi st=>∃M o h,st=Wk a mo n M sp o h none none/\MatOk n M/\Grown M sp (i+1)/\T3 n M<=6*(i:Int)) ⟨Z,B,none,rfl,MatOk.zero n,λj h1 h2=>by omega,by rw[IX];omega⟩ (by
   rintro i l st C ⟨M,o,h,rfl,u,J,sm⟩;obtain⟨L,rfl⟩:=Gd C;have hk:(1:Int)+(i:Int)=((i+1:Nat):Int):=by omega
   rw[hk];obtain⟨d,p,b,f,x,e⟩:=Zce (mo:=mo) (x7:=h) (x8:=none) (x9:=none) (k:=i+1) y (by omega) (by omega) (by omega) E u J;exact⟨_,_,rfl,e,d,_,p,rfl,b,f,by omega⟩)
 subst O;rw[Ge] at J sm
 have e6:Xq [4,5] (VY [eC (.int 1),Za 3]) (.one 6) bW2 (Wk a mo n Z sp B none none none)=aA (.nx (Wk a mo n M sp o h none none)):=by
  show(VY [eC (.int 1),Za 3] (YW [4,5] (Wk a mo n Z sp B none none none))).bind _=_;rw[Sm (i:=1) (j:=(n:Int)) rfl (by simp[Wk,YW]) (by omega) (by omega)];have:((n:Int)-1).toNat=n-1:=by omega
  rw[this];exact f6
 have I:Grown M sp n:=λj h1 h2=>J j h1 (by omega)
 -- more ties
 obtain⟨p3,hp3,Q⟩:=Wa (Yi a 0) (t:=3) (m:=6) (by omega) (by omega);have G:Zz [PV.int (Yi a 0),PV.int 3,PV.int 6]=aA (.int (p3:Int)):=Q
 have P:∃d A p z w,MatOk n d/\Grown d sp n/\T3 n d<=56/\RD (xB (Zj Lc (Za 3) (eC (.int 1)))) (Xq [4,5] (Ya [Zc Zz [Za 2,eC (.int 3),eC (.int 6)]]) (.one 6) bW3) YE (Wk a mo n M sp o h none none)=aA (.nx (Wk a mo n d sp A p z w)):=by
  by_cases q:1<n
  ·obtain⟨s7,f7,d,A,p,z,w,N,b,f,x⟩:=WW (T:=.one 6) (fb:=bW3) (ls:=Si p3) (s:=Wk a mo n M sp o h none none)
    (λi st=>∃d A p z w,st=Wk a mo n d sp A p z w/\MatOk n d/\Grown d sp n/\T3 n d<=36+4*(i:Int)) ⟨M,o,h,none,none,rfl,u,I,by omega⟩ (by
     rintro i l st C ⟨d,A,p,z,w,rfl,b,f,x⟩;obtain⟨L,rfl⟩:=Tv C;obtain⟨M2,u7,u8,u9,ok2,g2,sm2,e⟩:=Zcf (mo:=mo) (sp:=sp) (x7:=p) (x8:=z) (x9:=w) (i:=i) y (by omega) (by omega) (by omega) b;exact⟨_,_,rfl,e,M2,_,u7,u8,u9,rfl,ok2,f.mono g2,by omega⟩)
   subst N;rw[Qx] at x;refine⟨d,A,p,z,w,b,f,by omega,?_⟩
   have c:xB (Zj Lc (Za 3) (eC (.int 1))) (Wk a mo n M sp o h none none)=aA aC:=by
    have q':(1:Int)<(n:Int):=by omega
    simp[Wk,q,q']
   rw[Xw,c];simp only[aY,if_true];show(Ya [Zc Zz [Za 2,eC (.int 3),eC (.int 6)]] (YW [4,5] (Wk a mo n M sp o h none none))).bind _=_;rw[Yd (n:=p3) (by simp[Wk,YW,G]) (by omega)];exact f7
  ·refine⟨M,o,h,none,none,u,I,by omega,?_⟩
   have c:xB (Zj Lc (Za 3) (eC (.int 1))) (Wk a mo n M sp o h none none)=aA aB:=by
    have q':¬(1:Int)<(n:Int):=by omega
    simp[Wk,q']
   rw[Xw,c];rfl
 obtain⟨d,A,p,z,w,b,f,x,P⟩:=P;refine⟨d,?_,b.web (by omega) (by omega),f.conn b.len E,by rw[b.len];omega,?_⟩
 ·have X:Zq 1 [] (Ve (Za 4)) (.one 0) Zy (Zc ZT [Za 0]) (Wk a mo n d sp A p z w)=aA (.lst (d.map pP)):=by rw[ZR d (λr=>.lst (iL r)) pP (by simp[Wk,rL]) (by rw[b.len];omega) (λr _=>⟨_,rfl,rfl,by simp[ZI]⟩)]
  show YC 10 O9 _=_;unfold O9;show(Zn _ _ [aA (.cst (iL a)),aA (.int (mo:Int)),none,none,none,none,none,none,none,none]).bind Tq=_;rw[YB e1,YB e2,YB e3,YB e4,YB e5,YB e6,YB P,MN (v:=wP d)]
  ·rfl
  ·rw[O2,YO,ZD,X];simp
 ·have H:=b.web (by omega) (by omega);have t:=MK H;rw[Y7,b.len,Zg (g:=λi=>sN n (ent d i)) λi L=>by rw[Ux H (by rw[b.len];exact L),Y7,b.len]] at t;have:T3 n d=2*((UI d).length:Int):=t;omega
end PW
namespace PW
open PySem L2 VL VX
theorem Zcg{f:XE}{s:ZF}{v:PV}(q:f s=aA v):OU [f] s=aA (.tup [v]):=by rw[Mo,ZD,q];rfl
section
variable {W:List (List Int)} {m:Nat} {A B:List Int}
theorem FH{E:Mt}{b:Nat}(p:W.length=m+1)(n:W.length<=7)(eP:TJ [wP W]=aA (M5 m (Wb m E) (B5 W m E) (Rl m E) (B6 W m E) λi=>E i i))(l:PM.Cr m m (ZK W 0) E)(k:b<=43000000)(d:∀i j,i<m->j<m->(E i (m+j)).natAbs<=2^b){D:List Int}(o:D.length=W.length)(g:∀h,h<W.length->(Zp D h).natAbs<=2^200) :
  Vq [wP W,pP D]=aA (pP (D.sum::ZE m λi=>M6 m (Wb m E) D i%E i i)):=by
 have e:∀i j,i<m->j<m->CMulW (E i (m+j)) (Zp D (j+1)):=λi j c f=>IQ (G:=b+202) (aq (d i j c f) (bq (by omega) (by omega))) (aq (g (j+1) (by omega)) (bq (by omega) (by omega))) (by omega) (by omega);have r:=FF (m:=m) (L:=Wb m E) (R:=Rl m E) (bk:=B5 W m E) (fo:=B6 W m E) (v:=λi=>E i i) (D:=D) (by omega) (by omega) e (λi c=>l.d2 i c);refine YV (ret (Hd (o2 (a:=pP [D.sum]) (Zcg (c1 rfl (GU D))) (c2 (c1 rfl eP) rfl r) ?_)));rw[Jq (by rw[dW,Zr];omega)];rfl
noncomputable def Ak(W:List (List Int))(A B:List Int):Prop:=∃Y:Nat->Int,∀h,h<W.length->Zp B h=Zp A h+gN W Y h
theorem KC{E:Mt}(ok:ZP W)(v:PM.Cr m m (ZK W 0) E)(s:W.length=m+1)(p:A.length=W.length)(w:B.length=W.length)(r:B.sum=A.sum):(ZE m λi=>M6 m (Wb m E) A i%E i i)=(ZE m λi=>M6 m (Wb m E) B i%E i i)↔Ak W A B:=by
 obtain⟨D,k⟩:∃D:List Int,D=ZE W.length λh=>Zp A h-Zp B h:=⟨_,rfl⟩;have n:D.length=W.length:=by rw[k,Zr]
 have d:∀h,h<W.length->Zp D h=Zp A h-Zp B h:=λh a=>by rw[k,Z5 a]
 have q:D.sum=0:=by rw[U5,n,Zg (g:=λh=>Zp A h+(-1)*Zp B h) λh a=>by rw[d h a];omega,ZZ,ZA];rw[U5,U5 A,p,w] at r;omega
 have t:Ak W A B↔∃Y:Nat->Int,∀h,h<W.length->1*Zp D h+gN W Y h=0:=
  ⟨λ⟨Y,f⟩=>⟨Y,λh a=>by have:=f h a;rw[d h a];omega⟩,λ⟨Y,f⟩=>⟨Y,λh a=>by have:=f h a;rw[d h a] at this;omega⟩⟩
 rw[t,Kz ok s n q,<-PM.image v (λj=>Zp D (j+1)) 1]
 have c:∀i,i<m->(M6 m (Wb m E) A i%E i i=M6 m (Wb m E) B i%E i i↔E i i∣1*sN m (λj=>E i (m+j)*Zp D (j+1))):=λi b=>by
  have e:sN m (λj=>E i (m+j)*Zp D (j+1))=M6 m (Wb m E) A i-M6 m (Wb m E) B i:=by have o:M6 m (Wb m E) A i=sN m λj=>E i (m+j)*Zp A (j+1):=rfl;have u:M6 m (Wb m E) B i=sN m λj=>E i (m+j)*Zp B (j+1):=rfl;rw[o,u,Zg (g:=λj=>E i (m+j)*Zp A (j+1)+(-1)*(E i (m+j)*Zp B (j+1))) λj x=>by rw[d (j+1) (by omega),dh];omega,ZZ,ZA];omega
  rw[e,cq,Int.emod_eq_emod_iff_emod_sub_eq_zero];exact⟨Int.dvd_of_emod_eq_zero,Int.emod_eq_zero_of_dvd⟩
 constructor
 ·intro z i b;refine(c i b).mp ?_;have:=congrArg (λl=>Zp l i) z;simp only[Z5 b] at this;exact this
 ·intro z;refine X9 (by rw[Zr,Zr]) λi b=>?_;rw[Zr] at b;rw[Z5 b,Z5 b];exact(c i b).mpr (z i b)
theorem Zaq{e:Type}{n:Nat}{ix:List Nat}{d:XL}{c:XE}{s:ZF}(ls:List e)(q:e->PV)(b:d s=aA (ls.map q))(k:ls.length<=100)(h:∀a∈ls,∃s1,Xb (.one 0) (q a) (ZI n ix s)=aA s1/\c s1=aA (.bl aC)):Zc Px [Zq n ix d (.one 0) Zy c] s=aA (.bl aC):=by refine c1 (a:=.lst ((ls.map λ_=>aC).map PV.bl)) ?_ (by rw[HZ];simp);rw[ZR ls q (λ_=>.bl aC) b (by omega) (λi f=>by obtain⟨s1,g,j⟩:=h i f;exact⟨s1,g,rfl,j⟩),cM];rfl
theorem M8{B:Mt}(a:m<=50):UT [wP (YZ m m B),.int (m:Int)]=aA (.bl aC):=by refine YV (ret (ep (dP (ea (p:=aC) (p2:=aC) rfl (dP (ea (p:=aC) (p2:=aC) (dP (IG (c1 rfl (by rw[Js,RV])) rfl) (by rw[decide_eq_true rfl])) (Zaq (aE m) (λi=>pP (ZE m (B i))) ((V2 rfl).trans (by rw[<-S2];rfl)) (by simp;omega) λi _=>⟨_,rfl,c2 rfl rfl (MT (Zr _ _) (by omega))⟩)) rfl)) rfl)))
theorem DN{L B R F:Mt}{v:Nat->Int}(a:m<=50):QP [.tup [wP (YZ m m L),wP (YZ m m B),wP (YZ m m R),wP (YZ m m F),pP (ZE m v)],.int (m:Int)]=aA (.bl aC):=by refine YV (sq (gof (dP (xo (p:=aB) (p2:=aB) (xn (xb (p:=aC) rfl)) (dP (xo (p:=aB) (p2:=aB) (xb (dP (o2 (c1 rfl (Ga _)) rfl (O5 aC _ _)) (by simp))) (xn (xb (c2 (o2 rfl rfl rfl) rfl (MT (Zr _ _) (by omega)))))) rfl)) rfl)) (ret (ep (Zaq [L,B,R,F] (λX=>wP (YZ m m X)) rfl (show 4<=100 by omega) λX _=>⟨_,rfl,c2 rfl rfl (M8 a)⟩))))
theorem IY{A B:Mt}(h:∀i j,i<m->j<m->A i j=B i j):YZ m m A=YZ m m B:=by unfold YZ;refine ak λi a=>?_;unfold ZE;exact ak λj b=>h i j (aQ.mp a) (aQ.mp b)
theorem DO(m:Nat)(f:Nat->Int):ZE (m+1) f=ZE m f++[f m]:=by unfold ZE;rw[fP,cU];rfl
theorem IZ{a E:Mt}(n:PM.Cr m m a E):∃d b:Mt,PM.EqM m (PM.mul m (Wb m E) d) PM.one/\PM.EqM m (PM.mul m d (Wb m E)) PM.one/\PM.EqM m (PM.mul m (Rl m E) b) PM.one/\PM.EqM m (PM.mul m b (Rl m E)) PM.one/\
  (∀i j,i<m->j<m->PM.mul m a (Rl m E) i j=d i j*E j j/\PM.mul m (Wb m E) a i j=E i i*b i j):=by
 obtain⟨d,b,s,q,r,u⟩:=n.adm.ex;have f:=n.adm.val;refine⟨d,b,s,q,r,u,λi j h g=>⟨?_,?_⟩⟩
 ·have e:PM.mul m a (Rl m E) i j=PM.mul m d E i j:=by rw[PM.mul_congr (A':=d) (B':=PM.mul m (Wb m E) (PM.mul m a (Rl m E))) (λ_ _=>rfl) (λl p=>(f l j p g).symm),<-PM.assoc,PM.mul_congr (A':=PM.one) (B':=PM.mul m a (Rl m E)) (λl p=>q i l h p) (λ_ _=>rfl),PM.one_mul h]
  rw[e];exact ZX g λk c o=>by rw[(n.d1 j k g c o).2,bU]
 ·have e:PM.mul m (Wb m E) a i j=PM.mul m E b i j:=by have t:PM.mul m E b i j=PM.mul m (PM.mul m (PM.mul m (Wb m E) a) (Rl m E)) b i j:=PM.mul_congr (λk c=>by rw[PM.assoc];exact(f i k h c).symm) λ_ _=>rfl;rw[t,PM.assoc,PM.mul_congr (A':=PM.mul m (Wb m E) a) (B':=PM.one) (λ_ _=>rfl) (λk c=>r k j c g),PM.mul_one g]
  rw[e];exact ZX h λk c o=>by rw[(n.d1 i k h c o).1,bZ]
theorem FI{v:Nat->Int}(a:1<=m):ZQ (pP (ZE m v)) (.int (-1))=aA (.int (v (m-1))):=by
 show T4 (iL (ZE m v)) (-1)=_;unfold T4;have:Pp (iL (ZE m v)).length (-1)=aA (m-1):=by rw[aN,Zr];unfold Pp;rw[l4 (by omega),kz (by omega)];congr 1;omega
 rw[this,aY,Qw (by rw[Zr];omega),Z5 (by omega)]
theorem FJ{O E g:Mt}{fo:List (List Int)}{R:Mt}{r:Nat->Int}{w:Int}(Z:m<=6)(G:PM.Cr m m O E)(Y:PM.EqM m (PM.mul m (Wb m E) g) PM.one)(I:∀k,k<m->0<=r k/\r k<E k k)(W:∀k,k<m->E k k<=2^20)(hw:w.natAbs<=2^20)(hc:∀j k,j<m->k<m->CMulW (g j k) (r k)) :
  ∃Q:List Int,XC [M5 m (Wb m E) (YZ m m g) R fo (λi=>E i i),.int w,.lst (iL (ZE m r))]=aA (pP Q)/\Q.length=m+1/\Q.sum=w/\(∀h,h<m+1->(Zp Q h).natAbs<=2^200)/\∀i,i<m->M6 m (Wb m E) Q i%E i i=r i:=by
 obtain⟨d,B⟩:∃d:Int,d=E (m-1) (m-1):=⟨_,rfl⟩;obtain⟨t,N⟩:∃t:Nat->Int,∀j,t j=sN m λk=>g j k*r k:=⟨_,λ_=>rfl⟩;obtain⟨c,p⟩:∃c:Nat->Int,∀j,c j=t j%d:=⟨_,λ_=>rfl⟩;have J:1<=m->1<=d/\d<=2^20:=λh=>by rw[B];exact⟨G.d2 _ (by omega),W _ (by omega)⟩
 have H:∀j,j<m->(c j).natAbs<=2^20:=λj z=>by have:=J (by omega);have h1:=dI (t j) (b:=d) (by omega);have h2:=cW (t j) (b:=d) (by omega);rw[p];omega
 obtain⟨Q,x⟩:∃Q:List Int,Q=(w-(ZE m c).sum)::ZE m c:=⟨_,rfl⟩;have D:∀j,Zp Q (j+1)=Zp (ZE m c) j:=λj=>by rw[x];rfl
 refine⟨Q,?_,by rw[x,b9,Zr],by rw[x,jT];omega,λh hh=>?_,λi o=>?_⟩
 ·refine Jr (Z3 (Zx (v:=.lst (iL (ZE 0 c))) rfl) (Rj (Kn (ls:=tL (YZ m m g)) (λj s=>∃A,s=[aA (M5 m (Wb m E) (YZ m m g) R fo (λi=>E i i)),aA (.int w),aA (.lst (iL (ZE m r))),aA (.lst (iL (ZE j c))),A]) rfl ⟨none,rfl⟩ ?_) ?_))
  ·rintro j l s u ⟨A,rfl⟩
   have z:j<m:=by
    have:=(aR.mp u).1
    rwa [X0] at this
   rw[Ui z] at u;cases u;have dd:=J (by omega);have e4:∀F:Option PV,Zj ZQ (Zj ZQ (Za 0) (eC (.int 4))) (OT UA (eC (.int 1))) [aA (M5 m (Wb m E) (YZ m m g) R fo (λi=>E i i)),aA (.int w),aA (.lst (iL (ZE m r))),F,aA (pP (ZE m (g j)))]=aA (.int d):=λF=>o2 (o2 rfl rfl rfl) (Ag rfl rfl) (by rw[B];exact FI (by omega));refine⟨_,rfl,He (Dj PV.int (L:=ZE j c) (y:=c j) (vP ((vmd (a:=t j) (c1 (Xl (w:=m) (q:=λk=>.tup [.int (g j k),.int (r k)]) (λk=>g j k*r k) ?_ (by omega) λk P=>⟨_,rfl,vC (C:=CMulW) (op:=(· * ·)) rfl rfl (hc j k z P)⟩) ?_) (e4 _)).trans (by rw[p]))) rfl (by rw[Zr];omega)) ⟨_,by rw[<-DO];rfl⟩⟩
   ·show aA (WU (iL (ZE m (g j))) (iL (ZE m r)))=_;rw[Kx]
   ·rw[Sl,N];congr 2;exact Y7 _ _
  ·rintro s ⟨A,rfl⟩;rw[X0];have X:Wu (.lst (iL [w-(ZE m c).sum])) (.lst (iL (ZE m c)))=aA (.lst (iL Q)):=by unfold Wu;simp only[];rw[kz ⟨by rw[aN,aN,dW,Zr];omega,ZV _,ZV _⟩,<-cU,x];rfl
   refine XY (Hd (c1 (o2 (a:=.lst (iL [w-(ZE m c).sum])) ?_ rfl X) (YF _))) rfl;have e6:Zj VH (Za 1) (Zc UB [Za 3]) [aA (M5 m (Wb m E) (YZ m m g) R fo (λi=>E i i)),aA (.int w),aA (.lst (iL (ZE m r))),aA (.lst (iL (ZE m c))),A]=aA (.int (w-(ZE m c).sum)):=vsb rfl (c1 rfl (Sl _));rw[HR,ZD,e6];rfl
 ·have up:(2:Nat)^20+6*2^20<=2^200:=by decide
  cases h with
  | zero=>
   have e:Zp Q 0=w-(ZE m c).sum:=by rw[x];rfl
   rw[e,U5,Zr];have:=Pj (n:=m) (f:=Zp (ZE m c)) (M:=2^20) λi o=>by rw[Z5 o];exact H i o
   have:m*2^20<=6*2^20:=bp _ Z;omega
  | succ h=>
   rw[D,Z5 (by omega)];have:=H h (by omega);omega
 ·have T:E i i∣d:=by rw[B];exact G.d3 i (m-1) (m-1) o (by omega) (by omega) (by omega) (by omega)
  have e1:M6 m (Wb m E) Q i=r i-d*sN m (λj=>Wb m E i j*(t j/d)):=by
   have U:M6 m (Wb m E) Q i=sN m λj=>Wb m E i j*t j+(- d)*(Wb m E i j*(t j/d)):=Zg λj z=>by
    have dm:=Int.emod_add_mul_ediv (t j) d;show Wb m E i j*Zp Q (j+1)=_;rw[D,Z5 z,p];have:t j%d=t j-d*(t j/d):=by omega
    rw[this,dh,cD,bH];omega
   rw[U,ZZ,ZA]
   have e3:sN m (λj=>Wb m E i j*t j)=r i:=by
    have:sN m (λj=>Wb m E i j*t j)=PM.mul m (Wb m E) (PM.mul m g (PM.col r)) i 0:=Zg λj _=>by rw[N];rfl
    rw[this,<-PM.assoc,PM.mul_congr (A':=PM.one) (B':=PM.col r) (λl u=>Y i l o u) (λ_ _=>rfl),PM.one_mul o];rfl
   rw[e3,bH];omega
  obtain⟨q,S⟩:=T;rw[e1,S,bS,j6,<-gV,Int.add_mul_emod_self_left];exact gz (I i o).1 (I i o).2
end
theorem FK{l:List Int}{a:Int}{f g:XE}{s:ZF}{i:Nat}(d:1<=l.length)(q:f s=aA (.int (-1)))(c:g s=aA (.int a))(b:K5 s i=aA (iL l)):XG i f g s=aA (.nx (s.set i (aA (.lst (iL (l.set (l.length-1) a)))))):=by
 have e:Pp (iL l).length (-1)=aA (l.length-1):=by rw[aN];unfold Pp;rw[l4 (by omega),kz (by omega)];congr 1;omega
 rw[Om (m:=iL l) (j:=l.length-1) c q b (ZV _) rfl e];rw[show(iL l).set (l.length-1) (.int a)=iL (l.set (l.length-1) a) from(jo ..).symm]
theorem law_true(o:List Int)(y:o.length<=63)(hbd:∀n∈o,n.natAbs.log2<=1048576):D_law [.cst (iL o)]=aA (.bl aC):=by
 obtain⟨W,eW,ok,Y,h7,h8⟩:=KA y (mo:=7) (by omega) (by omega);have hp:=ok.pos;obtain⟨m,H⟩:∃m,W.length=m+1:=⟨W.length-1,by omega⟩;obtain⟨E,u,eD,x,hγ,lb,rb,dg⟩:=FE ok Y h7 h8 H;have a55:=Cs ok Y H h8;obtain⟨L',R',b1,b2,b3,b4,ex⟩:=IZ x;have dn:∀i,i<m->E i i≠0:=λi g=>by have:=x.d2 i g;omega
 have eB:B5 W m E=YZ m m L':=IY λi j g f=>by show(PM.mul m (ZK W 0) (Rl m E) i j).fdiv (E j j)=L' i j;rw[(ex i j g f).1];exact Int.mul_fdiv_cancel _ (dn j f)
 have pl:=λ{D:List Int} (I:D.length=W.length) (bD:∀h,h<W.length->(Zp D h).natAbs<=2^200)=>FH H h7 eD x hγ lb I bD;have S:=DN (m:=m) (L:=Wb m E) (B:=λi j=>(PM.mul m (ZK W 0) (Rl m E) i j).fdiv (E j j)) (R:=Rl m E) (F:=λi j=>(PM.mul m (Wb m E) (ZK W 0) i j).fdiv (E i i)) (v:=λi=>E i i) (by omega)
 have six:m*(55*2^u)<=2^(u+9):=by
  have P:m*(55*2^u)<=6*(55*2^u):=bp _ (by omega);have h2:2^(u+9)=512*2^u:=by rw[fW,cT]
  omega
 have sAR:∀i j,i<m->j<m->(PM.mul m (ZK W 0) (Rl m E) i j).natAbs<=2^(u+9):=λi j g f=>aU (Pj λk c=>by rw[bh];exact bu (a55 i k g c) (rb k j c f)) six;have sL':∀i j,i<m->j<m->(L' i j).natAbs<=2^(u+9):=λi j g f=>by have:=sAR i j g f;rw[(ex i j g f).1,bh] at this;exact aU (az _ (by have:=dn j f;omega)) this
 have hE:∀k,k<m->E k k<=2^20:=λk c=>by have P:=eV (by have:=(FA ok Y h7 H).nz;omega) (cB.mpr (dg k c));have h2:=D28 ok Y H h7 h8;omega
 have reach:∀(r:Nat->Int)(w:Int),(∀k,k<m->0<=r k/\r k<E k k)->w.natAbs<=2^20->∃Q:List Int,XC [M5 m (Wb m E) (B5 W m E) (Rl m E) (B6 W m E) (λi=>E i i),.int w,.lst (iL (ZE m r))]=aA (pP Q)/\Q.length=W.length/\Q.sum=w/\(∀h,h<W.length->(Zp Q h).natAbs<=2^200)/\(ZE m λi=>M6 m (Wb m E) Q i%E i i)=ZE m r:=λr w hr hw=>by rw[eB,H];obtain⟨Q,T,J,q3,q4,q5⟩:=FJ (w:=w) (R:=Rl m E) (fo:=B6 W m E) (by omega) x b1 hr hE hw λj k f c=>IQ (G:=u+22) (aq (sL' j k f c) (bq (by omega) (by omega))) (aq (show _<=2^20 by have:=hr k c;have:=hE k c;omega) (bq (by omega) (by omega))) (by omega) (by omega);refine⟨Q,T,J,q3,q4,X9 (by rw[Zr,Zr]) λi g=>?_⟩;rw[Zr] at g;rw[Z5 g,Z5 g];exact q5 i g
 obtain⟨w,hw⟩:∃w:Int,w=Yi o 12%2001-1000:=⟨_,rfl⟩;have U:w.natAbs<=2^20:=by have h0:=dI (Yi o 12) (show(2001:Int)≠0 by decide);have P:=cW (Yi o 12) (show(0:Int)<2001 by decide);omega
 obtain⟨r,hr⟩:∃r:Nat->Int,∀k,r k=Yi o (13+k)*30011%999983%E k k:=⟨_,λ_=>rfl⟩;have rr:∀k,k<m->0<=r k/\r k<E k k:=λk c=>by have:=x.d2 k c;rw[hr];exact⟨dI _ (by omega),cW _ (by omega)⟩
 obtain⟨Q,T,J,q3,q4,q5⟩:=reach r w rr U;have Z:=pl J q4;rw[q3,q5] at Z;have cat:∀l:List Int,l.length<=100->Wu (.lst (iL [w])) (.lst (iL l))=aA (.lst (iL (w::l))):=λl hl=>by unfold Wu;simp only[];rw[kz ⟨by rw[aN,aN,dW];omega,ZV _,ZV _⟩,<-cU];rfl
 have c12:=Xt y (k:=12) (by omega);have c20:=Xt y (k:=20) (by omega);let V:PV:=M5 m (Wb m E) (B5 W m E) (Rl m E) (B6 W m E) (λi=>E i i)
 have anyF:∀s:ZF,Za 3 s=aA V->xB (Zc LC [Zq 1 [] (Vf (Zj ZQ (Za 3) (eC (.int 4)))) (.one 0) Zy (Zj Lb (Za 0) (eC (.int 1)))]) s=aA aB:=λs q=>by
  have e:Zq 1 [] (Vf (Zj ZQ (Za 3) (eC (.int 4)))) (.one 0) Zy (Zj Lb (Za 0) (eC (.int 1))) s=aA (.lst (((aE m).map λ_=>aB).map PV.bl)):=by
   rw[ZR (aE m) (λi=>.int (E i i)) (λ_=>.bl aB) ((V2 (o2 q rfl rfl)).trans (by show aA (iN PV.int (iN _ (aE m)))=_;rw[cM];rfl)) (by simp;omega) (λi g=>⟨_,rfl,rfl,by
    have:=x.d2 i (aQ.mp g);show aA (PV.bl (decide (E i i<1)))=_;rw[decide_eq_false (by omega)]⟩),cM]
   rfl
  refine xb (c1 e ?_);rw[H9];simp
 have Ym:∀s:ZF,Za 2 s=aA (.int (m:Int))->ZI 1 [3,0] s=[none,aA V,aA (.cst (iL o))]->Zq 1 [3,0] (Ya [Za 2]) (.one 0) Zy (eP (Zj Wn (Zj Wn (Zj TB (Zc Z7 [Za 2,Zj Yj (eC (.int 13)) (Za 0)]) (eC (.int 30011))) (eC (.int 999983))) (Zj ZQ (Zj ZQ (Za 1) (eC (.int 4))) (Za 0)))) s=aA (.lst (iL (ZE m r))):=λs T J=>by refine W4 r (Yd T (by omega)) (by omega) λk c=>⟨[aA (.int (k:Int)),aA V,aA (.cst (iL o))],by rw[J];rfl,rfl,vP ?_⟩;have ck:=Xt y (k:=13+k) (by omega);have cl:=G8 hbd (13+k);have:=x.d2 k c;rw[hr];refine vmd (vmd (b:=999983) (vC (C:=CMulW) (op:=(· * ·)) (a:=Yi o (13+k)) (b:=30011) (c2 rfl (b:=.int ((13+k:Nat):Int)) ((Af (a:=13) (b:=(k:Int)) rfl rfl).trans (by congr 2)) ck) rfl ⟨by omega,by decide +kernel⟩) rfl) (o2 (o2 rfl rfl rfl) rfl (SY c))
 refine Jr (Z3 (Zx (c2 rfl rfl eW)) (Z3 (Zx (v:=.int (m:Int)) (vP ((vsb (c1 rfl Js) rfl).trans (by congr 2;omega)))) (Z3 (Zx (c1 rfl eD)) (Z3 (gof (dP (xo (p:=aB) (p2:=aB) (xn (xb (c2 rfl rfl S))) (anyF _ rfl)) rfl)) (Z3 (Zx (v:=.int w) (vP ((vsb (vmd (b:=2001) (c2 rfl rfl c12) rfl) rfl).trans (by rw[hw])))) (Z3 (Zx (Ym _ rfl rfl)) (Z3 (Zx (c3 rfl rfl rfl T)) (Z3 (gof (neq (c2 rfl rfl Z) (c1 (o2 (a:=.lst (iL [w])) rfl rfl (cat _ (by rw[Zr];omega))) (YF _)))) ?_))))))));by_cases z:m=0
 ·refine Cj ?_ (XY (ep rfl) rfl);rw[K8,xb (IG (a:=(m:Int)) (b:=0) rfl rfl),decide_eq_true (by omega)];rfl
 obtain⟨d,I⟩:∃d:Int,d=E (m-1) (m-1):=⟨_,rfl⟩;have d1:=x.d2 (m-1) (by omega);rw[<-I] at d1;have d2:=hE (m-1) (by omega);rw[<-I] at d2;have e4:∀{s:ZF},Za 3 s=aA V->Zj ZQ (Zj ZQ (Za 3) (eC (.int 4))) (OT UA (eC (.int 1))) s=aA (.int d):=λ{s} q=>o2 (o2 q rfl rfl) (Ag rfl rfl) (by rw[I];exact FI (by omega));by_cases one:d=1
 ·refine Cj ?_ (XY (ep rfl) rfl);exact dP (xo (p:=aB) (p2:=aC) (xb (dP (IG (a:=(m:Int)) (b:=0) rfl rfl) (by rw[decide_eq_false (by omega)]))) (xb (dP (IG (e4 rfl) rfl) (by rw[decide_eq_true one])))) rfl
 obtain⟨v,hv,ev⟩:=Wa (Yi o 20) (t:=8) (m:=(d-1).toNat) (by omega) (by omega);obtain⟨N,M⟩:∃N:Nat->Int,∀k,N k=if k=m-1 then(r (m-1)+(1+(v:Int)))%d else r k:=⟨_,λ_=>rfl⟩
 have rr2:∀k,k<m->0<=N k/\N k<E k k:=λk c=>by
  rw[M];by_cases q:k=m-1
  ·rw[kz q,q,<-I];exact⟨dI _ (by omega),cW _ (by omega)⟩
  ·rw[l4 q];exact rr k c
 have set2:(ZE m r).set ((ZE m r).length-1) ((r (m-1)+(1+(v:Int)))%d)=ZE m N:=by rw[Zr];refine X9 (by rw[cK,Zr,Zr]) λj f=>?_;rw[cK,Zr] at f;rw[PW.nth_set (by rw[Zr];exact f),Z5 f,Z5 f,M]
 have ne:ZE m r≠ZE m N:=λh=>by
  have P:=congrArg (λl=>Zp l (m-1)) h;simp only[Z5 (show m-1<m by omega)] at P;rw[M,kz rfl] at P;have h2:=rr (m-1) (by omega);rw[<-I] at h2;by_cases q:r (m-1)+(1+(v:Int))<d
  ·rw[gz (by omega) q] at P;omega
  ·rw[<-Int.sub_emod_right,gz (by omega) (by omega)] at P;omega
 obtain⟨Q2,u1,u2,u3,u4,u5⟩:=reach N w rr2 U;have A:=pl u2 u4;rw[u3,u5] at A
 have non:Ww [wP W,pP Q,pP Q2]=aA .non:=by
  have up:∀{X:Nat},X<=2^200->X<=2^208:=λ{X} h=>aU h (by decide);rcases IW ok Y J u2 (λh hh=>up (q4 h hh)) (λh hh=>up (u4 h hh)) with⟨O,lO,hO,eO⟩ | ⟨eN,_⟩
  ·exfalso;have:=(KC (E:=E) ok x H J u2 (by rw[u3,q3])).mpr ⟨Zp O,λh hh=>by rw[hO,Ul (by omega)]⟩;rw[q5,u5] at this;exact ne this
  ·exact eN
 have ev':Zz [.int (Yi o 20),.int ((8:Nat):Int),.int (d-1)]=aA (.int (v:Int)):=by rw[show d-1=(((d-1).toNat:Nat):Int) by omega];exact ev
 refine Z3 (gof (dP (xo (p:=aB) (p2:=aB) (xb (dP (IG (a:=(m:Int)) (b:=0) rfl rfl) (by rw[decide_eq_false (by omega)]))) (xb (dP (IG (e4 rfl) rfl) (by rw[decide_eq_false one])))) rfl)) (Z3 (Zx (v:=.lst (iL (ZE m r))) (c1 rfl ((Tt _).trans (kz (ZV _))))) (Z3 (Zx (vP (Af (a:=1) (b:=(v:Int)) rfl (c3 (c2 rfl rfl c20) rfl (vsb (e4 rfl) rfl) ev')))) (Z3 (FK (l:=ZE m r) (a:=(r (m-1)+(1+(v:Int)))%d) (by rw[Zr];omega) (Ag rfl rfl) (vmd (Af (o2 rfl (Ag rfl rfl) (FI (m:=m) (v:=r) (by omega))) rfl) (e4 rfl)) rfl) ?_)));rw[set2];exact Z3 (Zx (c3 rfl rfl rfl u1)) (XY (ep (v:=.bl aC) (dP (ea (p:=aC) (p2:=aC) (eqt (c2 rfl rfl A) (c1 (o2 (a:=.lst (iL [w])) rfl rfl (cat _ (by rw[Zr];omega))) (YF _))) (by rw[HX,c3 (D:=Ww) rfl rfl rfl non];rfl)) rfl)) rfl)
end PW
namespace PW
open PySem L2 VL
theorem all_mk{P:bN}{w:cC}{K:aD}{mg:ao->Option aG}{fa:aJ}(hfa:mg "law" = aA (.ref fa))(B:X4 mg)(T:P.given.tree=none)
  (d0:Def K mg "_law_cell" QV)
  (d1:Def K mg "_law_part" QW)
  (d2:Def K mg "_law_tie" Np)
  (d3:Def K mg "_law_web" Nq)
  (d4:Def K mg "ties_at" SE)
  (d5:Def K mg "row_of" QX)
  (d6:Def K mg "square_without" Xs)
  (d7:Def K mg "square_of" Ua)
  (d8:Def K mg "unit_row" UZ)
  (d9:Def K mg "block_of" U0)
  (d10:Def K mg "rows_to_clear" XQ)
  (d11:Def K mg "less" LY)
  (d12:Def K mg "cleared_below" XU)
  (d13:Def K mg "turned_over" WM)
  (d14:Def K mg "crossed_out" WN)
  (d15:Def K mg "unfit_row" Ub)
  (d16:Def K mg "part_found" Vv)
  (d17:Def K mg "divided" SI)
  (d18:Def K mg "row_by_column" XW)
  (d19:Def K mg "row_times" Uc)
  (d20:Def K mg "multiplied" Vw)
  (d21:Def K mg "parts" Nx)
  (d22:Def K mg "_law_reached" Ud)
  (d23:Def K mg "by_row" Q1)
  (d24:Def K mg "rests" Nz)
  (d25:Def K mg "total" NA)
  (d26:Def K mg "place_of" U1)
  (d27:Def K mg "_law_whole" SM)
  (d28:Def K mg "_law_row" NB)
  (d29:Def K mg "_law_square" U2)
  (d30:Def K mg "_law_told" Q3)
  (d31:Def K mg "reduced" SN)
  (d32:Def K mg "evened" Q4)
  (d33:Def K mg "solved_below" Wj)
  (d34:Def K mg "nearing" SO)
  (d35:Def K mg "gain" L8)
  (d36:Def K mg "run" GL)
  (d37:Def K mg "in_debt" SQ)
  (d38:Def K mg "borrowing" Ue)
  (d39:Def K mg "plus" Kb)
  (d40:Def K mg "least" NF)
  (d41:Def K mg "ties_to" SR)
  (d42:Def K mg "house_to_burn" XX)
  (d43:Def K mg "burnt" NG)
  (d44:Def K mg "settle" Q5)
  (d45:Def K mg "minus" NH)
  (d46:Def K mg "alike" NI)
  (d47:Def K mg "law" GS)
  : ∃fd:dy,(∀(s:aO)(u:aG),je s fd ⟨[u],[]⟩ [("_law_script",u)])/\∀base:bW,K.In base->base.Ns cE mg->T6 P w K mg base La 41 fa fd ["_law_script"] (Y8 K D_law 1):=by
 refine HQ d47 hfa (λ_ _ _ _ _ _ _=>rfl) λbase f fd _ _ F=>?_;have C_m_cell:TL P w K mg base:=Io d0 B;have C_l_part:TM P w K mg base:=Ip d1 B;have C_l_tie:=GC (P:=P) (w:=w) (base:=base) d2 B;have C_l_web:Nh P w K mg base:=GD d3 B C_m_cell C_l_part C_l_tie;have C_ties_at:Sv P w K mg base:=LX d4 B;have C_row_of:QQ P w K mg base:=Ir d5 B C_ties_at;have C_square_without:YT P w K mg base:=TN d6 B C_row_of;have C_square_of:V5 P w K mg base:=Nt d7 B C_square_without;have C_unit_row:UU P w K mg base:=MD d8 B;have C_block_of:UW P w K mg base:=ME d9 B C_unit_row;have C_rows_to_clear:XI P w K mg base:=SG d10 B;have C_less:Ni P w K mg base:=EX d11 B;have C_cleared_below:XJ P w K mg base:=SH d12 B T C_rows_to_clear C_less;have C_turned_over:WK P w K mg base:=QZ d13 B;have C_crossed_out:WL P w K mg base:=Q0 d14 B C_cleared_below C_turned_over;have C_unfit_row:V6 P w K mg base:=Nu d15 B;have C_part_found:Vt P w K mg base:=PF d16 B C_crossed_out C_unfit_row C_less;have C_divided:Sw P w K mg base:=L0 d17 B;have C_row_by_column:XM P w K mg base:=SK d18 B;have C_row_times:V7 P w K mg base:=Nw d19 B C_row_by_column;have C_multiplied:Vu P w K mg base:=PJ d20 B C_row_times;have C_parts:RN P w K mg base:=GF d21 B C_square_of C_block_of C_part_found C_divided C_multiplied;have C_q_reached:V8 P w K mg base:=Ny d22 B;have C_by_row:QR P w K mg base:=Iv d23 B;have C_rests:Nj P w K mg base:=GG d24 B C_by_row;have C_total:Nk P w K mg base:=GI d25 B;have C_place_of:UX P w K mg base:=MG d26 B C_total C_rests C_parts;have C_l_whole:Sx P w K mg base:=L4 d27 B;have C_l_row:RO P w K mg base:=GK d28 B C_l_whole;have C_q_square:UY P w K mg base:=MI d29 B C_l_row;have C_q_told:QS P w K mg base:=Iy d30 B C_l_row C_q_square;have C_reduced:Sy P w K mg base:=L6 d31 B;have C_evened:QT P w K mg base:=Iz d32 B C_reduced;have C_solved_below:Wi P w K mg base:=Rx d33 B C_evened;have C_nearing:Sz P w K mg base:=L7 d34 B C_solved_below C_square_without;have C_gain:LU P w K mg base:=EZ d35 B;have C_run:GB P w K mg base:=BP d36 B C_gain;have C_in_debt:SA P w K mg base:=Ka d37 B;have C_borrowing:V9 P w K mg base:=ND d38 B;have C_plus:LV P w K mg base:=E5 d39 B;have C_least:RP P w K mg base:=GN d40 B;have C_ties_to:SD P w K mg base:=Kd d41 B;have C_house_to_burn:XN P w K mg base:=SS d42 B C_ties_to;have C_burnt:Nl P w K mg base:=GO d43 B C_house_to_burn;have C_settle:QU P w K mg base:=IA d44 B C_nearing C_run C_in_debt C_borrowing C_plus C_burnt C_least;have C_minus:Nm P w K mg base:=GQ d45 B;have C_alike:Nn P w K mg base:=GR d46 B C_settle C_least C_minus;exact BQ F B C_l_web C_parts C_q_told C_m_cell C_q_reached C_place_of C_l_part C_alike
end PW
namespace PySem.W.Fast
def tw6118043703423605984:=()
def tw11933595563850013096:=()
def tw18131286269941659173:=()
def tw5575658727531299026:=()
def tw4419351792746450372:=()
def tw4388722286391737416:=()
def tw1816474039922076501:=()
def tw15336362088926301194:=()
def tw8524346917089195569:=()
def tw1322701989851210110:=()
def tw12226212563337302985:=()
def tw14001440151666034135:=()
def tw14508987256465850985:=()
def tw3729102910231781260:=()
def tw2756796106524785504:=()
def tw5933533679786492882:=()
def tw7118814867664412675:=()
def tw9472222947837203605:=()
def tw228014734968187649:=()
def tw4599370054708838507:=()
def tw7940076622649890317:=()
def tw10898422998800792507:=()
def tw6834156327250452051:=()
def tw12791697611866128533:=()
def tw13094441381609103522:=()
def tw7579033304703889256:=()
def tw13305087955155775724:=()
def tw4558288730267376271:=()
def tw602362386902661863:=()
def tw5312220242490928943:=()
def tw3595388210844151183:=()
def tw10743823616128107940:=()
def tw17820768831157447262:=()
def tw721534914172114436:=()
def tw472800763134698502:=()
def tw3389403858173348847:=()
def tw1368599240195550659:=()
def tw14541582520952281959:=()
def tw11392010859281342601:=()
def tw1760161098960466732:=()
def tw2175953343538882146:=()
def tw15362979137410518703:=()
def tw17546216707700603350:=()
def tw4644393626267097030:=()
def tw9012720112645416768:=()
def tw17568899318061175528:=()
def tw9501049747543336372:=()
def tw13836157080096136437:=()
def tw5739835060079649545:=()
def tw756774154431972880:=()
def tw5290510518358220120:=()
def tw12690911810800248342:=()
def tw13958178694504403280:=()
def tw10339597069730492277:=()
def tw4794662591273862110:=()
def tw3958996425896773517:=()
def tw2199674116020998558:=()
def tw6423628595677737192:=()
def tw6238861764231871957:=()
def tw7460715524668476812:=()
def tw3937093675693779287:=()
def tw12430736620043088084:=()
def tw13623383960951604060:=()
def tw3070347657303167174:=()
def tw7481343469866869559:=()
def tw12787651164981892838:=()
def tw2296942310001043175:=()
def tw9384162346748616624:=()
def tw17257274297432413:=()
def tw9143885580923614294:=()
def tw8303702980815546237:=()
def tw7547522685446116411:=()
def tw1263125657684319618:=()
def tw4329685383241678418:=()
def tw1997677714809372644:=()
def tw11927629786249591680:=()
def tw7436944075639253510:=()
def tw18409968057428902426:=()
def tw5144128837418659522:=()
def tw13920331098490562499:=()
def tw12281942845692215976:=()
def tw3278605033245704648:=()
def tw17380079300038343771:=()
def tw2445580588263394402:=()
def tw17123180524440486890:=()
def tw1606898250125840710:=()
def tw16164168247069286185:=()
def tw3696302644517511184:=()
def tw15375798698601589090:=()
def tw4772524922498292055:=()
def tw15820344618014946471:=()
def tw4512034742219327576:=()
def tw9859074798347034274:=()
def tw6198549421403070797:=()
def tw13682095292173670995:=()
def tw8308924103787506874:=()
def tw1434554826948874302:=()
def tw15592238809023843273:=()
def tw7122708724285130243:=()
def tw17947096476552583002:=()
def tw8721415063927597283:=()
def tw18336244248276912485:=()
def tw924763204587305698:=()
def tw18074451739428898967:=()
def tw15026910165843262542:=()
def tw9171284457590547068:=()
def tw1419999334061267861:=()
def tw5310634952144905171:=()
def tw17776590211995170575:=()
def tw10070015031636083849:=()
end PySem.W.Fast
open PySem PySem.W PyProof.Rows
set_option maxRecDepth 100000 in
set_option maxHeartbeats 0 in
theorem PySem.Challenge.cw_purseweb_k66_whole_each_place_is_reached_holds : PySem.Challenge.rw_purseweb_k66_whole_each_place_is_reached.Holds := by
 w_on;o_law;k_head;(case hw=>w_witness2)
 k_fill
 refine VL.law_walkB (l:=gJ) (D:=PW.D_law) (x:="_law_script") 41 rfl rfl ⟨rfl,by decide,by decide,rfl⟩ (λw=>VL.noLam (by kernel_rfl)) PW.law_true (λw h Y=>PySem.W.kIn_of Y) ?F
 case F=>
  intro w mg fa h KX G hmg
  refine' PW.all_mk hmg ?B rfl ?d0 ?d1 ?d2 ?d3 ?d4 ?d5 ?d6 ?d7 ?d8 ?d9 ?d10 ?d11 ?d12 ?d13 ?d14 ?d15 ?d16 ?d17 ?d18 ?d19 ?d20 ?d21 ?d22 ?d23 ?d24 ?d25 ?d26 ?d27 ?d28 ?d29 ?d30 ?d31 ?d32 ?d33 ?d34 ?d35 ?d36 ?d37 ?d38 ?d39 ?d40 ?d41 ?d42 ?d43 ?d44 ?d45 ?d46 ?d47
  case B=>constructor<;>(refine PySem.W.mg_none_of KX G ?_;k_is)
  case d0 | d1 | d2 | d3 | d4 | d5 | d6 | d7 | d8 | d9 | d10 | d11 | d12 | d13 | d14 | d15 | d16 | d17 | d18 | d19 | d20 | d21 | d22 | d23 | d24 | d25 | d26 | d27 | d28 | d29 | d30 | d31 | d32 | d33 | d34 | d35 | d36 | d37 | d38 | d39 | d40 | d41 | d42 | d43 | d44 | d45 | d46 | d47=>(refine' L2.def_mk KX G ?a ?l ?c ?k;(case a=>k_is);(case l=>k_is);(case c=>k_is);(case k=>k_is))
